import PyProof.Rows.All
import Wide.All
import OpenK.AllK
import Wide.FinOn
import Lean
import PyProof.EqAt
import PyProof.EqKinds
import PyProof.TupleCall
import PyProof.NeKinds
import PyProof.Rows.StrStrike
import PyProof.SumWalkG
import PyProof.StrCalls2
import PyProof.Rows.StrItems
import PyProof.Rows.StrJoin2
import PyProof.Truth
import PyProof.SumWalkG
import PyProof.Rows.StrStrike
import OpenK.ZHead
import KE.KRevIter
import KE.KListMore
import PyProof.EqAt
import PyProof.EqKinds
import PyProof.NeKinds
import PySem.Challenge.RW_gapweave_k51_mended
set_option Elab.async false
set_option linter.all false
set_option maxRecDepth 100000
inductive fD{A1 A2:Type}(p:A1->A2->Prop):Prop
 |mk (a1:A1) (a2:A2):p a1 a2->fD p
inductive rG{A1 A2 A3:Type}(p:A1->A2->A3->Prop):Prop
 |mk (a1:A1) (a2:A2) (a3:A3):p a1 a2 a3->rG p
inductive yj{A1 A2 A3 A4:Type}(p:A1->A2->A3->A4->Prop):Prop
 |mk (a1:A1) (a2:A2) (a3:A3) (a4:A4):p a1 a2 a3 a4->yj p
inductive GF{A1 A2 A3 A4 A5:Type}(p:A1->A2->A3->A4->A5->Prop):Prop
 |mk (a1:A1) (a2:A2) (a3:A3) (a4:A4) (a5:A5):p a1 a2 a3 a4 a5->GF p
inductive PR{A1 A2 A3 A4 A5 A6:Type}(p:A1->A2->A3->A4->A5->A6->Prop):Prop
 |mk (a1:A1) (a2:A2) (a3:A3) (a4:A4) (a5:A5) (a6:A6):p a1 a2 a3 a4 a5 a6->PR p
inductive Po{A1 A2 A3 A4 A5 A6 A7:Type}(p:A1->A2->A3->A4->A5->A6->A7->Prop):Prop
 |mk (a1:A1) (a2:A2) (a3:A3) (a4:A4) (a5:A5) (a6:A6) (a7:A7):p a1 a2 a3 a4 a5 a6 a7->Po p
inductive Vd{A1 A2 A3 A4 A5 A6 A7 A8:Type}(p:A1->A2->A3->A4->A5->A6->A7->A8->Prop):Prop
 |mk (a1:A1) (a2:A2) (a3:A3) (a4:A4) (a5:A5) (a6:A6) (a7:A7) (a8:A8):p a1 a2 a3 a4 a5 a6 a7 a8->Vd p
inductive ZP{A1 A2 A3 A4 A5 A6 A7 A8 A9:Type}(p:A1->A2->A3->A4->A5->A6->A7->A8->A9->Prop):Prop
 |mk (a1:A1) (a2:A2) (a3:A3) (a4:A4) (a5:A5) (a6:A6) (a7:A7) (a8:A8) (a9:A9):p a1 a2 a3 a4 a5 a6 a7 a8 a9->ZP p
inductive Uw{A1 A2 A3 A4 A5 A6 A7 A8 A9 A10:Type}(p:A1->A2->A3->A4->A5->A6->A7->A8->A9->A10->Prop):Prop
 |mk (a1:A1) (a2:A2) (a3:A3) (a4:A4) (a5:A5) (a6:A6) (a7:A7) (a8:A8) (a9:A9) (Uv:A10):p a1 a2 a3 a4 a5 a6 a7 a8 a9 Uv->Uw p
inductive ab9{A1 A2 A3 A4 A5 A6 A7 A8 A9 A10 A11:Type}(p:A1->A2->A3->A4->A5->A6->A7->A8->A9->A10->A11->Prop):Prop
 |mk (a1:A1) (a2:A2) (a3:A3) (a4:A4) (a5:A5) (a6:A6) (a7:A7) (a8:A8) (a9:A9) (Uv:A10) (a11:A11):p a1 a2 a3 a4 a5 a6 a7 a8 a9 Uv a11->ab9 p
namespace QA
open PySem
theorem a_:0<=sizeLine:=by decide
theorem b_:1<=sizeLine:=by decide
theorem c_:2<=sizeLine:=by decide
theorem d_:3<=sizeLine:=by decide
end QA
open QA
open List renaming getElem?_eq_getElem->e_,length_map->f_,mem_of_getElem?->l_,getElem?_map->n_,getElem?_eq_some_iff->q_,size_toArray->u_,all_eq_true->v_,getElem_mem->x_,replicate->y_,length_append->A_,mem_cons_of_mem->C_,mem_cons_self->D_,range->E_,mem_singleton->F_,mem_map->G_,getD_eq_getElem?_getD->L_,map_append->P_,mem_cons->S_,mem_of_mem_eraseIdx->T_,take_of_length_le->qaa,mem_append->qab,length_cons->qac,mem_append_right->qae,map_map->qaf,mem_range->qag,length_take->qai,map_cons->qak,getElem?_append_right->qal,length_range->qan,getElem?_append_left->qar,replicate_succ->qat,length_replicate->qau,eq_of_mem_replicate->qax,getElem_of_mem->qaA,mem_filter->qaC,not_mem_nil->qaD,length_filter_le->qaI,getElem_map->qaJ,mem_or_eq_of_mem_set->qaK,getElem?_eq_none->qaN,flatten_cons->qaO,append_nil->qaR,getElem?_set_ne->qaX,ext_getElem->qaZ,getElem?_set_self->qa1,append_assoc->qa3,length_drop->qa8,getElem_range->qa9,filter_cons_of_pos->qbe,filter_cons_of_neg->qbf,length_set->qbh,range_succ->qbi,map_congr_left->qbk,sum_cons->qbn,length_eraseIdx_of_lt->qbu,length_singleton->qbw,drop_eq_getElem_cons->qby,mem_append_left->qbB,length_pos_iff->qbK,getElem?_replicate->qbM,lookup_cons->qbO,take_length->qbP,drop_zero->qbS,lookup->qbT,foldl_cons->qb1,find?_cons->qb2,mem_flatten->qcg,nodup_cons->qcn,forIn_cons->qco,filter_map->qcp,filter_append->qcr,foldl_append->qcw,take_add_one->qcx,any_cons->qcA,map_take->qcD
theorem Y{α:Sort u}{a:α}:a=a:=rfl
open PySem renaming Addr->g_,wpAny_bind->h_,Value->i_,Shared->p_,Str->r_,wpAny_pure->t_,sizeLine->z_,FuncData->B_,Program->I_,mainGlobals->M_,wpAny->N_,World->W_,starEach->Z_,Heap->qad,Around->qam,Stmt->qaq,wpAny_field->qaE,wpAny_mono->qaF,wpAny_truthy_bool->qaT,wpAny_holding->qaU,wpAny_callSpecial?_slot->qaY,Obj->qa0,wpAny_newObj_type->qa2,wpAny_Call_Name_kw->qa7,codeAny_mono->qbm,wpAny_seqItems->qbq,wpAny_setField_rec->qbs,wpAny_passesOwn->qbz,NameKind->qbC,codeAny_call_builtin->qbD,wpAny_call->qbE,Scope->qbJ,wpAny_call_entry->qbN,wpAny_getItem_str_slice->qbR,wpAny_pyIter_tuple->qbW,wpAny_pyIter_list->qb5,wpAny_loadPart_at->qb7,wpAny_setField->qca,Pos->qcd,wpAny_standAt->qci,wpAny_attempt->qcj,wpAny_execs_nil->qcm,wpAny_loadPart->qct,wpAny_pyIter_strU->qcv,ExcBaseFacts->qcy,sizeLine_eq->qcE,IsPair->qcG,Model->qcH
open Nat renaming le_refl->j_,le_trans->m_,lt_of_le_of_lt->s_,lt_of_lt_of_le->K_,zero_le->X_,ne_of_lt->Y_,le_succ->qaw,le_add_right->qaM,lt_of_succ_lt->qaP,not_lt_zero->qa6,lt_irrefl->qa_,ne_of_gt->qba,mul_le_mul->qbb,lt_succ_self->qbo,min_eq_left->qbA,le_of_lt->qbU,sub_self->qbZ,pow_le_pow_right->qcb,le_of_eq->qce,lt_trans->qcu
open PySem.Heap renaming get?_push_of_some->k_,get?_push_size->H_,lt_size->J_,get?_update_other->qav,get?_update_self->qaH,size_push->qaQ,SameBut->qbl,get?_none_of_le->qb8
open Array renaming length_toList->o_,getElem?_toList->U_,getElem?_eq_some_iff->qcc
open PySem.Str renaming ofString->w_,empty->qcF
open Bool renaming false_ne_true->O_,and_eq_true->R_,not_eq_true'->qbd,eq_iff_iff->qbg,false_eq_true->qbY,eq_false_iff->qb6,and_false->qb_,true_and->qck,false_and->qcs
open PySem.PassesOwn renaming never->Q_
open Option.some renaming inj->V_
open Int renaming emod_lt_of_pos->qah,gcd->qaj,emod_nonneg->qao,toNat_natCast->qay,toNat_of_nonneg->qaB,zero_add->qaW,le_of_lt->qa4,eq_of_mul_eq_mul_right->qa5,gcd_dvd_right->qbc,ediv_pos_of_pos_of_dvd->qbt,mul_right_comm->qbX,add_zero->qb0,gcd_dvd_left->qcf,add_assoc->qcl,mul_assoc->qcB
open PySem.NameKind renaming free->qap,cell->qb3
open PySem.Builtin.SmallTypes renaming nextOf->qas,ownedTupleIsFree->qaV
open False renaming elim->qaz
open PyProof.Rows renaming callWith_type1->qaG,step_dedup->qcz
open Option renaming map_eq_some_iff->qaL,getD_some->qaS,isSome_iff_exists->qbF,bind_some->qbQ
open PyProof.Rows.F renaming plain_set_update_loop->qbj
open PySem.F renaming slot_tuple_iterator_next->qbp
open PySem.Obj renaming data_mapFields->qbr,isFreed_of_fields->qb4,mapFields->qcC
open PySem.Builtin.Slice renaming slicePlaces->qbx,sliceAdjust->qch
open PySem.Builtin.Tuple renaming tupleExact->qbG
open PySem.Builtin.List renaming listTooLong->qbH
open PySem.AutoSeq1 renaming wpAny_loadPart'->qbI
open PySem.Builtin.Range renaming rangeSize->qbL
open PySem.Calls renaming callWith_builtin->qbV,evalArgs_plain->qb9
open List.range renaming loop->qcq
namespace TK
open PySem
theorem xJ{M:qcH}{Γ:Ctx}{p:qcd}{t:Sem PySem.Fin}{fs:List Frame}{s s':p_}{e:End}(h:Runs M Γ p t fs s e s'):s.toks<=s'.toks:=by
 induction h with
 |fresh _ ih=>exact m_ (qaw _) ih
 |call _ _ a b=>exact m_ a b
 |segRet _ _ a b=>exact m_ a b
 |segGen _ _ a b=>exact m_ a b
 |resumeFresh _ _ _ _ a b=>exact m_ a b
 |resumeSuspended _ _ _ _ a b=>exact m_ a b
 |segSuspGen _ _ _ _ a b=>exact m_ a b
 |_=>first|exact j_ _|assumption
theorem Ls{M:qcH}{Γ:Ctx}{p:qcd}{g:Nat}{r:Resume}{s s':p_}{res:GenResult}(h:Wakes M Γ p g r s res s'):s.toks<=s'.toks:=by
 unfold Wakes at h;split at h
 ·exact h.elim
 ·split at h
  ·obtain⟨e,s1,a,_,_,rfl⟩:=h;have z:=xJ a;exact z
  ·obtain⟨_,rfl⟩:=h;exact j_ _
  ·obtain⟨_,rfl⟩:=h;exact j_ _
 ·obtain⟨e,s1,a,_,_,rfl⟩:=h;have z:=xJ a;exact z
 ·obtain⟨_,rfl⟩:=h;exact j_ _
 ·obtain⟨_,rfl⟩:=h;exact j_ _
theorem ZY{α:Type}{M:qcH}{Γ:Ctx}{n:Nat}(t:Sem α):∀{Q:α->qcd->p_->Prop} {E:i_->qcd->p_->Prop} {p:qcd} {s:p_},n<=s.toks →
  Sem.wp M Γ t (λa p s'=>n<=s'.toks->Q a p s') (λe p s'=>n<=s'.toks->E e p s') p s->Sem.wp M Γ t Q E p s:=by
 induction t with
 |pure a=>intro Q E p s hn h;exact h hn
 |raise e=>intro Q E p s hn h;exact h hn
 |unsupported w=>intro Q E p s hn h;exact h
 |finish e=>intro Q E p s hn h;exact h
 |rule t k ih=>intro Q E p s hn h;exact ih () hn h
 | «at» p' k ih=>intro Q E p s hn h;exact ih () hn h
 |load a q k ih=>intro Q E p s hn h;obtain⟨o,e,h⟩:=h;exact⟨o,e,ih o hn h⟩
 |update a q f k ih=>intro Q E p s hn h;exact⟨h.1,ih () hn h.2⟩
 |alloc o k ih=>intro Q E p s hn h;exact ih _ hn h
 |loadIfAlive a k ih=>intro Q E p s hn h;exact ih _ hn h
 |point l k ih=>intro Q E p s hn h;exact ih () hn h
 |register a k ih=>intro Q E p s hn h;exact h
 |fresh k ih=>intro Q E p s hn h;exact ih _ (Nat.le_succ_of_le hn) h
 |ask k ih=>intro Q E p s hn h;exact ih _ hn h
 |choose src m k ih=>intro Q E p s hn h;exact⟨h.1,ih _ hn h.2⟩
 |os q l k ih=>intro Q E p s hn h;exact ih _ hn h
 |call c hd g l k ih=>intro Q E p s hn h;obtain⟨r,s1,a,h⟩:=h;exact⟨r,s1,a,ih r (m_ hn (xJ a)) h⟩
 |handled own k ih=>intro Q E p s hn h;exact ih _ hn h
 |newGen c k ih=>intro Q E p s hn h;exact ih _ hn h
 |genState g k ih=>intro Q E p s hn h;obtain⟨st,e,h⟩:=h;exact⟨st,e,ih _ hn h⟩
 |resume g r l k ih=>intro Q E p s hn h;obtain⟨res,s1,a,h⟩:=h;exact⟨res,s1,a,ih _ (m_ hn (Ls a)) h⟩
 |yield v g l k ih=>intro Q E p s hn h;exact h
 |stack k ih=>intro Q E p s hn h;exact ih _ hn h
 |fork c k ih=>intro Q E p s hn h;exact h
 |thread k ih=>intro Q E p s hn h;exact ih _ hn h
 |await a tk tm l k ih=>intro Q E p s hn h;exact h
theorem dD{α:Type}{M:qcH}{A:qam}{t:Sem α}{Q:α->p_->Prop}{E:i_->p_->Prop}{s:p_}{n:Nat}(hn:n<=s.toks)(h:N_ M A t (λa s'=>n<=s'.toks->Q a s') (λe s'=>n<=s'.toks->E e s') s):N_ M A t Q E s :=
 λΓ p hΓ=>ZY t hn (h Γ p hΓ)
theorem MJ{M:qcH}{A:qam}{c:Code}{R:Result->p_->Prop}{s:p_}{n:Nat}(hn:n<=s.toks)(h:codeAny M A c (λr s'=>n<=s'.toks->R r s') s):codeAny M A c R s:=λΓ p hc hb=>by
 obtain⟨r,s1,a,h⟩:=h Γ p hc hb;exact⟨r,s1,a,h (m_ hn (xJ a))⟩
end TK
set_option Elab.async false
set_option linter.all false
set_option maxRecDepth 100000
namespace L2
open PySem PySem.Spec PyProof.Rows
section
noncomputable abbrev Key:=Sum Int r_
noncomputable def Gh:Key->i_->Bool
 | .inl k,v=>Value.isInt k v
 | .inr x,v=>Value.isStrOf x v
noncomputable def afM(w:W_):Key->Int
 | .inl k=>hashInt k
 | .inr x=>hashStr w x
theorem jb:∀{k:Key} {v:i_},Gh k v=true->(fD λi t=>k=Sum.inl i/\v=Value.int i t)\/(fD λx t=>k=Sum.inr x/\v=Value.str x t)
 | .inl i,v,h=>by
  obtain⟨t,e⟩:=Value.isInt_shape (k:=i) (v:=v) h;exact .inl ⟨i,t,Y,e⟩
 | .inr x,v,h=>by
  obtain⟨t,e⟩:=Value.isStrOf_shape (x:=x) (v:=v) h;exact .inr ⟨x,t,Y,e⟩
theorem OV(i:Int)(t:Tok):Gh (.inl i) (.int i t)=true:=by simp[Gh,Value.isInt]
theorem OU(x:r_)(t:Tok):Gh (.inr x) (.str x t)=true:=by simp[Gh,Value.isStrOf]
theorem YL(a b:Int):decide ((Sum.inl a:Key)=Sum.inl b)=(a==b):=by
 by_cases e:a=b
 ·subst e;simp
 ·have h:¬(Sum.inl a:Key)=Sum.inl b:=λq=>e (Sum.inl.inj q);rw[decide_eq_false h];exact(beq_eq_false_iff_ne.mpr e).symm
theorem YI(a b:r_):decide ((Sum.inr a:Key)=Sum.inr b)=decide (a=b):=by
 by_cases e:a=b
 ·subst e;simp
 ·have h:¬(Sum.inr a:Key)=Sum.inr b:=λq=>e (Sum.inr.inj q);rw[decide_eq_false h,decide_eq_false e]
theorem YK(a:Int)(b:r_):decide ((Sum.inl a:Key)=Sum.inr b)=false:=decide_eq_false (λq=>nomatch q)
theorem YJ(a:r_)(b:Int):decide ((Sum.inr a:Key)=Sum.inl b)=false:=decide_eq_false (λq=>nomatch q)
noncomputable def lW(prog:I_)(w:W_):PySem.KeyKind prog w Key where
 is:=Gh
 hash:=afM w
 inj:=λv a b ha hb=>by
  rcases jb ha with⟨i,t,rfl,rfl⟩|⟨x,t,rfl,rfl⟩
  ·rcases jb hb with⟨j,u,rfl,e⟩|⟨y,u,rfl,e⟩
   ·injection e with e1 _;rw[e1]
   ·exact nomatch e
  ·rcases jb hb with⟨j,u,rfl,e⟩|⟨y,u,rfl,e⟩
   ·exact nomatch e
   ·injection e with e1 _;rw[e1]
 byValue:=λk v h=>by
  rcases jb h with⟨i,t,rfl,rfl⟩|⟨x,t,rfl,rfl⟩<;>rfl
 pyHash:=λhv h=>by
  rcases jb hv with⟨i,t,rfl,rfl⟩|⟨x,t,rfl,rfl⟩
  ·exact wpAny_pyHash_int h
  ·exact wpAny_pyHash_str h
 eqBool:=λhu hv h=>by
  rcases jb hu with⟨i,t,rfl,rfl⟩|⟨x,t,rfl,rfl⟩
  ·rcases jb hv with⟨j,u,rfl,rfl⟩|⟨y,u,rfl,rfl⟩
   ·rw[YL]at h;exact wpAny_eqBool_int h
   ·rw[YK]at h;exact SeqAt.EqAt.int_str i t y u _ _ _ _ h
  ·rcases jb hv with⟨j,u,rfl,rfl⟩|⟨y,u,rfl,rfl⟩
   ·rw[YJ]at h;exact SeqAt.EqAt.str_int x t j u _ _ _ _ h
   ·rw[YI]at h;exact wpAny_eqBool_str h
 «strs» :=λk x t v h=>by
  rcases jb h with⟨i,u,rfl,e⟩|⟨y,u,rfl,e⟩
  ·exact nomatch e
  ·injection e with e1 _;subst e1;cases v<;>rfl
theorem Kg(prog:I_)(w:W_)(i:Int)(t:Tok):(lW prog w).is (.inl i) (.int i t)=true:=OV i t
theorem wL(prog:I_)(w:W_)(x:r_)(t:Tok):(lW prog w).is (.inr x) (.str x t)=true:=OU x t
end
section
inductive V where
 |lV|bl (b:Bool)|int (i:Int)|str (x:r_)|NY (b:Array UInt8)|Y8 (b:UInt64)|ref (a:g_)|ty (n:String)
 deriving DecidableEq
noncomputable def RelV:V->i_->Prop
 | .lV,u=>u=Value.none
 | .bl b,u=>u=Value.bool b
 | .int i,u=>∃t,u=Value.int i t
 | .str x,u=>∃t,u=Value.str x t
 | .NY b,u=>∃t,u=Value.bytes b t
 | .Y8 b,u=>∃t,u=Value.float b t
 | .ref a,u=>u=Value.ref a
 | .ty n,u=>u=Value.type n
noncomputable abbrev Vals:List V->List i_->Prop:=Paired RelV
theorem Vals.length{xs:List V}{us:List i_}(r:Vals xs us):xs.length=us.length:=Paired.length r
theorem Vals.get:∀{xs:List V} {us:List i_} {i:Nat} {x:V},Vals xs us->xs[i]? =some x->∃u,us[i]? =some u/\RelV x u
 |_,_,_,_,.nil,e=>by simp at e
 |_,_,0,_,.cons r _,e=>by simp at e;subst e;exact⟨_,Y,r⟩
 |_,_,i+1,x,.cons _ t,e=>by
  obtain⟨u,h1,h2⟩:=Vals.get (i:=i) (x:=x) t (by simpa using e);exact⟨u,by simpa using h1,h2⟩
theorem Vals.set{x:V}{u:i_}(r:RelV x u):∀{xs:List V} {us:List i_} (i:Nat),Vals xs us->Vals (xs.set i x) (us.set i u)
 |_,_,_,.nil=>.nil
 |_,_,0,.cons _ t=>.cons r t
 |_,_,i+1,.cons q t=>.cons q (Vals.set r i t)
theorem Vals.append:∀{xs ys:List V} {us ws:List i_},Vals xs us->Vals ys ws->Vals (xs++ys) (us++ws)
 |_,_,_,_,.nil,s=>s
 |_,_,_,_,.cons r t,s=>.cons r (Vals.append t s)
theorem Vals.take:∀{xs:List V} {us:List i_} (n:Nat),Vals xs us->Vals (xs.take n) (us.take n)
 |_,_,0,_=>.nil
 |_,_,_+1,.nil=>.nil
 |_,_,n+1,.cons r t=>.cons r (Vals.take n t)
theorem Vals.drop:∀{xs:List V} {us:List i_} (n:Nat),Vals xs us->Vals (xs.drop n) (us.drop n)
 |_,_,0,r=>r
 |_,_,_+1,.nil=>.nil
 |_,_,n+1,.cons _ t=>Vals.drop n t
theorem Vals.none_of:∀{xs:List V} {us:List i_} {i:Nat},Vals xs us->xs[i]? =none->us[i]? =none:=λ{xs us i} r e=>by
 have h1:=r.length;have h2:xs.length<=i:=List.getElem?_eq_none_iff.mp e;exact List.getElem?_eq_none_iff.mpr (by omega)
noncomputable def vD:Option V->Option i_->Prop
 |some v,some u=>RelV v u
 |none,none=>True
 |_,_=>False
noncomputable def KV{κ:Type}:List (κ×V)->List (κ×i_)->Prop:=Paired λ(p:κ×V) (q:κ×i_)=>p.1=q.1/\RelV p.2 q.2
noncomputable def kV:Key->V
 | .inl i=>.int i
 | .inr x=>.str x
inductive HO where
 |lst (xs:List V)
 |tup (xs:List V)
 |dK (kvs:List (Key×V))|dT (kvs:List (List Key×V))
 |set (S:Int->Bool) (n:Nat)
 |ins (C dx:g_) (fs:List (r_×V))
 |own (x:g_)
 |xd (fs:List (r_×V))
 |met (f x:g_)
 |rng (lo hi:Int)
 |MA (o:qa0) (u:HO)
 |UJ (ps:Array i_)
 |ext (φ:qad->Prop)
noncomputable abbrev Hp:=g_->Option HO
noncomputable def upd(H:Hp)(a:g_)(o:HO):Hp:=λb=>if b=a then some o else H b
theorem ai{H:Hp}{a:g_}{o:HO}:upd H a o a=some o:=by unfold upd;rw[if_pos rfl]
theorem aH{H:Hp}{a b:g_}{o:HO}(h:b≠a):upd H a o b=H b:=by unfold upd;rw[if_neg h]
theorem rJ{H:Hp}{a b:g_}{o u:HO}(h:H a=some o)(h':H b=some u)(d:o≠u):a≠b:=by
 intro e;subst e;rw[h]at h';exact d (V_ h')
theorem b9{H:Hp}{a b:g_}{o:HO}(h:H a=some o)(h':H b=none):a≠b:=by
 intro e;subst e;rw[h]at h';cases h'
section
variable(P:I_)(w:W_)
noncomputable def eN(H:Hp)(h:qad)(a:g_):HO->Prop
 | .lst xs=>xs.length<=z_/\fD λ(its:List i_) (n:Nat)=>Vals xs its/\h.get? a=some { cls:=.type "list",data:=.seq its.toArray n }
 | .tup xs=>xs.length<=z_/\∃its:List i_,Vals xs its/\IsTup h a its.toArray
 | .dK kvs=>kvs.length<=z_/\(a==sysModules)=false/\∃vs,KV kvs vs/\h.DictOf (lW P w) a vs
 | .dT kvs=>kvs.length<=z_/\(a==sysModules)=false/\∃xs:List (List Key×g_×i_),
   Paired (λ(p:List Key×V) (q:List Key×g_×i_)=>p.1=q.1/\H q.2.1=some (.tup (p.1.map kV))/\RelV p.2 q.2.2) kvs xs ∧
   rG λo es ep=>h.get? a=some o/\o.ExactDict/\o.data= .dict es ep/\es.toList=xs.map (entryOfKey (tupleKind (lW P w)))/\(xs.map (·.1)).Nodup
 | .set S n=>h.SetOf (intKind P w) a S n
 | .ins C dx fs=>H dx=some (.own a)/\fs.length<=1000/\dx≠a/\h.get? a=some (PySem.W.instObj C dx) ∧
   ∃mA,h.Ns1 dx mA/\(∀f,vD (fs.lookup f) (mA f))/\PySem.Within mA (fs.map (·.1))
 | .own _=>∃o,h.get? a=some o
 | .xd fs=>∃mA,h.Ns1 a mA/\∀f,vD (fs.lookup f) (mA f)
 | .rng lo hi=>rG λt u v=>h.get? a=some { cls:=.type "range",data:=.fields #[.int lo t,.int hi u,.int 1 v] }
 | .MA o u=>h.get? a=some o/\eN H h a u
 | .UJ ps=>h.get? a=some { cls:=.none,data:=.fields ps }
 | .met f x=>h.get? a=some (PySem.W.methodObj (.ref f) (.ref x))
 | .ext φ=>φ h/\(∃o,h.get? a=some o)/\∀h1 h2:qad,φ h1->(∀o,h1.get? a=some o->h2.get? a=some o)->φ h2
def uV(H:Hp)(h:qad):Prop:=∀a o,H a=some o->eN P w H h a o
end
section
variable{P:I_}{w:W_}{H H':Hp}{h h':qad}{a:g_}{o:HO}
theorem eN.lt(x:eN P w H h a o):a<h.objs.size:=by
 cases o with
 |lst xs=>obtain⟨_,_,_,_,e⟩:=x;exact J_ e
 |tup xs=>obtain⟨_,_,_,p⟩:=x;exact p.lt
 |dK kvs=>obtain⟨_,_,_,_,o,_,_,e,_⟩:=x;exact J_ e
 |dT kvs=>obtain⟨_,_,_,_,o,_,_,e,_⟩:=x;exact J_ e
 |set S n=>obtain⟨o,_,_,_,e,_⟩:=x;exact J_ e
 |ins C dx fs=>obtain⟨_,_,_,e,_⟩:=x;exact J_ e
 |own y=>obtain⟨_,e⟩:=x;exact J_ e
 |xd fs=>obtain⟨_,⟨_,_,_,e,_⟩,_⟩:=x;exact J_ e
 |rng lo hi=>obtain⟨_,_,_,e⟩:=x;exact J_ e
 |MA ob u=>obtain⟨e,_⟩:=x;exact J_ e
 |UJ ps=>exact J_ (show h.get? a=some _ from x)
 |met f y=>exact J_ (show h.get? a=some _ from x)
 |ext φ=>obtain⟨_,⟨_,e⟩,_⟩:=x;exact J_ e
theorem Paired.qa{α β:Type}{F G:α->β->Prop}:∀{l₁:List α} {l₂:List β},Paired F l₁ l₂->(∀a b,F a b->G a b)->Paired G l₁ l₂
 |_,_,.nil,_=>.nil
 |_,_,.cons r t,f=>.cons (f _ _ r) (Paired.qa t f)
theorem eN.stay(x:eN P w H h a o)(k:∀b u,(b=a\/H b=some (.own a))->h.get? b=some u->h'.get? b=some u)
  (ho:∀b,H b=some (.own a)->H' b=some (.own a)) (ht:∀b xs,H b=some (.tup xs)->H' b=some (.tup xs)):eN P w H' h' a o:=by
 induction o with
 |lst xs=>obtain⟨z,its,n,r,e⟩:=x;exact⟨z,its,n,r,k _ _ (.inl Y) e⟩
 |tup xs=>obtain⟨z,its,r,ob,e,c⟩:=x;exact⟨z,its,r,ob,k _ _ (.inl Y) e,c⟩
 |dK kvs=>obtain⟨z,y,vs,r,ob,es,ep,e,c⟩:=x;exact⟨z,y,vs,r,ob,es,ep,k _ _ (.inl Y) e,c⟩
 |dT kvs =>
  obtain⟨z,y,xs,r,ob,es,ep,e,c⟩:=x;exact⟨z,y,xs,Paired.qa r λp q z=>⟨z.1,ht _ _ z.2.1,z.2.2⟩,ob,es,ep,k _ _ (.inl Y) e,c⟩
 |set S n=>obtain⟨ob,es,ep,t,e,c⟩:=x;exact⟨ob,es,ep,t,k _ _ (.inl Y) e,c⟩
 |ins C dx fs =>
  obtain⟨d,z,ne,e,mA,⟨od,es,ep,e2,c⟩,r⟩:=x;exact⟨ho _ d,z,ne,k _ _ (.inl Y) e,mA,⟨od,es,ep,k _ _ (.inr d) e2,c⟩,r⟩
 |own y=>obtain⟨ob,e⟩:=x;exact⟨ob,k _ _ (.inl Y) e⟩
 |xd fs=>obtain⟨mA,⟨od,es,ep,e,c⟩,r⟩:=x;exact⟨mA,⟨od,es,ep,k _ _ (.inl Y) e,c⟩,r⟩
 |rng lo hi=>obtain⟨t,u,v,e⟩:=x;exact⟨t,u,v,k _ _ (.inl Y) e⟩
 |MA ob u ih=>obtain⟨e,q⟩:=x;exact⟨k _ _ (.inl Y) e,ih q⟩
 |UJ ps =>
  have e:h.get? a=some { cls:=.none,data:=.fields ps }:=x;show h'.get? a=some { cls:=.none,data:=.fields ps };exact k a _ (.inl Y) e
 |met f y =>
  have e:h.get? a=some (PySem.W.methodObj (.ref f) (.ref y)):=x;show h'.get? a=some (PySem.W.methodObj (.ref f) (.ref y));exact k a _ (.inl Y) e
 |ext φ=>obtain⟨p,⟨o,e⟩,st⟩:=x;exact⟨st _ _ p λo q=>k _ _ (.inl Y) q,⟨o,k _ _ (.inl Y) e⟩,st⟩
theorem uV.lt(x:uV P w H h)(e:H a=some o):a<h.objs.size:=(x a o e).lt
theorem uV.fresh(x:uV P w H h)(e:h.objs.size<=a):H a=none:=by
 cases q:H a with
 |none=>rfl
 |some u=>exact absurd (K_ (x.lt q) e) (qa_ _)
theorem uV.kept(x:uV P w H h)(k:∀b u,h.get? b=some u->h'.get? b=some u):uV P w H h':=λa o e =>
 (x a o e).stay (λb u _ q=>k b u q) (λ_ q=>q) λ_ _ q=>q
theorem uV.laid(x:uV P w H h)(k:∀b u,h.get? b=some u->h'.get? b=some u)(hp:h.objs.size<=a)(new:eN P w (upd H a o) h' a o):uV P w (upd H a o) h':=λb u e=>by
 have hn:=x.fresh hp;by_cases hb:b=a
 ·subst hb;rw[ai]at e;cases e;exact new
 ·rw[aH hb]at e;exact(x b u e).stay (λc v _ q=>k c v q) (λc q=>by rw[aH (b9 q hn)];exact q) λc xs q=>by rw[aH (b9 q hn)];exact q
end
def Rd(H:Hp)(a:g_)(u:HO):Prop:=H a=some u\/∃o,H a=some (.MA o u)
theorem Rd.ok{P:I_}{w:W_}{H:Hp}{h:qad}{a:g_}{u:HO}(r:Rd H a u)(x:uV P w H h):eN P w H h a u:=by
 rcases r with r|⟨o,r⟩
 ·exact x a u r
 ·obtain⟨_,q⟩:=x a _ r;exact q
noncomputable def Mut:Option HO->Prop
 |some (.lst _)=>True
 |some (.dK _)=>True
 |some (.dT _)=>True
 |some (.set _ _)=>True
 |some (.ins _ _ _)=>True
 |some (.ext _)=>True
 |_=>False
section
variable{P:I_}{w:W_}{H:Hp}{h h':qad}{x e:g_}{o':HO}
theorem uV.write(ok:uV P w H h)(mu:Mut (H x))(he:e=x\/H e=some (.own x))(k:∀b u,b≠e->h.get? b=some u->h'.get? b=some u)(ZK:∃u,h'.get? e=some u)
  (new:eN P w (upd H x o') h' x o'):uV P w (upd H x o') h':=λb u q=>by
 have aay:∀c y,H c=some (.own y)->c≠x:=λc y r z=>by subst z;rw[r]at mu;exact mu
 have afE:∀c xs,H c=some (.tup xs)->c≠x:=λc xs r z=>by subst z;rw[r]at mu;exact mu
 by_cases hb:b=x
 ·subst hb;rw[ai]at q;cases q;exact new
 ·rw[aH hb]at q;by_cases O2:b=e
  ·have q':H b=some (.own x):=by
    rcases he with z|z
    ·exact absurd (O2.trans z) hb
    ·rw[O2];exact z
   rw[q]at q';cases q';obtain⟨v,hv⟩:=ZK;exact⟨v,by rw[O2];exact hv⟩
  ·refine(ok b u q).stay (λc v hc r=>k c v ?_ r) (λc r=>by rw[aH (aay c b r)];exact r) λc xs r=>by rw[aH (afE c xs r)];exact r
   rcases hc with rfl|hc
   ·exact O2
   ·rintro rfl;rcases he with z|z
    ·exact aay c b hc z
    ·rw[hc]at z;cases z;exact hb Y
end
structure Un(fs ex:List g_)(H H':Hp)(h h':qad):Prop where
 keep:∀b o,h.get? b=some o->H b=none->b∉fs->b∉ex->h'.get? b=some o
 slot:∀b o,h.get? b=some o->H b=none->b∈fs->b∉ex->∃sl,h'.get? b=some { o with slots:=sl }
 free:∀b o,h.get? b=some o->H b=none->b∉ex->H' b=none
 there:∀b o,h.get? b=some o->b∉ex->∃o',h'.get? b=some o'
 tups:∀b xs,H b=some (.tup xs)->H' b=some (.tup xs)
 yV:∀b o u,H b=some (.MA o u)->H' b=some (.MA o u)
 zo:∀b ps,H b=some (.UJ ps)->∃more,H' b=some (.UJ (ps++more))
section
variable{fs fs' ex ex':List g_}{H H1 H2:Hp}{h h1 h2 h':qad}{a x e:g_}{o:HO}
theorem Un.any(u:Un fs ex H H1 h h1){b:g_}{ob:qa0}(q:h.get? b=some ob)(n:H b=none)(hx:b∉ex):∃sl,h1.get? b=some { ob with slots:=sl }:=by
 by_cases hb:b∈fs
 ·exact u.slot b ob q n hb hx
 ·exact⟨ob.slots,u.keep b ob q n hb hx⟩
theorem Un.kept(k:∀b u,h.get? b=some u->h'.get? b=some u):Un fs ex H H h h' :=
 ⟨λb ob q _ _ _=>k b ob q,λb ob q _ _ _=>⟨ob.slots,k b ob q⟩,λ_ _ _ n _=>n,λb ob q _=>⟨ob,k b ob q⟩,λ_ _ q=>q,λ_ _ _ q=>q,λ_ ps q=>⟨#[],by rw[q];simp⟩⟩
theorem Un.refl:Un fs ex H H h h:=Un.kept λ_ _ q=>q
theorem Un.laid(k:∀b u,h.get? b=some u->h'.get? b=some u)(hp:h.objs.size<=a)(hn:H a=none):Un fs ex H (upd H a o) h h' where
 keep:=λb u q _ _ _=>k b u q
 slot:=λb u q _ _ _=>⟨u.slots,k b u q⟩
 free:=λb u q n _=>by rw[aH (Y_ (K_ (J_ q) hp))];exact n
 there:=λb u q _=>⟨u,k b u q⟩
 tups:=λb xs q=>by rw[aH (b9 q hn)];exact q
 yV:=λb u xs q=>by rw[aH (b9 q hn)];exact q
 zo:=λb ps q=>⟨#[],by rw[aH (b9 q hn),q];simp⟩
theorem Un.write(mu:Mut (H x))(he:e=x\/H e=some (.own x))(k:∀b u,b≠e->h.get? b=some u->h'.get? b=some u)(ZK:∃u,h'.get? e=some u):Un fs ex H (upd H x o) h h':=by
 have hx:∀b,H b=none->b≠x:=λb n z=>by subst z;rw[n]at mu;exact mu
 have hb:∀b,H b=none->b≠e:=λb n z=>by
  subst z;rcases he with r|r
  ·exact hx b n r
  ·rw[n]at r;cases r
 have hm:∀b u,H b=some u->¬Mut (some u)->b≠x:=λb u q nm z=>by subst z;rw[q]at mu;exact nm mu
 refine⟨λb u q n _ _=>k b u (hb b n) q,λb u q n _ _=>⟨u.slots,k b u (hb b n) q⟩,λb u q n _=>by rw[aH (hx b n)];exact n,λb u q _=>?_,
  λb xs q=>by rw[aH (hm b _ q λz=>z)];exact q,λb u xs q=>by rw[aH (hm b _ q λz=>z)];exact q,λb ps q=>⟨#[],by rw[aH (hm b _ q λz=>z),q];simp⟩⟩
 by_cases O2:b=e
 ·subst O2;exact ZK
 ·exact⟨u,k b u O2 q⟩
end
noncomputable def trk(h:qad)(H:Hp):List g_:=(E_ h.objs.size).filter λa=>(H a).isSome
noncomputable def HS(h:qad)(H:Hp):qad:=PySem.W.hideAll h (trk h H)
theorem O1(h:qad)(H:Hp):(HS h H).objs.size=h.objs.size:=PySem.W.hideAll_size _ _
theorem Rr{h:qad}{H:Hp}{b:g_}{o:qa0}(e:h.get? b=some o)(n:H b=none):(HS h H).get? b=some o :=
 PySem.W.hideAll_get _ e λhm=>by
  have q:(H b).isSome=true:=(qaC.mp hm).2;rw[n]at q;simp at q
theorem Tg{h:qad}{H:Hp}{b:g_}{o:qa0}(e:(HS h H).get? b=some o):h.get? b=some o/\H b=none:=by
 have e':h.get? b=some o:=PySem.W.of_hideAll (trk h H) e;refine⟨e',?_⟩
 cases q:H b with
 |none=>rfl
 |some x =>
  have hm:b∈trk h H:=qaC.mpr ⟨qag.mpr (J_ e'),by simp[q]⟩;have z:(HS h H).get? b=none:=PySem.W.hideAll_none (trk h H) hm;rw[z]at e;cases e
end
section
structure Mod(K:PySem.W.Frag)(mg:r_->Option i_)(base:qad):Prop where
 TN:K.In base
 glob:base.Ns M_ mg
 blt:∃mb,base.Ns builtinsNs mb/\∀x:r_,x≠ "__name__" ->mb x=bootBuiltins x
 nolimit:base.NoLimit
structure Cx where
 prog:I_
 w:W_
 K:PySem.W.Frag
 mg:r_->Option i_
 base:qad
 A:qam
 N:List r_
 s₀:p_
 H₀:Hp
 env:Env
 outer:List Env
 stack:List Env
 ex:List g_
 fn:r_->Bool
 calm:Bool
 pn:List (g_×qa0)
 xe:i_->p_->Prop
noncomputable def frs(l:List Env):List g_:=l.filterMap (·.frame)
noncomputable abbrev Cx.fs(X:Cx):List g_:=frs X.outer
def Vis(sc:qbJ)(x:r_):Prop:=sc.names.lookup x=some .local\/sc.names.lookup x=some .cell\/sc.names.lookup x=some .free
def Loc(sc:qbJ)(x:r_):Prop:=sc.names.lookup x=some .local\/sc.names.lookup x=some .cell
def Look(env:Env)(h:qad)(m:r_->Option i_)(x:r_)(u:i_):Prop :=
 (env.kindOf x=some .local/\m x=some u)\/((env.kindOf x=some .cell\/env.kindOf x=some .free)/\∃c,env.cells.lookup x=some c/\h.IsCell c (some u))
def K3(mg:r_->Option i_)(n:Nat):Prop:=∀x v u,mg x=some (.str v u)->u<n/\u≠0
theorem K3.mono{mg:r_->Option i_}{n m:Nat}(h:K3 mg n)(l:n<=m):K3 mg m:=λx v u e=>⟨K_ (h x v u e).1 l,(h x v u e).2⟩
structure Cx.Ok(X:Cx):Prop where
 mod:Mod X.K X.mg X.base
 kind:X.env.scope.kind= .function
 glob:X.env.globals=M_
 blt:X.env.builtins=builtinsNs
 above:X.s₀.heap.objs.size<=X.env.locals
 inj:∀x y c,X.env.cells.lookup x=some c->X.env.cells.lookup y=some c->x=y
 has:∀x,(X.env.kindOf x=some .cell\/X.env.kindOf x=some .free)->∃c,X.env.cells.lookup x=some c
 Ut:∀x c,X.fn x=true->X.env.cells.lookup x=some c->X.s₀.heap.objs.size<=c
 hd:X.calm=true->X.A.handled=none
 frames:X.A.frames=some X.stack
 stk:X.stack=X.outer\/(X.stack=X.env::X.outer/\X.env.frame=some X.env.locals)
 exf:∀b∈X.ex,b≠X.env.locals/\∀x c,X.env.cells.lookup x=some c->c≠b
 bs:∀b o,X.base.get? b=some o->X.s₀.heap.get? b=some o/\X.H₀ b=none
 R0:X.base.objs.size<=X.s₀.heap.objs.size
 Mg:∀b o,X.base.get? b=some o->b∉X.ex
 O6:∀b∈X.ex,b∉X.fs
 yT:X.s₀.heap.FunFrames X.base X.outer
 Ug:∀b∈X.fs,X.H₀ b=none
 tk:K3 X.mg X.s₀.toks
structure Inv(X:Cx)(pins:List (g_×qa0))(σ:List (Option V))(H:Hp)(s:p_):Prop where
 ok:X.Ok
 os:s.os=X.s₀.os
 bare:AllBare s.gens
 base:Un X.fs X.ex X.H₀ H X.s₀.heap s.heap
 loc:∃m,s.heap.Ns X.env.locals m/\∀(i:Nat) (x:r_) (v:V),X.N[i]? =some x->σ[i]? =some (some v)->Vis X.env.scope x->∃u,RelV v u/\Look X.env s.heap m x u
 cell:∀x c,X.env.cells.lookup x=some c->∃v,s.heap.IsCell c v
 free:H X.env.locals=none
 pP:∀x c,X.env.cells.lookup x=some c->H c=none
 pin:∀p∈X.pn++pins,s.heap.get? p.1=some p.2/\H p.1=none/\p.1≠X.env.locals/\p.1∉X.fs/\∀v,p.2.data≠ .cell v
 hok:uV X.prog X.w H s.heap
 len:σ.length=X.N.length
 up:X.s₀.toks<=s.toks
section
variable{X:Cx}{pins:List (g_×qa0)}{σ:List (Option V)}{H H':Hp}{s:p_}{h':qad}
theorem Cx.Ok.afH(ok:X.Ok){b:g_}{o:qa0}(e:X.base.get? b=some o):b∉X.fs:=λhb=>by
 have:=(ok.yT.mem hb).1;rw[e]at this;cases this
theorem Inv.tk(I:Inv X pins σ H s):K3 X.mg s.toks:=I.ok.tk.mono I.up
theorem Inv.bs(I:Inv X pins σ H s):∀b o,X.base.get? b=some o->s.heap.get? b=some o/\H b=none:=λb o e =>
 ⟨I.base.keep b o (I.ok.bs b o e).1 (I.ok.bs b o e).2 (I.ok.afH e) (I.ok.Mg b o e),I.base.free b o (I.ok.bs b o e).1 (I.ok.bs b o e).2 (I.ok.Mg b o e)⟩
theorem Inv.bk(I:Inv X pins σ H s):∀b o,X.base.get? b=some o->s.heap.get? b=some o:=λb o e=>(I.bs b o e).1
theorem Inv.mod(I:Inv X pins σ H s):Mod X.K X.mg X.base:=I.ok.mod
theorem Inv.tu(I:Inv X pins σ H s):X.K.In s.heap:=I.ok.mod.TN.keeps I.bk
theorem Inv.lt(I:Inv X pins σ H s):X.env.locals<s.heap.objs.size:=let ⟨_,hn,_⟩:=I.loc;hn.lt
theorem Inv.sz(I:Inv X pins σ H s):X.s₀.heap.objs.size<=s.heap.objs.size:=m_ I.ok.above (qbU I.lt)
theorem Inv.afG(I:Inv X pins σ H s){a:g_}(h:s.heap.objs.size<=a):a∉X.fs:=λhb=>by
 obtain⟨_,o,ho,_⟩:=I.ok.yT.mem hb;exact absurd (K_ (J_ ho) (m_ I.sz h)) (qa_ _)
theorem Inv.Va(I:Inv X pins σ H s):∀x c,X.env.cells.lookup x=some c->c≠X.env.locals:=λx c e z=>by
 obtain⟨v,o,ho,hd⟩:=I.cell x c e;obtain⟨m,⟨o',es,ep,ho',hd',_⟩,_⟩:=I.loc;rw[z,ho']at ho;cases ho;rw[hd']at hd;cases hd
theorem Inv.yT(I:Inv X pins σ H s):s.heap.FunFrames X.base X.outer:=by
 have all:∀(l:List Env),(∀b∈frs l,b∈X.fs)->X.s₀.heap.FunFrames X.base l->s.heap.FunFrames X.base l:=by
  intro l
  induction l with
  |nil=>intro _ _;trivial
  |cons env r ih =>
   intro hs hl;obtain⟨hk,⟨L,o,hf,hn,ho,hd⟩,hr⟩:=hl;have hL:L∈X.fs:=hs L (by unfold frs;rw[List.filterMap_cons,hf];exact D_);obtain⟨sl,e⟩:=I.base.slot L o ho (I.ok.Ug L hL) hL λz=>I.ok.O6 L z hL;exact⟨hk,⟨L,_,hf,hn,e,hd⟩,ih (λb hb=>hs b (by unfold frs;rw[List.filterMap_cons,hf];exact C_ _ hb)) hr⟩
 exact all X.outer (λ_ hb=>hb) I.ok.yT
theorem Inv.stack(I:Inv X pins σ H s):s.heap.FunFrames X.base X.stack:=by
 rcases I.ok.stk with e|⟨e,hf⟩
 ·rw[e];exact I.yT
 ·rw[e];obtain⟨m,hn,_⟩:=I.loc;refine .cons (by rw[I.ok.kind];decide) hf hn ?_ I.yT;exact qb8 (m_ I.ok.R0 I.ok.above)
theorem Inv.AD(I:Inv X pins σ H s):∀b∈frs X.stack,b∈X.env.locals::X.fs:=λb hb=>by
 rcases I.ok.stk with e|⟨e,hf⟩
 ·rw[e]at hb;exact C_ _ hb
 ·rw[e]at hb;unfold frs at hb;rw[List.filterMap_cons,hf]at hb;exact hb
theorem Inv.GO(I:Inv X pins σ H s):∀b∈frs X.stack,H b=none:=λb hb=>by
 rcases S_.mp (I.AD b hb)with e|hb
 ·rw[e];exact I.free
 ·obtain⟨_,o,ho,_⟩:=I.ok.yT.mem hb;exact I.base.free b o ho (I.ok.Ug b hb) λz=>I.ok.O6 b z hb
theorem Inv.step{g':Array GenState}{t':Nat}{d':Drawn}{ch:List g_}(I:Inv X pins σ H s)
  (hch:∀b∈ch,(b∈X.ex\/X.s₀.heap.objs.size<=b)/\b≠X.env.locals/\(∀x c,X.env.cells.lookup x=some c->c≠b)/\∀p∈X.pn++pins,p.1≠b)
  (keep:∀b o,b≠X.env.locals->b∉X.fs->b∉ch->s.heap.get? b=some o->H b=none->h'.get? b=some o)
  (slot:∀b o,b≠X.env.locals->b∈X.fs->b∉ch->s.heap.get? b=some o->H b=none->∃sl,h'.get? b=some { o with slots:=sl }) (free:∀b o,b∉ch->s.heap.get? b=some o->H b=none->H' b=none)
  (there:∀b o,b∉ch->s.heap.get? b=some o->∃o',h'.get? b=some o')
  (tups:∀b xs,H b=some (.tup xs)->H' b=some (.tup xs)) (yV:∀b o u,H b=some (.MA o u)->H' b=some (.MA o u)) (zo:∀b ps,H b=some (.UJ ps)->∃more,H' b=some (.UJ (ps++more)))
  (ns:∀m,s.heap.Ns X.env.locals m->h'.Ns X.env.locals m) (hok:uV X.prog X.w H' h') (hg:AllBare g') (ht:X.s₀.toks<=t') :
  Inv X pins σ H' { s with heap:=h',gens:=g',drawn:=d',toks:=t' }:=by
 have neL:∀b o,X.s₀.heap.get? b=some o->b≠X.env.locals:=λb o e=>Y_ (K_ (J_ e) I.ok.above);have neC:∀b o,X.s₀.heap.get? b=some o->b∉X.ex->b∉ch:=λb o e hx hb=>by
  rcases(hch b hb).1 with z|z
  ·exact hx z
  ·exact absurd (K_ (J_ e) z) (qa_ _)
 have cellK:∀x c,X.env.cells.lookup x=some c->∀v,s.heap.IsCell c v->h'.IsCell c v:=λx c e v ⟨o,ho,hd⟩=>by
  have UU:c∉ch:=λz=>(hch c z).2.2.1 x c e rfl;by_cases hc:c∈X.fs
  ·obtain⟨sl,q⟩:=slot c o (I.Va x c e) hc UU ho (I.pP x c e);exact⟨_,q,hd⟩
  ·exact⟨o,keep c o (I.Va x c e) hc UU ho (I.pP x c e),hd⟩
 refine⟨I.ok,I.os,hg,⟨λb o e n hb hx=>?_,λb o e n hb hx=>?_,λb o e n hx=>?_,λb o e hx=>?_,λb xs e=>tups b xs (I.base.tups b xs e),λb o xs e=>yV b o xs (I.base.yV b o xs e),λb ps e=>?_⟩,?_,λx c e=>?_,?_,λx c e=>?_,λp hp=>?_,hok,I.len,ht⟩
 ·exact keep b o (neL b o e) hb (neC b o e hx) (I.base.keep b o e n hb hx) (I.base.free b o e n hx)
 ·obtain⟨sl,e1⟩:=I.base.slot b o e n hb hx;obtain⟨PB,e2⟩:=slot b _ (neL b o e) hb (neC b o e hx) e1 (I.base.free b o e n hx);exact⟨PB,e2⟩
 ·obtain⟨o',e1⟩:=I.base.there b o e hx;exact free b o' (neC b o e hx) e1 (I.base.free b o e n hx)
 ·obtain⟨o',e1⟩:=I.base.there b o e hx;exact there b o' (neC b o e hx) e1
 ·obtain⟨m1,e1⟩:=I.base.zo b ps e;obtain⟨m2,e2⟩:=zo b _ e1;exact⟨m1++m2,by rw[e2,Array.append_assoc]⟩
 ·obtain⟨m,hn,hl⟩:=I.loc;refine⟨m,ns m hn,λi x v e1 e2 e3=>?_⟩;obtain⟨u,r,l⟩:=hl i x v e1 e2 e3;refine⟨u,r,?_⟩;rcases l with l|⟨k,c,e,z⟩
  ·exact .inl l
  ·exact .inr ⟨k,c,e,cellK x c e _ z⟩
 ·obtain⟨v,z⟩:=I.cell x c e;exact⟨v,cellK x c e v z⟩
 ·obtain⟨m,⟨o,_,_,ho,_⟩,_⟩:=I.loc;exact free _ o (λz=>(hch _ z).2.1 Y) ho I.free
 ·obtain⟨v,o,ho,hd⟩:=I.cell x c e;exact free c o (λz=>(hch c z).2.2.1 x c e Y) ho (I.pP x c e)
 ·obtain⟨e,n,ne,nf,d⟩:=I.pin p hp;have UU:p.1∉ch:=λz=>(hch p.1 z).2.2.2 p hp rfl;exact⟨keep p.1 p.2 ne nf UU e n,free p.1 p.2 UU e n,ne,nf,d⟩
theorem Inv.un{t':Nat}(I:Inv X pins σ H s)(u:Un X.fs [] H H' s.heap h')(hok:uV X.prog X.w H' h')(ht:s.toks<=t':=by first|exact j_ _|exact qaw _|assumption|omega):Inv X pins σ H' { s with heap:=h',toks:=t' }:=by
 obtain⟨m,⟨o,es,ep,ho,r⟩,_⟩:=id I.loc;obtain⟨sl,hL⟩:=u.any ho I.free (by simp)
 exact I.step (g':=s.gens) (d':=s.drawn) (ch:=[]) (λ_ z=>nomatch z) (λb o _ hb _ e n=>u.keep b o e n hb (by simp)) (λb o _ hb _ e n=>u.slot b o e n hb (by simp)) (λb o _ e n=>u.free b o e n (by simp)) (λb o _ e=>u.there b o e (by simp)) u.tups u.yV u.zo (λm' hm=>by
  obtain⟨o',es',ep',ho',r'⟩:=hm;rw[ho]at ho';cases ho';exact⟨_,es',ep',hL,r'⟩) hok I.bare (m_ I.up ht)
theorem Inv.call{g':Array GenState}{t':Nat}{d':Drawn}{ch:List g_}(I:Inv X pins σ H s)(u:Un (frs X.stack) ch H H' s.heap h')(hok:uV X.prog X.w H' h')(hg:AllBare g')
  (hch:∀b∈ch,(b∈X.ex\/X.s₀.heap.objs.size<=b)/\b≠X.env.locals/\(∀x c,X.env.cells.lookup x=some c->c≠b)/\∀p∈X.pn++pins,p.1≠b) (ht:X.s₀.toks<=t') :
  Inv X pins σ H' { s with heap:=h',gens:=g',drawn:=d',toks:=t' }:=by
 obtain⟨m,⟨o,es,ep,ho,r⟩,_⟩:=id I.loc;obtain⟨sl,hL⟩:=u.any ho I.free λz=>(hch _ z).2.1 rfl;exact I.step (ch:=ch) hch (λb o hL hb hc e n=>u.keep b o e n (λz=>(S_.mp (I.AD b z)).elim hL hb) hc) (λb o _ _ hc e n=>u.any e n hc) (λb o hc e n=>u.free b o e n hc) (λb o hc e=>u.there b o e hc) u.tups u.yV u.zo (λm' hm=>by
  obtain⟨o',es',ep',ho',r'⟩:=hm;rw[ho]at ho';cases ho';exact⟨_,es',ep',hL,r'⟩) hok hg ht
theorem Inv.turned{t':Nat}{it:g_}(I:Inv X pins σ H s)(k:∀b o,b≠it->s.heap.get? b=some o->h'.get? b=some o)(hn:H it=none)(hL:it≠X.env.locals)
  (h1:it∈X.ex\/X.s₀.heap.objs.size<=it) (h2:∀x c,X.env.cells.lookup x=some c->c≠it) (h3:∀p∈X.pn++pins,p.1≠it) (ht:s.toks<=t':=by first|exact j_ _|exact qaw _|assumption|omega):Inv X pins σ H { s with heap:=h',toks:=t' }:=by
 have nit:∀b u,H b=some u->b≠it:=λb u e z=>by rw[z,hn]at e;cases e
 refine I.step (g':=s.gens) (d':=s.drawn) (ch:=[it]) (λb hb=>?_) (λb o _ _ hc e _=>k b o (λz=>hc (by simp[z])) e) (λb o _ _ hc e _=>⟨o.slots,k b o (λz=>hc (by simp[z])) e⟩) (λ_ _ _ _ n=>n)
  (λb o hc e=>⟨o,k b o (λz=>hc (by simp[z])) e⟩) (λ_ _ e=>e) (λ_ _ _ e=>e) (λb ps e=>⟨#[],by rw[e];simp⟩) (λm hm=>?_) (λb u e=>?_) I.bare (m_ I.up ht)
 ·have e:b=it:=by simpa using hb
  subst e;exact⟨h1,hL,h2,h3⟩
 ·obtain⟨o,es,ep,ho,r⟩:=hm;exact⟨o,es,ep,k _ o (Ne.symm hL) ho,r⟩
 ·refine(I.hok b u e).stay (λc v hc q=>k c v ?_ q) (λ_ q=>q) λ_ _ q=>q;rcases hc with z|z
  ·rw[z];exact nit b u e
  ·exact nit c _ z
theorem Inv.tok(I:Inv X pins σ H s)(t':Nat)(ht:s.toks<=t':=by first|exact j_ _|exact qaw _|assumption|omega):Inv X pins σ H { s with toks:=t' }:=I.un (h':=s.heap) (t':=t') Un.refl I.hok ht
theorem Inv.kept{t':Nat}(I:Inv X pins σ H s)(k:∀b u,s.heap.get? b=some u->h'.get? b=some u)(ht:s.toks<=t':=by first|exact j_ _|exact qaw _|assumption|omega):Inv X pins σ H { s with heap:=h',toks:=t' }:=I.un (Un.kept k) (I.hok.kept k) ht
theorem Inv.laid{a:g_}{o:HO}{t':Nat}(I:Inv X pins σ H s)(k:∀b u,s.heap.get? b=some u->h'.get? b=some u)(hp:s.heap.objs.size<=a)(new:eN X.prog X.w (upd H a o) h' a o)(ht:s.toks<=t':=by first|exact j_ _|exact qaw _|assumption|omega):
  Inv X pins σ (upd H a o) { s with heap:=h',toks:=t' }:=I.un (Un.laid k hp (I.hok.fresh hp)) (I.hok.laid k hp new) ht
theorem Inv.write{x e:g_}{o:HO}{t':Nat}(I:Inv X pins σ H s)(mu:Mut (H x))(he:e=x\/H e=some (.own x))(k:∀b u,b≠e->s.heap.get? b=some u->h'.get? b=some u)(ZK:∃u,h'.get? e=some u)
  (new:eN X.prog X.w (upd H x o) h' x o) (ht:s.toks<=t':=by first|exact j_ _|exact qaw _|assumption|omega):Inv X pins σ (upd H x o) { s with heap:=h',toks:=t' }:=I.un (Un.write mu he k ZK) (I.hok.write mu he k ZK new) ht
theorem Inv.weak{σ':List (Option V)}(I:Inv X pins σ H s)(hl:σ'.length=σ.length)(w:∀(i:Nat) v,σ'[i]? =some (some v)->σ[i]? =some (some v)):Inv X pins σ' H s :=
 ⟨I.ok,I.os,I.bare,I.base,let ⟨m,hn,hl'⟩:=I.loc;⟨m,hn,λi x v e1 e2 e3=>hl' i x v e1 (w i v e2) e3⟩,I.cell,I.free,I.pP,I.pin,I.hok,hl.trans I.len,I.up⟩
theorem Inv.G8{US:List (g_×qa0)}(I:Inv X pins σ H s)(h:∀p∈US,s.heap.get? p.1=some p.2/\H p.1=none/\p.1≠X.env.locals/\p.1∉X.fs/\∀v,p.2.data≠ .cell v):Inv X US σ H s :=
 ⟨I.ok,I.os,I.bare,I.base,I.loc,I.cell,I.free,I.pP,λp hp=>(qab.mp hp).elim (λz=>I.pin p (qbB _ z)) (h p),I.hok,I.len,I.up⟩
theorem DN{N:List r_}(hN:N.Nodup){i j:Nat}{x:r_}(a:N[i]? =some x)(b:N[j]? =some x):i=j:=by
 obtain⟨h1,e1⟩:=q_.mp a;obtain⟨h2,e2⟩:=q_.mp b;exact(List.getElem_inj hN).mp (e1.trans e2.symm)
theorem AB{M:qcH}{A:qam}{E:i_->p_->Prop}{i:Nat}{x:r_}{v:V}{u:i_}{Q:Unit->p_->Prop}(I:Inv X pins σ H s)(hN:X.N.Nodup)(hi:X.N[i]? =some x)(hx:Loc X.env.scope x)(r:RelV v u)
  (h:∀s',Inv X pins (σ.set i (some v)) H s'->(∃a,qbl a s.heap s'.heap/\(a=X.env.locals\/X.env.cells.lookup x=some a))->Q () s') (hf:X.fn x=true\/X.env.scope.names.lookup x=some .local:=by first|exact .inl rfl|exact .inr rfl|assumption):N_ M A (storeName X.env x u) Q E s:=by
 obtain⟨m,hn,hl⟩:=id I.loc;have hcls:(X.env.scope.kind== .class||(X.env.scope.kind== .module&&X.env.locals != X.env.globals))=false:=by rw[I.ok.kind];rfl
 have abz:i<σ.length:=by rw[I.len];exact(q_.mp hi).1
 have Va:=I.Va;have tracked:∀{a:g_} {h':qad},(∃o,s.heap.get? a=some o/\H a=none)->qbl a s.heap h'->uV X.prog X.w H h':=λ{a h'} ha hs b ob e=>by
  obtain⟨_,_,hfree⟩:=ha;refine(I.hok b ob e).stay (λc w' hc q=>(hs.2 c ?_).trans q) (λ_ q=>q) λ_ _ q=>q;rintro rfl;rcases hc with rfl|hc
  ·rw[hfree]at e;cases e
  ·rw[hfree]at hc;cases hc
 rcases hx with hk|hk
 ·refine wpAny_storeName_local hk hn (λh' hn' hs=>?_) hcls;obtain⟨oL,_,_,hoL,_⟩:=id hn
  refine h _ ⟨I.ok,I.os,I.bare,⟨λb o e n hb hx=>?_,λb o e n hb hx=>?_,I.base.free,λb o e hx=>?_,I.base.tups,I.base.yV,I.base.zo⟩,⟨_,hn',λj y v' e1 e2 e3=>?_⟩,λy c e=>?_,I.free,I.pP,λp hp=>?_,tracked ⟨oL,hoL,I.free⟩ hs,by simpa using I.len,m_ I.up (by first|exact j_ _|exact qaw _|exact qaM _ _)⟩ ⟨_,hs,.inl Y⟩
  ·exact(hs.2 b (Y_ (K_ (J_ e) I.ok.above))).trans (I.base.keep b o e n hb hx)
  ·obtain⟨sl,e1⟩:=I.base.slot b o e n hb hx;exact⟨sl,(hs.2 b (Y_ (K_ (J_ e) I.ok.above))).trans e1⟩
  ·obtain⟨o',e1⟩:=I.base.there b o e hx;exact⟨o',(hs.2 b (Y_ (K_ (J_ e) I.ok.above))).trans e1⟩
  ·by_cases hj:j=i
   ·subst hj;rw[hi]at e1;cases e1;rw[qa1 abz]at e2;cases e2;exact⟨u,r,.inl ⟨hk,by simp⟩⟩
   ·rw[qaX (Ne.symm hj)]at e2;obtain⟨u',r',q⟩:=hl j y v' e1 e2 e3;refine⟨u',r',?_⟩;rcases q with⟨k,e⟩|⟨k,c,e,z⟩
    ·refine .inl ⟨k,?_⟩;have:y≠x:=λe=>hj (DN hN e1 (e▸hi));simp[this,e]
    ·exact .inr ⟨k,c,e,z.sameBut hs (Va y c e)⟩
  ·obtain⟨w',z⟩:=I.cell y c e;exact⟨w',z.sameBut hs (Va y c e)⟩
  ·obtain⟨e,n,ne,nf,d⟩:=I.pin p hp;exact⟨(hs.2 p.1 ne).trans e,n,ne,nf,d⟩
 ·have hfn:X.fn x=true:=by
   rcases hf with z|z
   ·exact z
   ·rw[z]at hk;cases hk
  obtain⟨c,hc⟩:=I.ok.has x (.inl hk);obtain⟨w',z⟩:=I.cell x c hc;refine wpAny_storeName_cell I.ok.kind hk hc z (λh' hc' hs=>?_);obtain⟨oc,hoc,aga⟩:=id z;refine h { s with heap:=h' } ⟨I.ok,I.os,I.bare,⟨λb o e n hb hx=>?_,λb o e n hb hx=>?_,I.base.free,λb o e hx=>?_,I.base.tups,I.base.yV,I.base.zo⟩,⟨m,hn.sameBut hs (Ne.symm (Va x c hc)),λj y v' e1 e2 e3=>?_⟩,λy c' e=>?_,I.free,I.pP,λp hp=>?_,tracked ⟨oc,hoc,I.pP x c hc⟩ hs,by simpa using I.len,I.up⟩ ⟨c,hs,.inr hc⟩
  ·exact(hs.2 b (Y_ (K_ (J_ e) (I.ok.Ut x c hfn hc)))).trans (I.base.keep b o e n hb hx)
  ·obtain⟨sl,e1⟩:=I.base.slot b o e n hb hx;exact⟨sl,(hs.2 b (Y_ (K_ (J_ e) (I.ok.Ut x c hfn hc)))).trans e1⟩
  ·obtain⟨o',e1⟩:=I.base.there b o e hx;exact⟨o',(hs.2 b (Y_ (K_ (J_ e) (I.ok.Ut x c hfn hc)))).trans e1⟩
  ·by_cases hj:j=i
   ·subst hj;rw[hi]at e1;cases e1;rw[qa1 abz]at e2;cases e2;exact⟨u,r,.inr ⟨.inl hk,c,hc,hc'⟩⟩
   ·rw[qaX (Ne.symm hj)]at e2;obtain⟨u',r',q⟩:=hl j y v' e1 e2 e3;refine⟨u',r',?_⟩;rcases q with q|⟨k,c',e,z'⟩
    ·exact .inl q
    ·refine .inr ⟨k,c',e,z'.sameBut hs ?_⟩;rintro rfl;exact hj (DN hN e1 (I.ok.inj _ _ _ e hc▸hi))
  ·by_cases hcc:c'=c
   ·subst hcc;exact⟨_,hc'⟩
   ·obtain⟨w2,z2⟩:=I.cell y c' e;exact⟨w2,z2.sameBut hs hcc⟩
  ·obtain⟨e,n,ne,nf,d⟩:=I.pin p hp;refine⟨(hs.2 p.1 ?_).trans e,n,ne,nf,d⟩;intro q;rw[q,hoc]at e;have q':oc=p.2:=V_ e;exact d w' (by rw[←q'];exact aga)
theorem C0{M:qcH}{A:qam}{E:i_->p_->Prop}{i:Nat}{x:r_}{v:V}{u:i_}{Q:Unit->p_->Prop}(I:Inv X pins σ H s)(hN:X.N.Nodup)(hi:X.N[i]? =some x)(hx:Loc X.env.scope x)(r:RelV v u)
  (h:∀s',Inv X pins (σ.set i (some v)) H s'->Q () s') (hf:X.fn x=true\/X.env.scope.names.lookup x=some .local:=by first|exact .inl rfl|exact .inr rfl|assumption):N_ M A (storeName X.env x u) Q E s :=
 AB I hN hi hx r (λs' I' _=>h s' I') hf
theorem Inv.Vb{s':p_}{ch:List g_}(I:Inv X pins σ H s)(ho:s'.os=s.os)(u:Un (frs X.stack) ch H H' s.heap s'.heap)(hok:uV X.prog X.w H' s'.heap)(hg:AllBare s'.gens)
  (hch:∀b∈ch,(b∈X.ex\/X.s₀.heap.objs.size<=b)/\b≠X.env.locals/\(∀x c,X.env.cells.lookup x=some c->c≠b)/\∀p∈X.pn++pins,p.1≠b) (ht:X.s₀.toks<=s'.toks):Inv X pins σ H' s':=by
 obtain⟨h',g',d',t',o'⟩:=s';have e:o'=s.os:=ho;subst e;exact I.call (g':=g') (t':=t') (d':=d') u hok hg hch ht
end
noncomputable abbrev XK:=i_->Option g_->Hp->Prop
noncomputable abbrev St:=List (Option V)
noncomputable abbrev VK:=V->Hp->Prop
noncomputable abbrev TE:=St->Hp->VK->Prop
noncomputable abbrev TT:=St->Hp->(Bool->Hp->Prop)->Prop
noncomputable abbrev TA:=St->Hp->(List V->Hp->Prop)->Prop
structure Ends where
 nx:St->Hp->Prop
 rt:VK
 bk:St->Hp->Prop:=λ_ _=>False
 ct:St->Hp->Prop:=λ_ _=>False
noncomputable abbrev TS:=Ends->St->Hp->Prop
def EP(X:Cx)(pins:List (g_×qa0))(σ:St)(Q:VK)(u:i_)(s':p_):Prop:=fD λv H'=>Inv X pins σ H' s'/\RelV v u/\Q v H'
def TP(X:Cx)(pins:List (g_×qa0))(σ:St)(Q:Bool->Hp->Prop)(b:Bool)(s':p_):Prop:=∃H',Inv X pins σ H' s'/\Q b H'
def AP(X:Cx)(pins:List (g_×qa0))(σ:St)(Q:List V->Hp->Prop)(us:List i_)(s':p_):Prop:=fD λvs H'=>Inv X pins σ H' s'/\Vals vs us/\Q vs H'
def SP(X:Cx)(pins:List (g_×qa0))(D:Ends)(f:Flow)(s':p_):Prop :=
 match f with
 | .next=>fD λσ' H'=>Inv X pins σ' H' s'/\D.nx σ' H'
 | .brk=>fD λσ' H'=>Inv X pins σ' H' s'/\D.bk σ' H'
 | .cont=>fD λσ' H'=>Inv X pins σ' H' s'/\D.ct σ' H'
 | .ret u=>rG λv σ' H'=>Inv X pins σ' H' s'/\RelV v u/\D.rt v H'
def PE(X:Cx)(e:Expr)(t:TE):Prop :=
 ∀(pins:List (g_×qa0)) (s:p_) (σ:St) (H:Hp) (Q:VK),Inv X pins σ H s->t σ H Q->N_ (model X.prog X.w) X.A (eval e X.env) (EP X pins σ Q) X.xe s
def PT(X:Cx)(e:Expr)(t:TT):Prop :=
 ∀(pins:List (g_×qa0)) (s:p_) (σ:St) (H:Hp) (Q:Bool->Hp->Prop),Inv X pins σ H s->t σ H Q->N_ (model X.prog X.w) X.A (isTrue e X.env (eval e X.env)) (TP X pins σ Q) X.xe s
def PW(X:Cx)(e:Expr)(t:TT):Prop :=
 ∀(whole:Sem i_) (pins:List (g_×qa0)) (s:p_) (σ:St) (H:Hp) (Q:Bool->Hp->Prop),Inv X pins σ H s->t σ H Q->N_ (model X.prog X.w) X.A (isTrue e X.env whole) (TP X pins σ Q) X.xe s
theorem PW.pt{X:Cx}{e:Expr}{t:TT}(h:PW X e t):PT X e t:=h _
def PA(X:Cx)(es:List Expr)(t:TA):Prop :=
 ∀(pos:qcd) (pins:List (g_×qa0)) (s:p_) (σ:St) (H:Hp) (Q:List V->Hp->Prop),Inv X pins σ H s->t σ H Q->N_ (model X.prog X.w) X.A (spliced (backTo pos (Z_ es X.env))) (AP X pins σ Q) X.xe s
def PS(X:Cx)(st:qaq)(t:TS):Prop :=
 ∀(pins:List (g_×qa0)) (s:p_) (σ:St) (H:Hp) (D:Ends),Inv X pins σ H s->t D σ H->N_ (model X.prog X.w) X.A (exec st X.env) (SP X pins D) X.xe s
def IG(X:Cx)(st:List qaq)(t:TS):Prop :=
 ∀(pins:List (g_×qa0)) (s:p_) (σ:St) (H:Hp) (D:Ends),Inv X pins σ H s->t D σ H->N_ (model X.prog X.w) X.A (execs st X.env) (SP X pins D) X.xe s
theorem iB{α:Type}{t:Sem α}{Q Q':α->p_->Prop}{M:qcH}{A:qam}{E:i_->p_->Prop}{s:p_}(h:N_ M A t Q E s)(hQ:∀a s,Q a s->Q' a s):N_ M A t Q' E s:=qaF h hQ λ_ _ x=>x
end
section
section
variable{X:Cx}
def Z1(i:Nat):TE:=λσ H Q=>∃v,σ[i]? =some (some v)/\Q v H
def tC(v:V):TE:=λ_ H Q=>Q v H
theorem Yr {i:Nat}{x:r_}{pos:qcd}(hN:X.N[i]? =some x)(hv:Vis X.env.scope x)(hd:(x==("__debug__" :r_))=false:=by decide)(hcd:(x==("__classdict__" :r_))=false:=by decide):PE X (.Name x pos) (Z1 i):=by
 intro pins s σ H Q I h;obtain⟨v,e,h⟩:=h;obtain⟨m,hn,hl⟩:=I.loc;obtain⟨u,r,l⟩:=hl i x v hN e hv;have fin:EP X pins σ Q u s:=⟨v,H,I,r,h⟩;rcases l with⟨hk,hm⟩|⟨hk,c,hc,hcell⟩
 ·exact wpAny_Name (wpAny_loadName_local I.ok.kind hk hn hm fin) hd
 ·rcases hk with hk|hk
  ·exact wpAny_Name (wpAny_loadName_cell I.ok.kind hk hc hcell fin) hd
  ·exact wpAny_Name (wpAny_loadName_free I.ok.kind hk hc hcell fin hcd) hd
theorem aq{i j pos}:PE X (.Constant (.int i) j pos) (tC (.int i)):=λ_ _ _ H _ I h=>wpAny_Constant_int ⟨.int i,H,I.tok _,⟨_,rfl⟩,h⟩
theorem rH{b j pos}:PE X (.Constant (.bool b) j pos) (tC (.bl b)):=λ_ _ _ H _ I h=>Constant_bool ⟨.bl b,H,I,rfl,h⟩
theorem vn{j pos}:PE X (.Constant .none j pos) (tC .lV):=λ_ _ _ H _ I h=>Constant_none ⟨.lV,H,I,rfl,h⟩
theorem dQ{x j pos}:PE X (.Constant (.str x) j pos) (tC (.str x)):=λ_ _ _ H _ I h=>Calls.Constant_str ⟨.str x,H,I.tok _,⟨_,rfl⟩,h⟩
def Gl(X:Cx)(x:r_):Prop:=X.env.kindOf x=some .globalImplicit
theorem qK{E:i_->p_->Prop}{pins:List (g_×qa0)}{s:p_}{σ:St}{H:Hp}{x:r_}{u:i_}{pos:qcd}{Q:i_->p_->Prop}(I:Inv X pins σ H s)(hg:Gl X x)(hm:X.mg x=some u)(h:Q u s)
  (hd:(x==("__debug__" :r_))=false:=by decide):N_ (model X.prog X.w) X.A (eval (.Name x pos) X.env) Q E s :=
 Calls.Name_function_global I.ok.kind hg (Calls.loadGlobal_global (by rw[I.ok.glob];exact I.mod.glob.keeps I.bk) hm h) hd
theorem vv{E:i_->p_->Prop}{pins:List (g_×qa0)}{s:p_}{σ:St}{H:Hp}{x:r_}{u:i_}{pos:qcd}{Q:i_->p_->Prop}(I:Inv X pins σ H s)(hg:Gl X x)(hm:X.mg x=none)(hv:bootBuiltins x=some u)(h:Q u s)
  (hn:x≠ "__name__" :=by decide) (hd:(x==("__debug__" :r_))=false:=by decide):N_ (model X.prog X.w) X.A (eval (.Name x pos) X.env) Q E s:=by
 obtain⟨mb,h1,h2⟩:=I.mod.blt;exact Calls.Name_function_global I.ok.kind hg (Calls.loadGlobal_builtin (by rw[I.ok.glob];exact I.mod.glob.keeps I.bk) hm (by rw[I.ok.blt];exact h1.keeps I.bk) ((h2 x hn).trans hv) h) hd
theorem eE {x:r_}{v:V}{u:i_}{pos:qcd}(hg:Gl X x)(hm:X.mg x=some u)(r:RelV v u)(hd:(x==("__debug__" :r_))=false:=by decide):PE X (.Name x pos) (tC v) :=
 λ_ _ _ H _ I h=>qK I hg hm ⟨v,H,I,r,h⟩ hd
theorem vp {x:r_}{v:V}{u:i_}{pos:qcd}(hg:Gl X x)(hm:X.mg x=none)(hv:bootBuiltins x=some u)(r:RelV v u)(hn:x≠ "__name__" :=by decide)(hd:(x==("__debug__" :r_))=false:=by decide):PE X (.Name x pos) (tC v) :=
 λ_ _ _ H _ I h=>vv I hg hm hv ⟨v,H,I,r,h⟩ hn hd
variable{a b:Expr}{ta tb:TE}{pos:qcd}
def tB(t:TE):TT:=λσ H Q=>t σ H λx H1=>∃c,x= .bl c/\Q c H1
theorem gD{e:Expr}{t:TE}(h:PE X e t)(he:∀whole,isTrue e X.env whole=(do let v ←whole;standAt e.pos;holding [v] (truthy v)):=by intro _;rfl):PT X e (tB t):=by
 intro pins s σ H Q I hw;refine isTrue_plain (iB (h pins s σ H _ I hw) λv s1 ⟨x,H1,I1,r1,q1⟩=>?_) (he _);obtain⟨d,rfl,q⟩:=q1;cases r1;exact qaT ⟨H1,I1,q⟩
variable{tA tB':TT}{rest:List Expr}
def ae8(t u:TT):TT:=λσ H Q=>t σ H λc H1=>if c=true then u σ H1 Q else Q false H1
def tOr(t u:TT):TT:=λσ H Q=>t σ H λc H1=>if c=true then Q true H1 else u σ H1 Q
def ae0(t:TT):TT:=λσ H Q=>t σ H λc H1=>Q (!c) H1
theorem CF(ha:PT X a tA):PW X (.BoolOp .And [a] pos) tA:=by
 intro wh pins s σ H Q I h;refine isTrue_and (iB (ha pins s σ H Q I h) λc s1 e=>?_)
 cases c with
 |true=>exact isTrue_and_nil e
 |false=>exact e
theorem sQ(ha:PT X a tA):PW X (.BoolOp .Or [a] pos) tA:=by
 intro wh pins s σ H Q I h;refine isTrue_or (iB (ha pins s σ H Q I h) λc s1 e=>?_)
 cases c with
 |false=>exact isTrue_or_nil e
 |true=>exact e
theorem G6(ha:PT X a tA)(hb:PW X (.BoolOp .And (b::rest) pos) tB'):PW X (.BoolOp .And (a::b::rest) pos) (ae8 tA tB'):=by
 intro wh pins s σ H Q I h;refine isTrue_and (iB (ha pins s σ H _ I h) λc s1 ⟨H1,I1,q1⟩=>?_)
 cases c with
 |true=>exact hb wh pins s1 σ H1 Q I1 q1
 |false=>exact⟨H1,I1,q1⟩
theorem qW(ha:PT X a tA)(hb:PW X (.BoolOp .Or (b::rest) pos) tB'):PW X (.BoolOp .Or (a::b::rest) pos) (tOr tA tB'):=by
 intro wh pins s σ H Q I h;refine isTrue_or (iB (ha pins s σ H _ I h) λc s1 ⟨H1,I1,q1⟩=>?_)
 cases c with
 |true=>exact⟨H1,I1,q1⟩
 |false=>exact hb wh pins s1 σ H1 Q I1 q1
theorem jy(ha:PT X a tA):PT X (.UnaryOp .Not a pos) (ae0 tA):=by
 intro pins s σ H Q I h;exact isTrue_not (ha pins s σ H (λc H1=>Q (!c) H1) I h)
def aad(ta tb:TE):TE:=λσ H Q=>ta σ H λx H1=>∃c,x= .bl c/\if c=true then tb σ H1 Q else Q (.bl false) H1
def aeZ(ta tb:TE):TE:=λσ H Q=>ta σ H λx H1=>∃c,x= .bl c/\if c=true then Q (.bl true) H1 else tb σ H1 Q
def Z3(ta:TE):TE:=λσ H Q=>ta σ H λx H1=>∃c,x= .bl c/\Q (.bl (!c)) H1
theorem LZ{op}{t:TE}(h:PE X a t):PE X (.BoolOp op [a] pos) t:=λpins s σ H Q I hw=>BoolOp_one (h pins s σ H Q I hw)
theorem QT(ha:PE X a ta)(hb:PE X (.BoolOp .And (b::rest) pos) tb):PE X (.BoolOp .And (a::b::rest) pos) (aad ta tb):=by
 intro pins s σ H Q I h;refine BoolOp_and (iB (ha pins s σ H _ I h) λv s1 ⟨x,H1,I1,r1,q1⟩=>?_);obtain⟨c,rfl,q1⟩:=q1;cases r1;refine qaT ?_
 cases c with
 |true=>exact hb pins s1 σ H1 Q I1 q1
 |false=>exact⟨.bl false,H1,I1,Y,q1⟩
theorem aar(ha:PE X a ta)(hb:PE X (.BoolOp .Or (b::rest) pos) tb):PE X (.BoolOp .Or (a::b::rest) pos) (aeZ ta tb):=by
 intro pins s σ H Q I h;refine BoolOp_or (iB (ha pins s σ H _ I h) λv s1 ⟨x,H1,I1,r1,q1⟩=>?_);obtain⟨c,rfl,q1⟩:=q1;cases r1;refine qaT ?_
 cases c with
 |false=>exact hb pins s1 σ H1 Q I1 q1
 |true=>exact⟨.bl true,H1,I1,Y,q1⟩
theorem Ys(ha:PE X a ta):PE X (.UnaryOp .Not a pos) (Z3 ta):=by
 intro pins s σ H Q I h;refine UnaryOp_ (iB (ha pins s σ H _ I h) λv s1 ⟨x,H1,I1,r1,q1⟩=>?_);obtain⟨c,rfl,q1⟩:=q1;cases r1;exact not_of (qaT ⟨.bl (!c),H1,I1,Y,q1⟩)
def tIf(t:TT)(ta tb:TE):TE:=λσ H Q=>t σ H λc H1=>if c=true then ta σ H1 Q else tb σ H1 Q
theorem Dz{c:Expr}(hc:PT X c tA)(ha:PE X a ta)(hb:PE X b tb):PE X (.IfExp c a b pos) (tIf tA ta tb):=by
 intro pins s σ H Q I h;refine wpAny_IfExp (iB (hc pins s σ H _ I h) λd s1 ⟨H1,I1,q1⟩=>?_)
 cases d with
 |true=>exact ha pins s1 σ H1 Q I1 q1
 |false=>exact hb pins s1 σ H1 Q I1 q1
end
end
section
def bY(K:PySem.W.Frag)(H:Hp)(a:g_)(xs:List V):Prop :=
 Rd H a (.lst xs) ∨
  rG λ(o:qa0) (its:Array i_) (n:Nat)=>K.lookup a=some o/\o.cls= .type "list" /\o.dict=none/\o.data= .seq its n/\its.size<=z_/\Vals xs its.toList
def eK(K:PySem.W.Frag)(H:Hp)(a:g_)(xs:List V):Prop :=
 Rd H a (.tup xs) ∨
  rG λ(o:qa0) (its:Array i_) (n:Nat)=>K.lookup a=some o/\o.cls= .type "tuple" /\o.data= .seq its n/\its.size<=z_/\Vals xs its.toList
noncomputable def ag9:i_->Option V
 | .none=>some .lV
 | .bool b=>some (.bl b)
 | .int i _=>some (.int i)
 | .str x _=>some (.str x)
 | .bytes b _=>some (.NY b)
 | .float b _=>some (.Y8 b)
 | .ref a=>some (.ref a)
 | .type n=>some (.ty n)
 |_=>none
theorem RelV.abs{x:V}{u:i_}(r:RelV x u):ag9 u=some x:=by
 cases x with
 |lV=>cases r;rfl
 |bl _=>cases r;rfl
 |int _=>obtain⟨t,rfl⟩:=r;rfl
 |str _=>obtain⟨t,rfl⟩:=r;rfl
 |NY _=>obtain⟨t,rfl⟩:=r;rfl
 |Y8 _=>obtain⟨t,rfl⟩:=r;rfl
 |ref _=>cases r;rfl
 |ty _=>cases r;rfl
theorem RelV.inj{x y:V}{u:i_}(r:RelV x u)(q:RelV y u):x=y:=V_ (r.abs.symm.trans q.abs)
theorem Vals.inj:∀{xs ys:List V} {us:List i_},Vals xs us->Vals ys us->xs=ys
 |_,_,_,.nil,.nil=>rfl
 |_,_,_,.cons r t,.cons r' t'=>by rw[r.inj r',Vals.inj t t']
section
variable{X:Cx}{pins:List (g_×qa0)}{σ:St}{H:Hp}{s:p_}{a:g_}{xs ys:List V}
theorem bY.of{K:PySem.W.Frag}(h:H a=some (.lst xs)):bY K H a xs:=.inl (.inl h)
theorem eK.of{K:PySem.W.Frag}(h:H a=some (.tup xs)):eK K H a xs:=.inl (.inl h)
theorem Inv.list(I:Inv X pins σ H s)(h:bY X.K H a xs):∃its:List i_,Vals xs its/\PlainL s.heap a its.toArray/\xs.length<=z_:=by
 rcases h with h|⟨o,its,n,hk,hc,hd,hs,hz,r⟩
 ·obtain⟨z,its,n,r,e⟩:=h.ok I.hok;exact⟨its,r,⟨_,n,e,Y,Y,Y⟩,z⟩
 ·refine⟨its.toList,r,⟨o,n,I.tu a o hk,hc,hd,by simpa using hs⟩,?_⟩;have e:=r.length;simp only[o_]at e;omega
theorem Inv.tuple(I:Inv X pins σ H s)(h:eK X.K H a xs):∃its:List i_,Vals xs its/\IsTup s.heap a its.toArray/\xs.length<=z_:=by
 rcases h with h|⟨o,its,n,hk,hc,hs,hz,r⟩
 ·obtain⟨z,its,r,p⟩:=h.ok I.hok;exact⟨its,r,p,z⟩
 ·refine⟨its.toList,r,⟨o,I.tu a o hk,hc,n,by simpa using hs⟩,?_⟩;have e:=r.length;simp only[o_]at e;omega
theorem Inv.DU(I:Inv X pins σ H s)(h:bY X.K H a xs)(h':bY X.K H a ys):xs=ys:=by
 obtain⟨its,r,⟨o,n,e,_,_,d⟩,_⟩:=I.list h;obtain⟨its',r',⟨o',n',e',_,_,d'⟩,_⟩:=I.list h';rw[e]at e';cases e';rw[d]at d';injection d' with d1 _;have:its=its':=by simpa using congrArg Array.toList d1
 subst this;exact r.inj r'
theorem Inv.FY(I:Inv X pins σ H s)(h:eK X.K H a xs)(h':eK X.K H a ys):xs=ys:=by
 obtain⟨its,r,⟨o,e,_,n,d⟩,_⟩:=I.tuple h;obtain⟨its',r',⟨o',e',_,n',d'⟩,_⟩:=I.tuple h';rw[e]at e';cases e';rw[d]at d';injection d' with d1 _;have:its=its':=by simpa using congrArg Array.toList d1
 subst this;exact r.inj r'
end
noncomputable abbrev Cx.EI(X:Cx)(E:i_->p_->Prop):Cx:={ X with xe:=E }
noncomputable abbrev Cx.nox(X:Cx):Cx:=X.EI λ_ _=>False
theorem Cx.Ok.EI{X:Cx}(ok:X.Ok)(E:i_->p_->Prop):(X.EI E).Ok :=
 ⟨ok.mod,ok.kind,ok.glob,ok.blt,ok.above,ok.inj,ok.has,ok.Ut,ok.hd,ok.frames,ok.stk,ok.exf,ok.bs,ok.R0,ok.Mg,ok.O6,ok.yT,ok.Ug,ok.tk⟩
theorem Cx.Ok.we{X:Cx}{E:i_->p_->Prop}(ok:(X.EI E).Ok):X.Ok :=
 ⟨ok.mod,ok.kind,ok.glob,ok.blt,ok.above,ok.inj,ok.has,ok.Ut,ok.hd,ok.frames,ok.stk,ok.exf,ok.bs,ok.R0,ok.Mg,ok.O6,ok.yT,ok.Ug,ok.tk⟩
section
variable{X:Cx}{pins:List (g_×qa0)}{σ:St}{H:Hp}{s:p_}{E:i_->p_->Prop}
theorem Inv.EI(I:Inv X pins σ H s)(E:i_->p_->Prop):Inv (X.EI E) pins σ H s:=⟨I.ok.EI E,I.os,I.bare,I.base,I.loc,I.cell,I.free,I.pP,I.pin,I.hok,I.len,I.up⟩
theorem Inv.we(I:Inv (X.EI E) pins σ H s):Inv X pins σ H s:=⟨I.ok.we,I.os,I.bare,I.base,I.loc,I.cell,I.free,I.pP,I.pin,I.hok,I.len,I.up⟩
theorem SP.we{D:Ends}{f:Flow}{s':p_}(h:SP (X.EI E) pins D f s'):SP X pins D f s':=by
 cases f with
 |next=>obtain⟨σ',H',I,q⟩:=h;exact⟨σ',H',I.we,q⟩
 |brk=>obtain⟨σ',H',I,q⟩:=h;exact⟨σ',H',I.we,q⟩
 |cont=>obtain⟨σ',H',I,q⟩:=h;exact⟨σ',H',I.we,q⟩
 |ret u=>obtain⟨v,σ',H',I,r,q⟩:=h;exact⟨v,σ',H',I.we,r,q⟩
theorem IG.nox{st:List qaq}{t:TS}(h:IG X.nox st t):IG X st t:=λpins s σ H D I hw =>
 qaF (h pins s σ H D (I.EI _) hw) (λ_ _ q=>q.we) λ_ _ z=>qaz z
end
section
variable{X:Cx}{st:qaq}{rest:List qaq}{t u:TS}{e:Expr}{te:TE}{pos:qcd}
def Z4:TS:=λD σ H=>D.nx σ H
def aeX(t u:TS):TS:=λD σ H=>t { D with nx:=u D } σ H
theorem br:IG X [] Z4:=λ_ _ σ H _ I h=>qcm ⟨σ,H,I,h⟩
theorem ao(h1:PS X st t)(h2:IG X rest u):IG X (st::rest) (aeX t u):=by
 intro pins s σ H D I h;refine wpAny_execs_cons (iB (h1 pins s σ H { D with nx:=u D } I h) λf s1 q=>?_)
 cases f with
 |next =>
  obtain⟨σ',H',I',q⟩:=q;exact h2 pins s1 σ' H' D I' q
 |ret v=>exact q
 |brk=>exact q
 |cont=>exact q
theorem ak(h1:PS X st t):IG X [st] t:=by
 intro pins s σ H D I h;refine wpAny_execs_cons (iB (h1 pins s σ H D I h) λf s1 q=>?_)
 cases f with
 |next=>exact qcm q
 |ret v=>exact q
 |brk=>exact q
 |cont=>exact q
def X8:TS:=λD σ H=>D.bk σ H
theorem QI:PS X (.Break pos) X8:=λ_ _ σ H _ I h=>wpAny_Break ⟨σ,H,I,h⟩
theorem Inv.quiet{pins:List (g_×qa0)}{σ:St}{H:Hp}{s:p_}(I:Inv X pins σ H s):interactive X.env=false:=by simp[interactive,I.ok.kind]
def Z8(te:TE):TS:=λD σ H=>te σ H λ_ H1=>D.nx σ H1
theorem ee(he:PE X e te)(hs:swapsWith e none pos.line X.env=pure false:=by rfl):PS X (.Expr e pos) (Z8 te):=by
 intro pins s σ H D I h;exact wpAny_Expr_any (iB (he pins s σ H _ I h) λv s1 ⟨x,H1,I1,r1,q1⟩=>⟨σ,H1,I1,q1⟩) I.quiet hs
def aeY(te:TE):TS:=λD σ H=>te σ H D.rt
theorem aP(he:PE X e te):PS X (.Return (some e) pos) (aeY te):=by
 intro pins s σ H D I h;exact wpAny_Return_some (iB (he pins s σ H _ I h) λv s1 ⟨x,H1,I1,r1,q1⟩=>⟨x,σ,H1,I1,r1,q1⟩)
def ae4(c:TT)(t u:TS):TS:=λD σ H=>c σ H λb H1=>if b=true then t D σ H1 else u D σ H1
theorem cN{c:Expr}{a b:List qaq}{tc:TT}(hc:PT X c tc)(ha:IG X a t)(hb:IG X b u):PS X (.If c a b pos) (ae4 tc t u):=by
 intro pins s σ H D I h;refine wpAny_If (iB (hc pins s σ H _ I h) λd s1 ⟨H1,I1,q1⟩=>?_)
 cases d with
 |true=>exact ha pins s1 σ H1 D I1 q1
 |false=>exact hb pins s1 σ H1 D I1 q1
def X3:TS:=λ_ _ _=>False
theorem pZ{sts:List qaq}:IG X sts X3:=λ_ _ _ _ _ _ h=>h.elim
end
noncomputable abbrev TG:=V->St->Hp->(St->Hp->Prop)->Prop
noncomputable abbrev Ve:=List V->St->Hp->(St->Hp->Prop)->Prop
def PG(X:Cx)(target:Expr)(t:TG):Prop :=
 ∀(pins:List (g_×qa0)) (s:p_) (σ:St) (H:Hp) (v:V) (u:i_) (Q:St->Hp->Prop),Inv X pins σ H s->RelV v u->t v σ H Q →
  N_ (model X.prog X.w) X.A (assign target X.env u) (λ_ s'=>fD λσ' H'=>Inv X pins σ' H' s'/\Q σ' H') X.xe s
def PGs(X:Cx)(ts:List Expr)(t:Ve):Prop :=
 ∀(pins:List (g_×qa0)) (s:p_) (σ:St) (H:Hp) (vs:List V) (us:List i_) (Q:St->Hp->Prop),Inv X pins σ H s->Vals vs us->t vs σ H Q →
  N_ (model X.prog X.w) X.A (assignInOrder ((assignEach ts X.env).map (·.2)) us) (λ_ s'=>fD λσ' H'=>Inv X pins σ' H' s'/\Q σ' H') X.xe s
noncomputable abbrev Zo:=V->V->V->Hp->(Hp->Prop)->Prop
def acf(X:Cx)(t:Zo):Prop :=
 ∀(pins:List (g_×qa0)) (s:p_) (σ:St) (H:Hp) (o i v:V) (ov iv u:i_) (Q:Hp->Prop),Inv X pins σ H s->RelV o ov->RelV i iv->RelV v u->t o i v H Q →
  N_ (model X.prog X.w) X.A (setItem ov iv u) (λ_ s'=>∃H',Inv X pins σ H' s'/\Q H') X.xe s
section
variable{X:Cx}{pos:qcd}
def NK(i:Nat):TG:=λv σ H Q=>Q (σ.set i (some v)) H
theorem aS{i:Nat}{x:r_}(hN:X.N.Nodup)(hi:X.N[i]? =some x)(hx:Loc X.env.scope x)(hf:X.fn x=true\/X.env.scope.names.lookup x=some .local:=by first|exact .inl rfl|exact .inr rfl|assumption):PG X (.Name x pos) (NK i):=by
 intro pins s σ H v u Q I r h;exact wpAny_assign_Name (C0 I hN hi hx r (λs' I'=>⟨_,H,I',h⟩) hf)
def agN:Ve:=λvs σ H Q=>vs=[]/\Q σ H
def abP(t:TG)(u:Ve):Ve:=λvs σ H Q=>fD λv r=>vs=v::r/\t v σ H λσ' H'=>u r σ' H' Q
theorem qI:PGs X [] agN:=by
 intro pins s σ H vs us Q I r h;obtain⟨e,h⟩:=h;subst e;cases r;exact assignInOrder_nil ⟨σ,H,I,h⟩
theorem fh{e:Expr}{es:List Expr}{t:TG}{u:Ve}(h1:PG X e t)(h2:PGs X es u)
  (hs:(assignEach (e::es) X.env).map (·.2)=assign e X.env::(assignEach es X.env).map (·.2):=by rfl):PGs X (e::es) (abP t u):=by
 intro pins s σ H vs us Q I r h;obtain⟨v,vr,e1,h⟩:=h;subst e1
 cases r with
 |cons r rr =>
  rw[hs];refine assignInOrder_cons (iB (h1 pins s σ H _ _ _ I r h) λ_ s1 ⟨σ1,H1,I1,q1⟩=>?_);exact h2 pins s1 σ1 H1 _ _ Q I1 rr q1
def abO(K:PySem.W.Frag)(n:Nat)(t:Ve):TG:=λv σ H Q=>fD λa xs=>v= .ref a/\eK K H a xs/\xs.length=n/\t xs σ H Q
theorem um{es:List Expr}{k:Nat}{t:Ve}{n:Nat}(hc:X.calm=true)(h:PGs X es t)
  (hn:(assignEach es X.env).length=n:=by rfl) (hst:(assignEach es X.env).findIdx? (·.1)=none:=by rfl):PG X (.Tuple es k pos) (abO X.K n t):=by
 intro pins s σ H v u Q I r hw;obtain⟨a,xs,e1,hq,hl,hw⟩:=hw;subst e1;cases r;obtain⟨its,rv,ht,hz⟩:=I.tuple hq;refine assign_Tuple_tuple (I.ok.hd hc) ht (by simp[hn,←hl,rv.length]) hst λh' hx=>?_;have I1:Inv X pins σ H { s with heap:=h' }:=I.kept (t':=s.toks) λb o e=>hx b o (Y_ (J_ e)) e;exact h pins _ σ H xs _ Q I1 (by simpa using rv) hw
def agM(to ti:TE)(t:Zo):TG:=λv σ H Q=>to σ H λo H1=>ti σ H1 λi H2=>t o i v H2 λH3=>Q σ H3
theorem Hf{o i:Expr}{to ti:TE}{t:Zo}(ho:PE X o to)(hi:PE X i ti)(hs:acf X t)
  (ha:∀v,assign (.Subscript o i pos) X.env v=(do
   let ov ←holding [v] (eval o X.env)
   let iv ←holding [v,ov] (eval i X.env)
   standAt pos
   holding [v,ov,iv] (setItem ov iv v)
   release [v,ov,iv] []):=by intro _;rfl):PG X (.Subscript o i pos) (agM to ti t):=by
 intro pins s σ H v u Q I r h;rw[ha];refine h_ (qaU (iB (ho pins s σ H _ I h) λov s1 ⟨x,H1,I1,r1,q1⟩=>?_));refine h_ (qaU (iB (hi pins s1 σ H1 _ I1 q1) λiv s2 ⟨y,H2,I2,r2,q2⟩=>?_));refine h_ (qci (h_ (qaU (iB (hs pins s2 σ H2 x y v ov iv u _ I2 r1 r2 r q2) λ_ s3 ⟨H3,I3,q3⟩=>?_))));exact wpAny_release ⟨σ,H3,I3,q3⟩
def SQ(te:TE)(g:TG):TS:=λD σ H=>te σ H λx H1=>g x σ H1 D.nx
theorem AM{tg e:Expr}{te:TE}{g:TG}(he:PE X e te)(hg:PG X tg g)(hs:swapsWithSole [tg] e pos.line X.env=pure false:=by rfl)(hw:swappedStores [tg] e X.env=pure none:=by rfl)
  (h1:(assignEach [tg] X.env).map (·.2)=[assign tg X.env]:=by rfl):PS X (.Assign [tg] e pos) (SQ te g):=by
 intro pins s σ H D I h;refine wpAny_Assign_stores (iB (he pins s σ H _ I h) λv s1 ⟨x,H1,I1,r1,q1⟩=>?_) hs hw;rw[h1];exact iB (hg pins s1 σ H1 x v _ I1 r1 q1) λ_ s2 q=>q
theorem aN{i:Nat}{x:r_}{e:Expr}{te:TE}{pos':qcd}(hN:X.N.Nodup)(hi:X.N[i]? =some x)(hx:Loc X.env.scope x)(he:PE X e te)(hs:swapsWith e (some (.Name x pos')) pos.line X.env=pure false:=by rfl)(hf:X.fn x=true\/X.env.scope.names.lookup x=some .local:=by first|exact .inl rfl|exact .inr rfl|assumption):
  PS X (.Assign [.Name x pos'] e pos) (SQ te (NK i)):=by
 intro pins s σ H D I h;refine wpAny_Assign_Name (iB (he pins s σ H _ I h) λv s1 ⟨y,H1,I1,r1,q1⟩=>?_) hs;exact C0 I1 hN hi hx r1 (λs2 I2=>⟨_,H1,I2,q1⟩) hf
end
section
variable{X:Cx}{pos:qcd}
def XZ(c:TT)(tb:TS):TS:=λD σ H=>∃W:Nat->St->Hp->Prop,(∃m,W m σ H)/\∀m σ H,W m σ H →
 c σ H λb H1=>if b=true then ∃N:St->Hp->Prop,(∀ σ' H',N σ' H'->∃m',m'<m/\W m' σ' H')/\tb { D with nx:=N,ct:=N,bk:=D.nx } σ H1 else D.nx σ H1
theorem Dy{c:Expr}{body:List qaq}{tc:TT}{tb:TS}(hp:PassesOwn (model X.prog X.w) X.A X.env X.xe)(hc:PT X c tc)(hb:IG X body tb):PS X (.While c body [] pos) (XZ tc tb):=by
 intro pins s σ H D I h;obtain⟨W,⟨m0,w0⟩,turn⟩:=h;refine wpAny_While (codeAny_whileLoop (λn s'=>fD λσ' H'=>Inv X pins σ' H' s'/\W n σ' H') ?_ m0 ⟨σ,H,I,w0⟩);rintro n s1 ⟨σ1,H1,I1,w1⟩;refine qbz hp (iB (hc pins s1 σ1 H1 _ I1 (turn n σ1 H1 w1)) λb s2 ⟨H2,I2,q2⟩=>?_)
 cases b with
 |true =>
  obtain⟨N,hN,q2⟩:=q2;rw[if_pos rfl];refine qbz hp (iB (hb pins s2 σ1 H2 _ I2 q2) λf s3 q3=>?_)
  cases f with
  |next =>
   obtain⟨σ3,H3,I3,n3⟩:=q3;obtain⟨m',hm,w3⟩:=hN σ3 H3 n3;exact⟨m',hm,σ3,H3,I3,w3⟩
  |cont =>
   obtain⟨σ3,H3,I3,n3⟩:=q3;obtain⟨m',hm,w3⟩:=hN σ3 H3 n3;exact⟨m',hm,σ3,H3,I3,w3⟩
  |brk=>exact q3
  |ret v=>exact q3
 |false =>
  rw[if_neg O_];exact qcm ⟨σ1,H2,I2,q2⟩
end
structure It where
 go:Nat->Hp->Prop
 IX:Nat->Hp->V->Hp->Prop
 stop:Nat->Hp->Prop
def xD(X:Cx)(pins:List (g_×qa0))(H:Hp)(b:g_):Prop :=
 H b=none/\b≠X.env.locals/\b∉X.fs/\(b∈X.ex\/X.s₀.heap.objs.size<=b)/\(∀x c,X.env.cells.lookup x=some c->c≠b)/\∀p∈X.pn++pins,p.1≠b
theorem Inv.D5{X:Cx}{pins:List (g_×qa0)}{σ:St}{H H':Hp}{s:p_}{b:g_}(I:Inv X pins σ H s)(hb:s.heap.objs.size<=b)(hn:H' b=none):xD X pins H' b:=by
 refine⟨hn,qba (K_ I.lt hb),I.afG hb,.inr (m_ I.sz hb),λx c e z=>?_,λp hp z=>?_⟩
 ·obtain⟨v,q⟩:=I.cell x c e;exact absurd (K_ q.lt (by rw[z];exact hb)) (qa_ _)
 ·exact absurd (K_ (J_ (I.pin p hp).1) (by rw[z];exact hb)) (qa_ _)
structure Turn(P:I_)(w:W_)(K:PySem.W.Frag)(tg:Expr)(J:It)(fp:List g_)(it:g_)(tn:Nat->qad->Prop):Prop where
 mem:it∈fp
 obj:∀i h,tn i h->∀b∈fp,∃o,h.get? b=some o/\∀v,o.data≠ .cell v
 keep:∀i h h',tn i h->(∀b∈fp,∀o,h.get? b=some o->h'.get? b=some o)->tn i h'
 item:∀(X:Cx),X.prog=P->X.w=w->X.K=K->X.calm=true->∀(i:Nat) (pins:List (g_×qa0)) (s:p_) (σ:St) (H:Hp) (E:i_->p_->Prop),Inv X pins σ H s->(∀b∈fp,xD X pins H b)->tn i s.heap->J.go i H →
  N_ (model P w) X.A (pyNext (.ref it)) (λr s1=>∃u,r=some u ∧
   N_ (model P w) X.A (letOwnedTupleGo tg (.ref it) u) (λ_ s2=>fD λx H'=>Inv X pins σ H' s2/\RelV x u/\J.IX i H x H'/\tn (i+1) s2.heap/\∀b∈fp,H' b=none) E s1) E s
 done:∀(X:Cx),X.prog=P->X.w=w->X.K=K->X.calm=true->∀(i:Nat) (pins:List (g_×qa0)) (s:p_) (σ:St) (H:Hp) (E:i_->p_->Prop),Inv X pins σ H s->(∀b∈fp,xD X pins H b)->tn i s.heap->J.stop i H →
  N_ (model P w) X.A (pyNext (.ref it)) (λr s1=>r=none/\Inv X pins σ H s1) E s
 self:∀(A:qam) (i:Nat) (s:p_) (Q:i_->p_->Prop) (E:i_->p_->Prop),tn i s.heap->Q (.ref it) s->N_ (model P w) A (pyIter (.ref it)) Q E s
noncomputable abbrev TI:=St->Hp->(It->Hp->Prop)->Prop
def PIE(X:Cx)(pins:List (g_×qa0))(σ:St)(tg:Expr)(R:It->Hp->Prop)(itv:i_)(s2:p_):Prop :=
 GF λ(it:g_) (fp:List g_) (tn:Nat->qad->Prop) (J:It) (H':Hp)=>itv= .ref it/\Inv X pins σ H' s2/\Turn X.prog X.w X.K tg J fp it tn/\tn 0 s2.heap/\(∀b∈fp,xD X pins H' b)/\R J H'
def PI(X:Cx)(tg iter:Expr)(wi:TI):Prop :=
 ∀(pins:List (g_×qa0)) (s:p_) (σ:St) (H:Hp) (R:It->Hp->Prop),Inv X pins σ H s->wi σ H R →
  N_ (model X.prog X.w) X.A (eval iter X.env) (λv s1=>N_ (model X.prog X.w) X.A (pyIter v) (PIE X pins σ tg R) X.xe s1) X.xe s
theorem Gn{M:qcH}{A:qam}{E:i_->p_->Prop}{s:p_}{tg:Expr}{it:g_}{u:i_}{o:qa0}{n:String}{vs:Array i_}{Q:Unit->p_->Prop}(ho:s.heap.get? it=some o)(hc:o.cls= .type n)(hd:o.data= .fields vs)
  (hn:["enumerate","zip","dict_itemiterator","dict_reverseitemiterator","odict_iterator","itertools.zip_longest","itertools.pairwise"].contains n=false) (hQ:Q () s):N_ M A (letOwnedTupleGo tg (.ref it) u) Q E s:=by
 unfold letOwnedTupleGo
 cases tg<;>first
  |exact t_ hQ
  |(cases u<;>first
    |exact t_ hQ
    |(refine h_ (wpAny_load ho ?_)
      rw[hc,hd]
      show N_ M A (if(["enumerate","zip","dict_itemiterator","dict_reverseitemiterator","odict_iterator","itertools.zip_longest","itertools.pairwise"].contains n&&vs[0]? ==some (rawInt _))=true then _ else _) Q E s
      rw[if_neg (by intro h;rw[hn,qcs]at h;cases h)];exact t_ hQ))
noncomputable def Itl(K:PySem.W.Frag)(a:g_):It :=
 ⟨λi H=>fD λxs x=>bY K H a xs/\xs[i]? =some x,λi H x H'=>H'=H/\∀xs,bY K H a xs->xs[i]? =some x,λi H=>∃xs,bY K H a xs/\xs.length<=i⟩
noncomputable def Itt(K:PySem.W.Frag)(a:g_):It :=
 ⟨λi H=>fD λxs x=>eK K H a xs/\xs[i]? =some x,λi H x H'=>H'=H/\∀xs,eK K H a xs->xs[i]? =some x,λi H=>∃xs,eK K H a xs/\xs.length<=i⟩
noncomputable def Zu(lo:Int)(n:Nat):It:=⟨λi _=>i<n,λi H x H'=>H'=H/\x= .int (lo+i),λi _=>n<=i⟩
theorem FU{P:I_}{w:W_}{K:PySem.W.Frag}{tg:Expr}(a it:g_):Turn P w K tg (Itl K a) [it] it (λi h=>h.IsListIter it a i) where
 mem:=by simp
 obj:=λi h st b hb=>by
  have e:b=it:=by simpa using hb
  subst e;obtain⟨o,e,c,d⟩:=st;exact⟨o,e,λv z=>by rw[d]at z;cases z⟩
 keep:=λi h h' st k=>st.at λo e=>k it (by simp) o e
 item:=by
  intro X hP hw hK hc i pins s σ H E I hf st hg;subst hP hw hK;obtain⟨xs,x,hq,hx⟩:=hg;obtain⟨its,rv,p,hz⟩:=I.list hq;obtain⟨u,hu,ru⟩:=rv.get hx;obtain⟨f0,f1,f2,f3,f4,f5⟩:=hf it (by simp);refine wpAny_pyNext_list_item st p.isList (x:=u) (by simpa using hu) λh' st' sb=>?_;have I1:Inv X pins σ H { s with heap:=h' }:=I.turned (t':=s.toks) (λb o hb e=>(sb.2 b hb).trans e) f0 f1 f3 f4 f5;obtain⟨o,e,c,d⟩:=id st';exact⟨u,Y,Gn (s:={ s with heap:=h' }) e c d (by decide) ⟨x,H,I1,ru,⟨Y,λys hy=>by rw[I.DU hy hq];exact hx⟩,st',λb hb=>(hf b hb).1⟩⟩
 done:=by
  intro X hP hw hK hc i pins s σ H E I hf st hg;subst hP hw hK;obtain⟨xs,hq,hx⟩:=hg;obtain⟨its,rv,p,hz⟩:=I.list hq;obtain⟨f0,f1,f2,f3,f4,f5⟩:=hf it (by simp);have hl:=rv.length;exact wpAny_pyNext_list_end (I.ok.hd hc) st p.isList (by simp;omega) λh' eb=>⟨Y,I.turned (t':=s.toks) (λb o hb e=>eb b o hb e) f0 f1 f3 f4 f5⟩
 self:=λ_ _ _ _ _ st h=>wpAny_pyIter_listiter st h
theorem LC{P:I_}{w:W_}{K:PySem.W.Frag}{tg:Expr}(a it:g_):Turn P w K tg (Itt K a) [it] it (λi h=>h.IsTupleIter it a i) where
 mem:=by simp
 obj:=λi h st b hb=>by
  have e:b=it:=by simpa using hb
  subst e;obtain⟨o,e,c,d⟩:=st;exact⟨o,e,λv z=>by rw[d]at z;cases z⟩
 keep:=λi h h' st k=>st.at λo e=>k it (by simp) o e
 item:=by
  intro X hP hw hK hc i pins s σ H E I hf st hg;subst hP hw hK;obtain⟨xs,x,hq,hx⟩:=hg;obtain⟨its,rv,p,hz⟩:=I.tuple hq;obtain⟨u,hu,ru⟩:=rv.get hx;obtain⟨f0,f1,f2,f3,f4,f5⟩:=hf it (by simp);refine wpAny_pyNext_tuple_item st (show s.heap.IsTuple a its.toArray from p) (x:=u) (by simpa using hu) λh' st' sb=>?_;have I1:Inv X pins σ H { s with heap:=h' }:=I.turned (t':=s.toks) (λb o hb e=>(sb.2 b hb).trans e) f0 f1 f3 f4 f5;obtain⟨o,e,c,d⟩:=id st';exact⟨u,Y,Gn (s:={ s with heap:=h' }) e c d (by decide) ⟨x,H,I1,ru,⟨Y,λys hy=>by rw[I.FY hy hq];exact hx⟩,st',λb hb=>(hf b hb).1⟩⟩
 done:=by
  intro X hP hw hK hc i pins s σ H E I hf st hg;subst hP hw hK;obtain⟨xs,hq,hx⟩:=hg;obtain⟨its,rv,p,hz⟩:=I.tuple hq;obtain⟨f0,f1,f2,f3,f4,f5⟩:=hf it (by simp);have hl:=rv.length;exact wpAny_pyNext_tuple_end (I.ok.hd hc) st (show s.heap.IsTuple a its.toArray from p) (by simp;omega) λh' eb=>⟨Y,I.turned (t':=s.toks) (λb o hb e=>eb b o hb e) f0 f1 f3 f4 f5⟩
 self:=λ_ _ _ _ _ st h=>wpAny_pyIter_tupleiter st h
theorem LD{P:I_}{w:W_}{K:PySem.W.Frag}{tg:Expr}(it:g_)(lo:Int)(n:Nat):Turn P w K tg (Zu lo n) [it] it (λi h=>IsRangeIter h it (lo+(i:Nat)*1) ((n:Int)-(i:Nat)) 1) where
 mem:=by simp
 obj:=λi h st b hb=>by
  have e:b=it:=by simpa using hb
  subst e;exact⟨_,st,λv z=>by
   have z':Data.fields _=Data.cell v:=z;cases z'⟩
 keep:=λi h h' st k=>k it (by simp) _ st
 item:=by
  intro X hP hw hK hc i pins s σ H E I hf st hg;subst hP hw hK;obtain⟨f0,f1,f2,f3,f4,f5⟩:=hf it (by simp);have W:=Walks.range (prog:=X.prog) (w:=X.w) (I.ok.hd hc) it lo 1 n;refine TK.dD (j_ s.toks) (W.item i s _ _ hg st λv h' tk hv st' kk hup=>?_);obtain⟨t,rfl⟩:=hv;have I1:Inv X pins σ H { s with heap:=h',toks:=tk }:=I.turned (λb o hb e=>kk b o (by simpa using hb) e) f0 f1 f3 f4 f5;refine⟨_,Y,Gn (s:={ s with heap:=h',toks:=tk }) (n:= "range_iterator") st' Y Y (by decide) ⟨.int (lo+i),H,I1,⟨t,?_⟩,⟨Y,Y⟩,st',λb hb=>(hf b hb).1⟩⟩;rw[Int.mul_one]
 done:=by
  intro X hP hw hK hc i pins s σ H E I hf st hg;subst hP hw hK;obtain⟨f0,f1,f2,f3,f4,f5⟩:=hf it (by simp);exact wpAny_pyNext_range_end (I.ok.hd hc) st (by have:n<=i:=hg;omega) λh' eb=>⟨Y,I.turned (t':=s.toks) (λb o hb e=>eb b o hb e) f0 f1 f3 f4 f5⟩
 self:=λ_ _ _ _ _ st h=>wpAny_pyIter_rangeiter st h
end
section
section
variable{X:Cx}{tg:Expr}
def abd(K:PySem.W.Frag)(tl:TE):TI:=λσ H R=>tl σ H λx H1=>∃a,x= .ref a/\(∃xs,bY K H1 a xs)/\R (Itl K a) H1
theorem ja{l:Expr}{tl:TE}(hl:PE X l tl):PI X tg l (abd X.K tl):=by
 intro pins s σ H R I h;refine iB (hl pins s σ H _ I h) λv s1 ⟨x,H1,I1,r1,q1⟩=>?_;obtain⟨a,e,⟨xs,hq⟩,q⟩:=q1;subst e;cases r1;obtain⟨its,rv,p,hz⟩:=I1.list hq;refine qb5 p.isList ?_;refine⟨s1.heap.objs.size,[s1.heap.objs.size],_,_,H1,Y,I1.kept (t':=s1.toks) λb o e=>k_ _ e,FU a _,⟨_,H_ _ Y,Y,Y⟩,λb hb=>?_,q⟩;have e:b=s1.heap.objs.size:=by simpa using hb
 subst e;exact I1.D5 (j_ _) (I1.hok.fresh (j_ _))
theorem JL{pins:List (g_×qa0)}{σ:St}{H:Hp}{s:p_}{R:It->Hp->Prop}{E:i_->p_->Prop}{lo hi:Int}{t u v:Tok}{tk:Nat}(I:Inv X pins σ H s)(h1: -(2 ^ 62)<=lo)(h2:lo<2 ^ 62)(h3: -(2 ^ 62)<=hi)(h4:hi<2 ^ 62)
  (q:R (Zu lo (hi-lo).toNat) H) (htk:s.toks<=tk:=by first|exact j_ _|exact qaw _|assumption|omega):N_ (model X.prog X.w) X.A (pyIter (.ref s.heap.objs.size)) (PIE X pins σ tg R) E { s with heap:=s.heap.push { cls:=.type "range",data:=.fields #[.int lo t,.int hi u,.int 1 v] },toks:=tk }:=by
 refine wpAny_pyIter_range (IsRange.new ..) (small_one h1 h2 h3 h4) ?_;have I1:Inv X pins σ H { s with heap:=s.heap.push { cls:=.type "range",data:=.fields #[.int lo t,.int hi u,.int 1 v] },toks:=tk }:=I.kept λb o e=>k_ _ e;refine⟨(s.heap.push { cls:=.type "range",data:=.fields #[.int lo t,.int hi u,.int 1 v] }).objs.size,[(s.heap.push { cls:=.type "range",data:=.fields #[.int lo t,.int hi u,.int 1 v] }).objs.size],_,_,H,Y,
  I1.kept (t':=tk) λb o e=>k_ _ e,LD _ lo (hi-lo).toNat,?_,λb hb=>?_,q⟩
 ·have e1:lo+((0:Nat):Int)*1=lo:=by simp
  have e2:(((hi-lo).toNat:Nat):Int)-((0:Nat):Int)=qbL lo hi 1:=by rw[rangeSize_one];split<;>omega
  show IsRangeIter _ _ (lo+((0:Nat):Int)*1) ((((hi-lo).toNat:Nat):Int)-((0:Nat):Int)) 1;rw[e1,e2];exact H_ _ Y
 ·have e:b=(s.heap.push { cls:=.type "range",data:=.fields #[.int lo t,.int hi u,.int 1 v] }).objs.size:=by simpa using hb
  subst e;exact I1.D5 (j_ _) (I1.hok.fresh (j_ _))
def abc(ta:TA):TI:=λσ H R=>ta σ H λvs H1=>∃j:Int,vs=[.int j]/\ -(2 ^ 62)<=j/\j<2 ^ 62/\R (Zu 0 j.toNat) H1
def abb(ta:TA):TI:=λσ H R=>ta σ H λvs H1=>fD λi j:Int=>vs=[.int i,.int j]/\(-(2 ^ 62)<=i/\i<2 ^ 62/\ -(2 ^ 62)<=j/\j<2 ^ 62)/\R (Zu i (j-i).toNat) H1
theorem iN {a:Expr}{ta:TA}{p pos:qcd}(hg:Gl X "range")(hm:X.mg "range" =none)(ha:PA X [a] ta)(hs:Z_ [a] X.env=[(false,eval a X.env)]:=by rfl):PI X tg (.Call (.Name "range" p) [a] [] pos) (abc ta):=by
 intro pins s σ H R I h;refine Call_ (vv I hg hm boot_range (qaG (iB (ha pos pins s σ H _ I h) λus s1 ⟨vs,H1,I1,r1,q1⟩=>?_) hs Y));obtain⟨j,e,q1,q2,q⟩:=q1;subst e
 cases r1 with
 |cons r rr =>
  cases rr;obtain⟨t,rfl⟩:=r;exact call_range_1 (JL I1 (by omega) (by omega) q1 q2 (by simpa using q))
theorem Ow {a b:Expr}{ta:TA}{p pos:qcd}(hg:Gl X "range")(hm:X.mg "range" =none)(ha:PA X [a,b] ta)(hs:Z_ [a,b] X.env=[(false,eval a X.env),(false,eval b X.env)]:=by rfl)(hs2:Z_ [b] X.env=[(false,eval b X.env)]:=by rfl) :
  PI X tg (.Call (.Name "range" p) [a,b] [] pos) (abb ta):=by
 intro pins s σ H R I h;refine Call_ (vv I hg hm boot_range (qaG (iB (ha pos pins s σ H _ I h) λus s1 ⟨vs,H1,I1,r1,q1⟩=>?_) (by rw[hs,hs2]) (by rw[hs2];rfl)));obtain⟨i,j,e,⟨q1,q2,q3,q4⟩,q⟩:=q1;subst e
 cases r1 with
 |cons r rr =>
  cases rr with
  |cons r' rr =>
   cases rr;obtain⟨t,rfl⟩:=r;obtain⟨t',rfl⟩:=r';exact call_range_2 (JL I1 q1 q2 q3 q4 q)
def ae5(wi:TI)(g:TG)(tb:TS):TS:=λD σ H=>wi σ H λJ H1=>∃W:Nat->Nat->St->Hp->Prop,(∃m,W 0 m σ H1)/\∀i m σ H,W i m σ H →
 (J.stop i H/\D.nx σ H)\/(J.go i H/\∃N:St->Hp->Prop,(∀ σ' H',N σ' H'->∃m',m'<m/\W (i+1) m' σ' H')/\∀x H',J.IX i H x H'->g x σ H' λσ2 H2=>tb { D with nx:=N,ct:=N,bk:=D.nx } σ2 H2)
noncomputable def G9(fp:List g_)(h:qad):List (g_×qa0):=fp.filterMap λb=>(h.get? b).map λo=>(b,o)
theorem p9{fp:List g_}{h:qad}{b:g_}{o:qa0}(hb:b∈fp)(e:h.get? b=some o):(b,o)∈G9 fp h:=List.mem_filterMap.mpr ⟨b,hb,by rw[e];rfl⟩
theorem OC{fp:List g_}{h:qad}{p:g_×qa0}(hp:p∈G9 fp h):p.1∈fp/\h.get? p.1=some p.2:=by
 obtain⟨b,hb,e⟩:=List.mem_filterMap.mp hp
 cases q:h.get? b with
 |none=>rw[q]at e;cases e
 |some o =>
  rw[q]at e;have e':(b,o)=p:=V_ e;subst e';exact⟨hb,q⟩
theorem Inv.pinned{pins:List (g_×qa0)}{σ:St}{H:Hp}{s:p_}{fp:List g_}(I:Inv X pins σ H s)(hf:∀b∈fp,xD X pins H b)(ho:∀b∈fp,∃o,s.heap.get? b=some o/\∀v,o.data≠ .cell v):Inv X (pins++G9 fp s.heap) σ H s :=
 I.G8 λp hp=>(qab.mp hp).elim (λz=>I.pin p (qae _ z)) λz=>by
  obtain⟨hb,e⟩:=OC z;obtain⟨f0,f1,f2,_⟩:=hf p.1 hb;obtain⟨o,e',d⟩:=ho p.1 hb;rw[e]at e';cases e';exact⟨e,f0,f1,f2,d⟩
theorem Inv.CU{pins pl:List (g_×qa0)}{σ:St}{H:Hp}{s:p_}(I:Inv X (pins++pl) σ H s):Inv X pins σ H s:=I.G8 λp hp=>I.pin p (qae _ (qbB _ hp))
theorem dP{iter:Expr}{body:List qaq}{wi:TI}{g:TG}{tb:TS}{pos:qcd}(hp:PassesOwn (model X.prog X.w) X.A X.env X.xe)(hc:X.calm=true)(hi:PI X tg iter wi)(hg:PG X tg g)(hb:IG X body tb)
  (hs:∀x,foldedSetIterable iter X.env x=pure x:=by intro _;rfl):PS X (.For tg iter body [] pos) (ae5 wi g tb):=by
 intro pins s σ H D I h;refine wpAny_For (iB (hi pins s σ H _ I h) λv s1 h1=>iB h1 λitv s2 h2=>?_) hs;obtain⟨it,fp,tn,J,H2,e,I2,T,st2,f2,W,⟨m0,w0⟩,turn⟩:=h2;subst e;have stat:∀{H':Hp},(∀b∈fp,H' b=none)->∀b∈fp,xD X pins H' b:=λhn b hb=>⟨hn b hb,(f2 b hb).2⟩;refine codeAny_forLoop_any (λn s'=>rG λi σ' H'=>Inv X pins σ' H' s'/\tn i s'.heap/\(∀b∈fp,H' b=none)/\W i n σ' H') ?_ m0 ⟨0,σ,H2,I2,st2,λb hb=>(f2 b hb).1,w0⟩;rintro n s3 ⟨i,σ3,H3,I3,st3,fr3,w3⟩;rcases turn i n σ3 H3 w3 with⟨stop,qn⟩|⟨go,N,hN,step⟩
 ·refine qbz hp (iB (T.done X Y Y Y hc i pins s3 σ3 H3 X.xe I3 (stat fr3) st3 stop) λr s4 ⟨hr,I4⟩=>?_);subst hr;exact qcm ⟨σ3,H3,I4,qn⟩
 ·refine qbz hp (iB (T.item X Y Y Y hc i pins s3 σ3 H3 X.xe I3 (stat fr3) st3 go) λr s4 ⟨u,hr,h4⟩=>?_);subst hr;refine qbz hp (iB h4 λ_ s5 ⟨x,H5,I5,r5,y5,st5,fr5⟩=>?_);have I5':=I5.pinned (stat fr5) (T.obj _ _ st5);refine qbz hp (iB (hg _ s5 σ3 H5 x u _ I5' r5 (step x H5 y5)) λ_ s6 ⟨σ6,H6,I6,q6⟩=>?_);refine qbz hp (iB (hb _ s6 σ6 H6 _ I6 q6) λf s7 q7=>?_);have again:∀{Ln:St} {H7:Hp},Inv X (pins++G9 fp s5.heap) Ln H7 s7->N Ln H7->∃m,m<n/\rG λi σ' H'=>Inv X pins σ' H' s7/\tn i s7.heap/\(∀b∈fp,H' b=none)/\W i m σ' H':=λ{Ln H7} I7 n7=>by
   obtain⟨m',hm,w7⟩:=hN Ln H7 n7;refine⟨m',hm,i+1,Ln,H7,I7.CU,T.keep _ _ _ st5 λb hb o e=>(I7.pin (b,o) (qae _ (qae _ (p9 hb e)))).1,λb hb=>?_,w7⟩;obtain⟨o,e,d⟩:=T.obj _ _ st5 b hb;exact(I7.pin (b,o) (qae _ (qae _ (p9 hb e)))).2.1
  cases f with
  |next=>obtain⟨Ln,H7,I7,n7⟩:=q7;exact again I7 n7
  |cont=>obtain⟨Ln,H7,I7,n7⟩:=q7;exact again I7 n7
  |brk=>obtain⟨Ln,H7,I7,q7⟩:=q7;exact⟨Ln,H7,I7.CU,q7⟩
  |ret v=>obtain⟨x7,Ln,H7,I7,r7,q7⟩:=q7;exact⟨x7,Ln,H7,I7.CU,r7,q7⟩
end
theorem sV{K:PySem.W.Frag}{a:g_}{xs:List V}{g:TG}{tb:TS}{D:Ends}{σ:St}{H:Hp}(Pv:Nat->St->Hp->Prop)(h0:Pv 0 σ H)(hl:∀i σ H,i<=xs.length->Pv i σ H->bY K H a xs)
  (hs:∀i x σ H,xs[i]? =some x->Pv i σ H->g x σ H λσ2 H2=>tb { D with nx:=Pv (i+1),ct:=Pv (i+1),bk:=D.nx } σ2 H2) (hd:∀ σ H,Pv xs.length σ H->D.nx σ H) :
  ∃W:Nat->Nat->St->Hp->Prop,(∃m,W 0 m σ H)/\∀i m σ H,W i m σ H →
   ((Itl K a).stop i H/\D.nx σ H)\/((Itl K a).go i H/\∃N:St->Hp->Prop,(∀ σ' H',N σ' H'->∃m',m'<m/\W (i+1) m' σ' H')/\∀x H',(Itl K a).IX i H x H'->g x σ H' λσ2 H2=>tb { D with nx:=N,ct:=N,bk:=D.nx } σ2 H2):=by
 refine⟨λi m σ H=>m=xs.length-i/\i<=xs.length/\Pv i σ H,⟨xs.length,by simp,X_ _,h0⟩,?_⟩;rintro i m σ H ⟨rfl,hi,p⟩;have q:=hl i σ H hi p;by_cases hlt:i<xs.length
 ·refine .inr ⟨⟨xs,xs[i],q,by simp[hlt]⟩,Pv (i+1),λσ' H' p'=>⟨xs.length-(i+1),by omega,Y,hlt,p'⟩,λx H' y=>?_⟩;obtain⟨e,y⟩:=y;subst e;exact hs i x σ _ (y xs q) p
 ·have e:i=xs.length:=by omega
  subst e;exact .inl ⟨⟨xs,q,j_ _⟩,hd σ H p⟩
theorem k9{lo:Int}{n:Nat}{g:TG}{tb:TS}{D:Ends}{σ:St}{H:Hp}(Pv:Nat->St->Hp->Prop)(h0:Pv 0 σ H)
  (hs:∀i σ H,i<n->Pv i σ H->g (.int (lo+i)) σ H λσ2 H2=>tb { D with nx:=Pv (i+1),ct:=Pv (i+1),bk:=D.nx } σ2 H2) (hd:∀ σ H,Pv n σ H->D.nx σ H) :
  ∃W:Nat->Nat->St->Hp->Prop,(∃m,W 0 m σ H)/\∀i m σ H,W i m σ H →
   ((Zu lo n).stop i H/\D.nx σ H)\/((Zu lo n).go i H/\∃N:St->Hp->Prop,(∀ σ' H',N σ' H'->∃m',m'<m/\W (i+1) m' σ' H')/\∀x H',(Zu lo n).IX i H x H'->g x σ H' λσ2 H2=>tb { D with nx:=N,ct:=N,bk:=D.nx } σ2 H2):=by
 refine⟨λi m σ H=>m=n-i/\i<=n/\Pv i σ H,⟨n,by simp,X_ _,h0⟩,?_⟩;rintro i m σ H ⟨rfl,hi,p⟩;by_cases hlt:i<n
 ·refine .inr ⟨hlt,Pv (i+1),λσ' H' p'=>⟨n-(i+1),by omega,Y,hlt,p'⟩,λx H' y=>?_⟩;obtain⟨e,y⟩:=y;subst e y;exact hs i σ _ hlt p
 ·have e:i=n:=by omega
  subst e;exact .inl ⟨j_ _,hd σ H p⟩
end
section
noncomputable abbrev R2:=V->V->Hp->VK->Prop
def uz(X:Cx)(f:i_->i_->Sem i_)(r:R2):Prop :=
 ∀(pins:List (g_×qa0)) (s:p_) (σ:St) (H:Hp) (x y:V) (v u:i_) (Q:VK),Inv X pins σ H s->RelV x v->RelV y u->r x y H Q →
  N_ (model X.prog X.w) X.A (f v u) (EP X pins σ Q) X.xe s
def UnR(X:Cx)(f:i_->Sem i_)(r:V->Hp->VK->Prop):Prop :=
 ∀(pins:List (g_×qa0)) (s:p_) (σ:St) (H:Hp) (x:V) (v:i_) (Q:VK),Inv X pins σ H s->RelV x v->r x H Q →
  N_ (model X.prog X.w) X.A (f v) (EP X pins σ Q) X.xe s
def rC(X:Cx)(f:i_)(r:List V->Hp->VK->Prop):Prop :=
 ∀(pins:List (g_×qa0)) (s:p_) (σ:St) (H:Hp) (xs:List V) (us:List i_) (Q:VK),Inv X pins σ H s->Vals xs us->r xs H Q →
  N_ (model X.prog X.w) X.A (call f us) (EP X pins σ Q) X.xe s
def tOp(r:R2)(ta tb:TE):TE:=λσ H Q=>ta σ H λx H1=>tb σ H1 λy H2=>r x y H2 Q
def tUn(r:V->Hp->VK->Prop)(ta:TE):TE:=λσ H Q=>ta σ H λx H1=>r x H1 Q
def rI(C:Int->Int->Prop)(g:Int->Int->V):R2:=λx y H Q=>fD λi j=>x= .int i/\y= .int j/\C i j/\Q (g i j) H
def UR(g:Int->Int->V):R2:=λx y H Q=>fD λi j=>x= .int i/\y= .int j/\Q (g i j) H
def rU(g:Int->V):V->Hp->VK->Prop:=λx H Q=>∃i,x= .int i/\Q (g i) H
section
variable{X:Cx}{a b c:Expr}{ta tb tc:TE}{pos:qcd}
theorem Zh(ha:PE X a ta)(hb:PE X b tb){pins:List (g_×qa0)}{s:p_}{σ:St}{H:Hp}{R:V->V->Hp->Prop}(I:Inv X pins σ H s)
  (h:ta σ H λx H1=>tb σ H1 λy H2=>R x y H2) {Q:i_->p_->Prop} {f:i_->i_->Sem i_}
  (hf:∀v u s2 x y H2,Inv X pins σ H2 s2->RelV x v->RelV y u->R x y H2->N_ (model X.prog X.w) X.A (f v u) Q X.xe s2) :
  N_ (model X.prog X.w) X.A (eval a X.env) (λv s₁=>N_ (model X.prog X.w) X.A (eval b X.env) (λu s₂=>N_ (model X.prog X.w) X.A (f v u) Q X.xe s₂) X.xe s₁) X.xe s:=by
 refine iB (ha pins s σ H _ I h) λv s1 ⟨x,H1,I1,r1,q1⟩=>?_;refine iB (hb pins s1 σ H1 _ I1 q1) λu s2 ⟨y,H2,I2,r2,q2⟩=>?_;exact hf v u s2 x y H2 I2 r1 r2 q2
theorem aQ{op:Operator}{r:R2}(ho:uz X (binaryOp op) r)(ha:PE X a ta)(hb:PE X b tb):PE X (.BinOp a op b pos) (tOp r ta tb):=by
 intro pins s σ H Q I h;exact wpAny_BinOp (Zh ha hb I h λv u s2 x y H2 I2 rx ry q=>ho pins s2 σ H2 x y v u Q I2 rx ry q)
theorem BI{op:UnaryOp}{r:V->Hp->VK->Prop}(ho:UnR X (unaryOp op) r)(ha:PE X a ta):PE X (.UnaryOp op a pos) (tUn r ta):=by
 intro pins s σ H Q I h;exact UnaryOp_ (iB (ha pins s σ H _ I h) λv s1 ⟨x,H1,I1,r1,q1⟩=>ho pins s1 σ H1 x v Q I1 r1 q1)
theorem opI{f:i_->i_->Sem i_}{C:Int->Int->Prop}{g:Int->Int->Int}
  (rule:∀(i j:Int) (t u:Tok) (s:p_) (Q:i_->p_->Prop) (E:i_->p_->Prop),C i j->Q (.int (g i j) s.toks) { s with toks:=s.toks+1 }->N_ (model X.prog X.w) X.A (f (.int i t) (.int j u)) Q E s) :
  uz X f (rI C λi j=>.int (g i j)):=by
 intro pins s σ H x y v u Q I rx ry h;obtain⟨i,j,rfl,rfl,hc,q⟩:=h;obtain⟨t,rfl⟩:=rx;obtain⟨t',rfl⟩:=ry;exact rule i j t t' s _ _ hc ⟨.int (g i j),H,I.tok _,⟨_,Y⟩,q⟩
theorem aat{f:i_->i_->Sem i_}{g:Int->Int->Int}
  (rule:∀(i j:Int) (t u:Tok) (s:p_) (Q:i_->p_->Prop) (E:i_->p_->Prop),Q (.int (g i j) s.toks) { s with toks:=s.toks+1 }->N_ (model X.prog X.w) X.A (f (.int i t) (.int j u)) Q E s) :
  uz X f (UR λi j=>.int (g i j)):=by
 intro pins s σ H x y v u Q I rx ry h;obtain⟨i,j,rfl,rfl,q⟩:=h;obtain⟨t,rfl⟩:=rx;obtain⟨t',rfl⟩:=ry;exact rule i j t t' s _ _ ⟨.int (g i j),H,I.tok _,⟨_,Y⟩,q⟩
theorem Td{f:i_->i_->Sem i_}{g:Int->Int->Bool}
  (rule:∀(i j:Int) (t u:Tok) (s:p_) (Q:i_->p_->Prop) (E:i_->p_->Prop),Q (.bool (g i j)) s->N_ (model X.prog X.w) X.A (f (.int i t) (.int j u)) Q E s) :
  uz X f (UR λi j=>.bl (g i j)):=by
 intro pins s σ H x y v u Q I rx ry h;obtain⟨i,j,rfl,rfl,q⟩:=h;obtain⟨t,rfl⟩:=rx;obtain⟨t',rfl⟩:=ry;exact rule i j t t' s _ _ ⟨.bl (g i j),H,I,Y,q⟩
def ahg(i j:Int):Prop:=0<j/\j<1073741824
def ahf(i j:Int):Prop:=0<=j/\j<=1000000/\i.natAbs<2 ^ 64
def Zx(i j:Int):Prop:=(-(2 ^ 64)<i/\i<2 ^ 64)\/(-(2 ^ 64)<j/\j<2 ^ 64)
theorem Zx.ok{i j:Int}(h:Zx i j):IntMulOk i j:=by
 rcases h with⟨h1,h2⟩|⟨h1,h2⟩
 ·exact .of_left (intBits_le_64 h1 h2)
 ·exact .of_right (intBits_le_64 h1 h2)
theorem fC:uz X (binaryOp .Add) (UR λi j=>.int (i+j)):=aat λ_ _ _ _ _ _ _ q=>add_int q
theorem wF:uz X (binaryOp .Sub) (UR λi j=>.int (i-j)):=aat λ_ _ _ _ _ _ _ q=>sub_int q
theorem rF:uz X (binaryOp .Mult) (rI Zx λi j=>.int (i*j)):=opI λ_ _ _ _ _ _ _ hc q=>mul_int q hc.ok
theorem eO:uz X (binaryOp .FloorDiv) (rI ahg λi j=>.int (i / j)):=opI λi j _ _ _ _ _ hc q=>by
 have h1:(0:Int)<j:=hc.1;have h2:j<1073741824:=hc.2;exact floordiv_int (by omega) (by rw[Int.fdiv_eq_ediv_of_nonneg i (by omega)];exact q) (.inl (PyProof.noPylong_small (by omega)))
theorem eV:uz X (binaryOp .Mod) (rI (λ_ j=>0<j) λi j=>.int (i % j)):=opI λi j _ _ _ _ _ hc q=>by
 have h1:(0:Int)<j:=hc;exact mod_int' (by omega) (by rw[Int.fmod_eq_emod_of_nonneg i (by omega)];exact q)
theorem QV:uz X (binaryOp .Pow) (rI ahf λi j=>.int (i ^ j.toNat)):=opI λ_ _ _ _ _ _ _ hc q=>pow_int_small hc.1 hc.2.1 hc.2.2 q
theorem unI{f:i_->Sem i_}{g:Int->Int}
  (rule:∀(i:Int) (t:Tok) (s:p_) (Q:i_->p_->Prop) (E:i_->p_->Prop),Q (.int (g i) s.toks) { s with toks:=s.toks+1 }->N_ (model X.prog X.w) X.A (f (.int i t)) Q E s) :
  UnR X f (rU λi=>.int (g i)):=by
 intro pins s σ H x v Q I rx h;obtain⟨i,rfl,q⟩:=h;obtain⟨t,rfl⟩:=rx;exact rule i t s _ _ ⟨.int (g i),H,I.tok _,⟨_,Y⟩,q⟩
theorem wg:UnR X (unaryOp .USub) (rU λi=>.int (-i)):=unI λ_ _ _ _ _ q=>neg_int q
end
noncomputable def aai:V->V->Bool
 | .lV,.lV=>true| .lV,.int _=>true| .int _,.lV=>true| .lV,.bl _=>true| .bl _,.lV=>true| .lV,.str _=>true| .str _,.lV=>true
 | .int _,.int _=>true| .bl _,.bl _=>true| .str _,.str _=>true| .NY _,.NY _=>true
 | .int _,.str _=>true| .str _,.int _=>true| .bl _,.str _=>true| .str _,.bl _=>true
 |_,_=>false
def rEq:R2:=λx y H Q=>aai x y=true/\Q (.bl (decide (x=y))) H
def rNe:R2:=λx y H Q=>aai x y=true/\Q (.bl (!decide (x=y))) H
theorem xR{i j:Int}:decide (V.int i=V.int j)=(i==j):=by
 rw[qbg];simp
theorem RN{i j:Bool}:decide (V.bl i=V.bl j)=(i==j):=by
 rw[qbg];simp
theorem NS{i j:r_}:decide (V.str i=V.str j)=(i==j):=by
 rw[qbg];simp
theorem NT{i j:Array UInt8}:decide (V.NY i=V.NY j)=(i.toList==j.toList):=by
 rw[qbg];cases i;cases j;simp
section
variable{X:Cx}{a b c:Expr}{ta tb tc:TE}{pos:qcd}
theorem eX{pins:List (g_×qa0)}{σ:St}{H:Hp}{s:p_}{Q:VK}{k k':Bool}(I:Inv X pins σ H s)(q:Q (.bl k) H)(e:k=k'):EP X pins σ Q (.bool k') s:=by
 subst e;exact⟨.bl k,H,I,Y,q⟩
theorem nS:uz X (compareOp .Eq) rEq:=by
 intro pins s σ H x y v u Q I rx ry h;obtain⟨hs,q⟩:=h
 cases x with
 |lV =>
  cases rx
  cases y with
  |lV=>cases ry;exact PySem.EqNone.eq_none_none (eX I q (by simp))
  |bl j=>cases ry;exact PySem.EqNone.eq_none_bool (eX I q (by simp))
  |int j=>obtain⟨t',rfl⟩:=ry;exact PySem.EqNone.eq_none_int (eX I q (by simp))
  |str j=>obtain⟨t',rfl⟩:=ry;exact PySem.EqNone.eq_none_str (eX I q (by simp))
  |_=>exact absurd (show false=true from hs) O_
 |bl i =>
  cases rx
  cases y with
  |lV=>cases ry;exact PySem.EqNone.eq_bool_none (eX I q (by simp))
  |bl j=>cases ry;exact eq_bool (eX I q RN)
  |str j=>obtain⟨t',rfl⟩:=ry;exact PySem.EqMixed.eq_bool_str (eX I q (by simp))
  |_=>exact absurd (show false=true from hs) O_
 |int i =>
  obtain⟨t,rfl⟩:=rx
  cases y with
  |lV=>cases ry;exact PySem.EqNone.eq_int_none (eX I q (by simp))
  |int j=>obtain⟨t',rfl⟩:=ry;exact eq_int (eX I q xR)
  |str j=>obtain⟨t',rfl⟩:=ry;exact PySem.EqMixed.eq_int_str (eX I q (by simp))
  |_=>exact absurd (show false=true from hs) O_
 |str i =>
  obtain⟨t,rfl⟩:=rx
  cases y with
  |lV=>cases ry;exact PySem.EqNone.eq_str_none (eX I q (by simp))
  |bl j=>cases ry;exact PySem.EqMixed.eq_str_bool (eX I q (by simp))
  |int j=>obtain⟨t',rfl⟩:=ry;exact PySem.EqMixed.eq_str_int (eX I q (by simp))
  |str j=>obtain⟨t',rfl⟩:=ry;exact eq_str (eX I q NS)
  |_=>exact absurd (show false=true from hs) O_
 |NY i =>
  obtain⟨t,rfl⟩:=rx
  cases y with
  |NY j=>obtain⟨t',rfl⟩:=ry;exact PySem.W.eq_bytes (eX I q NT)
  |_=>exact absurd (show false=true from hs) O_
 |_=>cases y<;>exact absurd (show false=true from hs) O_
theorem vR:uz X (compareOp .NotEq) rNe:=by
 intro pins s σ H x y v u Q I rx ry h;obtain⟨hs,q⟩:=h
 cases x with
 |lV =>
  cases rx
  cases y with
  |lV=>cases ry;exact PySem.EqNone.ne_none_none (eX I q (by simp))
  |bl j=>cases ry;exact PySem.EqNone.ne_none_bool (eX I q (by simp))
  |int j=>obtain⟨t',rfl⟩:=ry;exact PySem.EqNone.ne_none_int (eX I q (by simp))
  |str j=>obtain⟨t',rfl⟩:=ry;exact PySem.EqNone.ne_none_str (eX I q (by simp))
  |_=>exact absurd (show false=true from hs) O_
 |bl i =>
  cases rx
  cases y with
  |lV=>cases ry;exact PySem.EqNone.ne_bool_none (eX I q (by simp))
  |bl j=>cases ry;exact ne_bool (eX I q (congrArg not RN))
  |str j=>obtain⟨t',rfl⟩:=ry;exact PySem.EqMixed.ne_bool_str (eX I q (by simp))
  |_=>exact absurd (show false=true from hs) O_
 |int i =>
  obtain⟨t,rfl⟩:=rx
  cases y with
  |lV=>cases ry;exact PySem.EqNone.ne_int_none (eX I q (by simp))
  |int j=>obtain⟨t',rfl⟩:=ry;exact ne_int (eX I q (congrArg not xR))
  |str j=>obtain⟨t',rfl⟩:=ry;exact PySem.EqMixed.ne_int_str (eX I q (by simp))
  |_=>exact absurd (show false=true from hs) O_
 |str i =>
  obtain⟨t,rfl⟩:=rx
  cases y with
  |lV=>cases ry;exact PySem.EqNone.ne_str_none (eX I q (by simp))
  |bl j=>cases ry;exact PySem.EqMixed.ne_str_bool (eX I q (by simp))
  |int j=>obtain⟨t',rfl⟩:=ry;exact PySem.EqMixed.ne_str_int (eX I q (by simp))
  |str j=>obtain⟨t',rfl⟩:=ry;exact ne_str (eX I q (congrArg not NS))
  |_=>exact absurd (show false=true from hs) O_
 |NY i =>
  obtain⟨t,rfl⟩:=rx
  cases y with
  |NY j=>obtain⟨t',rfl⟩:=ry;exact PySem.W.ne_bytes (eX I q (congrArg not NT))
  |_=>exact absurd (show false=true from hs) O_
 |_=>cases y<;>exact absurd (show false=true from hs) O_
theorem zI:uz X (compareOp .Lt) (UR λi j=>.bl (decide (i<j))):=Td λ_ _ _ _ _ _ _ q=>lt_int q
theorem Nz:uz X (compareOp .LtE) (UR λi j=>.bl (decide (i<=j))):=Td λ_ _ _ _ _ _ _ q=>le_int q
theorem DA:uz X (compareOp .Gt) (UR λi j=>.bl (decide (j<i))):=Td λ_ _ _ _ _ _ _ q=>gt_int q
theorem aas:uz X (compareOp .GtE) (UR λi j=>.bl (decide (j<=i))):=Td λ_ _ _ _ _ _ _ q=>ge_int q
theorem QW:uz X (compareOp .Is) (λx y H Q=>y= .lV/\Q (.bl (decide (x= .lV))) H):=by
 intro pins s σ H x y v u Q I rx ry h;obtain⟨rfl,q⟩:=h;cases ry;refine is_none_gen (eX I q ?_)
 cases x<;>first
  |(cases rx;rfl)
  |(obtain⟨t,rfl⟩:=rx;rfl)
theorem uz.or{f:i_->i_->Sem i_}{r r':R2}(h:uz X f r)(h':uz X f r'):uz X f (λx y H Q=>r x y H Q\/r' x y H Q):=by
 intro pins s σ H x y v u Q I rx ry q;rcases q with q|q
 ·exact h pins s σ H x y v u Q I rx ry q
 ·exact h' pins s σ H x y v u Q I rx ry q
theorem bC(b:Expr){op:CmpOp}(h:op≠ .In:=by decide)(h2:op≠ .NotIn:=by decide):behindInMarks op b=false:=by
 have e1:(op==CmpOp.In)=false:=by cases op<;>first|rfl|exact absurd Y h
 have e2:(op==CmpOp.NotIn)=false:=by cases op<;>first|rfl|exact absurd Y h2
 cases b<;>simp[behindInMarks,e1,e2]
theorem vo{op:CmpOp}{r:R2}(ho:uz X (compareOp op) r)(ha:PE X a ta)(hb:PE X b tb)(hm:behindInMarks op b=false):PE X (.Compare a [op] [b] pos) (tOp r ta tb):=by
 intro pins s σ H Q I h;exact wpAny_Compare1 (Zh ha hb I h λv u s2 x y H2 I2 rx ry q=>ho pins s2 σ H2 x y v u Q I2 rx ry q) hm
def UK(t:TE):TT:=λσ H Q=>t σ H λx H'=>∃k,x= .bl k/\Q k H'
theorem bf{op:CmpOp}{r:R2}(ho:uz X (compareOp op) r)(ha:PE X a ta)(hb:PE X b tb)(hm:behindInMarks op b=false):PT X (.Compare a [op] [b] pos) (UK (tOp r ta tb)):=by
 intro pins s σ H Q I h;refine wpAny_isTrue_Compare1 (iB (ha pins s σ H _ I h) λv s1 ⟨x,H1,I1,r1,q1⟩=>iB (hb pins s1 σ H1 _ I1 q1) λu s2 ⟨y,H2,I2,r2,q2⟩ =>
  iB (ho pins s2 σ H2 x y v u _ I2 r1 r2 q2) λc s3 ⟨z,H3,I3,r3,k,e,q3⟩=>?_) hm
 subst e;cases r3;exact qaT ⟨H3,I3,q3⟩
def Qf(r r':R2)(ta tb tc:TE):TE:=λσ H Q=>ta σ H λx H1=>tb σ H1 λy H2=>r x y H2 λz H3=>∃k,z= .bl k ∧
 (if k=true then tc σ H3 λw' H4=>r' y w' H4 Q else Q (.bl false) H3)
theorem QN{op op':CmpOp}{r r':R2}(ho:uz X (compareOp op) r)(ho':uz X (compareOp op') r')(ha:PE X a ta)(hb:PE X b tb)(hc:PE X c tc)
  (hm:lastMarks [op,op'] [b,c]=false:=by with_unfolding_all rfl):PE X (.Compare a [op,op'] [b,c] pos) (Qf r r' ta tb tc):=by
 intro pins s σ H Q I h;refine Compare_chain (iB (ha pins s σ H _ I h) λv s1 ⟨x,H1,I1,r1,q1⟩=>chain_link (iB (hb pins s1 σ H1 _ I1 q1) λu s2 ⟨y,H2,I2,r2,q2⟩ =>
  iB (ho pins s2 σ H2 x y v u _ I2 r1 r2 q2) λd s3 ⟨z,H3,I3,r3,k,e,q3⟩=>?_)) hm
 subst e;cases r3;refine qaT ?_
 cases k with
 |false=>exact ite_ff ⟨.bl false,H3,I3,Y,q3⟩
 |true=>exact ite_tt (chain_last (iB (hc pins s3 σ H3 _ I3 q3) λw' s4 ⟨z',H4,I4,r4,q4⟩=>ho' pins s4 σ H4 y z' u w' Q I4 r2 r4 q4))
theorem QH{op op':CmpOp}{r r':R2}(ho:uz X (compareOp op) r)(ho':uz X (compareOp op') r')(ha:PE X a ta)(hb:PE X b tb)(hc:PE X c tc)
  (hm:lastMarks [op,op'] [b,c]=false:=by with_unfolding_all rfl):PT X (.Compare a [op,op'] [b,c] pos) (UK (Qf r r' ta tb tc)):=by
 intro pins s σ H Q I h;refine isTrue_chain (iB (ha pins s σ H _ I h) λv s1 ⟨x,H1,I1,r1,q1⟩=>test_link (iB (hb pins s1 σ H1 _ I1 q1) λu s2 ⟨y,H2,I2,r2,q2⟩ =>
  iB (ho pins s2 σ H2 x y v u _ I2 r1 r2 q2) λd s3 ⟨z,H3,I3,r3,k,e,q3⟩=>?_)) hm
 subst e;cases r3;refine qaT ?_
 cases k with
 |false =>
  obtain⟨k',e',q'⟩:=q3;cases e';exact ite_ff ⟨H3,I3,q'⟩
 |true =>
  refine ite_tt (test_last (iB (hc pins s3 σ H3 _ I3 q3) λw' s4 ⟨z',H4,I4,r4,q4⟩=>iB (ho' pins s4 σ H4 y z' u w' _ I4 r2 r4 q4) λd' s5 ⟨z2,H5,I5,r5,k2,e2,q5⟩=>?_));subst e2;cases r5;exact qaT ⟨H5,I5,q5⟩
theorem DV:(z_:Nat)<2 ^ 63:=by rw[qcE];decide
theorem oE:uz X (binaryOp .Add) (λx y H Q=>fD λi j=>x= .str i/\y= .str j/\i.length+j.length<=z_/\Q (.str (i++j)) H):=by
 intro pins s σ H x y v u Q I rx ry h;obtain⟨i,j,rfl,rfl,hz,q⟩:=h;obtain⟨t,rfl⟩:=rx;obtain⟨t',rfl⟩:=ry;exact TK.dD (j_ _) (add_str (λt' tk hup=>⟨.str (i++j),H,I.tok _,⟨_,Y⟩,q⟩) hz)
theorem vals1{x:V}{us:List i_}(r:Vals [x] us):∃u,us=[u]/\RelV x u:=by
 cases r with
 |cons r1 r2=>cases r2;exact⟨_,Y,r1⟩
theorem vals2{x y:V}{us:List i_}(r:Vals [x,y] us):fD λu w'=>us=[u,w']/\RelV x u/\RelV y w':=by
 cases r with
 |cons r1 r2 =>
  cases r2 with
  |cons r3 r4=>cases r4;exact⟨_,_,Y,r1,r3⟩
theorem RZ:rC X (.builtin "abs") (λxs H Q=>∃i,xs=[.int i]/\Q (.int (if i<0 then -i else i)) H):=by
 intro pins s σ H xs us Q I r h;obtain⟨i,rfl,q⟩:=h;obtain⟨u,rfl,t,rfl⟩:=vals1 r
 exact TK.dD (j_ _) (call_abs_int λu tk hup=>⟨.int (if i<0 then -i else i),H,I.tok _,⟨_,Y⟩,q⟩)
theorem Gw(hc:X.calm=true):rC X (.builtin "min") (λxs H Q=>fD λi j=>xs=[.int i,.int j]/\Q (.int (if j<i then j else i)) H):=by
 intro pins s σ H xs us Q I r h;obtain⟨i,j,rfl,q⟩:=h;obtain⟨u,w',rfl,⟨t,rfl⟩,⟨t',rfl⟩⟩:=vals2 r;refine TK.dD (j_ _) (min_two_ints (I.ok.hd hc) λh' tk k hup=>⟨_,H,I.kept k,?_,q⟩);by_cases hj:j<i
 ·rw[if_pos hj,if_pos hj];exact⟨_,Y⟩
 ·rw[if_neg hj,if_neg hj];exact⟨_,Y⟩
theorem RY:rC X (.builtin "ord") (λxs H Q=>∃x,xs=[.str x]/\x.length=1/\Q (.int (x.cps.getD 0 0:Nat)) H):=by
 intro pins s σ H xs us Q I r h;obtain⟨x,rfl,hz,q⟩:=h;obtain⟨u,rfl,t,rfl⟩:=vals1 r;exact ord_of_one hz ⟨.int _,H,I.tok _,⟨_,Y⟩,q⟩
def UA(K:PySem.W.Frag)(x:V)(H:Hp)(n:Nat):Prop :=
 match x with
 | .str y=>y.length<=z_/\n=y.length
 | .NY y=>y.size<=z_/\n=y.size
 | .ref p=>(∃xs,bY K H p xs/\n=xs.length)\/∃xs,eK K H p xs/\n=xs.length
 |_=>False
theorem aW:rC X (.builtin "len") (λxs H Q=>fD λx n=>xs=[x]/\UA X.K x H n/\Q (.int n) H):=by
 intro pins s σ H xs us Q I r h;obtain⟨x,n,rfl,e,q⟩:=h;obtain⟨u,rfl,rx⟩:=vals1 r;have hl:=DV;have hs:z_=16777216:=qcE
 cases x with
 |str y =>
  obtain⟨t,rfl⟩:=rx;obtain⟨hy,e'⟩:y.length<=z_/\n=y.length:=e;subst e';exact len_str (by omega) ⟨.int _,H,I.tok _,⟨_,Y⟩,q⟩
 |NY y =>
  obtain⟨t,rfl⟩:=rx;obtain⟨hy,e'⟩:y.size<=z_/\n=y.size:=e;subst e';exact PySem.W.len_bytes (by omega) ⟨.int _,H,I.tok _,⟨_,Y⟩,q⟩
 |ref p =>
  cases rx;have e':(∃xs,bY X.K H p xs/\n=xs.length)\/∃xs,eK X.K H p xs/\n=xs.length:=e;rcases e' with⟨xs,hx,e'⟩|⟨xs,hx,e'⟩
  ·subst e';obtain⟨its,r',pl,hz⟩:=I.list hx;have hlen:=r'.length;exact Calls.call_len_list pl.isList (by simp only[u_];omega) ⟨.int xs.length,H,I.tok _,⟨_,by simp only[u_];rw[hlen]⟩,q⟩
  ·subst e';obtain⟨its,r',pl,hz⟩:=I.tuple hx;have hlen:=r'.length;exact len_tuple pl (by simp only[u_];omega) ⟨.int xs.length,H,I.tok _,⟨_,by simp only[u_];rw[hlen]⟩,q⟩
 |_=>exact(show False from e).elim
end
end
section
structure Pu(h:qad)(x dx C:g_)(mA:r_->Option i_):Prop where
 obj:h.get? x=some (PySem.W.instObj C dx)
 ns:h.Ns1 dx mA
 ne:dx≠x
theorem AW{h:qad}{dx:g_}{mA:r_->Option i_}(n:h.Ns1 dx mA):∃od,h.get? dx=some od/\∀name,PySem.W.lookIn name od=some (mA name):=by
 obtain⟨o,es,ep,ho,hd,hk,_,hm⟩:=n;refine⟨o,ho,λname=>?_⟩;have e:=hm name;unfold nsFind findBy at e;rw[←Array.find?_toList]at e;unfold PySem.W.lookIn;rw[hd];dsimp only;split
 ·rename_i y q
  rw[q]at e;exact congrArg some e
 ·rename_i q
  rw[q]at e;have a:es.toList.any (·.refKey)=false:=by
   rw[List.any_eq_false];intro y hy;obtain⟨z,t,hkey⟩:=hk y (Array.mem_toList_iff.mp hy);simp[DictEntry.refKey,hkey]
  have a':¬es.toList.any (·.refKey)=true:=by rw[a];exact O_
  rw[if_neg a'];exact congrArg some e
theorem Pu.look{h:qad}{x dx C:g_}{mA:r_->Option i_}(I:Pu h x dx C mA):∃od,PySem.W.InstAt h x (PySem.W.instObj C dx) C (some od)/\∀name,PySem.W.lookIn name od=some (mA name) :=
 let ⟨od,ho,hl⟩:=AW I.ns
 ⟨od,⟨I.obj,rfl,rfl,ho⟩,hl⟩
section
variable{prog:I_}{w:W_}{A:qam}{E:i_->p_->Prop}{s:p_}{K:PySem.W.Frag}{x dx C f:g_}{mA:r_->Option i_}{name:r_}{v:i_}
theorem get_map{expr:Bool}{Q:i_->p_->Prop}(X:K.In s.heap)(I:Pu s.heap x dx C mA)(hg:PySem.W.plainGet K C name=true)(hh:PySem.W.hasDictIn K C=true)
  (ha:PySem.W.findIn K (.ref C) name=some none) (hv:mA name=some v) (hv':PySem.W.handedIn v=true) (h:Q v { s with toks:=s.toks+1 }) :
  N_ (model prog w) A (getAttr (.ref x) name expr) Q E s:=by
 obtain⟨od,J,hl⟩:=I.look;exact PySem.W.get_value X J (PySem.W.plainGet_of hg).1 (PySem.W.findObj_own hh ha Y (by rw[hl,hv])) hv' h
theorem SW{ns:List r_}{Q:Unit->p_->Prop}(X:K.In s.heap)(I:Pu s.heap x dx C mA)
  (hs:PySem.W.findIn K (.ref C) "__setattr__" =some (some (.builtin "object.__setattr__"))) (hp:PySem.W.plainOver K C=true) (ht:PySem.W.takerIn K C name=some none) (hh:PySem.W.hasDictIn K C=true)
  (hw:PySem.Within mA ns) (hsz:ns.length<=z_)
  (h:∀h',Pu h' x dx C (λy=>if y=name then some v else mA y)->qbl dx s.heap h'->Q () { s with heap:=h',toks:=s.toks+2 }) :
  N_ (model prog w) A (setAttr (.ref x) name v) Q E s:=by
 obtain⟨od,J,hl⟩:=I.look;refine PySem.W.set_plain X J hs (PySem.W.osa_open (s:={ s with toks:=s.toks+1 }) (r:=none) X J hp ht λb=>?_);obtain⟨cd,hc,hd'⟩:=PySem.W.any_some hh;have hx:s.heap.get? x=some ⟨.ref C,some dx,.plain,#[]⟩:=I.obj;refine h_ (t_ (h_ (h_ (qct hx (h_ (PySem.W.Looks.here (s:={ s with toks:=s.toks+1 }) (PySem.W.looks_clsIn X hc) ?_))))));rw[hd'];refine t_ (a:=some dx) (h_ (t_ (h_ ?_)));refine wpAny_nsSet1 (s:={ s with toks:=s.toks+1 }) I.ns λh' hn2 hs2=>?_;obtain⟨oD,esD,epD,hoD,hdD,hcD⟩:=hn2.count (PySem.Within.cons name v hw);refine h_ (wpAny_lookBehind hoD (by rw[hdD];exact pastItsLine_dict (m_ hcD (by rw[qac];omega))) ?_);exact t_ (h _ ⟨(hs2.2 _ (Ne.symm I.ne)).trans I.obj,hn2,I.ne⟩ hs2)
theorem Kn{R:Result->p_->Prop}{vs:List i_}{kw:List (r_×i_)}(X:K.In s.heap)(hm:PySem.W.makesIn K C=true)
  (hi:PySem.W.findIn K (.ref C) "__init__" =some (some (.ref f))) (hf:PySem.W.typeIn K (.ref f)=some (.type "function"))
  (h:codeAny (model prog w) (A.under (.builtin "type.__call__" ⟨.ref C::vs,kw⟩)) (.call (.ref f) ⟨.ref (s.heap.objs.size+1)::vs,kw⟩) (PySem.W.InitBack (s.heap.objs.size+1) R)
   { s with heap:=(s.heap.push PySem.W.emptyDict).push (PySem.W.instObj C s.heap.objs.size) }) :
  codeAny (model prog w) A (.call (.ref C) ⟨vs,kw⟩) R s:=by
 obtain⟨hh,g,d,t,os⟩:=s;exact PySem.W.make_core (PySem.W.makes_of X hm) (PySem.W.looks_findIn X hi) (λself=>PySem.W.bind_fn X self hf) (.inl Y) h
end
noncomputable def aX(f:r_)(v:V):List (r_×V)->List (r_×V)
 |[]=>[(f,v)]
 |(g,x)::r=>if g=f then(g,v)::r else(g,x)::aX f v r
theorem aC(f g:r_)(v:V):∀fs:List (r_×V),(aX f v fs).lookup g=if g=f then some v else fs.lookup g
 |[]=>by
  show qbT g [(f,v)]=_;by_cases h:g=f
  ·have hb:(g==f)=true:=beq_iff_eq.mpr h;simp only[qbT,hb,if_pos h]
  ·have hb:(g==f)=false:=beq_eq_false_iff_ne.mpr h;simp only[qbT,hb,if_neg h]
 |(k,x)::r=>by
  have ih:=aC f g v r
  rw[show aX f v ((k,x)::r)=(if k=f then(k,v)::r else(k,x)::aX f v r) from rfl]
  by_cases hk:k=f
  ·rw[if_pos hk];by_cases h:g=k
   ·have hb:(g==k)=true:=beq_iff_eq.mpr h;simp only[qbT,hb,if_pos (h.trans hk)]
   ·have hb:(g==k)=false:=beq_eq_false_iff_ne.mpr h;simp only[qbT,hb,if_neg (λe:g=f=>h (e.trans hk.symm))]
  ·rw[if_neg hk];by_cases h:g=k
   ·have hb:(g==k)=true:=beq_iff_eq.mpr h;simp only[qbT,hb,if_neg (λe:g=f=>hk (h.symm.trans e))]
   ·have hb:(g==k)=false:=beq_eq_false_iff_ne.mpr h;simp only[qbT,hb];exact ih
theorem uR(f:r_)(v:V):∀fs:List (r_×V),f∈(aX f v fs).map (·.1)/\∀g,g∈fs.map (·.1)->g∈(aX f v fs).map (·.1)
 |[]=>⟨by simp[aX],λg h=>by simp at h⟩
 |(k,x)::r=>by
  obtain⟨i1,i2⟩:=uR f v r
  rw[show aX f v ((k,x)::r)=(if k=f then(k,v)::r else(k,x)::aX f v r) from rfl]
  by_cases hk:k=f
  ·rw[if_pos hk];subst hk;exact⟨by simp,λg h=>by simpa using h⟩
  ·rw[if_neg hk];refine⟨?_,λg h=>?_⟩
   ·rw[qak];exact C_ _ i1
   ·rw[qak]at h ⊢;rcases S_.mp h with e|e
    ·exact S_.mpr (.inl e)
    ·exact C_ _ (i2 g e)
theorem wO(f:r_)(v:V):∀fs:List (r_×V),(aX f v fs).length<=fs.length+1
 |[]=>by simp[aX]
 |(k,x)::r=>by
  have ih:=wO f v r
  rw[show aX f v ((k,x)::r)=(if k=f then(k,v)::r else(k,x)::aX f v r) from rfl]
  by_cases hk:k=f
  ·rw[if_pos hk,qac,qac];omega
  ·rw[if_neg hk,qac,qac];omega
theorem vD.some_of{v:V}{o:Option i_}(r:vD (some v) o):∃u,o=some u/\RelV v u:=by
 cases o with
 |none=>exact(show False from r).elim
 |some u=>exact⟨u,Y,r⟩
theorem O3{v:V}{u:i_}(r:RelV v u):PySem.W.handedIn u=true:=by
 cases v with
 |lV=>cases (show u=Value.none from r);rfl
 |bl b=>cases (show u=Value.bool b from r);rfl
 |int i=>obtain⟨t,e⟩:=(show ∃t,u=Value.int i t from r);cases e;rfl
 |str x=>obtain⟨t,e⟩:=(show ∃t,u=Value.str x t from r);cases e;rfl
 |NY b=>obtain⟨t,e⟩:=(show ∃t,u=Value.bytes b t from r);cases e;rfl
 |Y8 b=>obtain⟨t,e⟩:=(show ∃t,u=Value.float b t from r);cases e;rfl
 |ref a=>cases (show u=Value.ref a from r);rfl
 |ty n=>cases (show u=Value.type n from r);rfl
section
variable{P:I_}{w:W_}{H H':Hp}{h h':qad}{a C dx:g_}{fs fs':List (r_×V)}
theorem CI(hok:uV P w H h)(e:H a=some (.ins C dx fs)):∃mA,Pu h a dx C mA/\(∀f,vD (fs.lookup f) (mA f))/\PySem.Within mA (fs.map (·.1))/\fs.length<=1000/\H dx=some (.own a):=by
 obtain⟨d,z,ne,ob,mA,n,r,q⟩:=(show eN P w H h a (.ins C dx fs) from hok a _ e);exact⟨mA,⟨ob,n,ne⟩,r,q,z,d⟩
end
structure SD(K:PySem.W.Frag)(C:g_):Prop where
 pg:PySem.W.plainGet K C qcF=true
 hd:PySem.W.hasDictIn K C=true
 po:PySem.W.plainOver K C=true
 sa:PySem.W.findIn K (.ref C) "__setattr__" =some (some (.builtin "object.__setattr__"))
theorem SD.get{K:PySem.W.Frag}{C:g_}(c:SD K C)(f:r_):PySem.W.plainGet K C f=true:=c.pg
def cD(K:PySem.W.Frag)(C:g_)(f:r_):Prop:=PySem.W.findIn K (.ref C) f=some none
theorem cD.Qd{K:PySem.W.Frag}{C:g_}{f:r_}(n:cD K C f):PySem.W.takerIn K C f=some none:=by
 unfold PySem.W.takerIn;rw[show PySem.W.findIn K (.ref C) f=some none from n];rfl
section
variable{X:Cx}{pins:List (g_×qa0)}{σ:St}{H:Hp}{s:p_}{a C dx:g_}{fs:List (r_×V)}{f:r_}{v:V}{A:qam}{E:i_->p_->Prop}
theorem Mx{b:Bool}{Q:i_->p_->Prop}(I:Inv X pins σ H s)(e:H a=some (.ins C dx fs))(c:SD X.K C)(n:cD X.K C f)(l:fs.lookup f=some v)
  (h:∀u s',Inv X pins σ H s'->RelV v u->Q u s'):N_ (model X.prog X.w) A (getAttr (.ref a) f b) Q E s:=by
 obtain⟨mA,O,r,_,_,_⟩:=CI I.hok e;obtain⟨u,hu,ru⟩:=vD.some_of (v:=v) (o:=mA f) (by rw[←l];exact r f);exact get_map I.tu O (c.get f) c.hd n hu (O3 ru) (h u _ (I.tok _) ru)
theorem LL{y:V}{u:i_}{Q:Unit->p_->Prop}(I:Inv X pins σ H s)(e:H a=some (.ins C dx fs))(c:SD X.K C)(n:cD X.K C f)(hl:fs.length<1000)(ry:RelV y u)
  (h:∀s',Inv X pins σ (upd H a (.ins C dx (aX f y fs))) s'->Q () s'):N_ (model X.prog X.w) A (setAttr (.ref a) f u) Q E s:=by
 obtain⟨mA,O,r,wi,_,ho⟩:=CI I.hok e;have hz:(fs.map (·.1)).length<=z_:=by rw[f_,qcE];omega
 refine SW I.tu O c.sa c.po n.Qd c.hd wi hz λh' O' sb=>h _ ?_
 have hd:∃o,h'.get? dx=some o:=let ⟨o,_,_,e',_⟩:=O'.ns;⟨o,e'⟩
 refine I.write (x:=a) (e:=dx) (by rw[e];exact True.intro) (.inr ho) (λb q hb z=>(sb.2 b hb).trans z) hd ?_;refine⟨by rw[aH O.ne];exact ho,?_,O.ne,O'.obj,_,O'.ns,λg=>?_,λg hg=>?_⟩
 ·have:=wO f y fs;omega
 ·show vD ((aX f y fs).lookup g) (if g=f then some u else mA g)
  rw[aC];by_cases q:g=f
  ·rw[if_pos q,if_pos q];exact ry
  ·rw[if_neg q,if_neg q];exact r g
 ·by_cases q:g=f
  ·rw[q];exact(uR f y fs).1
  ·refine(uR f y fs).2 g (wi g λz=>hg ?_)
   show(if g=f then some u else mA g)=none
   rw[if_neg q];exact z
theorem Inv.made(I:Inv X pins σ H s):Inv X pins σ (upd (upd H s.heap.objs.size (.own (s.heap.objs.size+1))) (s.heap.objs.size+1) (.ins C s.heap.objs.size []))
  { s with heap:=(s.heap.push PySem.W.emptyDict).push (PySem.W.instObj C s.heap.objs.size) }:=by
 have e1:(s.heap.push PySem.W.emptyDict).get? s.heap.objs.size=some PySem.W.emptyDict:=H_ s.heap rfl;have e2:((s.heap.push PySem.W.emptyDict).push (PySem.W.instObj C s.heap.objs.size)).get? (s.heap.objs.size+1)=some (PySem.W.instObj C s.heap.objs.size):=by
  have:=H_ (s.heap.push PySem.W.emptyDict) (o:=PySem.W.instObj C s.heap.objs.size) rfl
  rwa [qaQ]at this
 have e3:(s.heap.push PySem.W.emptyDict).Ns s.heap.objs.size (λ_=>none):=⟨PySem.W.emptyDict,#[],_,e1,rfl,(λe he=>absurd he (by simp)),λ_=>rfl⟩;have I1:=I.laid (a:=s.heap.objs.size) (o:=.own (s.heap.objs.size+1)) (h':=s.heap.push PySem.W.emptyDict) (t':=s.toks) (λb u q=>k_ _ q) (j_ _) ⟨_,e1⟩;refine I1.laid (a:=s.heap.objs.size+1) (o:=.ins C s.heap.objs.size []) (t':=s.toks) (λb u q=>k_ _ q) (qce (qaQ _ _)) ?_;have ne:s.heap.objs.size≠s.heap.objs.size+1:=Y_ (qbo _);refine⟨by rw[aH ne,ai],X_ _,ne,e2,λ_=>none,(Heap.Ns1.of_empty e3).at λo q=>k_ _ q,λ_=>True.intro,λy hy=>absurd Y hy⟩
theorem N1{prog:I_}{w:W_}{env:Env}{e:Expr}{f:r_}{pos:qcd}{s:p_}{Q:i_->p_->Prop}(hb:attributeBase e f env (eval e env)=eval e env)
  (h:N_ (model prog w) A (eval e env) (λo s₁=>N_ (model prog w) A (getAttr o f true) Q E s₁) E s):N_ (model prog w) A (eval (.Attribute e f pos) env) Q E s :=
 Attribute_any_ h (by rw[arm_eval_Attribute,hb])
end
def ae6(K:PySem.W.Frag)(ta:TE)(f:r_):TE:=λσ H Q=>ta σ H λx H1=>GF λa C dx fs v=>x= .ref a/\H1 a=some (.ins C dx fs)/\SD K C/\cD K C f/\fs.lookup f=some v/\Q v H1
def afh(K:PySem.W.Frag)(ta tv:TE)(f:r_):TS:=λD σ H=>tv σ H λy H1=>ta σ H1 λx H2=>yj λa C dx fs=>x= .ref a/\H2 a=some (.ins C dx fs)/\SD K C/\cD K C f/\fs.length<1000 ∧
 D.nx σ (upd H2 a (.ins C dx (aX f y fs)))
section
variable{X:Cx}{o e value:Expr}{f:r_}{pos pos' tpos:qcd}{ta tv:TE}
theorem bB(he:PE X e ta)(hb:attributeBase e f X.env (eval e X.env)=eval e X.env):PE X (.Attribute e f pos) (ae6 X.K ta f):=by
 intro pins s σ H Q I h;refine N1 hb (iB (he pins s σ H _ I h) λu s1 ⟨x,H1,I1,rx,a,C,dx,fs,v,ex,ea,c,n,l,q⟩=>?_);subst ex;obtain rfl:u=Value.ref a:=rx;exact Mx I1 ea c n l λu' s2 I2 ru=>⟨v,H1,I2,ru,q⟩
theorem lS(ha:PE X o ta)(hv:PE X value tv)(hs:swapsWith value (some (.Attribute o f pos')) pos.line X.env=pure false):PS X (.Assign [.Attribute o f pos'] value pos) (afh X.K ta tv f):=by
 intro pins s σ H D I h;refine plainObj_wpAny_Assign_Attribute (iB (hv pins s σ H _ I h) λu s1 ⟨y,H1,I1,ry,q⟩=>iB (ha pins s1 σ H1 _ I1 q) λov s2 ⟨x,H2,I2,rx,a,C,dx,fs,ex,ea,c,n,l,q2⟩=>?_) hs;subst ex;obtain rfl:ov=Value.ref a:=rx;exact LL I2 ea c n l ry λs3 I3=>⟨σ,_,I3,q2⟩
end
section
variable{X:Cx}{pins:List (g_×qa0)}{σ:St}{H:Hp}{s:p_}{A:qam}{E:i_->p_->Prop}{Q:i_->p_->Prop}{c:i_}{b:Bool}
inductive Af(K:PySem.W.Frag)(H:Hp):V->i_->Prop where
 |lV:Af K H .lV (.type "NoneType")
 |bl (x:Bool):Af K H (.bl x) (.type "bool")
 |int (i:Int):Af K H (.int i) (.type "int")
 |str (x:r_):Af K H (.str x) (.type "str")
 |Y8 (x:UInt64):Af K H (.Y8 x) (.type "float")
 |lst {a:g_} {xs:List V} (e:H a=some (.lst xs)):Af K H (.ref a) (.type "list")
 |MA {a:g_} {o:qa0} {xs:List V} (e:H a=some (.MA o (.lst xs))):Af K H (.ref a) (.type "list")
 |tup {a:g_} {xs:List V} (e:H a=some (.tup xs)):Af K H (.ref a) (.type "tuple")
 |dK {a:g_} {kvs:List (Key×V)} (e:H a=some (.dK kvs)):Af K H (.ref a) (.type "dict")
 |dT {a:g_} {kvs:List (List Key×V)} (e:H a=some (.dT kvs)):Af K H (.ref a) (.type "dict")
 |ins {a C dx:g_} {fs:List (r_×V)} (e:H a=some (.ins C dx fs)) (cl:SD K C) (ha:PySem.W.findIn K (.ref C) "__class__" =some (some (.builtin "object.__class__")))
   (hn:PySem.W.specialIn K (.builtin "object.__class__") "__get__" =some (some (.builtin "getset_descriptor.__get__"))) (htk:PySem.W.takesIn K (.builtin "object.__class__")=some true)
   (hm:PySem.W.mroIn K C (.type "object")=some true):Af K H (.ref a) (.ref C)
theorem Gm{x:V}{u t:i_}(I:Inv X pins σ H s)(rx:RelV x u)(ty:Af X.K H x t)(e:PySem.W.kitOne X.K t c=some b)(h:∀tk,Q (.bool b) { s with toks:=tk }):
  N_ (model X.prog X.w) A (call (.builtin "isinstance") [u,c]) Q E s:=by
 cases ty with
 |lV=>cases (show u=Value.none from rx);exact PySem.W.kia_one PySem.W.kitx_none I.tu True.intro e (λz=>nomatch z) h
 |bl y=>cases (show u=Value.bool y from rx);exact PySem.W.kia_one PySem.W.kitx_bool I.tu True.intro e (λz=>nomatch z) h
 |int i=>obtain⟨t,q⟩:=(show ∃t,u=Value.int i t from rx);cases q;exact PySem.W.kia_one PySem.W.kitx_int I.tu True.intro e (λz=>nomatch z) h
 |str y=>obtain⟨t,q⟩:=(show ∃t,u=Value.str y t from rx);cases q;exact PySem.W.kia_one PySem.W.kitx_str I.tu True.intro e (λz=>nomatch z) h
 |Y8 y=>obtain⟨t,q⟩:=(show ∃t,u=Value.float y t from rx);cases q;exact PySem.W.kia_one PySem.W.kitx_float I.tu True.intro e (λz=>nomatch z) h
 | @lst a xs ea =>
  cases (show u=Value.ref a from rx);obtain⟨_,_,n,_,h1⟩:=(show eN X.prog X.w H s.heap a (.lst xs) from I.hok a _ ea)
  exact PySem.W.kia_one PySem.W.kitx_list I.tu ⟨_,h1,Y⟩ e (λz=>nomatch z) h
 | @MA a ob xs ea =>
  cases (show u=Value.ref a from rx);obtain⟨_,_,_,n,_,h1⟩:=(show eN X.prog X.w H s.heap a (.MA ob (.lst xs)) from I.hok a _ ea)
  exact PySem.W.kia_one PySem.W.kitx_list I.tu ⟨_,h1,Y⟩ e (λz=>nomatch z) h
 | @tup a xs ea =>
  cases (show u=Value.ref a from rx);obtain⟨_,_,_,p⟩:=(show eN X.prog X.w H s.heap a (.tup xs) from I.hok a _ ea);obtain⟨o,h1,h2,_⟩:=p
  exact PySem.W.kia_one PySem.W.kitx_tuple I.tu ⟨o,h1,h2⟩ e (λz=>nomatch z) h
 | @dK a kvs ea =>
  cases (show u=Value.ref a from rx);obtain⟨_,_,vs,_,p⟩:=(show eN X.prog X.w H s.heap a (.dK kvs) from I.hok a _ ea);obtain⟨o,es,ep,h1,h2,_⟩:=p
  exact PySem.W.kia_one PySem.W.kitx_dict I.tu ⟨o,h1,h2.1⟩ e (λz=>nomatch z) h
 | @dT a kvs ea =>
  cases (show u=Value.ref a from rx);obtain⟨_,_,xs,_,o,es,ep,h1,h2,_⟩:=(show eN X.prog X.w H s.heap a (.dT kvs) from I.hok a _ ea)
  exact PySem.W.kia_one PySem.W.kitx_dict I.tu ⟨o,h1,h2.1⟩ e (λz=>nomatch z) h
 | @ins a C dx fs ea cl ha hn htk hm =>
  cases (show u=Value.ref a from rx);obtain⟨mA,O,_⟩:=CI I.hok ea;obtain⟨od,J,_⟩:=O.look
  exact PySem.W.kia_one (PySem.W.kitx_own (cl.get _) cl.hd ha hn htk hm) I.tu J e (λz=>nomatch z) h
end
end
section
structure pW(k:Nat)(A:qam):Prop where
 hd:A.handled=none
 dp:A.depth+3*k+5<recursionLimit
 un:A.units+16*k+200<cLine
theorem pW.mono{j k:Nat}{A:qam}(r:pW k A)(h:j<=k):pW j A:=⟨r.hd,by have:=r.dp;omega,by have:=r.un;omega⟩
theorem pW.deeper{k:Nat}{A:qam}(r:pW (k+1) A)(env:Env):pW k (A.deeper env) :=
 ⟨r.hd,by have:=r.dp;show A.depth+1+3*k+5<_;omega,by have:=r.un;show A.units+3+16*k+200<_;omega⟩
theorem Ms{A:qam}{C:g_}{us:List i_}{kw:List (r_×i_)}:(A.under (.builtin "type.__call__" ⟨.ref C::us,kw⟩)).depth=A.depth+1:=by
 first|rfl|simp[Around.under,Code.weight,Code.isCreation,Code.isGuard,Code.isCaller,Code.frames,Code.isFrame,guardIds]
theorem Mr{A:qam}{C:g_}{us:List i_}{kw:List (r_×i_)}:(A.under (.builtin "type.__call__" ⟨.ref C::us,kw⟩)).units=A.units+1:=by
 first|rfl|simp[Around.under,Code.cUnits,Code.frames,Code.isFrame]
theorem pW.make{k:Nat}{A:qam}(r:pW (k+1) A)(C:g_)(us:List i_)(kw:List (r_×i_)):pW k (A.under (.builtin "type.__call__" ⟨.ref C::us,kw⟩)) :=
 ⟨r.hd,by have:=r.dp;rw[Ms];omega,by have:=r.un;rw[Mr];omega⟩
theorem pW.depth{k:Nat}{A:qam}(r:pW k A):A.depth<recursionLimit:=by have:=r.dp;omega
theorem pW.units{k:Nat}{A:qam}(r:pW k A):A.units+64<cLine:=by have:=r.un;omega
def ae1:TA:=λ_ H Q=>Q [] H
def aaa(ta:TE)(tr:TA):TA:=λσ H Q=>ta σ H λx H1=>tr σ H1 λxs H2=>Q (x::xs) H2
section
variable{X:Cx}{e:Expr}{es:List Expr}{te:TE}{t:TA}{pos:qcd}
theorem ah:PA X [] ae1:=λ_ _ _ _ H Q I h=>Calls.spliced_nil ⟨[],H,I,.nil,h⟩
theorem aa(ha:PE X e te)(hr:PA X es t)(hs:Z_ (e::es) X.env=(false,eval e X.env)::Z_ es X.env:=by rfl):PA X (e::es) (aaa te t):=by
 intro pos pins s σ H Q I h;rw[hs];show N_ _ _ (spliced ((false,eval e X.env)::backTo pos (Z_ es X.env))) _ _ s;refine Calls.spliced_cons (iB (ha pins s σ H _ I h) λu s1 ⟨x,H1,I1,r1,q1⟩=>?_);exact iB (hr pos pins s1 σ H1 _ I1 q1) λus s2 ⟨xs,H2,I2,r2,q2⟩=>⟨x::xs,H2,I2,.cons r1 r2,q2⟩
def aeV(t:TA):TE:=λσ H Q=>t σ H λxs H1=>xs.length<=z_/\∀p,H1 p=none->Q (.ref p) (upd H1 p (.tup xs))
def ae3(t:TA):TE:=λσ H Q=>t σ H λxs H1=>xs.length<=z_/\∀p,H1 p=none->Q (.ref p) (upd H1 p (.lst xs))
theorem gK{x1}(h:PA X es t):PE X (.Tuple es x1 pos) (aeV t):=by
 intro pins s σ H Q I hq;refine wpAny_Tuple_spliced (iB (h pos pins s σ H _ I hq) λus s1 ⟨xs,H1,I1,r,z,q⟩=>⟨by rw[←r.length];exact z,?_⟩);have hf:H1 s1.heap.objs.size=none:=I1.hok.fresh (j_ _);refine⟨.ref s1.heap.objs.size,upd H1 s1.heap.objs.size (.tup xs),I1.laid (t':=s1.toks) (λb u e=>k_ _ e) (j_ _) ?_,Y,q _ hf⟩;exact⟨z,us,r,⟨_,H_ _ Y,Y,_,Y⟩⟩
theorem jz(h:PA X es t):PE X (.List es pos) (ae3 t):=by
 intro pins s σ H Q I hq;refine wpAny_List_spliced (iB (h pos pins s σ H _ I hq) λus s1 ⟨xs,H1,I1,r,z,q⟩=>⟨by rw[←r.length];exact z,?_⟩);have hf:H1 s1.heap.objs.size=none:=I1.hok.fresh (j_ _);refine⟨.ref s1.heap.objs.size,upd H1 s1.heap.objs.size (.lst xs),I1.laid (t':=s1.toks) (λb u e=>k_ _ e) (j_ _) ?_,Y,q _ hf⟩;exact⟨z,us,0,r,H_ _ Y⟩
end
noncomputable abbrev Sp:=List V->Hp->VK->XK->Prop
noncomputable abbrev Pz:=List Env->Hp->p_->XK->i_->p_->Prop
structure MZ(P:I_)(w:W_)(K:PySem.W.Frag)(mg:r_->Option i_)(base:qad)(A:qam)(outer:List Env)(s:p_)(H:Hp):Prop where
 frames:A.frames=some outer
 mod:Mod K mg base
 bs:∀b o,base.get? b=some o->s.heap.get? b=some o/\H b=none
 R0:base.objs.size<=s.heap.objs.size
 yT:s.heap.FunFrames base outer
 Ug:∀b∈frs outer,H b=none
 hok:uV P w H s.heap
 bare:AllBare s.gens
 tk:K3 mg s.toks
def CE(outer:List Env)(P:I_)(w:W_)(H:Hp)(s:p_)(Q:VK)(u:i_)(s':p_):Prop :=
 fD λv H'=>s'.os=s.os/\AllBare s'.gens/\Un (frs outer) [] H H' s.heap s'.heap/\uV P w H' s'.heap/\RelV v u/\s.toks<=s'.toks/\Q v H'
def CR(CX:Pz)(outer:List Env)(P:I_)(w:W_)(H:Hp)(s:p_)(Q:VK)(E:XK)(r:Result)(s':p_):Prop :=
 match r with
 | .ok (.ret u)=>CE outer P w H s Q u s'
 | .ok _=>False
 | .error e=>CX outer H s E e s'
structure aI(P:I_)(w:W_)(K:PySem.W.Frag)(mg:r_->Option i_)(base:qad)(CX:Pz)(k:Nat)(f:g_)(fd:B_)(ps:List r_)(sp:Sp):Prop where
 len:∀vs H Q E,sp vs H Q E->vs.length=ps.length
 run:∀(A:qam) (outer:List Env) (s:p_) (H:Hp) (args:Args) (us:List i_) (vs:List V) (Q:VK) (E:XK),pW k A->MZ P w K mg base A outer s H->BindsTo s fd args (ps.zip us)->Vals vs us->sp vs H Q E →
  codeAny (model P w) A (.call (.ref f) args) (CR CX outer P w H s Q E) s
theorem MZ.make{P:I_}{w:W_}{K:PySem.W.Frag}{mg:r_->Option i_}{base:qad}{A:qam}{outer:List Env}{s:p_}{H:Hp}(e:MZ P w K mg base A outer s H)(C:g_)(us:List i_)(kw:List (r_×i_)):
  MZ P w K mg base (A.under (.builtin "type.__call__" ⟨.ref C::us,kw⟩)) outer s H:=⟨by first|exact e.frames|(simpa[Around.under,Code.envs,Code.isFrame,pushEnvs]using e.frames),e.mod,e.bs,e.R0,e.yT,e.Ug,e.hok,e.bare,e.tk⟩
section
variable{X:Cx}{pins:List (g_×qa0)}{σ:St}{H:Hp}{s s':p_}
theorem Inv.RJ(I:Inv X pins σ H s):MZ X.prog X.w X.K X.mg X.base X.A X.stack s H :=
 ⟨I.ok.frames,I.ok.mod,I.bs,m_ I.ok.R0 I.sz,I.stack,I.GO,I.hok,I.bare,I.tk⟩
theorem Inv.after{Q:VK}{u:i_}(I:Inv X pins σ H s)(h:CE X.stack X.prog X.w H s Q u s'):EP X pins σ Q u s':=by
 obtain⟨v,H',os,bare,un,hok,r,tt,q⟩:=h;obtain⟨hh,g,d,t,os'⟩:=s';obtain rfl:os'=s.os:=os;exact⟨v,H',I.call (h':=hh) (g':=g) (d':=d) (t':=t) (ch:=[]) un hok bare (λb z=>absurd z (by simp)) (m_ I.up tt),r,q⟩
end
def aab(sp:Sp)(Bo:List V)(E:XK)(t:TA):TE:=λσ H Q=>t σ H λvs H1=>sp (vs++Bo) H1 Q E
def Z5(C:g_)(sp:Sp)(Bo:List V)(E:XK)(t:TA):TE:=λσ H Q=>t σ H λvs H1=>∀x dx,H1 x=none->H1 dx=none->dx≠x →
 sp (.ref x::(vs++Bo)) (upd (upd H1 dx (.own x)) x (.ins C dx [])) (λv H2=>v= .lV/\Q (.ref x) H2) E
def Binds(K:PySem.W.Frag)(fd:B_)(ps:List r_)(ds:List i_):Prop :=
 ∀(s:p_) (us:List i_),K.In s.heap->(us++ds).length=ps.length->BindsTo s fd ⟨us,[]⟩ (ps.zip (us++ds))
theorem Binds.all{K:PySem.W.Frag}{fd:B_}{ps:List r_}(h:∀us:List i_,us.length=ps.length->bindArgs fd ⟨us,[]⟩=pure (ps.zip us)):Binds K fd ps []:=λs us _ hl=>by
 rw[qaR]at hl ⊢;exact .of_eq (h us hl)
def Passes(CX:Pz)(X:Cx)(E:XK):Prop:=∀(pins:List (g_×qa0)) (σ:St) (H:Hp) (s:p_) (e:i_) (s':p_),Inv X pins σ H s->CX X.stack H s E e s'->X.xe e s'
section
variable{X:Cx}{CX:Pz}{k:Nat}{f C:g_}{fd:B_}{ps:List r_}{sp:Sp}{Bo:List V}{ds:List i_}{E:XK}{x m:r_}{p pos apos:qcd}{e o:Expr}{es:List Expr}{ta:TE}{t:TA}
theorem Yi{pins:List (g_×qa0)}{σ:St}{H:Hp}{s:p_}{Q:VK}{us:List i_}{vs:List V}(F:aI X.prog X.w X.K X.mg X.base CX k f fd ps sp)(hr:pW k X.A)(hb:Binds X.K fd ps ds)(hd:Vals Bo ds)(hx:Passes CX X E)
  (I:Inv X pins σ H s) (r:Vals vs us) (h:sp (vs++Bo) H Q E):N_ (model X.prog X.w) X.A (call (.ref f) us) (EP X pins σ Q) X.xe s:=by
 have r2:Vals (vs++Bo) (us++ds):=r.append hd;have hl:(us++ds).length=ps.length:=by rw[←r2.length];exact F.len _ _ _ _ h
 refine qbE (qbm (F.run X.A X.stack s H ⟨us,[]⟩ (us++ds) (vs++Bo) Q E hr I.RJ (hb s us I.tu hl) r2 h) λr s' hq=>?_)
 cases r with
 |error e=>exact hx pins σ H s e s' I hq
 |ok fl =>
  cases fl with
  |ret u=>exact I.after hq
  |next=>exact qaz hq
  |brk=>exact qaz hq
  |cont=>exact qaz hq
theorem av(F:aI X.prog X.w X.K X.mg X.base CX k f fd ps sp)(hr:pW k X.A)(hg:Gl X x)(hm:X.mg x=some (.ref f))(hk:PySem.W.keepIn X.K (.ref f)=true)(hb:Binds X.K fd ps ds)(hd:Vals Bo ds)(hx:Passes CX X E)
  (ha:PA X (e::es) t) (hdb:(x==("__debug__" :r_))=false:=by decide) (he:Z_ (e::es) X.env=(false,eval e X.env)::Z_ es X.env:=by rfl) (hpl:(backTo pos (Z_ es X.env)).any (·.1)=false:=by rfl) :
  PE X (.Call (.Name x p) (e::es) [] pos) (aab sp Bo E t):=by
 intro pins s σ H Q I h;refine qa7 (qK I hg hm ?_ hdb);refine PySem.W.callWith_K (h₀:=X.base) I.ok.mod.TN hk (iB (ha pos pins s σ H _ I h) λus s1 ⟨vs,H1,I1,r,q⟩=>⟨I1.tu,?_⟩) he hpl;exact Yi F hr hb hd hx I1 r q
structure Mk(K:PySem.W.Frag)(C f:g_):Prop where
 makes:PySem.W.makesIn K C=true
 init:PySem.W.findIn K (.ref C) "__init__" =some (some (.ref f))
 fn:PySem.W.isFn K (.ref f)=true
 kp:PySem.W.keepIn K (.ref C)=true
theorem QE{pins:List (g_×qa0)}{σ:St}{H:Hp}{s:p_}{Q:VK}{us:List i_}{vs:List V}(M:Mk X.K C f)(F:aI X.prog X.w X.K X.mg X.base CX k f fd ps sp)(hr:pW (k+1) X.A)(hb:Binds X.K fd ps ds)(hd:Vals Bo ds)
  (hx:Passes CX X E) (I:Inv X pins σ H s) (r:Vals vs us)
  (h:∀x dx,H x=none->H dx=none->dx≠x->sp (.ref x::(vs++Bo)) (upd (upd H dx (.own x)) x (.ins C dx [])) (λv H2=>v= .lV/\Q (.ref x) H2) E) :
  N_ (model X.prog X.w) X.A (call (.ref C) us) (EP X pins σ Q) X.xe s:=by
 have hq:=h (s.heap.objs.size+1) s.heap.objs.size (I.hok.fresh (qaw _)) (I.hok.fresh (j_ _)) (Y_ (qbo _));have I2:=Inv.made (C:=C) I;have r2:Vals (V.ref (s.heap.objs.size+1)::(vs++Bo)) (Value.ref (s.heap.objs.size+1)::(us++ds)):=.cons rfl (r.append hd);have hl:(Value.ref (s.heap.objs.size+1)::us++ds).length=ps.length:=by
  have e:=r2.length;rw[F.len _ _ _ _ hq]at e;exact e.symm
 refine qbE (Kn (f:=f) I.tu M.makes M.init (beq_iff_eq.mp M.fn) (qbm (F.run _ X.stack _ _ ⟨Value.ref (s.heap.objs.size+1)::us,[]⟩ (Value.ref (s.heap.objs.size+1)::(us++ds)) _ _ E (hr.make C us [])
  (I2.RJ.make C us []) (hb _ (Value.ref (s.heap.objs.size+1)::us) I2.tu hl) r2 hq) λr s' hq'=>?_))
 cases r with
 |error e=>exact hx pins σ _ _ e s' I2 hq'
 |ok fl =>
  cases fl with
  |ret u =>
   obtain⟨v,H',I3,rv,ev,q3⟩:=I2.after hq';subst ev;exact⟨rv,⟨V.ref (s.heap.objs.size+1),H',I3,Y,q3⟩⟩
  |next=>exact qaz hq'
  |brk=>exact qaz hq'
  |cont=>exact qaz hq'
theorem tR(M:Mk X.K C f)(F:aI X.prog X.w X.K X.mg X.base CX k f fd ps sp)(hr:pW (k+1) X.A)(hg:Gl X x)(hm:X.mg x=some (.ref C))(hb:Binds X.K fd ps ds)(hd:Vals Bo ds)(hx:Passes CX X E)
  (ha:PA X (e::es) t) (hdb:(x==("__debug__" :r_))=false:=by decide) (he:Z_ (e::es) X.env=(false,eval e X.env)::Z_ es X.env:=by rfl) (hpl:(backTo pos (Z_ es X.env)).any (·.1)=false:=by rfl) :
  PE X (.Call (.Name x p) (e::es) [] pos) (Z5 C sp Bo E t):=by
 intro pins s σ H Q I h;refine qa7 (qK I hg hm ?_ hdb);refine PySem.W.callWith_K (h₀:=X.base) I.ok.mod.TN M.kp (iB (ha pos pins s σ H _ I h) λus s1 ⟨vs,H1,I1,r,q⟩=>⟨I1.tu,?_⟩) he hpl;exact QE M F hr hb hd hx I1 r q
end
section
variable{X:Cx}{CX:Pz}{k:Nat}{f C:g_}{fd:B_}{ps ks:List r_}{sp:Sp}{E:XK}{x m:r_}{p pos apos kpos:qcd}{e o:Expr}{es:List Expr}{kws:List Keyword}{te ta:TE}{t tk:TA}{nm:Option r_}
variable{g:List i_->List i_->List i_}{gV:List V->List V->List V}
end
structure aK(N P:List r_)(sc:qbJ):Prop where
 kind:sc.kind= .function
 co:sc.isCoroutine=false
 gen:sc.isGenerator=false
 nd:N.Nodup
 pre:N.take P.length=P
 par:∀x∈P,sc.names.lookup x=some .local\/sc.names.lookup x=some .cell
 Yv:∀y∈sc.names,y.2≠ .free
theorem GA{kindOf:r_->Option qbC}{x:r_}:∀{binds:List (r_×i_)} {m:r_->Option i_},(∀v,(x,v)∉binds)->bindL kindOf binds m x=m x
 |[],_,_=>rfl
 |(n,v)::r,m,h=>by
  unfold bindL;rw[GA λw hw=>h w (C_ _ hw)];split
  ·have:x≠n:=by rintro rfl;exact h v D_
   simp[this]
  ·rfl
theorem GC{kindOf:r_->Option qbC}{x:r_}:∀{binds:List (r_×i_)} {m:r_->Option i_},(∀v,(x,v)∉binds)->bindC kindOf binds m x=m x
 |[],_,_=>rfl
 |(n,v)::r,m,h=>by
  unfold bindC;rw[GC λw hw=>h w (C_ _ hw)];split
  ·rfl
  ·have:x≠n:=by rintro rfl;exact h v D_
   simp[this]
theorem GB{kindOf:r_->Option qbC}{x:r_}{v:i_}:∀{P:List r_} {vs:List i_} {i:Nat} {m:r_->Option i_},P.Nodup->P[i]? =some x->vs[i]? =some v->kindOf x=some .local →
  bindL kindOf (P.zip vs) m x=some v
 |[],_,_,_,_,h,_,_=>by simp at h
 |_::_,[],_,_,_,_,h,_=>by simp at h
 |p::P,w::vs,0,m,nd,h1,h2,hk=>by
  simp at h1 h2;subst h1;subst h2;show bindL kindOf ((p,w)::P.zip vs) m p=_;unfold bindL;rw[GA λv hv=>(qcn.mp nd).1 (List.of_mem_zip hv).1,if_pos hk];simp
 |p::P,w::vs,i+1,m,nd,h1,h2,hk=>by
  show bindL kindOf ((p,w)::P.zip vs) m x=_;unfold bindL;exact GB (i:=i) (qcn.mp nd).2 (by simpa using h1) (by simpa using h2) hk
theorem GD{kindOf:r_->Option qbC}{x:r_}{v:i_}:∀{P:List r_} {vs:List i_} {i:Nat} {m:r_->Option i_},P.Nodup->P[i]? =some x->vs[i]? =some v->kindOf x≠some .local →
  bindC kindOf (P.zip vs) m x=some v
 |[],_,_,_,_,h,_,_=>by simp at h
 |_::_,[],_,_,_,_,h,_=>by simp at h
 |p::P,w::vs,0,m,nd,h1,h2,hk=>by
  simp at h1 h2;subst h1;subst h2;show bindC kindOf ((p,w)::P.zip vs) m p=_;unfold bindC;rw[GC λv hv=>(qcn.mp nd).1 (List.of_mem_zip hv).1,if_neg hk];simp
 |p::P,w::vs,i+1,m,nd,h1,h2,hk=>by
  show bindC kindOf ((p,w)::P.zip vs) m x=_;unfold bindC;exact GD (i:=i) (qcn.mp nd).2 (by simpa using h1) (by simpa using h2) hk
noncomputable def start(N:List r_)(vs:List V):St:=vs.map some++y_ (N.length-vs.length) none
noncomputable def Bp(CX:Pz)(P:I_)(w:W_)(K:PySem.W.Frag)(mg:r_->Option i_)(base:qad)(N:List r_)(qual:r_)(scope:qbJ)(f:g_)(cd:i_)(A:qam)(outer:List Env)(s:p_)(H:Hp)(E:XK):Cx where
 prog:=P
 w:=w
 K:=K
 mg:=mg
 base:=base
 A:=A.deeper (envOfC qual scope s.heap.objs.size f cd)
 N:=N
 s₀:=s
 H₀:=H
 env:=envOfC qual scope s.heap.objs.size f cd
 outer:=outer
 stack:=envOfC qual scope s.heap.objs.size f cd::outer
 ex:=[]
 calm:=true
 fn:=λ_=>true
 pn:=[]
 xe:=λe s'=>N_ (model P w) (A.deeper (envOfC qual scope s.heap.objs.size f cd)) (leaving (envOfC qual scope s.heap.objs.size f cd) e) (λ_ s''=>CX outer H s E e s'') (λe' s''=>CX outer H s E e' s'') s'
theorem KU{sc:qbJ}{n:Nat}{x:r_}(h:sc.names.lookup x=some .cell):∃c,(cellsFrom n sc.names []).lookup x=some c:=by
 have q:=PySem.W.cellsFrom_some sc.names n [] (.inl h);exact qbF.mp q
theorem OX{CX:Pz}{P:I_}{w:W_}{K:PySem.W.Frag}{mg:r_->Option i_}{base:qad}{N ps:List r_}{qual:r_}{scope:qbJ}{f:g_}{cd:i_}{A:qam}{outer:List Env}{s s1:p_}{H:Hp}{E:XK}{us:List i_}{vs:List V}
  (S:aK N ps scope) (hd:A.handled=none) (e0:MZ P w K mg base A outer s H) (hl:vs.length=ps.length) (r:Vals vs us)
  (x:InCallC s s.heap.objs.size (bindL (envOfC qual scope s.heap.objs.size f cd).kindOf (ps.zip us) λ_=>none) (cellsFrom (s.heap.objs.size+1) scope.names []) (bindC (envOfC qual scope s.heap.objs.size f cd).kindOf (ps.zip us) λ_=>none) s1) (hup:s.toks<=s1.toks) :
  Inv (Bp CX P w K mg base N qual scope f cd A outer s H E) [] (start N vs) H s1:=by
 have hpl:ps.length<=N.length:=by have:=congrArg List.length S.pre;rw[qai]at this;omega
 obtain⟨h1,tk,rfl,hk⟩:=x.done;have htk:s.toks<=tk:=hup;have noA:∀b:g_,b∉(Bp CX P w K mg base N qual scope f cd A outer s H E).ex:=λb z=>absurd (show b∈([]:List g_) from z) (by simp);refine⟨⟨e0.mod,S.kind,Y,Y,j_ _,λy z c h1 h2=>?_,λy hy=>?_,λy c _ h=>?_,λ_=>hd,Around.frames_deeper e0.frames,.inr ⟨Y,Y⟩,λb z=>absurd z (noA b),e0.bs,e0.R0,λb _ _=>noA b,λb z=>absurd z (noA b),e0.yT,e0.Ug,e0.tk⟩,
  rfl,e0.bare,Un.kept hk,⟨_,x.toInCall.ns,λi y v h1 h2 h3=>?_⟩,λy c h=>⟨_,x.cell y c h⟩,e0.hok.fresh (j_ _),λy c h=>?_,λp hp=>absurd (show p∈([]:List (g_×qa0)) from hp) (by simp),e0.hok.kept hk,?_,htk⟩
 ·exact name_of_addr x.apart (PySem.mem_of_lookup h1) (PySem.mem_of_lookup h2)
 ·have hy:scope.names.lookup y=some .cell\/scope.names.lookup y=some .free:=hy;rcases hy with hy|hy
  ·exact KU hy
  ·exact absurd Y (S.Yv _ (PySem.mem_of_lookup hy))
 ·exact qbU (x.above y c (PySem.mem_of_lookup h))
 ·have hi:i<vs.length:=by
   unfold start at h2;by_cases hi:i<vs.length
   ·exact hi
   ·rw[qal (by simpa using hi)]at h2;rw[qbM]at h2;split at h2<;>cases h2
  have ha:vs[i]? =some v:=by
   unfold start at h2;rw[qar (by simpa using hi),n_]at h2
   cases e:vs[i]? with
   |none=>rw[e]at h2;cases h2
   |some a=>rw[e]at h2;cases h2;rfl
  obtain⟨u,hu,rv⟩:=r.get ha;have hp:ps[i]? =some y:=by
   rw[←S.pre,List.getElem?_take_of_lt (by omega)];exact h1
  have ndP:ps.Nodup:=by rw[←S.pre];exact S.nd.sublist (List.take_sublist _ _)
  refine⟨u,rv,?_⟩;rcases S.par y (l_ hp)with k|k
  ·exact .inl ⟨k,GB ndP hp hu k⟩
  ·obtain⟨c,e⟩:=KU (n:=s.heap.objs.size+1) k;refine .inr ⟨.inl k,c,e,?_⟩;have q:=x.cell y c e;rw[GD ndP hp hu (by show scope.names.lookup y≠_;rw[k];decide)]at q;exact q
 ·exact e0.hok.fresh (qbU (x.above y c (PySem.mem_of_lookup h)))
 ·unfold start;show _=N.length;rw[A_,f_,qau];omega
theorem U7{CX:Pz}{P:I_}{w:W_}{K:PySem.W.Frag}{mg:r_->Option i_}{base:qad}{k:Nat}{f:g_}{name qual:r_}{params:Arguments}{body:List qaq}{scope:qbJ}{dV kV doc pm cdv ct oc:i_}{an od:Option g_}
  {osl:Array (Option i_)} {N ps:List r_} {sp:Sp} (lk:K.lookup f=some ⟨oc,od,.func (PySem.W.fnOf name qual params body scope dV kV doc pm an cdv ct),osl⟩) (hcd:PySem.W.codeIn K cdv qual=true) (S:aK N ps scope)
  (len:∀vs H Q E,sp vs H Q E->vs.length=ps.length)
  (hbody:∀(A:qam) (outer:List Env) (s:p_) (H:Hp) (vs:List V) (Q:VK) (E:XK),pW k (A.deeper (envOfC qual scope s.heap.objs.size f cdv))->sp vs H Q E →
   ∃t,IG (Bp CX P w K mg base N qual scope f cdv A outer s H E) body t/\t { nx:=λ_ H'=>Q .lV H',rt:=Q } (start N vs) H) :
  aI P w K mg base CX (k+1) f (PySem.W.fnOf name qual params body scope dV kV doc pm an cdv ct) ps sp:=by
 refine⟨len,λA outer s H args us vs Q E hr e0 hb r Sq=>?_⟩;have hl:=len _ _ _ _ Sq;have KX:K.In s.heap:=e0.mod.TN.keeps λb o e=>(e0.bs b o e).1;have lim:s.heap.NoLimit:=e0.mod.nolimit.keeps λb o e=>(e0.bs b o e).1;have hkind:∀y∈ps.zip us,scope.names.lookup y.1=some .local\/(scope.names.lookup y.1=some .cell/\((cellsFrom (s.heap.objs.size+1) scope.names []).lookup y.1).isSome=true):=λ⟨n,v⟩ hy=>by
  rcases S.par n (List.of_mem_zip hy).1 with q|q
  ·exact .inl q
  ·exact .inr ⟨q,PySem.W.cellsFrom_some _ _ _ (.inl q)⟩
 refine TK.MJ (j_ _) ?_;refine codeAny_call_function hr.depth (KX _ _ lk) Y S.co S.gen Y (PySem.W.codeRec_of KX hcd) (hb _ _ _ _ ?_);refine TK.dD (j_ _) (wpAny_newFunctionEnv_cells S.kind hkind λenv he s1 x hup=>?_);subst he;refine⟨lim.keeps x.toInCall.keep,codeAny_func ?_⟩;obtain⟨t,ht,hq⟩:=hbody A outer s H vs Q E (hr.deeper _) Sq;have I:Inv (Bp CX P w K mg base N qual scope f cdv A outer s H E) [] (start N vs) H s1:=OX S hr.hd e0 hl r x hup;refine qaF (ht [] s1 (start N vs) H _ I hq) (λfl s' hs afX=>?_) λe s' hs=>qaF hs (λ_ _ z _=>z) λ_ _ z _=>z;have fin:∀{σ':St} {H':Hp} {v:V} {u:i_},Inv (Bp CX P w K mg base N qual scope f cdv A outer s H E) [] σ' H' s'->RelV v u->Q v H'->CE outer P w H s Q u s' :=
  λ{σ' H' v u} J rv q=>⟨v,H',J.os,J.bare,J.base,J.hok,rv,afX,q⟩
 cases fl with
 |ret u =>
  obtain⟨v,σ',H',J,rv,q⟩:=hs;exact fin J rv q
 |next =>
  obtain⟨σ',H',J,q⟩:=hs;exact fin (v:=V.lV) (u:=Value.none) J Y q
 |brk =>
  obtain⟨_,_,_,q⟩:=hs;exact qaz q
 |cont =>
  obtain⟨_,_,_,q⟩:=hs;exact qaz q
end
section
section
variable{X:Cx}{x:r_}{p pos:qcd}{e:Expr}{es:List Expr}{t:TA}{id T:String}{r:List V->Hp->VK->Prop}
def tCB(r:List V->Hp->VK->Prop)(t:TA):TE:=λσ H Q=>t σ H λvs H1=>r vs H1 Q
theorem aG (hc:rC X (.builtin id) r)(hg:Gl X x)(hm:X.mg x=none)(hv:bootBuiltins x=some (.builtin id))(ha:PA X (e::es) t)(hn:x≠ "__name__" :=by decide)(hdb:(x==("__debug__" :r_))=false:=by decide)
  (he:Z_ (e::es) X.env=(false,eval e X.env)::Z_ es X.env:=by rfl) (hpl:(backTo pos (Z_ es X.env)).any (·.1)=false:=by rfl):PE X (.Call (.Name x p) (e::es) [] pos) (tCB r t):=by
 intro pins s σ H Q I h;refine qa7 (vv I hg hm hv ?_ hn hdb);exact PyProof.Rows.callWith_builtin1 (iB (ha pos pins s σ H _ I h) λus s1 ⟨vs,H1,I1,r1,q1⟩=>hc pins s1 σ H1 vs us Q I1 r1 q1) he hpl
theorem p5 (hc:rC X (.type T) r)(hg:Gl X x)(hm:X.mg x=none)(hv:bootBuiltins x=some (.type T))(ha:PA X (e::es) t)(hn:x≠ "__name__" :=by decide)(hdb:(x==("__debug__" :r_))=false:=by decide)
  (he:Z_ (e::es) X.env=(false,eval e X.env)::Z_ es X.env:=by rfl) (hpl:(backTo pos (Z_ es X.env)).any (·.1)=false:=by rfl):PE X (.Call (.Name x p) (e::es) [] pos) (tCB r t):=by
 intro pins s σ H Q I h;refine qa7 (vv I hg hm hv ?_ hn hdb);exact qaG (iB (ha pos pins s σ H _ I h) λus s1 ⟨vs,H1,I1,r1,q1⟩=>hc pins s1 σ H1 vs us Q I1 r1 q1) he hpl
end
end
end L2
namespace HT
open PySem PyProof.Rows
section
open PySem.SeqAt
open PySem.AutoSeq1 (wpAny_loadPart')
open PySem.MeetsSeq PySem.MeetsSeq2 PySem.MeetsSeq3
end
section
variable{prog:I_}{w:W_}{A:qam}{E:i_->p_->Prop}{s:p_}
theorem Us{t b:g_}{vs ws:List i_}{Q:i_->p_->Prop}(ht:IsTup s.heap t vs.toArray)(hb:IsTup s.heap b ws.toArray)(hv:vs≠[])
  (h1:ws=[]->Q (.ref t) s) (h2:ws≠[]->Q (.ref s.heap.objs.size) { s with heap:=s.heap.push { cls:=.type "tuple",data:=.seq (vs++ws).toArray } })
  (hsz:vs.length+ws.length<=z_):N_ (model prog w) A (binaryOp .Add (.ref t) (.ref b)) Q E s:=by
 obtain⟨⟨cls,dd,data,sl⟩,ho,hc,n,hd⟩:=id ht;obtain⟨⟨ag3,dd2,data2,sl2⟩,ho2,hc2,n2,hd2⟩:=id hb;simp only at hc hd hc2 hd2;subst hc hd hc2 hd2;have e:vs.toArray++ws.toArray=(vs++ws).toArray:=by simp
 by_cases hw:ws=[]
 ·exact concat_meets ⟨_,ho,Y⟩ ⟨_,ho2,Y⟩ noFill_tuple_add seq_tuple_add PySem.F.slot_tuple_add PySem.F.entry_tuple_add (PySem.F.args_tuple_add_2 _ _)
   (tuple_addW1 t b vs.toArray ws.toArray n n2 dd dd2 sl sl2 (by simpa using hv) (by simp[hw])) ⟨ho,ho2,h1 hw⟩
 ·refine concat_meets ⟨_,ho,Y⟩ ⟨_,ho2,Y⟩ noFill_tuple_add seq_tuple_add PySem.F.slot_tuple_add PySem.F.entry_tuple_add (PySem.F.args_tuple_add_2 _ _)
   (tuple_addW2 t b vs.toArray ws.toArray n n2 dd dd2 sl sl2 (by simpa using hv) (by simpa using hw) (by rw[u_,u_];exact hsz)) ⟨ho,ho2,?_⟩
  rw[e];exact h2 hw
noncomputable def qV(n d:Nat):Option Int->Nat
 |none=>d
 |some v=>if v<0 then(v+(n:Int)).toNat else min v.toNat n
theorem wz(n d:Nat):qV n d none=d:=rfl
theorem se(n d k:Nat):qV n d (some (k:Int))=min k n:=by
 show(if(k:Int)<0 then((k:Int)+(n:Int)).toNat else min (k:Int).toNat n)=min k n
 rw[if_neg (by omega),qay]
theorem Yg(n d:Nat)(hd:d<=n)(o:Option Int):qV n d o<=n:=by
 cases o with
 |none=>exact hd
 |some v =>
  show(if v<0 then(v+(n:Int)).toNat else min v.toNat n)<=n
  by_cases hv:v<0
  ·rw[if_pos hv];omega
  ·rw[if_neg hv];exact Nat.min_le_right _ _
theorem NX(v:Int)(n d:Nat):(if v<0 then max (v+(n:Int)) 0 else min v (n:Int))=((qV n d (some v):Nat):Int):=by
 show(if v<0 then max (v+(n:Int)) 0 else min v (n:Int))=(((if v<0 then(v+(n:Int)).toNat else min v.toNat n):Nat):Int)
 by_cases hv:v<0
 ·simp only[if_pos hv];omega
 ·simp only[if_neg hv];omega
theorem MR(lo hi:Option Int)(n:Nat):qch lo hi 1 (n:Int)=(((qV n 0 lo:Nat):Int),((qV n n hi:Nat):Int)):=by
 have h1:¬((1:Int)<0):=by omega
 unfold qch;simp only[h1,if_false];refine Prod.ext ?_ ?_
 ·cases lo with
  |none=>rfl
  |some v=>exact NX v n 0
 ·cases hi with
  |none=>rfl
  |some v=>exact NX v n n
theorem LW(i j:Nat):qbx (i:Int) (j:Int) 1=j-i:=by
 unfold qbx;have h1:(1:Int)>0:=by omega
 simp only[h1,if_true,Int.ediv_one];split<;>omega
theorem Dk{v:i_}{o:Option Int}{Q:Option Int->p_->Prop}(p:IsPart v o)(h:Q o s):N_ (model prog w) A (Builtin.Slice.slicePartIndex v) Q E s:=by
 cases p with
 |none=>exact slicePart_none h
 |int i t=>exact slicePart_int h
theorem AG{sl:g_}{vl vu:i_}{lo hi:Option Int}{n:Nat}{Q:Int×Int×Nat->p_->Prop}(hs:s.heap.IsSliceOf sl vl vu .none)(pl:IsPart vl lo)(pu:IsPart vu hi)
  (h:Q (((qV n 0 lo:Nat):Int),1,qV n n hi-qV n 0 lo) s):N_ (model prog w) A (Builtin.Slice.sliceApplied (.ref sl) (pure (n:Int))) Q E s:=by
 obtain⟨os,hos,hcs,hds⟩:=id hs;unfold Builtin.Slice.sliceApplied Builtin.Slice.sliceFields;refine h_ (h_ (qaE hos hds (x:=vl) Y (h_ (qaE hos hds (x:=vu) Y (h_ (qaE hos hds (x:=.none) Y (t_ ?_)))))));refine h_ (slicePart_none ?_)
 show N_ _ _ (if((1:Int)==0)=true then _ else _) _ _ s
 rw[if_neg (by decide)];refine h_ (Dk pl (h_ (Dk pu (h_ (t_ ?_)))))
 show N_ _ _ (match qch lo hi 1 (n:Int)with|(lo,hi)=>pure (lo,(1:Int),qbx lo hi 1)) _ _ s
 rw[MR lo hi n];show N_ _ _ (pure (((qV n 0 lo:Nat):Int),(1:Int),qbx ((qV n 0 lo:Nat):Int) ((qV n n hi:Nat):Int) 1)) _ _ s;rw[LW];exact t_ h
theorem QJ(xs:Array i_)(i k:Nat):((E_ k).filterMap λ(m:Nat)=>xs[((i:Int)+(m:Int)*1).toNat]?).toArray=((xs.toList.drop i).take k).toArray:=by
 have e:(λ(m:Nat)=>xs[((i:Int)+(m:Int)*1).toNat]?)=λm=>xs[i+m]? :=by
  funext m;have:((i:Int)+(m:Int)*1).toNat=i+m:=by omega
  rw[this]
 rw[e];have:=pick_run xs i k;rw[List.filterMap_map]at this;have e2:((λx=>xs[x]?) ∘ λx=>i+x)=λm=>xs[i+m]? :=rfl;rw[e2]at this;rw[this]
theorem zZ{t sl:g_}{items:Array i_}{vl vu:i_}{lo hi:Option Int}{Q:i_->p_->Prop}(ht:IsTup s.heap t items)(hs:s.heap.IsSliceOf sl vl vu .none)(pl:IsPart vl lo)(pu:IsPart vu hi)
  (hw:¬(qV items.size 0 lo=0/\qV items.size items.size hi=items.size))
  (h:Q (.ref s.heap.objs.size) { s with heap:=s.heap.push { cls:=.type "tuple",data:=.seq ((items.toList.drop (qV items.size 0 lo)).take (qV items.size items.size hi-qV items.size 0 lo)).toArray } })
  (hsz:items.size<=z_):N_ (model prog w) A (getItem (.ref t) (.ref sl)) Q E s:=by
 have NI:sizeOk (.seq ((items.toList.drop (qV items.size 0 lo)).take (qV items.size items.size hi-qV items.size 0 lo)).toArray):=by
  show((items.toList.drop (qV items.size 0 lo)).take (qV items.size items.size hi-qV items.size 0 lo)).toArray.size<=z_;rw[u_,qai,qa8,o_];omega
 have hj:qV items.size items.size hi<=items.size:=Yg _ _ (j_ _) hi;obtain⟨os,hos,hcs,hds⟩:=id hs;have hTs:s.TypeIs (.ref sl) "slice" :=⟨os,hos,hcs⟩;unfold getItem
 try with_reducible refine qaU ?_
 first|refine h_ (t_ ?_)|skip
 refine h_ (wpAny_sequenceKey ht.typeIs (by decide) ?_);refine h_ (qaY (name:=w_ "__getitem__") ht.typeIs PyProof.Rows.slot_tuple_getitem
  (qbN PyProof.Rows.slot_tuple_getitem ht.typeIs entry_tuple_getitem ?_ (args_tuple_getitem _ _)))
 show N_ _ _ (Builtin.Tuple.tupleItemsOf (.ref t) >>= _) _ _ s;refine h_ (tupleItemsOf_ ht ?_);refine h_ (wpAny_typeOf hTs ?_);rw[if_pos (by decide)];refine h_ (AG hs pl pu ?_);have hno:¬((((qV items.size 0 lo:Nat):Int)==0&&(1:Int)==1&&(qV items.size items.size hi-qV items.size 0 lo)==items.size)=true):=by
  intro q;rw[R_,R_]at q;have q1:((qV items.size 0 lo:Nat):Int)=0:=eq_of_beq q.1.1;have q2:qV items.size items.size hi-qV items.size 0 lo=items.size:=eq_of_beq q.2;exact hw ⟨by omega,by omega⟩
 show N_ _ _ (if(((qV items.size 0 lo:Nat):Int)==0&&(1:Int)==1&&(qV items.size items.size hi-qV items.size 0 lo)==items.size)=true then _ else _) _ _ s
 rw[if_neg hno,QJ]
 first
  |exact h_ (m:=qbG _) (qa2 (t_ ⟨_,Y,t_ h⟩) NI)
  |exact h_ (m:=qbG _) (qa2 (h_ (t_ (t_ ⟨_,Y,t_ h⟩))) NI)
  |exact h_ (h_ (m:=qbG _) (qa2 (t_ (t_ ⟨_,Y,t_ h⟩)) NI))
  |exact h_ (h_ (m:=qbG _) (qa2 (t_ ⟨_,Y,t_ h⟩) NI))
end
end HT
namespace L2
open PySem PySem.Spec PyProof.Rows
section
noncomputable abbrev TO:=St->Hp->(Option Int->Hp->Prop)->Prop
def PO(X:Cx)(e:Option Expr)(t:TO):Prop :=
 ∀(pins:List (g_×qa0)) (s:p_) (σ:St) (H:Hp) (Q:Option Int->Hp->Prop),Inv X pins σ H s->t σ H Q →
  N_ (model X.prog X.w) X.A (evalPart e X.env) (λu s'=>fD λo H'=>Inv X pins σ H' s'/\IsPart u o/\Q o H') X.xe s
def SO:TO:=λ_ H Q=>Q none H
def Z2(t:TE):TO:=λσ H Q=>t σ H λx H1=>∃i,x= .int i/\Q (some i) H1
section
variable{X:Cx}{e:Expr}{te:TE}{lo hi:Option Expr}{tl th:TO}{pos p2:qcd}
theorem pM:PO X none SO:=by
 intro pins s σ H Q I h;rw[evalPart_none];exact t_ ⟨none,H,I,.none,h⟩
theorem m6(h:PE X e te):PO X (some e) (Z2 te):=by
 intro pins s σ H Q I hw;rw[evalPart_some];refine iB (h pins s σ H _ I hw) λu s1 ⟨x,H1,I1,r1,q1⟩=>?_;obtain⟨i,rfl,q⟩:=q1;obtain⟨t,rfl⟩:=r1;exact⟨some i,H1,I1,.int i t,q⟩
def SlR(X:Cx)(r:V->Option Int->Option Int->Hp->VK->Prop):Prop :=
 ∀(pins:List (g_×qa0)) (s:p_) (σ:St) (H:Hp) (x:V) (v vl vu:i_) (lo hi:Option Int) (sl:g_) (Q:VK),Inv X pins σ H s->RelV x v->s.heap.IsSliceOf sl vl vu .none->IsPart vl lo->IsPart vu hi->r x lo hi H Q →
  fD λT id=>typeLookup (.type T) "__getitem__" =pure (some (.builtin id))/\s.TypeIs v T/\N_ (model X.prog X.w) X.A (getItem v (.ref sl)) (EP X pins σ Q) X.xe s
def tSl(r:V->Option Int->Option Int->Hp->VK->Prop)(te:TE)(tl th:TO):TE:=λσ H Q=>te σ H λx H1=>tl σ H1 λl H2=>th σ H2 λu H3=>r x l u H3 Q
theorem kW{r:V->Option Int->Option Int->Hp->VK->Prop}(hr:SlR X r)(he:PE X e te)(hl:PO X lo tl)(hu:PO X hi th):PE X (.Subscript e (.Slice lo hi none p2) pos) (tSl r te tl th):=by
 intro pins s σ H Q I h;refine Subscript_ (iB (he pins s σ H _ I h) λv s1 ⟨x,H1,I1,r1,q1⟩=>?_);refine wpAny_Slice (iB (hl pins s1 σ H1 _ I1 q1) λvl s2 ⟨l,H2,I2,pl,q2⟩=>iB (hu pins s2 σ H2 _ I2 q2) λvu s3 ⟨u,H3,I3,pu,q3⟩=>?_);rw[evalPart_none];refine t_ ?_;have I4:Inv X pins σ H3 { s3 with heap:=s3.heap.push { cls:=.type "slice",data:=.fields #[vl,vu,.none] } }:=I3.kept (t':=s3.toks) λb ob q=>k_ _ q;obtain⟨T,id,hT,ht,hg⟩:=hr pins { s3 with heap:=s3.heap.push { cls:=.type "slice",data:=.fields #[vl,vu,.none] } } σ H3 x v vl vu l u s3.heap.objs.size Q I4 r1 (Heap.IsSliceOf.new ..) pl pu q3;show N_ (model X.prog X.w) X.A (subscriptTail e (.Slice lo hi none p2) v (.ref s3.heap.objs.size)) (EP X pins σ Q) X.xe { s3 with heap:=s3.heap.push { cls:=.type "slice",data:=.fields #[vl,vu,.none] } }
 exact tail_any (ops:=[.ref s3.heap.objs.size,v]) ht hT hg (by with_unfolding_all rfl)
noncomputable def vX(xs:List V)(lo hi:Option Int):List V:=(xs.drop (HT.qV xs.length 0 lo)).take (HT.qV xs.length xs.length hi-HT.qV xs.length 0 lo)
theorem w9(xs:List V)(lo hi:Option Int):(vX xs lo hi).length<=xs.length:=by
 unfold vX;rw[qai,qa8];omega
def afm(K:PySem.W.Frag):V->Option Int->Option Int->Hp->VK->Prop:=λx lo hi H Q=>fD λa xs=>x= .ref a/\eK K H a xs ∧
 ¬(HT.qV xs.length 0 lo=0/\HT.qV xs.length xs.length hi=xs.length)/\∀p,H p=none->Q (.ref p) (upd H p (.tup (vX xs lo hi)))
theorem Dl:SlR X (afm X.K):=by
 intro pins s σ H x v vl vu lo hi sl Q I rx hs pl pu h;obtain⟨a,xs,rfl,hx,hw,q⟩:=h;cases rx;obtain⟨its,r,ht,hz⟩:=I.tuple hx;have hlen:its.toArray.size=xs.length:=by rw[u_];exact r.length.symm
 refine⟨"tuple",_,PyProof.Rows.slot_tuple_getitem.lookup,ht.typeIs,?_⟩;refine HT.zZ ht hs pl pu (by rw[hlen];exact hw) ?_ (by rw[hlen];exact hz);rw[hlen];refine⟨.ref s.heap.objs.size,_,I.laid (t':=s.toks) (o:=.tup (vX xs lo hi)) (λb ob q=>k_ _ q) (j_ _) ?_,Y,q _ (I.hok.fresh (j_ _))⟩;exact⟨m_ (w9 xs lo hi) hz,_,(r.drop (HT.qV xs.length 0 lo)).take (HT.qV xs.length xs.length hi-HT.qV xs.length 0 lo),IsTup.new _ _⟩
def QG(K:PySem.W.Frag):R2:=λx y H Q=>yj λa b xs ys=>x= .ref a/\y= .ref b/\eK K H a xs/\eK K H b ys/\xs≠[]/\xs.length+ys.length<=z_ ∧
 (ys=[]->Q (.ref a) H)/\(ys≠[]->∀p,H p=none->Q (.ref p) (upd H p (.tup (xs++ys))))
theorem Vals.HC{xs:List V}{us:List i_}(r:Vals xs us):us=[]↔xs=[]:=by
 cases r with
 |nil=>simp
 |cons _ _=>simp
theorem NB:uz X (binaryOp .Add) (QG X.K):=by
 intro pins s σ H x y v u Q I rx ry h;obtain⟨a,b,xs,ys,rfl,rfl,ha,hb,hx,hz,q1,q2⟩:=h;cases rx;cases ry;obtain⟨its,r1,p1,_⟩:=I.tuple ha;obtain⟨its2,r2,p2,_⟩:=I.tuple hb;refine HT.Us p1 p2 (λz=>hx (r1.HC.mp z)) (λz=>⟨.ref a,H,I,Y,q1 (r2.HC.mp z)⟩) (λz=>?_) (by rw[←r1.length,←r2.length];exact hz);refine⟨.ref s.heap.objs.size,_,I.laid (t':=s.toks) (o:=.tup (xs++ys)) (λb ob q=>k_ _ q) (j_ _) ?_,Y,q2 (λw=>z (r2.HC.mpr w)) _ (I.hok.fresh (j_ _))⟩;exact⟨by rw[A_];exact hz,_,r1.append r2,IsTup.new _ _⟩
end
end
section
noncomputable def Rc(n:Nat)(i:Int):Option Nat:=if 0<=i then(if i<n then some i.toNat else none)else if -(n:Int)<=i then some (i+n).toNat else none
noncomputable def MP{α:Type}(xs:List α)(i:Int):Option α:=(Rc xs.length i).bind λj=>xs[j]?
theorem NF{n:Nat}{i:Int}{j:Nat}(h:Rc n i=some j):seqIndex? i n=some j/\j<n/\ -(n:Int)<=i/\i<n:=by
 unfold Rc at h;by_cases h0:0<=i
 ·rw[if_pos h0]at h;by_cases h1:i<n
  ·rw[if_pos h1]at h;have e:i.toNat=j:=V_ h;exact⟨by rw[seqIndex_of h0 h1,e],by omega,by omega,h1⟩
  ·rw[if_neg h1]at h;cases h
 ·rw[if_neg h0]at h;by_cases h1: -(n:Int)<=i
  ·rw[if_pos h1]at h;have e:(i+n).toNat=j:=V_ h;exact⟨by rw[seqIndex_neg (by omega) h1,e],by omega,h1,by omega⟩
  ·rw[if_neg h1]at h;cases h
theorem Im{α:Type}{xs:List α}{i:Int}{v:α}(h:MP xs i=some v):∃j,seqIndex? i xs.length=some j/\xs[j]? =some v/\j<xs.length/\ -(xs.length:Int)<=i/\i<xs.length:=by
 unfold MP at h
 cases e:Rc xs.length i with
 |none=>rw[e]at h;cases h
 |some j =>
  rw[e]at h;obtain⟨h1,h2,h3,h4⟩:=NF e;exact⟨j,h1,h,h2,h3,h4⟩
theorem cG{α:Type}{xs:List α}{j:Nat}{v:α}(h:xs[j]? =some v):MP xs (j:Int)=some v:=by
 have hj:j<xs.length:=(q_.mp h).1;have e:Rc xs.length (j:Int)=some j:=by
  unfold Rc;rw[if_pos (by omega),if_pos (by omega)];simp
 unfold MP;rw[e];exact h
theorem K2{α:Type}(xs:List α)(v:α):MP (xs++[v]) (-1)=some v:=by
 have hl:(xs++[v]).length=xs.length+1:=by simp
 have e:Rc (xs++[v]).length (-1)=some xs.length:=by
  unfold Rc;rw[hl,if_neg (by decide),if_pos (by omega)];congr 1;omega
 unfold MP;rw[e];show(xs++[v])[xs.length]? =some v;simp
def Uz(b:Expr):Prop:=∀o i,subscripted b false o i=operate [o,i] (getItem o i)
def Sg(X:Cx)(r:R2):Prop :=
 ∀(value slice:Expr) (pins:List (g_×qa0)) (s:p_) (σ:St) (H:Hp) (x y:V) (v u:i_) (Q:VK),Inv X pins σ H s->RelV x v->RelV y u->r x y H Q →
  subscripted slice false v u=operate [v,u] (getItem v u)->N_ (model X.prog X.w) X.A (subscriptTail value slice v u) (EP X pins σ Q) X.xe s
def MtR(X:Cx)(id:String)(r:V->List V->Hp->VK->Prop):Prop :=
 ∀(pins:List (g_×qa0)) (s:p_) (σ:St) (H:Hp) (x:V) (xs:List V) (v:i_) (us:List i_) (Q:VK),Inv X pins σ H s->RelV x v->Vals xs us->r x xs H Q →
  N_ (model X.prog X.w) X.A (call (.builtin id) (v::us)) (EP X pins σ Q) X.xe s
section
variable{X:Cx}{a b:Expr}{ta tb:TE}{pos:qcd}
theorem Sg.or{r r':R2}(h:Sg X r)(h':Sg X r'):Sg X (λx y H Q=>r x y H Q\/r' x y H Q):=by
 intro value slice pins s σ H x y v u Q I rx ry q hs;rcases q with q|q
 ·exact h value slice pins s σ H x y v u Q I rx ry q hs
 ·exact h' value slice pins s σ H x y v u Q I rx ry q hs
theorem bu{r:R2}(hr:Sg X r)(ha:PE X a ta)(hb:PE X b tb)(hs:Uz b):PE X (.Subscript a b pos) (tOp r ta tb):=by
 intro pins s σ H Q I h;exact Subscript_ (Zh ha hb I h λv u s2 x y H2 I2 rx ry q=>hr a b pins s2 σ H2 x y v u Q I2 rx ry q (hs _ _))
def Yl(K:PySem.W.Frag):R2:=λx y H Q=>yj λp xs i v=>x= .ref p/\y= .int i/\bY K H p xs/\MP xs i=some v/\Q v H
def Yk(K:PySem.W.Frag):R2:=λx y H Q=>yj λp xs i v=>x= .ref p/\y= .int i/\eK K H p xs/\MP xs i=some v/\Q v H
def aan:R2:=λx y H Q=>rG λz i c=>x= .str z/\y= .int i/\z.length<=z_/\MP z.cps.toList i=some c/\Q (.str ⟨#[c]⟩) H
theorem cj:Sg X (Yl X.K):=by
 intro value slice pins s σ H x y v u Q I rx ry h hs;obtain⟨p,xs,i,z,rfl,rfl,hq,he,q⟩:=h;cases rx;obtain⟨t,rfl⟩:=ry;obtain⟨its,r,pl,hz⟩:=I.list hq;obtain⟨j,h1,h2,h3,h4,h5⟩:=Im he;obtain⟨w,ew,rw'⟩:=r.get h2;have hl:=r.length;have hn:=DV;have fin:EP X pins σ Q w s:=⟨z,H,I,rw',q⟩;by_cases h0:0<=i
 ·have hj:i.toNat=j:=by
   rw[seqIndex_of h0 h5]at h1;exact V_ h1
  exact item_listR pl.isList h0 (by omega) (by rw[hj];simpa using ew) fin hs
 ·have hj:(i+(its.toArray.size:Int)).toNat=j:=by
   rw[seqIndex_neg (by omega) h4]at h1;rw[u_,←hl];exact V_ h1
  exact subscriptTail_builtinR (x:=w) pl.isList.typeIs slot_list_getitem.lookup
   (wpAny_getItem_list_neg (Q:=λr s'=>r=w/\EP X pins σ Q r s') pl.isList (by omega) (by rw[u_]<;>omega) (by omega) (by rw[hj];simpa using ew) ⟨rfl,fin⟩) hs
theorem cQ:Sg X (Yk X.K):=by
 intro value slice pins s σ H x y v u Q I rx ry h hs;obtain⟨p,xs,i,z,rfl,rfl,hq,he,q⟩:=h;cases rx;obtain⟨t,rfl⟩:=ry;obtain⟨its,r,pl,hz⟩:=I.tuple hq;obtain⟨j,h1,h2,h3,h4,h5⟩:=Im he;obtain⟨w,ew,rw'⟩:=r.get h2;have hl:=r.length;have hn:=DV;have fin:EP X pins σ Q w s:=⟨z,H,I,rw',q⟩;exact subscriptTail_builtinR (x:=w) pl.typeIs slot_tuple_getitem.lookup
  (getItem_tuple (j:=j) (Q:=λr s'=>r=w/\EP X pins σ Q r s') pl (by omega) (by omega) (by rw[u_,←hl];exact h1) (by simpa using ew) ⟨rfl,fin⟩) hs
theorem wX:Sg X aan:=by
 intro value slice pins s σ H x y v u Q I rx ry h hs;obtain⟨z,i,c,rfl,rfl,hz,he,q⟩:=h;obtain⟨t,rfl⟩:=rx;obtain⟨t',rfl⟩:=ry;obtain⟨j,h1,h2,h3,h4,h5⟩:=Im he;have hl:z.cps.toList.length=z.length:=by simp[Str.length]
 rw[hl]at h1 h4 h5;have hn:=DV;exact tail_any (typeIs_str s z t) slot_str_getitem.lookup (getItem_str (c:=c) (by
  have e1:decide (i< -(2 ^ 63:Int))=false:=decide_eq_false (by omega);have e2:decide (i>=2 ^ 63)=false:=decide_eq_false (by omega);rw[e1,e2,Bool.or_false]) (by rw[h1];simpa using h2) ⟨.str ⟨#[c]⟩,H,I.tok _,⟨_,rfl⟩,q⟩) hs
def rIx(K:PySem.W.Frag):R2:=λx y H Q=>Yl K x y H Q\/Yk K x y H Q\/aan x y H Q
theorem DY:Sg X (rIx X.K):=cj.or (cQ.or wX)
theorem Mq(its:List i_)(n j:Nat)(u:i_):Obj.mapSeq (·.setIfInBounds j u) { cls:=.type "list",data:=.seq its.toArray n }={ cls:=.type "list",data:=.seq (its.set j u).toArray n }:=by
 simp[Obj.mapSeq]
theorem Inv.lst{pins:List (g_×qa0)}{σ:St}{H:Hp}{s:p_}{p:g_}{xs:List V}(I:Inv X pins σ H s)(h:H p=some (.lst xs)):
  fD λ(its:List i_) (n:Nat)=>Vals xs its/\s.heap.get? p=some { cls:=.type "list",data:=.seq its.toArray n }/\xs.length<=z_:=by
 obtain⟨z,its,n,r,e⟩:=I.hok p _ h;exact⟨its,n,r,e,z⟩
theorem Inv.Yz{pins:List (g_×qa0)}{σ:St}{H:Hp}{s:p_}{p:g_}{xs ys:List V}{its its':List i_}{n n':Nat}{f:qa0->qa0}(I:Inv X pins σ H s)(h:H p=some (.lst xs))
  (ho:s.heap.get? p=some { cls:=.type "list",data:=.seq its.toArray n }) (hf:f { cls:=.type "list",data:=.seq its.toArray n }={ cls:=.type "list",data:=.seq its'.toArray n' }) (r:Vals ys its') (hz:ys.length<=z_) (t:Nat) (ht:s.toks<=t:=by first|exact j_ _|exact qaw _|assumption|omega) :
  Inv X pins σ (upd H p (.lst ys)) { s with heap:=s.heap.update p f,toks:=t }:=by
 have e:(s.heap.update p f).get? p=some { cls:=.type "list",data:=.seq its'.toArray n' }:=by
  rw[qaH f ho (by rw[hf]<;>rfl),hf]
 refine I.write (x:=p) (e:=p) (by rw[h];trivial) (.inl Y) (λb u hb q=>(qav _ _ (Ne.symm hb)).trans q) ⟨_,e⟩ ?_;exact⟨hz,its',n',r,e⟩
def aam:V->V->V->Hp->(Hp->Prop)->Prop:=λo i v H Q=>yj λp xs k j=>o= .ref p/\i= .int k/\H p=some (.lst xs)/\Rc xs.length k=some j/\Q (upd H p (.lst (xs.set j v)))
theorem set_list:acf X aam:=by
 intro pins s σ H o i v ov iv u Q I ro ri rv h;obtain⟨p,xs,k,j,rfl,rfl,hp,hj,q⟩:=h;cases ro;obtain⟨t,rfl⟩:=ri;obtain⟨its,n,r,ho,hz⟩:=I.lst hp;obtain⟨h1,h2,h3,h4⟩:=NF hj;have hl:=r.length;have hn:=DV;have I':Inv X pins σ (upd H p (.lst (xs.set j v))) { s with heap:=s.heap.update p (Obj.mapSeq (·.setIfInBounds j u)) } :=
  I.Yz hp ho (Mq its n j u) (r.set rv j) (by rw[qbh];exact hz) s.toks
 by_cases h0:0<=k
 ·have hk:k.toNat=j:=by
   rw[seqIndex_of h0 h4]at h1;exact V_ h1
  exact PySem.W.ki_setAt ho h0 (by omega) (by rw[u_,←hl];exact h4) (by rw[hk];exact⟨_,I',q⟩)
 ·have hk:(k+(its.toArray.size:Int)).toNat=j:=by
   rw[seqIndex_neg (by omega) h3]at h1;rw[u_,←hl];exact V_ h1
  exact PySem.W.ki_setBack ho (by omega) (by rw[u_,←hl];exact h3) (by omega) (by rw[hk];exact⟨_,I',q⟩)
theorem GU(lo hi:Option Int)(n:Nat):(sliceBounds lo hi none n).1=((HT.qV n 0 lo:Nat):Int)/\(sliceBounds lo hi none n).2.1=((HT.qV n n hi:Nat):Int)/\(sliceBounds lo hi none n).2.2=1:=by
 refine⟨?_,?_,Y⟩
 ·cases lo with
  |none=>simp[sliceBounds,HT.qV]
  |some i =>
   simp only[sliceBounds,HT.qV,Option.getD_none,show(1:Int)>0 by decide,if_true];by_cases h:i<0
   ·simp only[h,if_true]<;>omega
   ·simp only[h,if_false]<;>omega
 ·cases hi with
  |none=>simp[sliceBounds,HT.qV]
  |some i =>
   simp only[sliceBounds,HT.qV,Option.getD_none,show(1:Int)>0 by decide,if_true];by_cases h:i<0
   ·simp only[h,if_true]<;>omega
   ·simp only[h,if_false]<;>omega
theorem EJ(its:List i_)(lo hi:Option Int):slicePick its.toArray lo hi none=((its.drop (HT.qV its.length 0 lo)).take (HT.qV its.length its.length hi-HT.qV its.length 0 lo)).toArray:=by
 obtain⟨h1,h2,h3⟩:=GU lo hi its.toArray.size;unfold slicePick;rw[h1,h2,h3];simp only[sliceRange_one,pick_run,u_]<;>rfl
def afn(K:PySem.W.Frag):V->Option Int->Option Int->Hp->VK->Prop:=λx lo hi H Q=>fD λa xs=>x= .ref a/\bY K H a xs/\∀p,H p=none->Q (.ref p) (upd H p (.lst (vX xs lo hi)))
theorem SV:SlR X (afn X.K):=by
 intro pins s σ H x v vl vu lo hi sl Q I rx hs pl pu h;obtain⟨a,xs,rfl,hx,q⟩:=h;cases rx;obtain⟨its,r,ht,hz⟩:=I.list hx;have hlen:=r.length;refine⟨"list",_,slot_list_getitem.lookup,ht.isList.typeIs,?_⟩;refine wpAny_getItem_list_slice ht.isList hs pl pu .none (by simp) ?_ (by rw[u_]<;>omega);rw[EJ,←hlen];refine⟨.ref s.heap.objs.size,_,I.laid (t':=s.toks) (o:=.lst (vX xs lo hi)) (λb ob q=>k_ _ q) (j_ _) ?_,Y,q _ (I.hok.fresh (j_ _))⟩;exact⟨m_ (w9 xs lo hi) hz,_,0,(r.drop (HT.qV xs.length 0 lo)).take (HT.qV xs.length xs.length hi-HT.qV xs.length 0 lo),H_ _ Y⟩
noncomputable def rm:V->Bool
 | .lV=>true
 | .bl _=>true
 | .int _=>true
 | .str _=>true
 |_=>false
noncomputable def Lm:V->V->Bool
 | .lV,.lV=>true
 | .bl a,.bl b=>a==b
 | .bl a,.int b=>(if a then 1 else 0)==b
 | .int a,.bl b=>a==(if b then 1 else 0)
 | .int a,.int b=>a==b
 | .str a,.str b=>a==b
 |_,_=>false
theorem RH{A:qam}{s:p_}{y x:V}{u v:i_}(ry:RelV y u)(rx:RelV x v)(fy:rm y=true)(fx:rm x=true):SeqAt.EqAt A s u v (Lm y x):=by
 cases y with
 |lV =>
  cases ry
  cases x with
  |lV=>cases rx;exact SeqAt.EqAt.same _
  |bl b=>cases rx;exact SeqAt.EqAt.none_bool b
  |int b=>obtain⟨t,rfl⟩:=rx;exact SeqAt.EqAt.none_int b t
  |str b=>obtain⟨t,rfl⟩:=rx;exact SeqAt.EqAt.none_str b t
  |_=>exact absurd (show false=true from fx) O_
 |bl a =>
  cases ry
  cases x with
  |lV=>cases rx;exact SeqAt.EqAt.bool_none a
  |bl b=>cases rx;exact SeqAt.EqAt.bool_bool a b
  |int b=>obtain⟨t,rfl⟩:=rx;exact SeqAt.EqAt.bool_int a b t
  |str b=>obtain⟨t,rfl⟩:=rx;exact SeqAt.EqAt.bool_str a b t
  |_=>exact absurd (show false=true from fx) O_
 |int a =>
  obtain⟨t',rfl⟩:=ry
  cases x with
  |lV=>cases rx;exact SeqAt.EqAt.int_none a t'
  |bl b=>cases rx;exact SeqAt.EqAt.int_bool a t' b
  |int b=>obtain⟨t,rfl⟩:=rx;exact SeqAt.EqAt.int_int a t' b t
  |str b=>obtain⟨t,rfl⟩:=rx;exact SeqAt.EqAt.int_str a t' b t
  |_=>exact absurd (show false=true from fx) O_
 |str a =>
  obtain⟨t',rfl⟩:=ry
  cases x with
  |lV=>cases rx;exact SeqAt.EqAt.str_none a t'
  |bl b=>cases rx;exact SeqAt.EqAt.str_bool a t' b
  |int b=>obtain⟨t,rfl⟩:=rx;exact SeqAt.EqAt.str_int a t' b t
  |str b=>obtain⟨t,rfl⟩:=rx;exact SeqAt.EqAt.str_str a t' b t
  |_=>exact absurd (show false=true from fx) O_
 |_=>exact absurd (show false=true from fy) O_
noncomputable def Uj(x:V)(u:i_):Bool:=match u with
 | .none=>Lm .lV x
 | .bool b=>Lm (.bl b) x
 | .int i _=>Lm (.int i) x
 | .str z _=>Lm (.str z) x
 |_=>false
theorem RG{x y:V}{u:i_}(r:RelV y u)(f:rm y=true):Uj x u=Lm y x:=by
 cases y with
 |lV=>cases r;rfl
 |bl b=>cases r;rfl
 |int i=>obtain⟨t,rfl⟩:=r;rfl
 |str z=>obtain⟨t,rfl⟩:=r;rfl
 |_=>exact absurd (show false=true from f) O_
theorem Io{x:V}:∀{xs:List V} {us:List i_},Vals xs us->xs.all rm=true->us.any (Uj x)=xs.any λy=>Lm y x
 |_,_,.nil,_=>rfl
 |y::xs,u::us,.cons r t,f=>by
  rw[List.all_cons,R_]at f;rw[qcA,qcA,RG r f.1,Io t f.2]
theorem DR{A:qam}{s:p_}{x:V}{v:i_}(rx:RelV x v)(fx:rm x=true):∀{xs:List V} {us:List i_},Vals xs us->xs.all rm=true->∀u∈us,SeqAt.EqAt A s u v (Uj x u)
 |_,_,.nil,_=>λu hu=>by cases hu
 |y::xs,u::us,.cons r t,f=>λu' hu=>by
  rw[List.all_cons,R_]at f;rcases S_.mp hu with rfl|hu
  ·rw[RG r f.1];exact RH r rx f.1 fx
  ·exact DR rx fx t f.2 u' hu
noncomputable def inV(x:V)(xs:List V):Bool:=xs.any λy=>Lm y x
def rIn(K:PySem.W.Frag)(neg:Bool):R2:=λx y H Q=>fD λp xs=>y= .ref p/\(bY K H p xs\/eK K H p xs)/\rm x=true/\xs.all rm=true/\Q (.bl (if neg then !inV x xs else inV x xs)) H
theorem Hl:uz X (compareOp .NotIn) (rIn X.K true):=by
 intro pins s σ H x y v u Q I rx ry h;obtain⟨p,xs,rfl,hq,fx,fs,q⟩:=h;cases ry;rcases hq with hq|hq
 ·obtain⟨its,r,pl,hz⟩:=I.list hq;refine SeqAt.notIn_listAt (Uj x) pl.isList (λw hw=>DR rx fx r fs w (by simpa using hw)) ⟨.bl _,H,I,Y,?_⟩;rw[show its.toArray.any (Uj x)=its.any (Uj x) by simp,Io r fs];exact q
 ·obtain⟨its,r,pl,hz⟩:=I.tuple hq;refine SeqAt.notIn_tupleAt (Uj x) pl (λw hw=>DR rx fx r fs w (by simpa using hw)) ⟨.bl _,H,I,Y,?_⟩;rw[show its.toArray.any (Uj x)=its.any (Uj x) by simp,Io r fs];exact q
theorem Hj:uz X (compareOp .NotIn) (λx y H Q=>fD λi j=>x= .str i/\y= .str j/\Q (.bl (!(!(Builtin.Str.occurrences j i 0 j.length 1).isEmpty))) H):=by
 intro pins s σ H x y v u Q I rx ry h;obtain⟨i,j,rfl,rfl,q⟩:=h;obtain⟨t,rfl⟩:=rx;obtain⟨t',rfl⟩:=ry;exact notIn_str ⟨.bl _,H,I,Y,q⟩
theorem Ad:rC X (.type "list") (λxs H Q=>fD λp ys=>xs=[.ref p]/\(bY X.K H p ys\/eK X.K H p ys)/\∀l,H l=none->Q (.ref l) (upd H l (.lst ys))):=by
 intro pins s σ H xs us Q I r h;obtain⟨p,ys,rfl,hq,q⟩:=h;obtain⟨u,rfl,rx⟩:=vals1 r;cases rx;have fin:∀(its:List i_),Vals ys its->ys.length<=z_->∀(h':qad) (c':Nat),(∀b o',s.heap.get? b=some o'->h'.get? b=some o') →
   h'.get? s.heap.objs.size=some { cls:=.type "list",dict:=none,data:=.seq its.toArray c',slots:= #[] }->EP X pins σ Q (.ref s.heap.objs.size) { s with heap:=h' }:=λits r' hz h' c' kp e =>
  ⟨.ref s.heap.objs.size,_,I.laid (t':=s.toks) kp (j_ _) (show eN X.prog X.w _ h' _ (.lst ys) from⟨hz,its,c',r',e⟩),rfl,q _ (I.hok.fresh (j_ _))⟩
 rcases hq with hq|hq
 ·obtain⟨its,r',pl,hz⟩:=I.list hq;have hlen:=r'.length;obtain⟨o,ho,hc,n,hd⟩:=pl.isList;exact call_list_seq p (.inl Y) ho hc hd (λh' c' kp e=>fin its r' hz h' c' kp e) (by simp only[u_]<;>omega)
 ·obtain⟨its,r',pl,hz⟩:=I.tuple hq;have hlen:=r'.length;obtain⟨o,ho,hc,n,hd⟩:=pl;exact call_list_seq p (.inr Y) ho hc hd (λh' c' kp e=>fin its r' hz h' c' kp e) (by simp only[u_]<;>omega)
theorem qN:rC X (.type "tuple") (λxs H Q=>fD λp ys=>xs=[.ref p]/\((bY X.K H p ys/\∀l,H l=none->Q (.ref l) (upd H l (.tup ys)))\/(eK X.K H p ys/\Q (.ref p) H))):=by
 intro pins s σ H xs us Q I r h;obtain⟨p,ys,rfl,h⟩:=h;obtain⟨u,rfl,rx⟩:=vals1 r;cases rx;rcases h with⟨hq,q⟩|⟨hq,q⟩
 ·obtain⟨its,r',pl,hz⟩:=I.list hq;have hlen:=r'.length;refine call_tuple_list pl.isList (λh' kp=>?_) (by simp only[u_]<;>omega);have I1:Inv X pins σ H { s with heap:=h' }:=I.kept (t':=s.toks) kp;have I2:Inv X pins σ (upd H h'.objs.size (.tup ys)) { s with heap:=h'.push { cls:=.type "tuple",data:=.seq its.toArray } } :=
   I1.laid (t':=s.toks) (λb o e=>k_ _ e) (j_ _) (show eN X.prog X.w _ _ _ (.tup ys) from⟨hz,its,r',IsTup.new _ _⟩)
  exact⟨.ref h'.objs.size,_,I2,Y,q _ (I1.hok.fresh (j_ _))⟩
 ·obtain⟨its,r',pl,hz⟩:=I.tuple hq;exact call_tuple_same pl ⟨.ref p,H,I,Y,q⟩
def tyV(K:PySem.W.Frag)(T:String)(x:V)(H:Hp):Prop:=match x with
 | .str _=>T= "str"
 | .int _=>T= "int"
 | .ref p=>(T= "list" /\∃xs,bY K H p xs)\/(T= "tuple" /\∃o,K.lookup p=some o/\o.cls= .type "tuple" /\o.dict=none) ∨
   (T= "dict" /\((∃kvs,H p=some (.dK kvs))\/∃kvs,H p=some (.dT kvs)))\/(T= "set" /\fD λS n=>H p=some (.set S n))
 |_=>False
theorem LA{pins:List (g_×qa0)}{σ:St}{H:Hp}{s:p_}{T:String}{x:V}{v:i_}(I:Inv X pins σ H s)(r:RelV x v)(ty:tyV X.K T x H):
  s.TypeIs v T/\∀a,v= .ref a->∃ob,s.heap.get? a=some ob/\ob.dict=none:=by
 cases x with
 |str z =>
  obtain⟨t,rfl⟩:=r;cases (show T= "str" from ty)
  exact⟨typeIs_str s z t,λ_ e=>nomatch e⟩
 |int i =>
  obtain⟨t,rfl⟩:=r;cases (show T= "int" from ty)
  exact⟨typeIs_int s i t,λ_ e=>nomatch e⟩
 |ref p =>
  cases r;rcases ty with⟨rfl,xs,hq⟩|⟨rfl,o,hk,hc,hd⟩|⟨rfl,hk⟩|⟨rfl,S,n,hk⟩
  ·obtain⟨its,_,pl,_⟩:=I.list hq;refine⟨pl.isList.typeIs,λa e=>?_⟩;cases e;obtain⟨o,n,e,c,hd,_⟩:=pl;exact⟨o,e,hd⟩
  ·refine⟨⟨o,I.tu p o hk,hc⟩,λa e=>?_⟩;cases e;exact⟨o,I.tu _ o hk,hd⟩
  ·have z:∃o,s.heap.get? p=some o/\o.ExactDict:=by
    rcases hk with⟨kvs,hk⟩|⟨kvs,hk⟩
    ·obtain⟨_,_,_,_,o,_,_,e,ex,_⟩:=I.hok p _ hk;exact⟨o,e,ex⟩
    ·obtain⟨_,_,_,_,o,_,_,e,ex,_⟩:=I.hok p _ hk;exact⟨o,e,ex⟩
   obtain⟨o,e,ex⟩:=z;refine⟨⟨o,e,ex.1⟩,λa e2=>?_⟩;cases e2;exact⟨o,e,ex.2.1⟩
  ·obtain⟨o,_,_,_,e,ex,_⟩:=I.hok p _ hk;refine⟨⟨o,e,ex.1⟩,λa e2=>?_⟩;cases e2;exact⟨o,e,ex.2.1⟩
 |_=>exact qaz ty
def ae7(K:PySem.W.Frag)(T:String)(r:V->List V->Hp->VK->Prop)(to:TE):TE:=λσ H Q=>to σ H λx H1=>tyV K T x H1/\r x [] H1 Q
def tBM(K:PySem.W.Frag)(T:String)(r:V->List V->Hp->VK->Prop)(to:TE)(t:TA):TE:=λσ H Q=>to σ H λx H1=>tyV K T x H1/\t σ H1 λxs H2=>r x xs H2 Q
variable{o e:Expr}{es:List Expr}{to:TE}{t:TA}{name:r_}{apos cpos:qcd}{T id:String}{r:V->List V->Hp->VK->Prop}
theorem QS (pa:PlainAttrs T)(slot:Slot T name id)(hty:typeOf (.builtin id)=pure (.type "method_descriptor"))(hm:MtR X id r)(ho:PE X o to)
  (hbase:attributeBase o name X.env (eval o X.env)=eval o X.env:=by rfl) (hline:(apos.endLine==cpos.line)=true:=by rfl):PE X (.Call (.Attribute o name apos) [] [] cpos) (ae7 X.K T r to):=by
 intro pins s σ H Q I h;refine wpAny_Call_method0_late hbase hline (iB (ho pins s σ H _ I h) λv s1 ⟨x,H1,I1,r1,ty,q1⟩=>?_);obtain⟨h1,h2⟩:=LA I1 r1 ty;exact⟨T,id,pa,slot,hty,h1,h2,qbV Y (PySem.evalArgs_none (hm pins s1 σ H1 x [] v [] Q I1 r1 .nil q1))⟩
theorem tS (pa:PlainAttrs T)(slot:Slot T name id)(hty:typeOf (.builtin id)=pure (.type "method_descriptor"))(hm:MtR X id r)(ho:PE X o to)(ha:PA X (e::es) t)
  (hbase:attributeBase o name X.env (eval o X.env)=eval o X.env:=by rfl)
  (hfew:((backTo cpos (Z_ (e::es) X.env)).all (λx=>!x.1)&&(backToKw cpos (keywordEach [] X.env)).all (λx=>x.1.isSome)
   && decide ((e::es).length+([]:List Keyword).length+(if([]:List Keyword).isEmpty then 0 else 1)<30))=true:=by rfl)
  (hline:(apos.endLine==cpos.line)=true:=by rfl) (hs:Z_ (e::es) X.env=(false,eval e X.env)::Z_ es X.env:=by rfl) (hplain:(backTo cpos (Z_ es X.env)).any (·.1)=false:=by rfl) :
  PE X (.Call (.Attribute o name apos) (e::es) [] cpos) (tBM X.K T r to t):=by
 intro pins s σ H Q I h;refine wpAny_Call_method_late hbase hfew hline Y (iB (ho pins s σ H _ I h) λv s1 ⟨x,H1,I1,r1,ty,q1⟩=>?_);obtain⟨h1,h2⟩:=LA I1 r1 ty;refine⟨T,id,pa,slot,hty,h1,h2,?_⟩;have hA:=ha cpos pins s1 σ H1 _ I1 q1;rw[hs]at hA ⊢;refine qbV (by show(false||(backTo cpos (Z_ es X.env)).any (·.1))=false;rw[hplain]<;>rfl) (qb9 ?_);exact iB hA λus s2 ⟨vs,H2,I2,r2,q2⟩=>hm pins s2 σ H2 x vs v us Q I2 r1 r2 q2
end
end
section
def MtM(X:Cx)(id:String)(r:V->List V->Hp->VK->Prop):Prop :=
 ∀(pins:List (g_×qa0)) (s:p_) (σ:St) (H:Hp) (x:V) (xs:List V) (v:i_) (us:List i_) (Q:VK),Inv X pins σ H s->RelV x v->Vals xs us->r x xs H Q →
  N_ (model X.prog X.w) X.A (call (.builtin id) (v::us)) (EP X pins σ Q) X.xe s
theorem Vals.one:∀{x:V} {us:List i_},Vals [x] us->∃u,us=[u]/\RelV x u
 |_,_,.cons r .nil=>⟨_,rfl,r⟩
theorem Vals.zero:∀{us:List i_},Vals [] us->us=[]
 |_,.nil=>rfl
theorem Vals.reverse{xs:List V}{us:List i_}(h:Vals xs us):Vals xs.reverse us.reverse:=by
 induction h with
 |nil=>exact .nil
 |cons r t ih=>rw[List.reverse_cons,List.reverse_cons];exact Vals.append ih (.cons r .nil)
theorem Vals.rep{xs:List V}{us:List i_}(h:Vals xs us):∀k:Nat,Vals (y_ k xs).flatten (y_ k us).flatten
 | 0=>.nil
 |k+1=>by
  rw[qat,qat,qaO,qaO];exact Vals.append h (Vals.rep h k)
theorem foldl_rep(its:List i_):∀(k:Nat) (acc:List i_),
  List.foldl (λx1 x2=>x1++x2) acc.toArray (y_ k its.toArray)=(acc++(y_ k its).flatten).toArray
 | 0,acc=>by simp
 |k+1,acc=>by
  have e:acc.toArray++its.toArray=(acc++its).toArray:=by simp
  have e2:(acc++its)++(y_ k its).flatten=acc++(y_ (k+1) its).flatten:=by
   rw[qat,qaO,qa3]
  rw[←e2,←foldl_rep its k (acc++its),←e,qat,qb1]
section
variable{X:Cx}{pins:List (g_×qa0)}{σ:St}{H:Hp}{s:p_}{l b:g_}{xs ys zs:List V}
theorem Inv.YA{its its':List i_}{n:Nat}{f:Array i_->Array i_}{t':Nat}(I:Inv X pins σ H s)(hH:H l=some (.lst xs))
  (e:s.heap.get? l=some { cls:=.type "list",data:=.seq its.toArray n }) (hf:f its.toArray=its'.toArray) (hv:Vals ys its') (hz:ys.length<=z_) (ht:s.toks<=t':=by first|exact j_ _|exact qaw _|assumption|omega) :
  Inv X pins σ (upd H l (.lst ys)) { s with heap:=s.heap.update l (Obj.mapSeq f),toks:=t' }:=by
 have q:=PySem.IsL.update e f;rw[hf]at q;refine I.write (x:=l) (e:=l) (by rw[hH];exact trivial) (.inl Y) (λb' u hb hu=>(qav s.heap (Obj.mapSeq f) (Ne.symm hb)).trans hu) ⟨_,q⟩ ?_;exact⟨hz,its',_,hv,q⟩
theorem Inv.aaE{its:List i_}{t':Nat}(I:Inv X pins σ H s)(hv:Vals ys its)(hz:ys.length<=z_)(ht:s.toks<=t':=by first|exact j_ _|exact qaw _|assumption|omega):
  Inv X pins σ (upd H s.heap.objs.size (.lst ys)) { s with heap:=s.heap.push { cls:=.type "list",data:=.seq its.toArray },toks:=t' } :=
 I.laid (λ_ _ q=>k_ _ q) (j_ _) ⟨hz,its,0,hv,H_ _ rfl⟩
theorem Inv.fresh(I:Inv X pins σ H s):H s.heap.objs.size=none:=I.hok.fresh (j_ _)
theorem Inv.OR(I:Inv X pins σ H s)(hH:H l=some (.lst xs)):xs.length<=z_/\fD λ(its:List i_) (n:Nat)=>Vals xs its/\xs.length=its.length/\s.heap.get? l=some { cls:=.type "list",data:=.seq its.toArray n }:=by
 obtain⟨z,its,n,r,e⟩:=I.hok l _ hH;exact⟨z,its,n,r,r.length,e⟩
theorem Kf{n:Nat}(h:n<=z_):qbH n=false:=by
 unfold qbH;exact decide_eq_false (by omega)
end
section
variable{X:Cx}
def S4:V->List V->Hp->VK->Prop:=λx vs H Q=>rG λl xs y=>x= .ref l/\vs=[y]/\H l=some (.lst xs)/\xs.length<z_/\Q .lV (upd H l (.lst (xs++[y])))
theorem k8:MtM X "list.append" S4:=by
 intro pins s σ H x vs v us Q I rx rv h;obtain⟨l,xs,y,rfl,rfl,hH,hz,q⟩:=h;cases rx;obtain⟨u,rfl,ru⟩:=rv.one;obtain⟨z,its,n,r,hl,e⟩:=I.OR hH;refine call_meets F.slot_list_append ⟨_,e,Y⟩ F.entry_list_append (F.args_list_append_2 _ _) (PySem.list_append l its.toArray n u (by rw[u_];omega)) ⟨e,?_⟩;refine⟨.lV,_,I.YA (its':=its++[u]) hH e (by simp) (r.append (.cons ru .nil)) ?_,Y,q⟩;rw[A_,qbw];omega
def S3:V->List V->Hp->VK->Prop:=λx vs H Q=>yj λl b xs zs=>x= .ref l/\vs=[.ref b]/\H l=some (.lst xs)/\H b=some (.lst zs)/\xs.length+zs.length<=z_/\Q .lV (upd H l (.lst (xs++zs)))
theorem OI:MtM X "list.extend" S3:=by
 intro pins s σ H x vs v us Q I rx rv h;obtain⟨l,b,xs,zs,rfl,rfl,hH,hB,hz,q⟩:=h;cases rx;obtain⟨u,rfl,ru⟩:=rv.one;cases ru;obtain⟨z,its,n,r,hl,e⟩:=I.OR hH;obtain⟨z2,its2,n2,r2,hl2,e2⟩:=I.OR hB;have hsz:its.toArray.size+its2.toArray.size<=z_:=by rw[u_,u_];omega
 have Rq:¬(!its.toArray.isEmpty&&qbH (its.toArray.size+its2.toArray.size))=true:=by
  rw[Kf hsz,qb_];exact O_
 refine call_meets F.slot_list_extend ⟨_,e,Y⟩ F.entry_list_extend (F.args_list_extend_2 _ _)
  (AutoSeq1.list_extend_list_list_0 l its.toArray n b its2.toArray n2 Rq (by rw[u_];omega) (by omega)) ⟨e,e2,?_⟩
 refine⟨.lV,_,I.YA (its':=its++its2) hH e (by simp) (r.append r2) ?_,Y,q⟩;rw[A_];omega
def QF:V->List V->Hp->VK->Prop:=λx vs H Q=>fD λl xs=>x= .ref l/\vs=[]/\H l=some (.lst xs)/\Q .lV (upd H l (.lst xs.reverse))
theorem DO:MtM X "list.reverse" QF:=by
 intro pins s σ H x vs v us Q I rx rv h;obtain⟨l,xs,rfl,rfl,hH,q⟩:=h;cases rx;have hus:=rv.zero;subst hus;obtain⟨z,its,n,r,hl,e⟩:=I.OR hH;refine call_meets F.slot_list_reverse ⟨_,e,Y⟩ F.entry_list_reverse (F.args_list_reverse_1 _) (AutoSeq1.list_reverse_list_0 l its.toArray n (by rw[u_];omega)) ⟨e,?_⟩;refine⟨.lV,_,I.YA (its':=its.reverse) hH e (by simp) r.reverse ?_,Y,q⟩;rw[List.length_reverse];omega
def afo:R2:=λx y H Q=>rG λl k xs=>x= .ref l/\y= .int k/\H l=some (.lst xs)/\ -(2 ^ 63)<=k/\k<2 ^ 63/\xs.length*k.toNat<=z_ ∧
 ∀p,H p=none->Q (.ref p) (upd H p (.lst (y_ k.toNat xs).flatten))
theorem len_rep{α:Type}(xs:List α)(k:Nat):(y_ k xs).flatten.length=k*xs.length:=by
 induction k with
 |zero=>simp
 |succ k ih=>rw[qat,qaO,A_,ih,Nat.succ_mul,Nat.add_comm]
theorem L6:uz X (binaryOp .Mult) afo:=by
 intro pins s σ H x y v u Q I rx ry h;obtain⟨l,k,xs,rfl,rfl,hH,h1,h2,hz,q⟩:=h;cases rx;obtain⟨t,rfl⟩:=ry;obtain⟨z,its,n,r,hl,e⟩:=I.OR hH;have hlen:its.toArray.size*k.toNat<=z_:=by rw[u_,←hl];exact hz
 have hcap:¬its.toArray.size*k.toNat>(2 ^ 63-1) / 8:=by
  have:(z_:Nat)<=(2 ^ 63-1) / 8:=by decide
  omega
 have hfit:¬(!Builtin.List.listFitsIndex k)=true:=by
  rw[fitsIndex_both h1 h2];exact O_
 have Rq:¬qbH (its.toArray.size*k.toNat)=true:=by
  rw[Kf hlen];exact O_
 have hnew:List.foldl (λx1 x2=>x1++x2) #[] (y_ (if its.toArray.isEmpty=true then 0 else k.toNat) its.toArray)=(y_ k.toNat its).flatten.toArray:=by
  have f0:∀m:Nat,List.foldl (λx1 x2=>x1++x2) #[] (y_ m its.toArray)=(y_ m its).flatten.toArray:=λm=>by
   have:=foldl_rep its m [];rw[List.nil_append]at this;exact this
  rw[f0]
  cases its with
  |nil=>simp
  |cons a r'=>rw[if_neg (by simp)]
 refine wpAny_binaryOp_repeat_ref (T:= "list") (U:= "int") (by decide) ⟨_,e,Y⟩ (λs'=>typeIs_int s' k t) noFill_list_mul F.fills_int_mul F.slot_int_rmul repeat_list F.slot_int_index.lookup
  (call_meets F.slot_int_rmul (typeIs_int s k t) F.entry_int_rmul (F.args_int_rmul_2 _ _) (int___rmul___int_list k t l its.toArray n)
   ⟨e,rfl,⟨_,e,rfl⟩,call_meets F.slot_list_mul ⟨_,e,rfl⟩ F.entry_list_mul (F.args_list_mul_2 _ _) (AutoListH.list___mul___list_int_3 l its.toArray n k t hfit hcap Rq) ⟨e,?_⟩⟩)
 rw[hnew];exact⟨.ref _,_,I.aaE (t':=s.toks) (r.rep k.toNat) (by rw[len_rep,Nat.mul_comm];exact hz),Y,q _ I.fresh⟩
end
section
variable{prog:I_}{w:W_}{A:qam}{E:i_->p_->Prop}{s:p_}
end
section
variable{X:Cx}
end
end
section
section
variable{κ:Type}[DecidableEq κ]
noncomputable def mq(kvs:List (κ×V))(k:κ):Option V:=(kvs.find? λkv=>decide (kv.1=k)).map (·.2)
noncomputable def putK(kvs:List (κ×V))(k:κ)(v:V):List (κ×V) :=
 if(kvs.any λkv=>decide (kv.1=k))=true then kvs.map (λkv=>if kv.1=k then(kv.1,v)else kv)else kvs++[(k,v)]
theorem gf{p:κ×V}{r:List (κ×V)}{k:κ}(e:p.1=k):mq (p::r) k=some p.2:=by simp[mq,qb2,e]
theorem gg{p:κ×V}{r:List (κ×V)}{k:κ}(e:¬p.1=k):mq (p::r) k=mq r k:=by simp[mq,qb2,e]
theorem zl(k:κ):∀kvs:List (κ×V),(kvs.any λkv=>decide (kv.1=k))=(mq kvs k).isSome
 |[]=>rfl
 |p::r=>by
  rw[qcA];by_cases e:p.1=k
  ·simp only[gf e,decide_eq_true e,Bool.true_or,Option.isSome_some]
  ·rw[gg e,decide_eq_false e,Bool.false_or];exact zl k r
theorem Je(k j:κ)(y:V):∀kvs:List (κ×V),mq (kvs.map λkv=>if kv.1=k then(kv.1,y)else kv) j=(mq kvs j).map λx=>if j=k then y else x
 |[]=>rfl
 |p::r=>by
  have ih:=Je k j y r;rw[qak];by_cases h:p.1=k
  ·rw[if_pos h];by_cases e:p.1=j
   ·rw[gf (p:=(p.1,y)) e,gf e,Option.map_some,if_pos (e.symm.trans h)]
   ·rw[gg (p:=(p.1,y)) e,gg e,ih]
  ·rw[if_neg h];by_cases e:p.1=j
   ·rw[gf (p:=p) e,gf e,Option.map_some,if_neg (λz=>h (e.trans z))]
   ·rw[gg (p:=p) e,gg e,ih]
theorem FT(k j:κ)(y:V):∀kvs:List (κ×V),mq kvs k=none->mq (kvs++[(k,y)]) j=if j=k then some y else mq kvs j
 |[],_=>by
  by_cases e:k=j
  ·rw[if_pos e.symm];exact gf (p:=(k,y)) e
  ·rw[if_neg (λz=>e z.symm)];exact gg (p:=(k,y)) e
 |p::r,hn=>by
  rw[List.cons_append];have hk:¬p.1=k:=λz=>by rw[gf z]at hn;cases hn
  rw[gg hk]at hn;have ih:=FT k j y r hn;by_cases e:p.1=j
  ·rw[gf e,gf e,if_neg (λz=>hk (e.trans z))]
  ·rw[gg e,gg e,ih]
theorem zk(kvs:List (κ×V))(k j:κ)(y:V):mq (putK kvs k y) j=if j=k then some y else mq kvs j:=by
 unfold putK;by_cases a:(kvs.any λkv=>decide (kv.1=k))=true
 ·rw[if_pos a,Je];rw[zl]at a;by_cases e:j=k
  ·obtain⟨x,hx⟩:=qbF.mp a;rw[if_pos e,e,hx,Option.map_some,if_pos rfl]
  ·rw[if_neg e]
   cases mq kvs j with
   |none=>rfl
   |some x=>rw[Option.map_some,if_neg e]
 ·rw[if_neg a];refine FT k j y kvs ?_;rw[zl]at a
  cases q:mq kvs k with
  |none=>rfl
  |some x=>rw[q]at a;exact(a Y).elim
theorem q9(kvs:List (κ×V))(k:κ)(v:V):(putK kvs k v).length<=kvs.length+1:=by
 unfold putK;split
 ·rw[f_];omega
 ·rw[A_,qac,List.length_nil];omega
theorem vD.xN{o:Option V}{u:Option i_}(r:vD o u):o.isSome=u.isSome:=by
 cases o with
 |none=>cases u with
  |none=>rfl
  |some _=>exact(show False from r).elim
 |some _=>cases u with
  |none=>exact(show False from r).elim
  |some _=>rfl
theorem KV.val{kvs:List (κ×V)}{vs:List (κ×i_)}(r:KV kvs vs)(k:κ):vD (mq kvs k) (valueAt vs k):=by
 unfold KV at r
 induction r with
 |nil=>exact True.intro
 | @cons p q ps qs h t ih =>
  obtain⟨h1,h2⟩:=h;by_cases e:p.1=k
  ·have e':q.1=k:=h1.symm.trans e;have b:valueAt (q::qs) k=some q.2:=by simp[valueAt,qb2,e']
   rw[gf e,b];exact h2
  ·have e':¬q.1=k:=λz=>e (h1.trans z);have b:valueAt (q::qs) k=valueAt qs k:=by simp[valueAt,qb2,e']
   rw[gg e,b];exact ih
theorem KV.any{kvs:List (κ×V)}{vs:List (κ×i_)}(r:KV kvs vs)(k:κ):(kvs.any λkv=>decide (kv.1=k))=vs.any λkv=>decide (kv.1=k):=by
 unfold KV at r
 induction r with
 |nil=>rfl
 |cons h t ih=>rw[qcA,qcA,ih,h.1]
theorem KV.repl{kvs:List (κ×V)}{vs:List (κ×i_)}(r:KV kvs vs)(k:κ){y:V}{u:i_}(ry:RelV y u):
  KV (kvs.map λkv=>if kv.1=k then(kv.1,y)else kv) (vs.map λkv=>if kv.1=k then(kv.1,u)else kv):=by
 unfold KV at r ⊢
 induction r with
 |nil=>exact .nil
 | @cons p q ps qs h t ih =>
  rw[qak,qak];refine .cons ?_ ih;obtain⟨h1,h2⟩:=h;by_cases e:p.1=k
  ·rw[if_pos e,if_pos (h1.symm.trans e)];exact⟨h1,ry⟩
  ·rw[if_neg e,if_neg (λz=>e (h1.trans z))];exact⟨h1,h2⟩
theorem KV.put{kvs:List (κ×V)}{vs:List (κ×i_)}(r:KV kvs vs)(k:κ){y:V}{u:i_}(ry:RelV y u):KV (putK kvs k y) (stored vs k u):=by
 unfold putK stored;rw[r.any k];by_cases e:(vs.any λkv=>decide (kv.1=k))=true
 ·rw[if_pos e,if_pos e];exact r.repl k ry
 ·rw[if_neg e,if_neg e];exact Paired.snoc r ⟨Y,ry⟩
theorem KV.length{kvs:List (κ×V)}{vs:List (κ×i_)}(r:KV kvs vs):kvs.length=vs.length:=Paired.length r
end
theorem Gi{P:I_}{w:W_}{k:Key}{u:i_}(r:RelV (kV k) u):(lW P w).is k u=true:=by
 cases k with
 |inl i=>obtain⟨t,e⟩:=(show ∃t,u=Value.int i t from r);subst e;exact Kg P w i t
 |inr x=>obtain⟨t,e⟩:=(show ∃t,u=Value.str x t from r);subst e;exact wL P w x t
theorem Gk{P:I_}{w:W_}:∀{ks:List Key} {us:List i_},Vals (ks.map kV) us->ItemsAre (lW P w) ks us
 |[],_,r=>by rw[List.map_nil]at r;cases r;exact .nil
 |k::ks,_,r=>by
  rw[qak]at r
  cases r with
  |cons h t=>exact .cons (Gi h) (Gk t)
noncomputable abbrev KT(H:Hp):List (List Key×V)->List (List Key×g_×i_)->Prop:=Paired λp q=>p.1=q.1/\H q.2.1=some (.tup (p.1.map kV))/\RelV p.2 q.2.2
theorem KT.val{H:Hp}{kvs:List (List Key×V)}{xs:List (List Key×g_×i_)}(r:KT H kvs xs)(k:List Key):vD (mq kvs k) ((atKey xs k).map (·.2)):=by
 induction r with
 |nil=>exact True.intro
 | @cons p q ps qs h t ih =>
  obtain⟨h1,_,h2⟩:=h;by_cases e:p.1=k
  ·have e':q.1=k:=h1.symm.trans e;have b:atKey (q::qs) k=some q.2:=by simp[atKey,qb2,e']
   rw[gf e,b];exact h2
  ·have e':¬q.1=k:=λz=>e (h1.trans z);have b:atKey (q::qs) k=atKey qs k:=by simp[atKey,qb2,e']
   rw[gg e,b];exact ih
theorem KT.repl{H:Hp}{kvs:List (List Key×V)}{xs:List (List Key×g_×i_)}(r:KT H kvs xs)(k:List Key){y:V}{u:i_}(ry:RelV y u):
  KT H (kvs.map λkv=>if kv.1=k then(kv.1,y)else kv) (xs.map (putAt k u)):=by
 induction r with
 |nil=>exact .nil
 | @cons p q ps qs h t ih =>
  rw[qak,qak];refine .cons ?_ ih;obtain⟨h1,h2,h3⟩:=h;unfold putAt;by_cases e:p.1=k
  ·rw[if_pos e,if_pos (h1.symm.trans e)];exact⟨h1,h2,ry⟩
  ·rw[if_neg e,if_neg (λz=>e (h1.trans z))];exact⟨h1,h2,h3⟩
theorem KT.put{H:Hp}{kvs:List (List Key×V)}{xs:List (List Key×g_×i_)}(r:KT H kvs xs)(k:List Key){b:g_}{y:V}{u:i_}(hb:H b=some (.tup (k.map kV)))(ry:RelV y u):
  KT H (putK kvs k y) (storedH xs k b u):=by
 have e:(kvs.any λkv=>decide (kv.1=k))=(atKey xs k).isSome:=by
  rw[zl,(r.val k).xN,Option.isSome_map]
 unfold putK storedH;rw[e];by_cases q:(atKey xs k).isSome=true
 ·rw[if_pos q,if_pos q];exact r.repl k ry
 ·rw[if_neg q,if_neg q];exact Paired.snoc r ⟨Y,hb,ry⟩
theorem KT.keeps{H H':Hp}{kvs:List (List Key×V)}{xs:List (List Key×g_×i_)}(r:KT H kvs xs)(ht:∀b ys,H b=some (.tup ys)->H' b=some (.tup ys)):KT H' kvs xs :=
 Paired.qa r λ_ _ z=>⟨z.1,ht _ _ z.2.1,z.2.2⟩
section
variable{P:I_}{w:W_}{H:Hp}{h:qad}{a:g_}
theorem UQ{u:HO}(ok:uV P w H h)(e:Rd H a u):eN P w H h a u:=e.ok ok
theorem NR{kvs:List (Key×V)}(ok:uV P w H h)(e:Rd H a (.dK kvs)):kvs.length<=z_/\(a==sysModules)=false/\∃vs,KV kvs vs/\h.DictOf (lW P w) a vs :=
 show eN P w H h a (.dK kvs) from UQ ok e
theorem abS{kvs:List (Key×V)}(ok:uV P w H h)(e:H a=some (.dK kvs)):kvs.length<=z_/\(a==sysModules)=false/\∃vs,KV kvs vs/\h.DictOf (lW P w) a vs:=NR ok (.inl e)
theorem HM{ks:List Key}(ok:uV P w H h)(e:H a=some (.tup (ks.map kV))):(tupleKind (lW P w)).is h ks a:=by
 obtain⟨_,its,r,o,h1,h2,n,h3⟩:=(show eN P w H h a (.tup (ks.map kV)) from ok a _ e);exact⟨o,its.toArray,n,h1,h2,h3,by simpa using Gk r⟩
theorem NQ{kvs:List (List Key×V)}(ok:uV P w H h)(e:Rd H a (.dT kvs)):kvs.length<=z_/\(a==sysModules)=false ∧
  ∃xs,KT H kvs xs/\h.DictOfH (tupleKind (lW P w)) a xs:=by
 obtain⟨z,y,xs,r,o,es,ep,h1,h2,h3,h4,h5⟩:=(show eN P w H h a (.dT kvs) from UQ ok e);refine⟨z,y,xs,r,o,es,ep,h1,h2,h3,h4,λx hx=>?_,h5⟩;have all:∀{l:List (List Key×V)} {m:List (List Key×g_×i_)},KT H l m->∀x∈m,(tupleKind (lW P w)).is h x.1 x.2.1:=by
  intro l m q
  induction q with
  |nil=>intro x hx;exact nomatch hx
  | @cons p q ps qs hq t ih =>
   intro x hx;rcases S_.mp hx with e|hx
   ·subst e;exact HM ok (by rw[←hq.1];exact hq.2.1)
   ·exact ih x hx
 exact all r x hx
theorem abR{kvs:List (List Key×V)}(ok:uV P w H h)(e:H a=some (.dT kvs)):kvs.length<=z_/\(a==sysModules)=false ∧
  ∃xs,KT H kvs xs/\h.DictOfH (tupleKind (lW P w)) a xs:=NQ ok (.inl e)
end
def BC(H:Hp)(a:g_)(y:V)(r:Option V):Prop :=
 (fD λkvs k=>Rd H a (.dK kvs)/\y=kV k/\r=mq kvs k)\/rG λkvs k b=>Rd H a (.dT kvs)/\y= .ref b/\H b=some (.tup (k.map kV))/\r=mq kvs k
def IW(H:Hp)(a:g_)(y v:V)(H':Hp):Prop :=
 (fD λkvs k=>H a=some (.dK kvs)/\y=kV k/\kvs.length<z_/\H'=upd H a (.dK (putK kvs k v))) ∨
 rG λkvs k b=>H a=some (.dT kvs)/\y= .ref b/\H b=some (.tup (k.map kV))/\kvs.length<z_/\H'=upd H a (.dT (putK kvs k v))
theorem BC.k{H:Hp}{a:g_}{kvs:List (Key×V)}{k:Key}(e:H a=some (.dK kvs)):BC H a (kV k) (mq kvs k):=.inl ⟨kvs,k,.inl e,rfl,rfl⟩
theorem BC.t{H:Hp}{a b:g_}{kvs:List (List Key×V)}{k:List Key}(e:H a=some (.dT kvs))(eb:H b=some (.tup (k.map kV))):BC H a (.ref b) (mq kvs k):=.inr ⟨kvs,k,b,.inl e,rfl,eb,rfl⟩
theorem IW.k{H:Hp}{a:g_}{kvs:List (Key×V)}{k:Key}{v:V}(e:H a=some (.dK kvs))(hl:kvs.length<z_):IW H a (kV k) v (upd H a (.dK (putK kvs k v))):=.inl ⟨kvs,k,e,rfl,hl,rfl⟩
theorem IW.t{H:Hp}{a b:g_}{kvs:List (List Key×V)}{k:List Key}{v:V}(e:H a=some (.dT kvs))(eb:H b=some (.tup (k.map kV)))(hl:kvs.length<z_):
  IW H a (.ref b) v (upd H a (.dT (putK kvs k v))):=.inr ⟨kvs,k,b,e,rfl,eb,hl,rfl⟩
section
variable{X:Cx}{pins:List (g_×qa0)}{σ:St}{H:Hp}{s:p_}{a:g_}{y v:V}{u r:i_}{o:Option V}{A:qam}{E:i_->p_->Prop}
theorem Inv.big(I:Inv X pins σ H s):sysModules<s.heap.objs.size:=by
 have h:M_<s.heap.objs.size:=(I.mod.glob.keeps I.bk).lt;exact qcu (by decide) h
theorem Pd{Q:i_->p_->Prop}(hu:A.units+1<cLine)(I:Inv X pins σ H s)(g:BC H a y (some v))(ry:RelV y u)(h:∀w' s',Inv X pins σ H s'->RelV v w'->Q w' s'):
  N_ (model X.prog X.w) A (getItem (.ref a) u) Q E s:=by
 rcases g with⟨kvs,k,e,ey,l⟩|⟨kvs,k,b,e,ey,eb,l⟩
 ·subst ey;obtain⟨z,hd,vs,rel,dd⟩:=NR I.hok e;obtain⟨w',hw,rw'⟩:=vD.some_of (v:=v) (o:=valueAt vs k) (by rw[l];exact rel.val k);exact wpAny_getItem_of (Gi ry) dd.mapOf hw (h w' _ (I.tok _) rw')
 ·subst ey;cases (show u=Value.ref b from ry);obtain⟨z,hd,xs,rel,dd⟩:=NQ I.hok e;obtain⟨w',hw,rw'⟩:=vD.some_of (v:=v) (o:=(atKey xs k).map (·.2)) (by rw[l];exact rel.val k);obtain⟨p,hp,hp2⟩:=qaL.mp hw;refine wpAny_getItem_heap (tupleKind_room_in1 hu) (HM I.hok eb) dd hp ?_;rw[hp2];exact h w' _ (I.tok _) rw'
theorem Ul{Q:i_->p_->Prop}(hu:A.units+1<cLine)(I:Inv X pins σ H s)(g:BC H a y o)(ry:RelV y u)(h:∀s',Inv X pins σ H s'->Q (.bool (!o.isSome)) s'):
  N_ (model X.prog X.w) A (compareOp .NotIn u (.ref a)) Q E s:=by
 rcases g with⟨kvs,k,e,ey,l⟩|⟨kvs,k,b,e,ey,eb,l⟩
 ·subst ey;obtain⟨z,hd,vs,rel,dd⟩:=NR I.hok e;refine wpAny_notIn_of (Gi ry) hd dd.mapOf ?_;rw[←(rel.val k).xN,←l];exact h _ (I.tok _)
 ·subst ey;cases (show u=Value.ref b from ry);obtain⟨z,hd,xs,rel,dd⟩:=NQ I.hok e;refine wpAny_notIn_heap (tupleKind_room_in1 hu) (HM I.hok eb) hd dd ?_;have q:=(rel.val k).xN;rw[Option.isSome_map]at q;rw[←q,←l];exact h _ (I.tok _)
theorem NU{h':qad}{t':Nat}{ob:HO}(I:Inv X pins σ H s)(mu:Mut (H a))(hs:qbl a s.heap h')(he:∃q,h'.get? a=some q)(new:eN X.prog X.w (upd H a ob) h' a ob)(ht:s.toks<=t':=by first|exact j_ _|exact qaw _|assumption|omega):
  Inv X pins σ (upd H a ob) { s with heap:=h',toks:=t' } :=
 I.write (x:=a) (e:=a) mu (.inl rfl) (λb q hb z=>(hs.2 b hb).trans z) he new
theorem Y9{P:I_}{w:W_}{H':Hp}{h':qad}{kvs:List (Key×V)}{vs:List (Key×i_)}(z:kvs.length<=z_)(hd:(a==sysModules)=false)(rel:KV kvs vs)(dd:h'.DictOf (lW P w) a vs):
  eN P w H' h' a (.dK kvs):=⟨z,hd,vs,rel,dd⟩
theorem Pc{H':Hp}{Q:Unit->p_->Prop}(hu:A.units+1<cLine)(I:Inv X pins σ H s)(g:IW H a y v H')(ry:RelV y u)(rv:RelV v r)(h:∀s',Inv X pins σ H' s'->Q () s'):
  N_ (model X.prog X.w) A (setItem (.ref a) u r) Q E s:=by
 rcases g with⟨kvs,k,e,ey,l,eH⟩|⟨kvs,k,b,e,ey,eb,l,eH⟩
 ·subst ey eH;obtain⟨z,hd,vs,rel,dd⟩:=abS I.hok e;have hz:vs.length<=z_:=by rw[←rel.length];exact z
  have hl:(putK kvs k v).length<=z_:=by have:=q9 kvs k v;omega
  refine wpAny_setItem_pairs (hsz:=hz) (Gi ry) dd λh' dd' hs=>h _ ?_
  have he:∃q,h'.get? a=some q:=let ⟨q,_,_,hq,_⟩:=dd';⟨q,hq⟩
  exact NU I (by rw[e];exact True.intro) hs he (Y9 hl hd (rel.put k rv) dd')
 ·subst ey eH;cases (show u=Value.ref b from ry);obtain⟨z,hd,xs,rel,dd⟩:=abR I.hok e;have hz:xs.length<=z_:=by rw[←Paired.length rel];exact z
  have hl:(putK kvs k v).length<=z_:=by have:=q9 kvs k v;omega
  refine wpAny_setItem_heap (hsz:=hz) (tupleKind_room_in1 hu) (HM I.hok eb) dd λh' dd' hs=>h _ ?_;obtain⟨q,es,ep,hq,h2,h3,h4,_,h5⟩:=dd';refine NU I (by rw[e];exact True.intro) hs ⟨q,hq⟩ ⟨hl,hd,_,(rel.put k eb rv).keeps λc ys ec=>?_,q,es,ep,hq,h2,h3,h4,h5⟩
  rw[aH (rJ ec e (λz=>nomatch z))]
  exact ec
end
section
variable{X:Cx}{pins:List (g_×qa0)}{σ:St}{H:Hp}{s:p_}{a:g_}{kvs:List (Key×V)}{k:Key}{u:i_}{A:qam}{E:i_->p_->Prop}
end
def Zs(i:Expr):Prop:=∀ov iv,subscripted i false ov iv=operate [ov,iv] (getItem ov iv)
theorem M3{prog:I_}{w:W_}{A:qam}{E:i_->p_->Prop}{s:p_}{env:Env}{value slice:Expr}{pos:qcd}{T id:String}{Q:i_->p_->Prop}
  (hl:typeLookup (.type T) "__getitem__" =pure (some (.builtin id))) (hs:Zs slice)
  (h:N_ (model prog w) A (eval value env) (λo s₁=>N_ (model prog w) A (eval slice env) (λi s₂=>s₂.TypeIs o T/\N_ (model prog w) A (getItem o i) Q E s₂) E s₁) E s) :
  N_ (model prog w) A (eval (.Subscript value slice pos) env) Q E s:=by
 refine Subscript_ (qaF h (λo s₁ h₁=>qaF h₁ (λi s₂ h₂=>?_) λ_ _ x=>x) λ_ _ x=>x);obtain⟨hT,h₂⟩:=h₂;unfold subscriptTail;refine h_ ?_;rw[getitemInPython_of_ne hT.not_modules];refine h_ (wpAny_specialOf hT hl ?_);have fin:N_ (model prog w) A (subscripted slice false o i) (λr s₃=>N_ (model prog w) A (letTemporaryGo value o r >>= λ_=>pure r) Q E s₃) E s₂:=by
  rw[hs o i];exact wpAny_operating (qaF h₂ (λr s₃ h₃=>h_ (wpAny_letTemporaryGo (t_ h₃))) λ_ _ x=>x)
 first
  |exact t_ (h_ fin)
  |exact h_ (t_ (h_ fin))
  |exact h_ fin
theorem KN{X:Cx}{pins:List (g_×qa0)}{σ:St}{H:Hp}{s:p_}{a:g_}{y:V}{o:Option V}(I:Inv X pins σ H s)(g:BC H a y o):s.TypeIs (.ref a) "dict" :=by
 rcases g with⟨kvs,k,e,_,_⟩|⟨kvs,k,b,e,_,_,_⟩
 ·obtain⟨_,_,vs,_,dd⟩:=NR I.hok e;exact dd.typeIs
 ·obtain⟨_,_,xs,_,dd⟩:=NQ I.hok e;exact dd.typeIs
def Z9(td ty:TE):TE:=λσ H Q=>td σ H λx H1=>ty σ H1 λy H2=>fD λa v=>x= .ref a/\BC H2 a y (some v)/\Q v H2
def aak(td ty tv:TE):TS:=λD σ H=>tv σ H λv H1=>td σ H1 λx H2=>ty σ H2 λy H3=>fD λa H4=>x= .ref a/\IW H3 a y v H4/\D.nx σ H4
section
variable{X:Cx}{o i e value:Expr}{pos pos' tpos:qcd}{td ty tv:TE}
theorem Hg(hu:X.A.units+1<cLine)(ho:PE X o td)(hi:PE X i ty)(hs:Zs i):PE X (.Subscript o i pos) (Z9 td ty):=by
 intro pins s σ H Q I h;refine M3 PySem.F.slot_dict_getitem.lookup hs (iB (ho pins s σ H _ I h) λu s1 ⟨x,H1,I1,rx,q1⟩=>iB (hi pins s1 σ H1 _ I1 q1) λiv s2 ⟨y,H2,I2,ry,a,v,ex,g,q2⟩=>?_);subst ex;obtain rfl:u=Value.ref a:=rx;exact⟨KN I2 g,Pd hu I2 g ry λw' s3 I3 rw'=>⟨v,H2,I3,rw',q2⟩⟩
theorem G7(hu:X.A.units+1<cLine)(ho:PE X o td)(hi:PE X i ty)(hv:PE X value tv)(hs:swapsWith value (some (.Subscript o i pos')) pos.line X.env=pure false):
  PS X (.Assign [.Subscript o i pos'] value pos) (aak td ty tv):=by
 intro pins s σ H D I h;refine wpAny_Assign_Subscript (iB (hv pins s σ H _ I h) λr s1 ⟨v,H1,I1,rv,q1⟩=>iB (ho pins s1 σ H1 _ I1 q1) λu s2 ⟨x,H2,I2,rx,q2⟩=>iB (hi pins s2 σ H2 _ I2 q2) λiv s3 ⟨y,H3,I3,ry,a,H4,ex,g,q3⟩=>?_) hs;subst ex;obtain rfl:u=Value.ref a:=rx;exact Pc hu I3 g ry rv λs4 I4=>⟨σ,H4,I4,q3⟩
end
theorem RM{P:I_}{w:W_}{H:Hp}(h:qad)(hb:sysModules<h.objs.size):eN P w H (h.push { cls:=.type "dict",data:=.dict #[] }) h.objs.size (.dK []) :=
 ⟨X_ _,beq_eq_false_iff_ne.mpr (Ne.symm (Y_ hb)),[],.nil,Heap.DictOf.new h⟩
theorem RL{P:I_}{w:W_}{H:Hp}(h:qad)(hb:sysModules<h.objs.size):eN P w H (h.push { cls:=.type "dict",data:=.dict #[] }) h.objs.size (.dT []) :=
 ⟨X_ _,beq_eq_false_iff_ne.mpr (Ne.symm (Y_ hb)),[],.nil,_,#[],0,H_ _ rfl,⟨rfl,rfl,rfl⟩,rfl,rfl,List.nodup_nil⟩
def X6:TE:=λ_ H Q=>∀p,H p=none->Q (.ref p) (upd H p (.dK []))
def X5:TE:=λ_ H Q=>∀p,H p=none->Q (.ref p) (upd H p (.dT []))
section
variable{X:Cx}{pos:qcd}
theorem JR:PE X (.Dict [] [] pos) X6:=λpins s σ H Q I h =>
 wpAny_Dict_empty ⟨.ref s.heap.objs.size,_,I.laid (a:=s.heap.objs.size) (o:=.dK []) (t':=s.toks) (λ_ _ q=>k_ _ q) (j_ _) (RM s.heap I.big),rfl,h _ (I.hok.fresh (j_ _))⟩
theorem QM:PE X (.Dict [] [] pos) X5:=λpins s σ H Q I h =>
 wpAny_Dict_empty ⟨.ref s.heap.objs.size,_,I.laid (a:=s.heap.objs.size) (o:=.dT []) (t':=s.toks) (λ_ _ q=>k_ _ q) (j_ _) (RL s.heap I.big),rfl,h _ (I.hok.fresh (j_ _))⟩
end
section
variable{X:Cx}{pins:List (g_×qa0)}{σ:St}{H:Hp}{s:p_}{a:g_}{y d:V}{u r:i_}{o:Option V}{A:qam}{E:i_->p_->Prop}
end
section
variable{X:Cx}{o e f:Expr}{apos cpos:qcd}{td ty tx:TE}
end
section
variable{X:Cx}{pins:List (g_×qa0)}{σ:St}{H:Hp}{s:p_}{a:g_}{kvs:List (Key×V)}{A:qam}{E:i_->p_->Prop}
end
section
variable{X:Cx}{pins:List (g_×qa0)}{σ:St}{H:Hp}{s:p_}{a:g_}{y:V}{u:i_}{A:qam}{E:i_->p_->Prop}
end
end
end L2
namespace Att
open PySem PySem.W PySem.Calls PyProof.Rows
theorem Ck{P:Params}{h:qad}:∀(ns:List Int) (vs:List i_),WellAll P h vs (ns.map WData.int)->IntsAre vs ns:=by
 intro ns
 induction ns with
 |nil =>
  intro vs w;rw[List.map_nil]at w;cases w;exact .nil
 |cons n ns ih =>
  intro vs w;rw[qak]at w
  cases w with
  |cons a b =>
   cases a;exact .cons _ _ (ih _ b)
theorem Oi{l:OpenLaw}{n:Nat}(hn:l.most=some n){P:Params}{h:qad}{args:List WData}{vals:List i_}
  (hpre:l.row.toRowW.claim.pre args=true) (hwl:WellAll P h vals args) :
  rG λa vs ns=>vals=[Value.ref a]/\args=[WData.list (ns.map WData.int)]/\h.get? a=some { cls:=.type "list",data:=.seq vs.toArray }/\IntsAre vs ns/\ns.length<=n:=by
 have hsh:WShape.hasAll [] args [.list .int]=true:=(pre_splitW hpre).1;have hc:l.pre.holds [] { args:=args }=true:=(pre_splitW hpre).2;obtain⟨d,r,rfl,h1,h2⟩:=hasAllW_cons hsh;obtain rfl:=hasAllW_nil h2;obtain⟨xs,rfl,h3⟩:=hasW_list h1;obtain⟨ns,rfl⟩:=items_int h3;have hlen:ns.length<=n:=by
  unfold OpenLaw.pre at hc;have h4:(WTm.not (.lt (.lit (.int (n:Int))) (.len (.arg 0)))).holds [] { args:=[.list (ns.map .int)] }=true:=by
   have h4:=(holds_andW hc).1;rw[hn]at h4;exact h4
  have h5:=condW_of h4 (w_not (w_lt w_lit (w_len_list (w_arg rfl))));rw[f_]at h5;refine Nat.le_of_not_lt λq=>?_;have q':(n:Int)<((ns.length:Nat):Int):=by omega
  first
   |(rw[decide_eq_true q']at h5;exact absurd h5 (by decide))
   |(simp at h5;omega)
 cases hwl with
 |cons w1 w2 =>
  cases w2
  cases w1 with
  |list ho hall=>exact⟨_,_,ns,Y,Y,ho,Ck ns _ hall,hlen⟩
theorem Ou(l:OpenLaw)(args:List WData):l.row.toRowW.claim.post args (.bool true) args=true :=
 postW_of (r:=l.row.toRowW) (X:=(true==true))
  (show WShape.has [] (.bool true) .bool=true by first|rfl|decide|simp[WShape.has,WShape.arms,WShape.armsAll])
  (show(WTm.eq .res (.lit (.bool true))).value [] { args:=args,res:=some (.bool true),after:=args }=some (.bool (true==true)) from w_eq_bool (w_res rfl) w_lit) rfl
section
variable{prog:I_}{w:W_}{A:qam}{E:i_->p_->Prop}{s:p_}{K:Frag}
end
end Att
namespace L2
open PySem PySem.Spec PyProof.Rows
section
theorem FQ:∀{vs:List i_} {ns:List Int},IntsAre vs ns->Vals (ns.map V.int) vs
 |_,_,.nil=>.nil
 |_,_,.cons n t h=>.cons ⟨t,rfl⟩ (FQ h)
def Zr(H:Hp):Prop:=∀b,H b=none\/fD λo xs=>H b=some (.MA o (.lst xs))
theorem Q9{P:I_}{w:W_}{K:PySem.W.Frag}{mg mb:r_->Option i_}{CX:Pz}{k:Nat}{fa a:g_}{fd:B_}{x:r_}{sp:Sp}{s₁:p_}{vs:List i_}{ns:List Int}
  (KX:K.In s₁.heap) (hns:s₁.heap.Ns M_ mg) (hb:s₁.heap.Ns builtinsNs mb) (Y0:∀x:r_,x≠ "__name__" ->mb x=bootBuiltins x) (hlim:s₁.heap.NoLimit) (hg:s₁.gens= #[]) (htk:K3 mg s₁.toks)
  (ha:s₁.heap.get? a=some { cls:=.type "list",data:=.seq vs.toArray }) (hi:IntsAre vs ns) (hl:ns.length<=z_) (hr:pW k callerA)
  (F:∀base:qad,K.In base->base.Ns M_ mg->aI P w K mg base CX k fa fd [x] sp) (hbind:∀(s:p_) (u:i_),BindsTo s fd ⟨[u],[]⟩ [(x,u)])
  (Sq:∀H:Hp,Zr H->bY K H a (ns.map V.int)->sp [.ref a] H (λv _=>v= .bl true) λ_ _ _=>False)
  (hCX:∀H e s',CX [] H s₁ (λ_ _ _=>False) e s'->False) :
  codeAny (model P w) callerA (.call (.ref fa) ⟨[.ref a],[]⟩) (λr s'=>r= .ok (.ret (.bool true))/\OldK s₁.heap s'.heap/\s'.os=s₁.os/\AllBare s'.gens) s₁:=by
 have rv:=FQ hi;have afJ:=hi.length;have core:∀H:Hp,Zr H->bY K H a (ns.map V.int)->uV P w H s₁.heap->(∀b,H b≠none->b=a)->(H a≠none->K.lookup a=none) →
   codeAny (model P w) callerA (.call (.ref fa) ⟨[.ref a],[]⟩) (λr s'=>r= .ok (.ret (.bool true))/\OldK s₁.heap s'.heap/\s'.os=s₁.os/\AllBare s'.gens) s₁:=by
  intro H hO hS hok hA hK;have NZ:∀{b:g_} {o:qa0},s₁.heap.get? b=some o->H b=none->(HS s₁.heap H).get? b=some o:=λe n=>Rr e n;have noA:∀{b:g_} {o:qa0} {es:Array DictEntry} {ep:Nat},s₁.heap.get? b=some o->o.data= .dict es ep->H b=none:=λ{b o es ep} e d=>by
   cases q:H b with
   |none=>rfl
   |some u =>
    have e':b=a:=hA b (by rw[q];simp);subst e';rw[ha]at e;cases e;have d':Data.seq vs.toArray _=Data.dict es ep:=d;cases d'
  have nsK:∀{b:g_} {m:r_->Option i_},s₁.heap.Ns b m->(HS s₁.heap H).Ns b m:=λ{b m} ⟨o,es,ep,e,d,r⟩=>⟨o,es,ep,NZ e (noA e d),d,r⟩;have hKb:K.In (HS s₁.heap H):=λb o e=>NZ (KX b o e) (by
   cases q:H b with
   |none=>rfl
   |some u =>
    have e':b=a:=hA b (by rw[q];simp);subst e';rw[hK (by rw[q];simp)]at e;cases e)
  have hM:Mod K mg (HS s₁.heap H):=⟨hKb,nsK hns,⟨mb,nsK hb,Y0⟩,let ⟨mc,h1,h2⟩:=hlim;⟨mc,nsK h1,h2⟩⟩
  have e0:MZ P w K mg (HS s₁.heap H) callerA [] s₁ H:=⟨rfl,hM,λb o e=>Tg e,qce (O1 _ _),trivial,λb hb=>absurd (show b∈([]:List g_) from hb) (by simp),hok,.of_eq hg,htk⟩;refine qbm ((F _ hKb (nsK hns)).run callerA [] s₁ H ⟨[.ref a],[]⟩ [.ref a] [.ref a] _ _ hr e0 (hbind s₁ (.ref a)) (.cons Y .nil) (Sq H hO hS)) λr s' h=>?_
  cases r with
  |error e=>exact(hCX H e s' h).elim
  |ok fl =>
   cases fl with
   |next=>exact qaz h
   |brk=>exact qaz h
   |cont=>exact qaz h
   |ret u =>
    obtain⟨v,H',os,bare,un,Rp,r',_,q⟩:=h;have q':v= .bl true:=q;subst q';obtain rfl:u=Value.bool true:=r';refine⟨Y,OldK.of_keep λb o e=>?_,os,bare⟩
    cases q:H b with
    |none=>exact un.keep b o e q (by intro z;exact absurd (show b∈([]:List g_) from z) (by simp)) (by simp)
    |some u =>
     rcases hO b with z|⟨ob,xs,z⟩
     ·rw[q]at z;cases z
     ·have z2:=un.yV b ob _ z;obtain⟨e1,_⟩:=hok b _ z;obtain⟨e2,_⟩:=Rp b _ z2;rw[e]at e1;cases e1;exact e2
 cases hk:K.lookup a with
 |some o =>
  have e:=KX a o hk;rw[ha]at e;cases e;refine core (λ_=>none) (λ_=>.inl Y) (.inr ⟨_,vs.toArray,_,hk,Y,Y,Y,by rw[u_,afJ];exact hl,by simpa using rv⟩) (λb u z=>by have z':(none:Option HO)=some u:=z;cases z') (λb z=>absurd Y z) λz=>absurd Y z
 |none =>
  refine core (λb=>if b=a then some (.MA { cls:=.type "list",data:=.seq vs.toArray } (.lst (ns.map V.int)))else none) (λb=>?_) (.inl (.inr ⟨{ cls:=.type "list",data:=.seq vs.toArray },if_pos Y⟩)) (λb u z=>?_) (λb z=>?_) λ_=>hk
  ·by_cases hb:b=a
   ·exact .inr ⟨_,_,if_pos hb⟩
   ·exact .inl (if_neg hb)
  ·by_cases hb:b=a
   ·have z':=(if_pos hb).symm.trans z;cases z';subst hb;exact⟨ha,by rw[f_];exact hl,vs,_,rv,ha⟩
   ·have z':=(if_neg hb).symm.trans z;cases z'
  ·by_cases hb:b=a
   ·exact hb
   ·exact absurd (if_neg hb) z
end
section
end
section
noncomputable def inClass(s:qaq)(j:Nat):qaq:=match s with
 | .ClassDef _ _ _ body _ _ _ _ _ _ _=>body.getD j (.Pass ⟨0,0,0,0⟩)
 |_=>.Pass ⟨0,0,0,0⟩
noncomputable def lY(s:qaq):Arguments:=match s with
 | .FunctionDef _ a _ _ _ _ _ _ _ _=>a
 |_=>{ posonlyargs:=[],args:=[],vararg:=none,kwonlyargs:=[],kw_defaults:=[],kwarg:=none,defaults:=[] }
noncomputable def jD(s:qaq):List qaq:=match s with
 | .FunctionDef _ _ b _ _ _ _ _ _ _=>b
 |_=>[]
noncomputable def ay(s:qaq):qbJ:=match s with
 | .FunctionDef _ _ _ _ _ _ sc _ _ _=>sc
 |_=>{ kind:=.function,names:=[],isGenerator:=false,isCoroutine:=false }
noncomputable abbrev cO:Pz:=λ_ _ _ _ _ _=>False
noncomputable abbrev E0:XK:=λ_ _ _=>False
theorem aR{X:Cx}:Passes cO X E0:=λ_ _ _ _ _ _ _ h=>h.elim
structure SA(K:PySem.W.Frag)(x qual:r_)(st:qaq)(f:g_)(fd:B_):Prop where
 ex:ZP λ(oc:i_) (od:Option g_) (kV doc pm:i_) (an:Option g_) (cdv ct:i_) (osl:Array (Option i_)) =>
  fd=PySem.W.fnOf x qual (lY st) (jD st) (ay st) .none kV doc pm an cdv ct/\K.lookup f=some ⟨oc,od,.func fd,osl⟩/\PySem.W.codeIn K cdv qual=true
 kp:PySem.W.keepIn K (.ref f)=true
section
variable{P:I_}{w:W_}{K:PySem.W.Frag}{mg:r_->Option i_}{base:qad}
theorem SA.ok{x qual:r_}{st:qaq}{f:g_}{fd:B_}{N ps:List r_}{k:Nat}{sp:Sp}(F:SA K x qual st f fd)(S:aK N ps (ay st))(len:∀vs H Q E,sp vs H Q E->vs.length=ps.length)
  (hbody:∀(cdv:i_) (A:qam) (outer:List Env) (s:p_) (H:Hp) (vs:List V) (Q:VK) (E:XK),pW k (A.deeper (envOfC qual (ay st) s.heap.objs.size f cdv))->sp vs H Q E →
   ∃t,IG (Bp cO P w K mg base N qual (ay st) f cdv A outer s H E).nox (jD st) t/\t { nx:=λ_ H'=>Q .lV H',rt:=Q } (start N vs) H):aI P w K mg base cO (k+1) f fd ps sp:=by
 obtain⟨oc,od,kV,doc,pm,an,cdv,ct,osl,rfl,lk,hcd⟩:=F.ex;refine U7 lk hcd S len λA outer s H vs Q E hr Sq=>?_;obtain⟨t,h,q⟩:=hbody cdv A outer s H vs Q E hr Sq;exact⟨t,h.nox,q⟩
theorem SA.binds{x qual:r_}{st:qaq}{f:g_}{fd:B_}{ps:List r_}(F:SA K x qual st f fd)
  (h:∀(kV doc pm:i_) (an:Option g_) (cdv ct:i_) (us:List i_),us.length=ps.length->bindArgs (PySem.W.fnOf x qual (lY st) (jD st) (ay st) .none kV doc pm an cdv ct) ⟨us,[]⟩=pure (ps.zip us)):Binds K fd ps []:=by
 obtain⟨oc,od,kV,doc,pm,an,cdv,ct,osl,rfl,lk,hcd⟩:=F.ex;exact .all (h kV doc pm an cdv ct)
theorem yU{x qual:r_}{st:qaq}{f:g_}{oc:i_}{od an:Option g_}{osl:Array (Option i_)}{kV doc pm cdv ct:i_}(l:K.lookup f=some ⟨oc,od,.func (PySem.W.fnOf x qual (lY st) (jD st) (ay st) .none kV doc pm an cdv ct),osl⟩)
  (c:PySem.W.codeIn K cdv qual=true) (k:PySem.W.keepIn K (.ref f)=true):SA K x qual st f (PySem.W.fnOf x qual (lY st) (jD st) (ay st) .none kV doc pm an cdv ct):=⟨⟨oc,od,kV,doc,pm,an,cdv,ct,osl,rfl,l,c⟩,k⟩
end
theorem rj{A:qam}{k:Nat}(hr:pW k A):A.units+1<cLine:=s_ (Nat.add_le_add_left (by decide:1<=64) _) hr.units
section
variable{X:Cx}
theorem pv (i:Nat){x:r_}{pos:qcd}(hN:X.N[i]? =some x:=by rfl)(hv:Vis X.env.scope x:=by first|exact Or.inl rfl|exact Or.inr (Or.inl Y)|exact Or.inr (Or.inr Y))(hd:(x==("__debug__" :r_))=false:=by decide)
  (hcd:(x==("__classdict__" :r_))=false:=by decide):PE X (.Name x pos) (Z1 i):=Yr hN hv hd hcd
end
theorem mj{A B:Prop}(h:B):if false=true then A else B:=by
 rw[if_neg O_];exact h
theorem qb{A B:Prop}(h:A):if true=true then A else B:=by
 rw[if_pos rfl];exact h
def aj(H H':Hp):Prop:=∀b o,H b=some o->H' b=some o
theorem aj.refl(H:Hp):aj H H:=λ_ _ h=>h
theorem aj.trans{H H1 H2:Hp}(a:aj H H1)(b:aj H1 H2):aj H H2:=λc o h=>b c o (a c o h)
theorem aj.free{H H':Hp}(e:aj H H'){l:g_}(h:H' l=Option.none):H l=Option.none:=by
 cases q:H l with
 |none=>rfl
 |some o =>
  rw[e l o q]at h;cases h
theorem aj.seq{K:PySem.W.Frag}{H H':Hp}{a:g_}{xs:List V}(e:aj H H')(h:bY K H a xs):bY K H' a xs:=by
 rcases h with(h|⟨o,h⟩)|h
 ·exact .inl (.inl (e _ _ h))
 ·exact .inl (.inr ⟨o,e _ _ h⟩)
 ·exact .inr h
section
variable{κ:Type}[DecidableEq κ]
end
end
end L2
namespace GP
theorem Tw{α:Type}:∀{l:List α},l.length=1->∃a,l=[a]
 |[a],_=>⟨a,rfl⟩
theorem Kr{α:Type}{n:Nat}:∀{l:List α},l.length=n+1->∃a r,l=a::r/\r.length=n
 |a::r,h=>⟨a,r,rfl,Nat.succ.inj h⟩
theorem Tv{α:Type}{l:List α}(h:l.length=2):∃a b,l=[a,b]:=by
 obtain⟨a,r,rfl,k⟩:=Kr h;obtain⟨b,rfl⟩:=Tw k;exact⟨a,b,Y⟩
theorem Tu{α:Type}{l:List α}(h:l.length=3):∃a b c,l=[a,b,c]:=by
 obtain⟨a,r,rfl,k⟩:=Kr h;obtain⟨b,c,rfl⟩:=Tv k;exact⟨a,b,c,Y⟩
theorem Tt{α:Type}{l:List α}(h:l.length=4):∃a b c d,l=[a,b,c,d]:=by
 obtain⟨a,r,rfl,k⟩:=Kr h;obtain⟨b,c,d,rfl⟩:=Tu k;exact⟨a,b,c,d,Y⟩
theorem Tr{α:Type}{l:List α}(h:l.length=5):∃a b c d e,l=[a,b,c,d,e]:=by
 obtain⟨a,r,rfl,k⟩:=Kr h;obtain⟨b,c,d,e,rfl⟩:=Tt k;exact⟨a,b,c,d,e,Y⟩
theorem aaG{α:Type}{l:List α}(h:l.length=6):∃a b c d e f,l=[a,b,c,d,e,f]:=by
 obtain⟨a,r,rfl,k⟩:=Kr h;obtain⟨b,c,d,e,f,rfl⟩:=Tr k;exact⟨a,b,c,d,e,f,Y⟩
end GP
namespace L2
open PySem PySem.Spec PyProof.Rows
section
section
variable{X:Cx}
theorem xj:rC X (.builtin "isinstance") (λxs H Q=>yj λx n t b=>xs=[x,.ty n]/\Af X.K H x t/\PySem.W.kitOne X.K t (.type n)=some b/\Q (.bl b) H):=by
 intro pins s σ H xs us Q I r h;obtain⟨x,n,t,b,rfl,ty,e,q⟩:=h;obtain⟨u,w',rfl,rx,rn⟩:=vals2 r;cases rn;exact TK.dD (j_ _) (Gm I rx ty e λtk hup=>⟨.bl b,H,I.tok _,Y,q⟩)
theorem Gy:∀{bs:List Bool} {us:List i_},Vals (bs.map V.bl) us->∀(i:Nat) (v:i_),us[i]? =some v->∃b,bs[i]? =some b/\v= .bool b
 |[],_,r,i,v,e=>by
  cases r;simp at e
 |b::bs,_,r,i,v,e=>by
  cases r with
  |cons r1 r2 =>
   cases i with
   |zero =>
    simp at e;subst e;exact⟨b,Y,r1⟩
   |succ i =>
    obtain⟨c,h1,h2⟩:=Gy r2 i v (by simpa using e);exact⟨c,by simpa using h1,h2⟩
theorem LS(bs:List Bool):((E_ bs.length).all λi=>(bs[i]?).getD true)=bs.all id:=by
 rw[qbg,v_,v_];constructor
 ·intro h b hb;obtain⟨i,hi,rfl⟩:=qaA hb;have:=h i (qag.mpr hi);simpa only[e_ hi,qaS,id]using this
 ·intro h i hi;have hi':=qag.mp hi;simpa only[e_ hi',qaS,id]using h _ (x_ hi')
theorem KY(hc:X.calm=true):rC X (.builtin "all") (λxs H Q=>fD λ(l:g_) (bs:List Bool)=>xs=[.ref l]/\bY X.K H l (bs.map V.bl)/\Q (.bl (bs.all id)) H):=by
 intro pins s σ H xs us Q I r h;obtain⟨l,bs,rfl,hl,q⟩:=h;obtain⟨u,rfl,ru⟩:=vals1 r;cases ru;obtain⟨its,rv,p,hz⟩:=I.list hl;have pl:s.heap.IsList l its.toArray:=p.isList;have hlt:l<s.heap.objs.size:=by obtain⟨_,e,_⟩:=pl;exact J_ e
 have hlen:bs.length=its.length:=by rw[←rv.length,f_]
 refine TK.dD (j_ s.toks) ?_;refine call_all_walk (qb5 pl ?_);refine⟨s.heap.objs.size,[s.heap.objs.size,l],[s.heap.objs.size],its.toArray.size,_,_,λi=>(bs[i]?).getD true,Y,Walks.list (A:=X.A.in1) (I.ok.hd hc) _ l (Y_ hlt) its.toArray,
  ⟨⟨_,H_ _ rfl,rfl,rfl⟩,pl.push _⟩,λi v s' Q' E' hP hQ=>?_,λh' tk hk hup=>?_⟩
 ·obtain⟨b,e,rfl⟩:=Gy rv i v (by simpa using hP);simp only[e,qaS]at hQ;exact qaT hQ
 ·have e:((E_ its.toArray.size).all λi=>(bs[i]?).getD true)=bs.all id:=by
   rw[u_,←hlen];exact LS bs
  rw[e];refine⟨.bl (bs.all id),H,I.kept (t':=tk) (λb x e=>hk b x (λhm=>?_) (k_ _ e)),Y,q⟩;rw[F_.mp hm]at e;exact qa_ _ (J_ e)
end
theorem S5{X:Cx}{K':PySem.W.Frag}{es:List Expr}{k:Nat}{t:Ve}{n:Nat}{pos:qcd}(hK:X.K=K')(hc:X.calm=true)(h:PGs X es t)
  (hn:(assignEach es X.env).length=n:=by rfl) (hst:(assignEach es X.env).findIdx? (·.1)=none:=by rfl):PG X (.Tuple es k pos) (abO K' n t):=by
 subst hK;exact um hc h hn hst
def ae2(t u:TS):TS:=λD σ H=>∃Mid:St->Hp->Prop,t { D with nx:=Mid } σ H/\∀ σ' H',Mid σ' H'->u D σ' H'
theorem bJ{X:Cx}{st:qaq}{rest:List qaq}{t u:TS}(h1:PS X st t)(h2:IG X rest u):IG X (st::rest) (ae2 t u):=by
 intro pins s σ H D I h;obtain⟨Mid,h,hm⟩:=h;refine wpAny_execs_cons (iB (h1 pins s σ H { D with nx:=Mid } I h) λf s1 q=>?_)
 cases f with
 |next =>
  obtain⟨σ',H',I',q⟩:=q;exact h2 pins s1 σ' H' D I' (hm σ' H' q)
 |ret v=>exact q
 |brk=>exact q
 |cont=>exact q
noncomputable def j0(X:Cx)(scope:qbJ)(cl:List (r_×g_))(C:g_)(N:List r_)(s:p_)(H:Hp)(ex:List g_)(pn:List (g_×qa0))(E:i_->p_->Prop):Cx :=
 { X with N:=N,s₀:=s,H₀:=H,env:=compEnvC scope cl C X.env,outer:=X.stack,ex:=ex,fn:=λx=>scope.names.lookup x==some .cell,pn:=pn,xe:=E }
structure cT(X:Cx)(scope:qbJ)(cl:List (r_×g_))(N:List r_)(ua:St->St):Prop where
 clos:closureFor scope X.env=pure cl
 kind:scope.kind= .function
 cell:∀y∈scope.names,y.2= .cell->cl.lookup y.1=none
 names:∀y∈scope.names,y.2= .local->scope.names.lookup y.1=some .local
 sub:∀x c,cl.lookup x=some c->X.env.cells.lookup x=some c
 has:∀x,((relabel scope X.env).names.lookup x=some .cell\/(relabel scope X.env).names.lookup x=some .free)->scope.names.lookup x=some .cell\/∃c,cl.lookup x=some c
 len:∀ σ,(ua σ).length=N.length
 fv:∀(σ:St) (i:Nat) (x:r_) (v:V),N[i]? =some x->(ua σ)[i]? =some (some v)->Vis (relabel scope X.env) x →
  fD λ(j:Nat) (c:g_)=>X.N[j]? =some x/\σ[j]? =some (some v)/\X.env.kindOf x=some .cell/\((relabel scope X.env).names.lookup x=some .cell\/(relabel scope X.env).names.lookup x=some .free)/\cl.lookup x=some c
structure Sj(cl MK:List (r_×g_))(scope:qbJ)(n:Nat)(h₁:qad):Prop where
 look:∀x c,MK.lookup x=some c->(n<c/\h₁.IsCell c none)\/cl.lookup x=some c
 inj:∀x y c,n<c->MK.lookup x=some c->MK.lookup y=some c->(∀x,cl.lookup x≠some c)->x=y
 keep:∀x c,cl.lookup x=some c->MK.lookup x=some c
 own:∀x,scope.names.lookup x=some .cell->∃c,MK.lookup x=some c
theorem lR:∀(names:List (r_×qbC)) (n:Nat) (acc:List (r_×g_)),cellsFrom n names acc=cellsFrom n names []++acc
 |[],_,_=>rfl
 |(y,k)::r,n,acc=>by
  unfold cellsFrom;split
  ·rw[lR r _ ((y,n)::acc),lR r _ [(y,n)],qa3];rfl
  ·exact lR r n acc
theorem uv:∀(names:List (r_×qbC)) (n:Nat) (acc:List (r_×g_)) (x:r_) (c:g_),(x,c)∈cellsFrom n names acc->(x,qb3)∈names\/(x,c)∈acc
 |[],_,_,_,_,h=>.inr h
 |(y,k)::r,n,acc,x,c,h=>by
  unfold cellsFrom at h;split at h
  next hk =>
   rcases uv r _ _ x c h with z|z
   ·exact .inl (C_ _ z)
   ·rcases S_.mp z with e|e
    ·cases e;have hk':k= .cell:=by simpa using hk
     rw[hk'];exact .inl D_
    ·exact .inr e
  next=>exact(uv r _ _ x c h).imp (C_ _) id
theorem RU{X:Cx}{scope:qbJ}{cl:List (r_×g_)}{N:List r_}{ua:St->St}(S:cT X scope cl N ua){M:qcH}{A:qam}{E:i_->p_->Prop}{s:p_}{Q:Env->p_->Prop}
  (h:∀MK h₁,Sj cl MK scope s.heap.objs.size h₁->h₁.Ns s.heap.objs.size (λ_=>none)->(∀b o,s.heap.get? b=some o->h₁.get? b=some o)->Q { compEnvC scope MK s.heap.objs.size X.env with scope:=scope } { s with heap:=h₁ }) :
  N_ M A (newFunctionEnv scope X.env.globals cl [] X.env.qual none .none (some X.env)) Q E s:=by
 simp only[newFunctionEnv,Option.isSome_some,if_true];refine h_ (wpAny_alloc ?_);refine h_ (wpAny_layCells _ (λname kind cells=>by cases hkc:kind==qb3<;>simp[hkc]) _ _ _ _ ?_);have hz:(s.heap.push { cls:=.type "dict",data:=.dict #[] }).objs.size=s.heap.objs.size+1:=qaQ ..
 have ok:=cellsFrom_ok scope.names (s.heap.push { cls:=.type "dict",data:=.dict #[] }) (s.heap.objs.size+1) [] ⟨λ_ _ hm=>(nomatch hm),List.Pairwise.nil⟩ (by rw[hz];exact j_ _)
 simp only[List.forIn_nil];refine h_ (t_ (t_ (h (cellsFrom (s.heap.push { cls:=.type "dict",data:=.dict #[] }).objs.size scope.names cl) _ ⟨λx c e=>?_,λx y c _ ex ey hn=>?_,λx c e=>?_,λx e=>?_⟩ ((Heap.Ns.new s.heap (.type "dict")).keeps λb o e=>pushCells_keeps _ _ _ _ e) λb o e=>pushCells_keeps _ _ _ _ (k_ _ e))))
 ·rw[lR,List.lookup_append]at e
  cases q:(cellsFrom (s.heap.push { cls:=.type "dict",data:=.dict #[] }).objs.size scope.names []).lookup x with
  |none=>rw[q]at e;exact .inr e
  |some d =>
   rw[q]at e;cases e;exact .inl ((ok.empty x c (mem_of_lookup q)).symm)
 ·rw[lR,List.lookup_append]at ex ey
  cases qx:(cellsFrom (s.heap.push { cls:=.type "dict",data:=.dict #[] }).objs.size scope.names []).lookup x with
  |none=>rw[qx]at ex;exact absurd ex (hn x)
  |some d =>
   rw[qx]at ex;cases ex
   cases qy:(cellsFrom (s.heap.push { cls:=.type "dict",data:=.dict #[] }).objs.size scope.names []).lookup y with
   |none=>rw[qy]at ey;exact absurd ey (hn y)
   |some d =>
    rw[qy]at ey;cases ey;exact name_of_addr ok.apart (mem_of_lookup qx) (mem_of_lookup qy)
 ·rw[lR,List.lookup_append]
  cases q:(cellsFrom (s.heap.push { cls:=.type "dict",data:=.dict #[] }).objs.size scope.names []).lookup x with
  |none=>exact e
  |some d =>
   rcases uv _ _ _ _ _ (mem_of_lookup q)with z|z
   ·rw[S.cell _ z rfl]at e;cases e
   ·cases z
 ·exact qbF.mp (PySem.W.cellsFrom_some _ _ _ (.inl e))
theorem cT.plain{X:Cx}{scope:qbJ}{N:List r_}(hfree:∀x∈scope.names,x.2≠ .free)(kind:scope.kind= .function)(_:∀y∈scope.names,y.2= .cell->(y.1,qap)∉scope.names)
  (names:∀y∈scope.names,y.2= .local->scope.names.lookup y.1=some .local):cT X scope [] N (λ_=>y_ N.length none):=by
 have hr:(relabel scope X.env).names=scope.names:=by
  unfold relabel;exact map_eq_self λx hx=>by
   obtain⟨n,k⟩:=x;have:(k==qap)=false:=by simpa using hfree _ hx
   simp[this]
 refine⟨closureFor_none hfree,kind,λ_ _ _=>rfl,names,λx c e=>by simp at e,λx hx=>?_,λσ=>qau,λσ i x v _ e _=>?_⟩
 ·rw[hr]at hx;rcases hx with hx|hx
  ·exact .inl hx
  ·exact absurd Y (hfree _ (PySem.mem_of_lookup hx))
 ·rw[qbM]at e;split at e
  ·cases e
  ·cases e
noncomputable def yZ(look:r_->Option g_):List (r_×qbC)->List (r_×g_)->List (r_×g_)
 |[],acc=>acc
 |(n,k)::r,acc=>if(k==qap)=true then(match look n with|some a=>yZ look r ((n,a)::acc)|none=>yZ look r acc)else yZ look r acc
theorem yY{env:Env}:∀(names:List (r_×qbC)) (acc:List (r_×g_)),(∀x∈names,x.2= .free->∃a,env.cells.lookup x.1=some a) →
  (forIn names acc (λ(x:r_×qbC) (r:List (r_×g_))=>match x with|(name,kind)=>if(kind==qap)=true then do let c ←cellOf env name;pure (ForInStep.yield ((name,c)::r))else pure (ForInStep.yield r)):Sem (List (r_×g_)))=pure (yZ (env.cells.lookup ·) names acc)
 |[],acc,_=>rfl
 |(n,k)::r,acc,h=>by
  rw[qco];dsimp only;unfold yZ;by_cases hk:(k==qap)=true
  ·obtain⟨a,ha⟩:=h (n,k) D_ (by simpa using hk);have ha':env.cells.lookup n=some a:=ha;rw[if_pos hk,if_pos hk,ha'];have hc:cellOf env n=pure a:=by unfold cellOf;rw[ha']
   rw[hc];exact yY r _ λx hx=>h x (C_ _ hx)
  ·rw[if_neg hk,if_neg hk];exact yY r _ λx hx=>h x (C_ _ hx)
theorem Ab{look:r_->Option g_}:∀(names:List (r_×qbC)) (acc:List (r_×g_)),(∀x c,acc.lookup x=some c->look x=some c)->∀x c,(yZ look names acc).lookup x=some c->look x=some c
 |[],acc,h=>h
 |(n,k)::r,acc,h=>by
  unfold yZ;by_cases hk:(k==qap)=true
  ·rw[if_pos hk]
   cases e:look n with
   |none=>exact Ab r acc h
   |some a =>
    refine Ab r _ λx c q=>?_;rw[qbO]at q;by_cases hx:(x==n)=true
    ·rw[hx]at q;have:x=n:=by simpa using hx
     rw[this,e];exact q
    ·have hx':(x==n)=false:=by simpa using hx
     rw[hx']at q;exact h x c q
  ·rw[if_neg hk];exact Ab r acc h
theorem vC{look:r_->Option g_}:∀(names:List (r_×qbC)) (acc:List (r_×g_)) (x:r_),(∃c,acc.lookup x=some c)->∃c,(yZ look names acc).lookup x=some c
 |[],_,_,h=>h
 |(n,k)::r,acc,x,h=>by
  unfold yZ;by_cases hk:(k==qap)=true
  ·rw[if_pos hk]
   cases e:look n with
   |none=>exact vC r acc x h
   |some a =>
    refine vC r _ x ?_;rw[qbO]
    cases hx:x==n with
    |true=>exact⟨a,Y⟩
    |false=>exact h
  ·rw[if_neg hk];exact vC r acc x h
theorem xg{look:r_->Option g_}:∀(names:List (r_×qbC)) (acc:List (r_×g_)) (x:r_),(x,qap)∈names->(∃a,look x=some a)->∃c,(yZ look names acc).lookup x=some c
 |[],_,_,h,_=>by cases h
 |(n,k)::r,acc,x,h,ha=>by
  unfold yZ;rcases S_.mp h with e|e
  ·obtain⟨a,ha⟩:=ha;have e1:x=n:=congrArg Prod.fst e;have e2:k=qap:=(congrArg Prod.snd e).symm;subst e1 e2;rw[if_pos (by decide),ha];refine vC r _ x ⟨a,?_⟩;rw[qbO];simp
  ·by_cases hk:(k==qap)=true
   ·rw[if_pos hk]
    cases e2:look n with
    |none=>exact xg r acc x e ha
    |some a=>exact xg r _ x e ha
   ·rw[if_neg hk];exact xg r acc x e ha
theorem Ac{look:r_->Option g_}:∀(names:List (r_×qbC)) (acc:List (r_×g_)) (x:r_) (c:g_),(yZ look names acc).lookup x=some c->(x,qap)∈names\/acc.lookup x=some c
 |[],_,_,_,h=>.inr h
 |(n,k)::r,acc,x,c,h=>by
  unfold yZ at h;by_cases hk:(k==qap)=true
  ·rw[if_pos hk]at h
   cases e:look n with
   |none=>rw[e]at h;exact(Ac r acc x c h).imp (C_ _) id
   |some a =>
    rw[e]at h;rcases Ac r _ x c h with z|z
    ·exact .inl (C_ _ z)
    ·rw[qbO]at z
     cases hx:x==n with
     |true =>
      have e1:x=n:=by simpa using hx
      have e2:k= .free:=by simpa using hk
      rw[e1,e2];exact .inl D_
     |false=>rw[hx]at z;exact .inr z
  ·rw[if_neg hk]at h;exact(Ac r acc x c h).imp (C_ _) id
theorem vm{env:Env}:∀{names:List (r_×qbC)} {x:r_} {k:qbC},
  (names.map λ(n,k)=>if(k==qap&&env.scope.kind== .function&&env.kindOf n==some .cell)then(n,qb3)else(n,k)).lookup x=some k →
  (k= .cell\/k= .free)->names.lookup x=some .cell\/(x,qap)∈names
 |[],_,_,h,_=>by simp at h
 |(n,j)::r,x,k,h,hk=>by
  rw[qak,qbO]at h;rw[qbO];by_cases hj:(j==qap&&env.scope.kind== .function&&env.kindOf n==some .cell)=true
  ·simp only[hj,if_true]at h;by_cases hx:(x==n)=true
   ·have e:x=n:=by simpa using hx
    have ej:j= .free:=by
     rw[R_,R_]at hj;simpa using hj.1.1
    rw[e,←ej];exact .inr D_
   ·have hx':(x==n)=false:=by simpa using hx
    rw[hx']at h ⊢;exact(vm h hk).imp id (C_ _)
  ·simp only[hj]at h;by_cases hx:(x==n)=true
   ·have e:x=n:=by simpa using hx
    rw[e]at h;simp at h;subst h;rw[hx];rcases hk with q|q
    ·rw[q];exact .inl Y
    ·rw[e,←q];exact .inr D_
   ·have hx':(x==n)=false:=by simpa using hx
    simp[hx']at h;rw[hx'];exact(vm (by simpa using h) hk).imp id (C_ _)
noncomputable def st0(nt:Nat)(ix:List Nat)(σ:St):St:=y_ nt none++ix.map λj=>(σ[j]?).join
theorem cT.free{X:Cx}{scope:qbJ}{N:List r_}{nt:Nat}{ix:List Nat}(kind:scope.kind= .function)(cell:∀y∈scope.names,y.2= .cell->(y.1,qap)∉scope.names)
  (names:∀y∈scope.names,y.2= .local->scope.names.lookup y.1=some .local) (hf:∀y∈scope.names,y.2= .free->X.env.kindOf y.1=some .cell)
  (hl:N.length=nt+ix.length) (hx:∀(k j:Nat),ix[k]? =some j->∃x,N[nt+k]? =some x/\X.N[j]? =some x/\(x,qap)∈scope.names/\(relabel scope X.env).names.lookup x=some .cell) (ok:X.Ok) :
  ∃cl,cT X scope cl N (st0 nt ix):=by
 have hcl:∀y∈scope.names,y.2= .free->∃a,X.env.cells.lookup y.1=some a:=λy hy hk=>ok.has y.1 (.inl (hf y hy hk));refine⟨yZ (X.env.cells.lookup ·) scope.names [],?_,kind,λy hy hk=>?_,names,Ab scope.names [] (λx c e=>by simp at e),λx h=>?_,λσ=>?_,λσ i x v e1 e2 e3=>?_⟩
 ·have z:=yY scope.names [] hcl;unfold closureFor;dsimp only;rw[z];rfl
 ·cases q:(yZ (X.env.cells.lookup ·) scope.names []).lookup y.1 with
  |none=>rfl
  |some c =>
   rcases Ac _ _ _ _ q with z|z
   ·exact absurd z (cell y hy hk)
   ·cases z
 ·have hm:scope.names.lookup x=some .cell\/(x,qap)∈scope.names:=by
   rcases h with h|h
   ·exact vm h (.inl Y)
   ·exact vm h (.inr Y)
  exact hm.imp id λhm=>xg scope.names [] x hm (hcl _ hm Y)
 ·unfold st0;rw[A_,qau,f_,hl]
 ·unfold st0 at e2;by_cases hi:i<nt
  ·rw[qar (by rw[qau];exact hi),qbM]at e2;split at e2
   ·cases e2
   ·cases e2
  ·rw[qal (by rw[qau];omega),qau,n_]at e2
   cases ej:ix[i-nt]? with
   |none=>rw[ej]at e2;cases e2
   |some j =>
    rw[ej]at e2;have U9:(σ[j]?).join=some v:=V_ e2;obtain⟨x',n1,n2,n3,n4⟩:=hx (i-nt) j ej;rw[show nt+(i-nt)=i by omega,e1]at n1;cases n1;obtain⟨c,hc⟩:=xg (look:=(X.env.cells.lookup ·)) scope.names [] x n3 (hcl _ n3 rfl);refine⟨j,c,n2,?_,hf _ n3 Y,.inl n4,hc⟩
    cases es:σ[j]? with
    |none=>rw[es]at U9;cases U9
    |some o=>rw[es]at U9;rw[show o=some v from U9]
def Kp(a b:St):Prop:=∀(i:Nat) (v:V),a[i]? =some (some v)->b[i]? =some (some v)
theorem Kp.rep(n:Nat)(b:St):Kp (y_ n none) b:=λi v e=>by
 rw[qbM]at e;split at e
 ·cases e
 ·cases e
def Jr(wi:TI)(g:TG)(te:TE)(ua:St->St):TE:=λσ H Q=>wi σ H λJ H1=>∀l,H1 l=none->∃W:Nat->Nat->List V->Hp->Prop,(∃m,W 0 m [] (upd H1 l (.lst []))) ∧
 ∀i m ys H2,W i m ys H2->(J.stop i H2/\Q (.ref l) H2) ∨
  (J.go i H2/\∀x H3,J.IX i H2 x H3->g x (ua σ) H3 λFN H4=>Kp (ua σ) FN/\te FN H4 λy H5=>H5 l=some (.lst ys)/\ys.length<z_/\∃m',m'<m/\W (i+1) m' (ys++[y]) (upd H5 l (.lst (ys++[y]))))
theorem Inv.UG{X:Cx}{pins:List (g_×qa0)}{σ:St}{H:Hp}{s:p_}(I:Inv X pins σ H s):Inv X [] σ H s:=I.G8 λ_ hp=>nomatch hp
theorem uV.but{P:I_}{w:W_}{H:Hp}{h h':qad}{C:g_}(x:uV P w H h)(hC:H C=none)(sb:qbl C h h'):uV P w H h':=λb u e =>
 (x b u e).stay (λc v hc q=>(sb.2 c (by
  rintro rfl;rcases hc with z|z
  ·rw[z,e]at hC;cases hC
  ·rw[hC]at z;cases z)).trans q) (λ_ q=>q) λ_ _ q=>q
section
variable{X:Cx}{pins:List (g_×qa0)}{σ:St}{H:Hp}{s:p_}{scope:qbJ}{cl:List (r_×g_)}{N:List r_}{ua:St->St}{fp:List g_}{h₁:qad}{m:r_->Option i_}{E:i_->p_->Prop}
theorem Rf{MK:List (r_×g_)}(S:cT X scope cl N ua)(G:Sj cl MK scope s.heap.objs.size h₁)(I:Inv X pins σ H s)(hf:∀b∈fp,xD X pins H b/\b<s.heap.objs.size)(kp:∀b o,s.heap.get? b=some o->h₁.get? b=some o)(hns:h₁.Ns s.heap.objs.size m)(t':Nat)(ht:s.toks<=t':=by first|exact j_ _|exact qaw _|assumption|omega):
  Inv (j0 X scope MK s.heap.objs.size N s H fp (X.pn++pins) E) [] (ua σ) H { s with heap:=h₁,toks:=t' }:=by
 have aaw:∀b,b≠X.env.locals->b∉X.fs->b∉frs X.stack:=λb h1 h2 z=>by
  rcases S_.mp (I.AD b z)with q|q
  ·exact h1 q
  ·exact h2 q
 have Ut:∀x c,cl.lookup x=some c->c<s.heap.objs.size:=λx c e=>by
  obtain⟨v,o,ho,_⟩:=I.cell x c (S.sub x c e);exact J_ ho
 refine⟨⟨I.mod,S.kind,I.ok.glob,I.ok.blt,j_ _,λx y c a b=>?_,λx h=>(S.has x h).elim (G.own x) λ⟨c,e⟩=>⟨c,G.keep x c e⟩,λx c z e=>?_,I.ok.hd,I.ok.frames,.inl Y,λb hb=>?_,I.bs,m_ I.ok.R0 I.sz,λb o e hb=>?_,λb hb=>?_,I.stack,I.GO,I.tk⟩,
  rfl,I.bare,Un.kept kp,⟨m,hns,λi x v e1 e2 e3=>?_⟩,λx c e=>?_,I.hok.fresh (j_ _),λx c e=>(G.look x c e).elim (λz=>I.hok.fresh (qbU z.1)) λz=>I.pP x c (S.sub x c z),λp hp=>?_,I.hok.kept kp,S.len σ,ht⟩
 ·by_cases hc:s.heap.objs.size<c
  ·exact G.inj x y c hc a b λz e=>Nat.lt_asymm hc (Ut z c e)
  ·exact I.ok.inj x y c (S.sub x c ((G.look x c a).elim (λz=>absurd z.1 hc) id)) (S.sub y c ((G.look y c b).elim (λz=>absurd z.1 hc) id))
 ·rcases G.look x c e with q|q
  ·exact qbU q.1
  ·have z2:(scope.names.lookup x==some qb3)=true:=z;have z':scope.names.lookup x=some .cell:=by simpa using z2
   rw[S.cell _ (mem_of_lookup z') rfl]at q;cases q
 ·obtain⟨⟨_,_,_,_,f4,_⟩,lt⟩:=hf b hb;exact⟨Y_ lt,λx c e=>(G.look x c e).elim (λz=>qba (qcu lt z.1)) λz=>f4 x c (S.sub x c z)⟩
 ·obtain⟨⟨f0,_,_,f3,_⟩,_⟩:=hf b hb;rcases f3 with z|z
  ·exact I.ok.Mg b o e z
  ·exact absurd (K_ (J_ e) (m_ I.ok.R0 z)) (qa_ _)
 ·obtain⟨⟨_,f1,f2,_⟩,_⟩:=hf b hb;exact aaw b f1 f2
 ·obtain⟨j,c,n1,n2,n3,n4,n5⟩:=S.fv σ i x v e1 e2 e3;obtain⟨mX,_,hl⟩:=I.loc;obtain⟨u,r,l⟩:=hl j x v n1 n2 (.inr (.inl n3));refine⟨u,r,.inr ⟨n4,c,G.keep x c n5,?_⟩⟩;rcases l with⟨k,_⟩|⟨_,c',ec,o,ho,hd⟩
  ·have k':X.env.scope.names.lookup x=some .local:=k;have n3':X.env.scope.names.lookup x=some .cell:=n3;rw[k']at n3';cases n3'
  ·have q:=S.sub x c n5;rw[q]at ec;cases ec;exact⟨o,kp _ _ ho,hd⟩
 ·rcases G.look x c e with z|z
  ·exact⟨none,z.2⟩
  ·obtain⟨v,o,ho,hd⟩:=I.cell x c (S.sub x c z);exact⟨v,o,kp _ _ ho,hd⟩
 ·have hp':p∈X.pn++pins:=by
   rcases qab.mp hp with z|z
   ·exact z
   ·cases z
  obtain⟨a,b,c,d,e⟩:=I.pin p hp';exact⟨kp _ _ a,b,Y_ (J_ a),aaw _ c d,e⟩
end
end
section
inductive Cp where
 |lst (a:g_)|tup (a:g_)|txt (x:r_)
noncomputable def iC(x:r_):List V:=x.cps.toList.map λc=>V.str ⟨#[c]⟩
noncomputable def Cp.val:Cp->V
 | .lst a=>.ref a
 | .tup a=>.ref a
 | .txt x=>.str x
noncomputable def Cp.at(K:PySem.W.Frag)(H:Hp):Cp->List V->Prop
 | .lst a=>bY K H a
 | .tup a=>eK K H a
 | .txt x=>λxs=>xs=iC x
noncomputable def Cp.Ll(h:qad)(it:g_)(i:Nat):Cp->Prop
 | .lst a=>h.IsListIter it a i
 | .tup a=>h.IsTupleIter it a i
 | .txt x=>∃t,h.IsStrIter it (strIterType x) x t i
noncomputable def Cp.src(h:qad):Cp->List V->Prop
 | .lst a=>λxs=>∃its,Vals xs its/\h.IsList a its.toArray
 | .tup a=>λxs=>∃its,Vals xs its/\h.IsTuple a its.toArray
 | .txt x=>λxs=>xs=iC x
noncomputable def Cp.off(b:g_):Cp->Prop
 | .lst a=>a≠b
 | .tup a=>a≠b
 | .txt _=>True
section
variable{X:Cx}{pins:List (g_×qa0)}{σ:St}{H:Hp}{s:p_}{c d:Cp}{xs ys:List V}
theorem Cp.vc(I:Inv X pins σ H s)(h:c.at X.K H xs):c.src s.heap xs:=by
 cases c with
 |lst a=>obtain⟨its,r,p,_⟩:=I.list h;exact⟨its,r,p.isList⟩
 |tup a=>obtain⟨its,r,p,_⟩:=I.tuple h;exact⟨its,r,p⟩
 |txt x=>exact h
theorem Cp.MO(I:Inv X pins σ H s)(h:c.at X.K H xs)(h':c.at X.K H ys):xs=ys:=by
 cases c with
 |lst a=>exact I.DU h h'
 |tup a=>exact I.FY h h'
 |txt x=>exact(show xs=iC x from h).trans (show ys=iC x from h').symm
theorem Cp.uo {h:qad}{b:g_}{o:qa0}{T:String}(hs:c.src h xs)(hb:h.get? b=some o)(hc:o.cls= .type T)(n1:T≠ "list")(n2:T≠ "tuple"):c.off b:=by
 cases c with
 |lst a =>
  obtain⟨its,_,o',ho,hc',_⟩:=hs;intro e;rw[e,hb]at ho;cases ho;rw[hc]at hc';injection hc' with q;exact n1 q
 |tup a =>
  obtain⟨its,_,o',ho,hc',_⟩:=hs;intro e;rw[e,hb]at ho;cases ho;rw[hc]at hc';injection hc' with q;exact n2 q
 |txt x=>trivial
theorem Cp.NC{h:qad}{b:g_}(hs:c.src h xs)(hb:h.objs.size<=b):c.off b:=by
 cases c with
 |lst a =>
  obtain⟨its,_,o',ho,_⟩:=hs;exact Y_ (K_ (J_ ho) hb)
 |tup a =>
  obtain⟨its,_,o',ho,_⟩:=hs;exact Y_ (K_ (J_ ho) hb)
 |txt x=>trivial
theorem Cp.qm{h h':qad}{b:g_}(hs:c.src h xs)(hx:Heap.ExtBut b h h')(ho:c.off b):c.src h' xs:=by
 cases c with
 |lst a=>obtain⟨its,r,p⟩:=hs;exact⟨its,r,p.extBut hx ho⟩
 |tup a=>obtain⟨its,r,p⟩:=hs;exact⟨its,r,p.extBut hx ho⟩
 |txt x=>exact hs
theorem Cp.Qj{h h':qad}(hs:c.src h xs)(hx:∀b o,h.get? b=some o->h'.get? b=some o):c.src h' xs:=by
 cases c with
 |lst a=>obtain⟨its,r,o,ho,q⟩:=hs;exact⟨its,r,o,hx _ _ ho,q⟩
 |tup a=>obtain⟨its,r,o,ho,q⟩:=hs;exact⟨its,r,o,hx _ _ ho,q⟩
 |txt x=>exact hs
theorem Cp.pO{h:qad}{it:g_}{i:Nat}(q:c.Ll h it i):rG λo T vs=>h.get? it=some o/\o.cls= .type T/\o.data= .fields vs/\T≠ "list" /\T≠ "tuple" :=by
 cases c with
 |lst a=>obtain⟨o,ho,hc,hd⟩:=q;exact⟨o,_,_,ho,hc,hd,by decide,by decide⟩
 |tup a=>obtain⟨o,ho,hc,hd⟩:=q;exact⟨o,_,_,ho,hc,hd,by decide,by decide⟩
 |txt x =>
  obtain⟨t,o,ho,hc,hd⟩:=q;refine⟨o,_,_,ho,hc,hd,?_,?_⟩
  ·unfold strIterType;split<;>decide
  ·unfold strIterType;split<;>decide
theorem Cp.nU{h h':qad}{it:g_}{i:Nat}(q:c.Ll h it i)(e:∀o,h.get? it=some o->h'.get? it=some o):c.Ll h' it i:=by
 cases c with
 |lst a=>obtain⟨o,ho,r⟩:=q;exact⟨o,e _ ho,r⟩
 |tup a=>obtain⟨o,ho,r⟩:=q;exact⟨o,e _ ho,r⟩
 |txt x=>obtain⟨t,o,ho,r⟩:=q;exact⟨t,o,e _ ho,r⟩
end
section
variable{prog:I_}{w:W_}{A:qam}{E:i_->p_->Prop}{s:p_}{c d:Cp}{xs ys:List V}
theorem zN{it t:g_}{i:Nat}{items}{x:i_}{Q:i_->p_->Prop}(hit:s.heap.IsTupleIter it t i)
  (ht:s.heap.IsTuple t items) (hx:items[i]? =some x)
  (hQ:∀h',h'.IsTupleIter it t (i+1)->qbl it s.heap h'->Q x { s with heap:=h' }) :
  N_ (model prog w) A (qas (.ref it)) Q E s:=by
 obtain⟨o,ho,hc,hd⟩:=id hit;obtain⟨ol,hol,_,nl,hdl⟩:=ht;unfold qas;refine h_ (qaY (name:=w_ "__next__") hit.typeIs qbp
  (qbN qbp hit.typeIs F.entry_tuple_iterator_next ?_ (F.args_tuple_iterator_next_1 _)))
 show N_ _ _ (field (.ref it) 0 >>= _) _ _ s;refine h_ (qaE ho hd (x:=.ref t) Y ?_)
 show N_ _ _ (if(Value.ref t==Value.none)=true then _ else _) _ _ s
 rw[if_neg (show ¬((Value.ref t==Value.none)=true) from O_)];show N_ _ _ (field (.ref it) 1 >>= _) _ _ s;refine h_ (qaE ho hd (x:=.int i 0) Y ?_);show N_ _ _ (seqItems? (.ref t) >>= _) _ _ s;refine h_ (qbq hol hdl ?_);simp only[qay,hx];refine h_ (qca ho hd (by simp) (t_ ⟨x,Y,t_ (hQ _ ?_ (Heap.SameBut.update ..))⟩));exact⟨_,qaH _ ho (qb4 (qbr hd _)),(Obj.cls_mapFields ..).trans hc,by
  rw[qbr hd];simp[rawInt]⟩
theorem AV{it t:g_}{i:Nat}{items}{Q:i_->p_->Prop}(hh:A.handled=none)
  (hit:s.heap.IsTupleIter it t i) (ht:s.heap.IsTuple t items) (hx:items[i]? =none)
  (hE:∀h' e,Heap.ExtBut it s.heap h'->(∃o,h'.get? e=some o/\o.cls= .type "StopIteration")->E (.ref e) { s with heap:=h' }) :
  N_ (model prog w) A (qas (.ref it)) Q E s:=by
 obtain⟨o,ho,hc,hd⟩:=id hit;obtain⟨ol,hol,_,nl,hdl⟩:=ht;unfold qas;refine h_ (qaY (name:=w_ "__next__") hit.typeIs qbp
  (qbN qbp hit.typeIs F.entry_tuple_iterator_next ?_ (F.args_tuple_iterator_next_1 _)))
 show N_ _ _ (field (.ref it) 0 >>= _) _ _ s;refine h_ (qaE ho hd (x:=.ref t) Y ?_)
 show N_ _ _ (if(Value.ref t==Value.none)=true then _ else _) _ _ s
 rw[if_neg (show ¬((Value.ref t==Value.none)=true) from O_)];show N_ _ _ (field (.ref it) 1 >>= _) _ _ s;refine h_ (qaE ho hd (x:=.int i 0) Y ?_);show N_ _ _ (seqItems? (.ref t) >>= _) _ _ s;refine h_ (qbq hol hdl ?_);simp only[qay,hx];refine h_ (wpAny_rule (h_ (qca ho hd (by simp) ?_)));show N_ _ _ (newExc (.type "StopIteration") [] >>= _) _ _ _;refine h_ ?_;simp only[newExc,newTuple];refine h_ (qa2 ?_ (by size_fits))
 refine h_ (m:=firstArgMember _ _) (wpAny_of_eq (a:=Value.none) (by first|rfl|(simp only[firstArgMember];rfl)) ?_)
 refine qa2 ?_ (by size_fits);simp only[raiseNew];refine h_ (wpAny_handled ?_)
 first|rw[show A.in1.handled=none from hh]|rw[hh]
 refine h_ (t_ (wpAny_throw ?_));exact hE _ _ (((Heap.SameBut.update ..).extBut.push _).push _) ⟨_,H_ _ Y,Y⟩
theorem signs_get{x:r_}{i:Nat}{v:V}(h:(iC x)[i]? =some v):∃k,x.cps[i]? =some k/\v= .str ⟨#[k]⟩:=by
 unfold iC at h;rw[n_]at h
 cases e:x.cps.toList[i]? with
 |none=>rw[e]at h;cases h
 |some k =>
  rw[e]at h;exact⟨k,by simpa using e,(V_ h).symm⟩
theorem Oh{x:r_}{i:Nat}(h:(iC x)[i]? =none):x.cps[i]? =none:=by
 unfold iC at h;rw[n_]at h
 cases e:x.cps.toList[i]? with
 |none=>simpa using e
 |some k=>rw[e]at h;cases h
theorem Cp.item{it:g_}{i:Nat}{x:V}{Q:i_->p_->Prop}(hit:c.Ll s.heap it i)(hs:c.src s.heap xs)(hx:xs[i]? =some x)
  (hQ:∀u h' tk,RelV x u->c.Ll h' it (i+1)->qbl it s.heap h'->Q u { s with heap:=h',toks:=tk }) :
  N_ (model prog w) A (qas (.ref it)) Q E s:=by
 cases c with
 |lst a =>
  obtain⟨its,r,p⟩:=hs;obtain⟨u,hu,ru⟩:=r.get hx;exact wpAny_nextOf_list_item hit p (x:=u) (by simpa using hu) λh' q sb=>hQ u h' s.toks ru q sb
 |tup a =>
  obtain⟨its,r,p⟩:=hs;obtain⟨u,hu,ru⟩:=r.get hx;exact zN hit p (x:=u) (by simpa using hu) λh' q sb=>hQ u h' s.toks ru q sb
 |txt x' =>
  obtain⟨t,q⟩:=hit;rw[show xs=iC x' from hs]at hx;obtain⟨k,hk,rfl⟩:=signs_get hx;unfold strIterType at q;by_cases ha:(x'.cps.all (·<128))=true
  ·rw[if_pos ha]at q;exact wpAny_nextOf_ascii_item q hk λh' q' sb=>hQ _ h' _ ⟨_,Y⟩ ⟨t,by unfold strIterType;rw[if_pos ha];exact q'⟩ sb
  ·rw[if_neg ha]at q;exact wpAny_nextOf_wide_item q hk λh' q' sb=>hQ _ h' _ ⟨_,Y⟩ ⟨t,by unfold strIterType;rw[if_neg ha];exact q'⟩ sb
theorem Cp.fin{it:g_}{i:Nat}{Q:i_->p_->Prop}(hh:A.handled=none)(hit:c.Ll s.heap it i)(hs:c.src s.heap xs)(hx:xs[i]? =none)
  (hE:∀h' e,Heap.ExtBut it s.heap h'->(∃o,h'.get? e=some o/\o.cls= .type "StopIteration")->E (.ref e) { s with heap:=h' }) :
  N_ (model prog w) A (qas (.ref it)) Q E s:=by
 cases c with
 |lst a =>
  obtain⟨its,r,p⟩:=hs;exact wpAny_nextOf_list_end hh hit p (by simpa using r.none_of hx) hE
 |tup a =>
  obtain⟨its,r,p⟩:=hs;exact AV hh hit p (by simpa using r.none_of hx) hE
 |txt x' =>
  obtain⟨t,q⟩:=hit;rw[show xs=iC x' from hs]at hx;have hk:=Oh hx;unfold strIterType at q;by_cases ha:(x'.cps.all (·<128))=true
  ·rw[if_pos ha]at q;exact wpAny_nextOf_ascii_end hh q hk hE
  ·rw[if_neg ha]at q;exact wpAny_nextOf_wide_end hh q hk hE
structure Ei(z TI TO i1 i2:g_):Prop where
 TIz:TI≠z
 TOz:TO≠z
 i1z:i1≠z
 i2z:i2≠z
 TITO:TI≠TO
 TIi1:TI≠i1
 TIi2:TI≠i2
 TOi1:TO≠i1
 TOi2:TO≠i2
 i12:i1≠i2
structure N2(h:qad)(z TI TO i1 i2:g_)(c d:Cp)(f0:i_)(i:Nat):Prop where
 zz:IsZip h z TI TO f0
 ti:qcG h TI (.ref i1) (.ref i2)
 to:fD λa b=>qcG h TO a b
 h1:c.Ll h i1 i
 h2:d.Ll h i2 i
 c1:c.off TO
 c2:d.off TO
theorem PU{z TI TO i1 i2:g_}{i:Nat}{x y:V}{Q:Option i_->p_->Prop}(D:Ei z TI TO i1 i2)(Z:N2 s.heap z TI TO i1 i2 c d .none i)
  (sc:c.src s.heap xs) (sd:d.src s.heap ys) (hx:xs[i]? =some x) (hy:ys[i]? =some y)
  (hQ:∀u v h' tk,RelV x u->RelV y v->N2 h' z TI TO i1 i2 c d (rawInt s.heap.objs.size) (i+1)->qcG h' s.heap.objs.size u v →
   (∀b o,b≠z->b≠TO->b≠i1->b≠i2->s.heap.get? b=some o->h'.get? b=some o)->Q (some (.ref s.heap.objs.size)) { s with heap:=h',toks:=tk }) :
  N_ (model prog w) A (pyNext (.ref z)) Q E s:=by
 obtain⟨hz,hTI,⟨a,b,hTO⟩,h1,h2,c1,c2⟩:=id Z;have hT:s.TypeIs (.ref z) "zip" :=⟨_,hz,rfl⟩;obtain⟨oi1,T1,_,hi1,ci1,_,n11,UW⟩:=Cp.pO h1;obtain⟨oi2,T2,_,hi2,ci2,_,n21,n22⟩:=Cp.pO h2;have cz:c.off z:=Cp.uo sc hz rfl (by decide) (by decide);have dz:d.off z:=Cp.uo sd hz rfl (by decide) (by decide);have ci:c.off i1:=Cp.uo sc hi1 ci1 n11 UW;have di:d.off i1:=Cp.uo sd hi1 ci1 n11 UW;unfold pyNext;refine h_ (qcj (qaY (name:=w_ "__next__") hT F.slot_zip_next
  (qbN F.slot_zip_next hT F.entry_zip_next ?_ (F.args_zip_next_1 _))))
 show N_ _ _ (field (.ref z) 2 >>= _) _ _ _;refine h_ (qaE hz Y (x:=.bool false) Y ?_);show N_ _ _ (field (.ref z) 3 >>= _) _ _ _;refine h_ (qaE hz Y (x:=.ref TI) Y ?_);refine h_ (qbq hTI Y ?_);show N_ _ _ (qaV (.ref z) >>= _) _ _ _;refine h_ ?_;unfold qaV;refine h_ (qaE hz Y (x:=.none) Y (t_ ?_));simp only[if_true];refine h_ (wpAny_rule ?_);refine h_ (qaE hz Y (x:=.ref TO) Y ?_);refine h_ (qbs hz (by simp) λh₁ BP hs₁=>?_);replace BP:IsZip h₁ z TI TO .ellipsis:=BP;refine h_ ?_;simp only[List.zipIdx_cons,List.zipIdx_nil,qco,List.forIn_nil];refine h_ (h_ (wpAny_onRaise ?_));show N_ _ _ (qas (.ref i1) >>= _) _ _ _;refine h_ (Cp.item (c:=c) (Cp.nU h1 λo e=>hs₁.extBut _ _ D.i1z e) (Cp.qm sc hs₁.extBut cz) hx λu h₂ tk₂ ru U6 hs₂=>t_ ?_);have D4:qcG h₂ TO a b:=hs₂.extBut _ _ D.TOi1 (hs₁.extBut _ _ D.TOz hTO);refine h_ (qbq D4 Y ?_);refine h_ (wpAny_updateSeq_pair D4 λh₃ HV tT=>?_);replace HV:qcG h₃ TO u b:=HV;refine h_ (wpAny_letGo (t_ ?_));refine h_ (h_ (wpAny_onRaise ?_));show N_ _ _ (qas (.ref i2) >>= _) _ _ _;refine h_ (Cp.item (c:=d) (Cp.nU h2 λo e=>tT.extBut _ _ D.TOi2.symm (hs₂.extBut _ _ D.i12.symm (hs₁.extBut _ _ D.i2z e))) (Cp.qm (Cp.qm (Cp.qm sd hs₁.extBut dz) hs₂.extBut di) tT.extBut c2) hy λv h₄ tk₄ rv abM BR=>t_ ?_);have Ru:qcG h₄ TO u b:=BR.extBut _ _ D.TOi2 HV;refine h_ (qbq Ru Y ?_);refine h_ (wpAny_updateSeq_pair Ru λh₅ HU BQ=>?_);replace HU:qcG h₅ TO u v:=HU;refine h_ (wpAny_letGo (t_ (t_ ?_)));refine h_ (qbq HU Y ?_);refine h_ (wpAny_newTuple ?_);have hsz:h₅.objs.size=s.heap.objs.size:=by rw[BQ.1,BR.1,tT.1,hs₂.1,hs₁.1]
 have UX:IsZip h₅ z TI TO .ellipsis:=BQ.extBut _ _ D.TOz.symm (BR.extBut _ _ D.i2z.symm (tT.extBut _ _ D.TOz.symm (hs₂.extBut _ _ D.i1z.symm BP)));have U3:∀e o,e≠z->e≠TO->e≠i1->e≠i2->s.heap.get? e=some o->h₅.get? e=some o:=λe o e1 e2 e3 e4 q =>
  BQ.extBut _ _ e2 (BR.extBut _ _ e4 (tT.extBut _ _ e2 (hs₂.extBut _ _ e3 (hs₁.extBut _ _ e1 q))))
 have abN:c.Ll h₅ i1 (i+1):=Cp.nU U6 λo e=>BQ.extBut _ _ D.TOi1.symm (BR.extBut _ _ D.i12 (tT.extBut _ _ D.TOi1.symm e));have abL:d.Ll h₅ i2 (i+1):=Cp.nU abM λo e=>BQ.extBut _ _ D.TOi2.symm e;have abg:z<h₅.objs.size:=J_ UX;show N_ _ _ (Builtin.SmallTypes.ownedTupleHandOut (.ref z) (.ref h₅.objs.size) >>= _) _ _ _;refine h_ ?_;unfold Builtin.SmallTypes.ownedTupleHandOut;have abf:IsZip (h₅.push { cls:=.type "tuple",data:=.seq #[u,v] }) z TI TO .ellipsis:=k_ _ UX;refine h_ (qbs abf (by simp) λafU Rj U1=>?_);replace Rj:IsZip afU z TI TO (rawInt h₅.objs.size):=Rj;refine qbs Rj (by simp) λTX NH U0=>?_;replace NH:IsZip TX z TI TO (rawInt h₅.objs.size):=NH;have up:∀e o,e≠z->h₅.get? e=some o->TX.get? e=some o:=λe o e1 q=>U0.extBut _ _ e1 (U1.extBut _ _ e1 (k_ _ q));have U5:qcG TX h₅.objs.size u v:=U0.extBut _ _ (qba abg) (U1.extBut _ _ (qba abg) (H_ _ rfl));rw[hsz]at NH U5;refine t_ ⟨_,Y,t_ ?_⟩;show Q (some (.ref h₅.objs.size)) _;rw[hsz];exact hQ u v TX _ ru rv ⟨NH,up _ _ D.TIz (U3 _ _ D.TIz D.TITO D.TIi1 D.TIi2 hTI),⟨_,_,up _ _ D.TOz HU⟩,Cp.nU abN λo e=>up _ o D.i1z e,Cp.nU abL λo e=>up _ o D.i2z e,c1,c2⟩ U5
  λe o e1 e2 e3 e4 q=>up e o e1 (U3 e o e1 e2 e3 e4 q)
theorem SE{z TI TO i1 i2:g_}{i:Nat}{Q:Option i_->p_->Prop}(hh:A.handled=none)(D:Ei z TI TO i1 i2)(Z:N2 s.heap z TI TO i1 i2 c d .none i)
  (sc:c.src s.heap xs) (sd:d.src s.heap ys) (hend:xs[i]? =none\/ys[i]? =none)
  (hQ:∀h' tk,(∀b o,b≠z->b≠TO->b≠i1->b≠i2->s.heap.get? b=some o->h'.get? b=some o)->Q none { s with heap:=h',toks:=tk }) :
  N_ (model prog w) A (pyNext (.ref z)) Q E s:=by
 obtain⟨hz,hTI,⟨a,b,hTO⟩,h1,h2,c1,c2⟩:=id Z;have hT:s.TypeIs (.ref z) "zip" :=⟨_,hz,rfl⟩;obtain⟨oi1,T1,_,hi1,ci1,_,n11,UW⟩:=Cp.pO h1;have cz:c.off z:=Cp.uo sc hz rfl (by decide) (by decide);have dz:d.off z:=Cp.uo sd hz rfl (by decide) (by decide);have ci:c.off i1:=Cp.uo sc hi1 ci1 n11 UW;have di:d.off i1:=Cp.uo sd hi1 ci1 n11 UW;have stop:∀(h':qad) (e:g_) (tk:Nat),(∃o,h'.get? e=some o/\o.cls= .type "StopIteration")->(∀b o,b≠z->b≠TO->b≠i1->b≠i2->s.heap.get? b=some o->h'.get? b=some o) →
   N_ (model prog w) A (isInstance (.ref e) (.type "StopIteration") >>= λb=>if b=true then pure (none:Option i_)else throw (.ref e)) Q E { s with heap:=h',toks:=tk }:=by
  intro h' e tk he hk;obtain⟨o,ho,hc⟩:=he;refine h_ (wpAny_isInstance (T:= "StopIteration") (b:=true) ⟨o,ho,hc⟩ isSubtype_stop ?_);exact t_ (hQ _ _ hk)
 unfold pyNext;refine h_ (qcj (qaY (name:=w_ "__next__") hT F.slot_zip_next
  (qbN F.slot_zip_next hT F.entry_zip_next ?_ (F.args_zip_next_1 _))))
 show N_ _ _ (field (.ref z) 2 >>= _) _ _ _;refine h_ (qaE hz Y (x:=.bool false) Y ?_);show N_ _ _ (field (.ref z) 3 >>= _) _ _ _;refine h_ (qaE hz Y (x:=.ref TI) Y ?_);refine h_ (qbq hTI Y ?_);show N_ _ _ (qaV (.ref z) >>= _) _ _ _;refine h_ ?_;unfold qaV;refine h_ (qaE hz Y (x:=.none) Y (t_ ?_));simp only[if_true];refine h_ (wpAny_rule ?_);refine h_ (qaE hz Y (x:=.ref TO) Y ?_);refine h_ (qbs hz (by simp) λh₁ BP hs₁=>?_);replace BP:IsZip h₁ z TI TO .ellipsis:=BP;refine h_ ?_;simp only[List.zipIdx_cons,List.zipIdx_nil,qco,List.forIn_nil];refine h_ (h_ (wpAny_onRaise ?_));show N_ _ _ (qas (.ref i1) >>= _) _ _ _
 cases hx:xs[i]? with
 |none =>
  refine h_ (Cp.fin (c:=c) hh (Cp.nU h1 λo e=>hs₁.extBut _ _ D.i1z e) (Cp.qm sc hs₁.extBut cz) hx λh₂ e hs₂ he=>?_);obtain⟨oe,YV,hce⟩:=he;have UZ:IsZip h₂ z TI TO .ellipsis:=hs₂ _ _ D.i1z.symm BP;have hez:e≠z:=λx=>by subst x;rw[UZ]at YV;cases YV;simp at hce
  refine qbs UZ (by simp) λh₃ _ tT=>?_;exact stop h₃ e _ ⟨oe,tT.extBut _ _ hez YV,hce⟩ λk o c1 _ c3 _ x=>tT.extBut _ _ c1 (hs₂ _ _ c3 (hs₁.extBut _ _ c1 x))
 |some x =>
  have hy:ys[i]? =none:=by rcases hend with h|h;rw[hx]at h;cases h;exact h
  refine h_ (Cp.item (c:=c) (Cp.nU h1 λo e=>hs₁.extBut _ _ D.i1z e) (Cp.qm sc hs₁.extBut cz) hx λu h₂ tk₂ ru U6 hs₂=>t_ ?_);have D4:qcG h₂ TO a b:=hs₂.extBut _ _ D.TOi1 (hs₁.extBut _ _ D.TOz hTO);refine h_ (qbq D4 Y ?_);refine h_ (wpAny_updateSeq_pair D4 λh₃ HV tT=>?_);refine h_ (wpAny_letGo (t_ ?_));refine h_ (h_ (wpAny_onRaise ?_));show N_ _ _ (qas (.ref i2) >>= _) _ _ _;refine h_ (Cp.fin (c:=d) hh (Cp.nU h2 λo e=>tT.extBut _ _ D.TOi2.symm (hs₂.extBut _ _ D.i12.symm (hs₁.extBut _ _ D.i2z e))) (Cp.qm (Cp.qm (Cp.qm sd hs₁.extBut dz) hs₂.extBut di) tT.extBut c2) hy λh₄ e BR he=>?_);obtain⟨oe,YV,hce⟩:=he;have UY:IsZip h₄ z TI TO .ellipsis:=BR _ _ D.i2z.symm (tT.extBut _ _ D.TOz.symm (hs₂.extBut _ _ D.i1z.symm BP));have hez:e≠z:=λx=>by subst x;rw[UY]at YV;cases YV;simp at hce
  refine qbs UY (by simp) λh₅ _ BQ=>?_;exact stop h₅ e _ ⟨oe,BQ.extBut _ _ hez YV,hce⟩ λk o c1 c2 c3 c4 x=>BQ.extBut _ _ c1 (BR _ _ c4 (tT.extBut _ _ c2 (hs₂.extBut _ _ c3 (hs₁.extBut _ _ c1 x))))
noncomputable def Cp.gF(t:Tok):Cp->qa0
 | .lst a=>{ cls:=.type "list_iterator",data:=.fields #[.ref a,.int 0 0] }
 | .tup a=>{ cls:=.type "tuple_iterator",data:=.fields #[.ref a,.int 0 0] }
 | .txt x=>{ cls:=.type (strIterType x),data:=.fields #[.str x t,.int 0 0] }
noncomputable def Cp.value(t:Tok):Cp->i_
 | .lst a=>.ref a
 | .tup a=>.ref a
 | .txt x=>.str x t
theorem Cp.value_of{u:i_}(r:RelV c.val u):∃t,u=c.value t:=by
 cases c with
 |lst a=>exact⟨0,r⟩
 |tup a=>exact⟨0,r⟩
 |txt x=>exact r
theorem Cp.iter{t:Tok}{Q:i_->p_->Prop}(hs:c.src s.heap xs)(hQ:Q (.ref s.heap.objs.size) { s with heap:=s.heap.push (c.gF t) }):N_ (model prog w) A (pyIter (c.value t)) Q E s:=by
 cases c with
 |lst a=>obtain⟨its,_,p⟩:=hs;exact qb5 p hQ
 |tup a=>obtain⟨its,_,p⟩:=hs;exact qbW p hQ
 |txt x=>exact qcv hQ
theorem Cp.NG{t:Tok}{h:qad}{it:g_}(e:h.get? it=some (c.gF t)):c.Ll h it 0:=by
 cases c with
 |lst a=>exact⟨_,e,Y,Y⟩
 |tup a=>exact⟨_,e,Y,Y⟩
 |txt x=>exact⟨t,_,e,Y,Y⟩
noncomputable abbrev zH1(h:qad)(o1:qa0):qad:=h.push o1
noncomputable abbrev zH2(h:qad)(o1 o2:qa0):qad:=(zH1 h o1).push o2
noncomputable abbrev zH3(h:qad)(o1 o2:qa0):qad:=(zH2 h o1 o2).push { cls:=.type "tuple",data:=.seq #[.ref h.objs.size,.ref (zH1 h o1).objs.size] }
noncomputable abbrev zH4(h:qad)(o1 o2:qa0):qad:=(zH3 h o1 o2).push { cls:=.type "tuple",data:=.seq #[.none,.none] }
noncomputable abbrev Zy(h:qad)(o1 o2:qa0):qad:=(zH4 h o1 o2).push { cls:=.type "zip",data:=.fields #[.none,.bool false,.bool false,.ref (zH2 h o1 o2).objs.size,.ref (zH3 h o1 o2).objs.size] }
theorem OQ(c d:Cp)(t1 t2:Tok)(xs ys:List V):
  Meets (Builtin.«zip.__new__» ⟨[.type "zip",c.value t1,d.value t2],[]⟩) (λ_ R s=>c.src s.heap xs/\d.src s.heap ys ∧
   R (.ok (.ret (.ref (zH4 s.heap (c.gF t1) (d.gF t2)).objs.size))) { s with heap:=Zy s.heap (c.gF t1) (d.gF t2) }) :=
 .of_wp λprog w A R s h=>by
  obtain⟨hp,g,dd,tk,os⟩:=s;obtain⟨hl1,hl2,h⟩:=h;have hsub:=sub_zip;have hL1:c.src (Shared.heap ⟨hp,g,dd,tk,os⟩) xs:=hl1;have hL2:d.src (Shared.heap ⟨hp.push (c.gF t1),g,dd,tk,os⟩) ys:=Cp.Qj hl2 λb o e=>k_ _ e
  wp_walk using Cp.iter (t:=t1) hL1,Cp.iter (t:=t2) hL2
  exact⟨_,Y,h⟩
theorem Pf{t1 t2:Tok}{Q:i_->p_->Prop}(sc:c.src s.heap xs)(sd:d.src s.heap ys)
  (h:∀h',IsZip h' (s.heap.objs.size+4) (s.heap.objs.size+2) (s.heap.objs.size+3) .none->qcG h' (s.heap.objs.size+2) (.ref s.heap.objs.size) (.ref (s.heap.objs.size+1)) →
   qcG h' (s.heap.objs.size+3) .none .none->c.Ll h' s.heap.objs.size 0->d.Ll h' (s.heap.objs.size+1) 0->(∀b o,s.heap.get? b=some o->h'.get? b=some o)->Q (.ref (s.heap.objs.size+4)) { s with heap:=h' }) :
  N_ (model prog w) A (call (.type "zip") [c.value t1,d.value t2]) Q E s:=by
 refine callType_new F.called_zip (by decide) (F.typeCall_zip_2 _ _) (F.newCall_zip_2 _ _) (λobj=>F.args_object_init_3 obj _ _) F.entry_zip_new
  (OQ c d t1 t2 xs ys) ⟨sc,sd,?_⟩
 have z1:(zH1 s.heap (c.gF t1)).objs.size=s.heap.objs.size+1:=qaQ ..;have z2:(zH2 s.heap (c.gF t1) (d.gF t2)).objs.size=s.heap.objs.size+2:=by rw[qaQ,z1]
 have z3:(zH3 s.heap (c.gF t1) (d.gF t2)).objs.size=s.heap.objs.size+3:=by rw[qaQ,z2]
 have z4:(zH4 s.heap (c.gF t1) (d.gF t2)).objs.size=s.heap.objs.size+4:=by rw[qaQ,z3]
 have it1:(c.gF t1).isFreed=false:=by cases c<;>rfl
 have it2:(d.gF t2).isFreed=false:=by cases d<;>rfl
 have g5:(Zy s.heap (c.gF t1) (d.gF t2)).get? (zH4 s.heap (c.gF t1) (d.gF t2)).objs.size=some _:=H_ _ rfl;have g4:(Zy s.heap (c.gF t1) (d.gF t2)).get? (zH3 s.heap (c.gF t1) (d.gF t2)).objs.size=some _:=k_ _ (H_ _ rfl);have g3:(Zy s.heap (c.gF t1) (d.gF t2)).get? (zH2 s.heap (c.gF t1) (d.gF t2)).objs.size=some _:=k_ _ (k_ _ (H_ _ rfl));have g2:(Zy s.heap (c.gF t1) (d.gF t2)).get? (zH1 s.heap (c.gF t1)).objs.size=some _:=k_ _ (k_ _ (k_ _ (H_ _ it2)));have g1:(Zy s.heap (c.gF t1) (d.gF t2)).get? s.heap.objs.size=some _:=k_ _ (k_ _ (k_ _ (k_ _ (H_ _ it1))));show _/\_;rw[z2,z3,z4]at g5;rw[z1,z2]at g3;rw[z3]at g4;rw[z1]at g2;rw[z4];exact⟨⟨_,g5,Y⟩,h _ g5 g3 g4 (Cp.NG g1) (Cp.NG g2) λb o x =>
  k_ _ (k_ _ (k_ _ (k_ _ (k_ _ x))))⟩
end
section
variable{X:Cx}{pins:List (g_×qa0)}{σ:St}{H:Hp}{s:p_}
theorem Inv.moved{h':qad}{t':Nat}{ch:List g_}(I:Inv X pins σ H s)(k:∀b o,b∉ch->s.heap.get? b=some o->h'.get? b=some o)(hf:∀b∈ch,xD X pins H b)(ht:s.toks<=t':=by first|exact j_ _|exact qaw _|assumption|omega):Inv X pins σ H { s with heap:=h',toks:=t' }:=by
 have UU:∀b u,H b=some u->b∉ch:=λb u e z=>by rw[(hf b z).1]at e;cases e
 refine I.step (g':=s.gens) (d':=s.drawn) (ch:=ch) (λb hb=>?_) (λb o _ _ hc e _=>k b o hc e) (λb o _ _ hc e _=>⟨o.slots,k b o hc e⟩) (λ_ _ _ _ n=>n)
  (λb o hc e=>⟨o,k b o hc e⟩) (λ_ _ e=>e) (λ_ _ _ e=>e) (λb ps e=>⟨#[],by rw[e];simp⟩) (λm hm=>?_) (λb u e=>?_) I.bare (m_ I.up ht)
 ·obtain⟨_,h1,_,h3,h4,h5⟩:=hf b hb;exact⟨h3,h1,h4,h5⟩
 ·obtain⟨o,es,ep,ho,r⟩:=hm;exact⟨o,es,ep,k _ o (λz=>(hf _ z).2.1 Y) ho,r⟩
 ·refine(I.hok b u e).stay (λc v hc q=>k c v ?_ q) (λ_ q=>q) λ_ _ q=>q;rcases hc with z|z
  ·rw[z];exact UU b u e
  ·exact UU c _ z
theorem Inv.UH{a:g_}{o:HO}(I:Inv X pins σ H s)(hf:xD X pins H a)(new:eN X.prog X.w (upd H a o) s.heap a o):Inv X pins σ (upd H a o) s:=by
 have hn:=hf.1;have e:s={ s with heap:=s.heap,gens:=s.gens,drawn:=s.drawn,toks:=s.toks }:=rfl;rw[e];refine I.step (ch:=[a]) (λb hb=>?_) (λ_ _ _ _ _ e _=>e) (λ_ o _ _ _ e _=>⟨o.slots,e⟩) (λb _ hc _ n=>?_)
  (λ_ o _ e=>⟨o,e⟩) (λb _ e=>?_) (λb _ _ e=>?_) (λb ps e=>⟨#[],?_⟩) (λ_ hm=>hm) (λb u q=>?_) I.bare I.up
 ·have eb:b=a:=by simpa using hb
  subst eb;obtain⟨_,h1,_,h3,h4,h5⟩:=hf;exact⟨h3,h1,h4,h5⟩
 ·rw[aH (λz=>hc (by simp[z]))];exact n
 ·rw[aH (b9 e hn)];exact e
 ·rw[aH (b9 e hn)];exact e
 ·rw[aH (b9 e hn),e];simp
 ·by_cases hb:b=a
  ·subst hb;rw[ai]at q;cases q;exact new
  ·rw[aH hb]at q;exact(I.hok b u q).stay (λc v _ r=>r) (λc r=>by rw[aH (b9 r hn)];exact r) λc xs r=>by rw[aH (b9 r hn)];exact r
noncomputable def Itz(K:PySem.W.Frag)(c d:Cp):It :=
 ⟨λi H=>yj λxs ys x y=>c.at K H xs/\d.at K H ys/\xs[i]? =some x/\ys[i]? =some y,
  λi H v H'=>rG λp x y=>v= .ref p/\H p=none/\H'=upd H p (.tup [x,y])/\∀xs ys,c.at K H xs->d.at K H ys->xs[i]? =some x/\ys[i]? =some y,
  λi H=>fD λxs ys=>c.at K H xs/\d.at K H ys/\(xs.length<=i\/ys.length<=i)⟩
theorem P8{P:I_}{w:W_}{K:PySem.W.Frag}{elts:List Expr}{k:Nat}{pos:qcd}{c d:Cp}{z TI TO i1 i2:g_}(D:Ei z TI TO i1 i2):
  Turn P w K (.Tuple elts k pos) (Itz K c d) [z,TI,TO,i1,i2] z (λi h=>N2 h z TI TO i1 i2 c d .none i) where
 mem:=by simp
 obj:=λi h Z b hb=>by
  obtain⟨hz,hTI,⟨a,b',hTO⟩,h1,h2,_,_⟩:=Z;obtain⟨oi1,T1,v1,hi1,_,d1,_⟩:=Cp.pO h1;obtain⟨oi2,T2,v2,hi2,_,d2,_⟩:=Cp.pO h2;simp only[S_,qaD,or_false]at hb;rcases hb with rfl|rfl|rfl|rfl|rfl
  ·exact⟨_,hz,λv q=>by cases q⟩
  ·exact⟨_,hTI,λv q=>by cases q⟩
  ·exact⟨_,hTO,λv q=>by cases q⟩
  ·exact⟨_,hi1,λv q=>by rw[d1]at q;cases q⟩
  ·exact⟨_,hi2,λv q=>by rw[d2]at q;cases q⟩
 keep:=λi h h' Z kp=>by
  obtain⟨hz,hTI,⟨a,b',hTO⟩,h1,h2,o1,o2⟩:=Z;exact⟨kp z (by simp) _ hz,kp TI (by simp) _ hTI,⟨a,b',kp TO (by simp) _ hTO⟩,Cp.nU h1 λo e=>kp i1 (by simp) o e,Cp.nU h2 λo e=>kp i2 (by simp) o e,o1,o2⟩
 item:=by
  intro X hP hw hK hc i pins s σ H E I hf Z hg;subst hP hw hK;obtain⟨xs,ys,x,y,hx,hy,ex,ey⟩:=hg;have sc:=Cp.vc I hx;have sd:=Cp.vc I hy;refine TK.dD (j_ s.toks) (PU D Z sc sd ex ey λu v h' tk ru rv Z' hp kk hup=>⟨_,Y,?_⟩);refine wpAny_letOwnedTupleGo_zip Z'.zz λh'' afV sb=>?_;have hnz:s.heap.objs.size≠z:=qba (J_ Z.zz);have k2:∀b o,b∉[z,TI,TO,i1,i2]->s.heap.get? b=some o->h''.get? b=some o:=λb o hb e=>by
   simp only[S_,qaD,or_false,not_or]at hb;exact sb.extBut _ _ hb.1 (kk b o hb.1 hb.2.2.1 hb.2.2.2.1 hb.2.2.2.2 e)
  have I1:Inv X pins σ H { s with heap:=h'',toks:=tk }:=I.moved k2 hf;have hn:H s.heap.objs.size=none:=I.fresh;have fok:xD X pins H s.heap.objs.size:=I.D5 (j_ _) hn;have hp2:qcG h'' s.heap.objs.size u v:=sb.extBut _ _ hnz hp;have I2:Inv X pins σ (upd H s.heap.objs.size (.tup [x,y])) { s with heap:=h'',toks:=tk } :=
   I1.UH fok ⟨c_,[u,v],.cons ru (.cons rv .nil),⟨_,hp2,rfl,_,rfl⟩⟩
  refine⟨.ref s.heap.objs.size,_,I2,Y,⟨_,x,y,Y,hn,Y,λxs' ys' hx' hy'=>?_⟩,?_,λb hb=>?_⟩
  ·rw[Cp.MO I hx' hx,Cp.MO I hy' hy];exact⟨ex,ey⟩
  ·obtain⟨_,hTI,⟨a,b',hTO⟩,h1,h2,o1,o2⟩:=Z';exact⟨afV,sb.extBut _ _ D.TIz hTI,⟨a,b',sb.extBut _ _ D.TOz hTO⟩,Cp.nU h1 λo e=>sb.extBut _ _ D.i1z e,Cp.nU h2 λo e=>sb.extBut _ _ D.i2z e,o1,o2⟩
  ·have lt:b<s.heap.objs.size:=by
    obtain⟨hz,hTI,⟨a,b',hTO⟩,h1,h2,_,_⟩:=Z;obtain⟨oi1,T1,v1,hi1,_,d1,_⟩:=Cp.pO h1;obtain⟨oi2,T2,v2,hi2,_,d2,_⟩:=Cp.pO h2;simp only[S_,qaD,or_false]at hb;rcases hb with rfl|rfl|rfl|rfl|rfl
    ·exact J_ hz
    ·exact J_ hTI
    ·exact J_ hTO
    ·exact J_ hi1
    ·exact J_ hi2
   rw[aH (Y_ lt)];exact(hf b hb).1
 done:=by
  intro X hP hw hK hc i pins s σ H E I hf Z hg;subst hP hw hK;obtain⟨xs,ys,hx,hy,he⟩:=hg;refine TK.dD (j_ s.toks) (SE (I.ok.hd hc) D Z (Cp.vc I hx) (Cp.vc I hy) (he.imp (λq=>qaN q) λq=>qaN q) λh' tk kk hup=>⟨Y,?_⟩);exact I.moved (λb o hb e=>by
   simp only[S_,qaD,or_false,not_or]at hb;exact kk b o hb.1 hb.2.2.1 hb.2.2.2.1 hb.2.2.2.2 e) hf
 self:=λ_ _ _ _ _ Z h=>wpAny_pyIter_zip Z.zz h
theorem Lo(n:Nat):Ei (n+4) (n+2) (n+3) n (n+1):=by
 have ne:∀{a b:Nat},a<b->a≠b:=λh=>Y_ h;exact⟨ne (by omega),ne (by omega),ne (by omega),ne (by omega),ne (by omega),(ne (by omega)).symm,(ne (by omega)).symm,(ne (by omega)).symm,(ne (by omega)).symm,ne (by omega)⟩
def afR(K:PySem.W.Frag)(ta:TA):TI:=λσ H R=>ta σ H λvs H1=>yj λc d xs ys=>vs=[c.val,d.val]/\c.at K H1 xs/\d.at K H1 ys/\R (Itz K c d) H1
theorem LY {a b:Expr}{ta:TA}{p pos:qcd}{elts:List Expr}{k:Nat}{tpos:qcd}(hc:X.calm=true)(hg:Gl X "zip")(hm:X.mg "zip" =none)(ha:PA X [a,b] ta)
  (hs:Z_ [a,b] X.env=[(false,eval a X.env),(false,eval b X.env)]:=by rfl) (hs2:Z_ [b] X.env=[(false,eval b X.env)]:=by rfl) :
  PI X (.Tuple elts k tpos) (.Call (.Name "zip" p) [a,b] [] pos) (afR X.K ta):=by
 intro pins s σ H R I h;refine Call_ (vv I hg hm boot_zip (qaG (iB (ha pos pins s σ H _ I h) λus s1 ⟨vs,H1,I1,r1,q1⟩=>?_) (by rw[hs,hs2]) (by rw[hs2];rfl)));obtain⟨c,d,xs,ys,e,hx,hy,q⟩:=q1;subst e;obtain⟨u,v,rfl,ru,rv⟩:=vals2 r1;obtain⟨t1,rfl⟩:=Cp.value_of ru;obtain⟨t2,rfl⟩:=Cp.value_of rv;have sc:=Cp.vc I1 hx;have sd:=Cp.vc I1 hy;refine Pf sc sd λh' hz hTI hTO h1 h2 kk=>wpAny_pyIter_zip hz ?_;have D:Ei (s1.heap.objs.size+4) (s1.heap.objs.size+2) (s1.heap.objs.size+3) s1.heap.objs.size (s1.heap.objs.size+1) :=
  Lo _
 refine⟨_,[s1.heap.objs.size+4,s1.heap.objs.size+2,s1.heap.objs.size+3,s1.heap.objs.size,s1.heap.objs.size+1],_,_,H1,Y,I1.kept (t':=s1.toks) kk,P8 D,
  ⟨hz,hTI,⟨_,_,hTO⟩,h1,h2,Cp.NC sc (qaM _ 3),Cp.NC sd (qaM _ 3)⟩,λb hb=>?_,q⟩
 have le:s1.heap.objs.size<=b:=by
  simp only[S_,qaD,or_false]at hb;rcases hb with rfl|rfl|rfl|rfl|rfl
  ·exact qaM _ _
  ·exact qaM _ _
  ·exact qaM _ _
  ·exact j_ _
  ·exact qaM _ _
 exact I1.D5 le (I1.hok.fresh le)
end
end
section
noncomputable def Its(x:r_):It:=⟨λi _=>i<x.cps.size,λi H v H'=>H'=H/\∃k,x.cps[i]? =some k/\v= .str ⟨#[k]⟩,λi _=>x.cps.size<=i⟩
section
variable{prog:I_}{w:W_}{A:qam}{E:i_->p_->Prop}{s:p_}
theorem vQ{it:g_}{x:r_}{t:Tok}{i k:Nat}{Q:Option i_->p_->Prop}(hit:s.heap.IsStrIter it (strIterType x) x t i)(hx:x.cps[i]? =some k)
  (hQ:∀h',h'.IsStrIter it (strIterType x) x t (i+1)->qbl it s.heap h'->Q (some (.str ⟨#[k]⟩ s.toks)) { s with heap:=h',toks:=s.toks+1 }):N_ (model prog w) A (pyNext (.ref it)) Q E s:=by
 unfold strIterType at hit hQ;by_cases ha:(x.cps.all (·<128))=true
 ·rw[if_pos ha]at hit hQ;exact wpAny_pyNext_ascii_item hit hx hQ
 ·rw[if_neg ha]at hit hQ;exact wpAny_pyNext_wide_item hit hx hQ
theorem wB{it:g_}{x:r_}{t:Tok}{i:Nat}{Q:Option i_->p_->Prop}(hh:A.handled=none)(hit:s.heap.IsStrIter it (strIterType x) x t i)(hx:x.cps[i]? =none)
  (hQ:∀h',Heap.ExtBut it s.heap h'->Q none { s with heap:=h' }):N_ (model prog w) A (pyNext (.ref it)) Q E s:=by
 unfold strIterType at hit;by_cases ha:(x.cps.all (·<128))=true
 ·rw[if_pos ha]at hit;exact wpAny_pyNext_ascii_end hh hit hx hQ
 ·rw[if_neg ha]at hit;exact wpAny_pyNext_wide_end hh hit hx hQ
theorem wC{it:g_}{x:r_}{t:Tok}{i:Nat}{Q:i_->p_->Prop}(hit:s.heap.IsStrIter it (strIterType x) x t i)(h:Q (.ref it) s):N_ (model prog w) A (pyIter (.ref it)) Q E s:=by
 unfold strIterType at hit;by_cases ha:(x.cps.all (·<128))=true
 ·rw[if_pos ha]at hit;exact wpAny_pyIter_striter_ascii hit h
 ·rw[if_neg ha]at hit;exact wpAny_pyIter_striter_wide hit h
end
theorem AA(x:r_):["enumerate","zip","dict_itemiterator","dict_reverseitemiterator","odict_iterator","itertools.zip_longest","itertools.pairwise"].contains (strIterType x)=false:=by
 unfold strIterType;split<;>decide
theorem Jg{P:I_}{w:W_}{K:PySem.W.Frag}{tg:Expr}(x:r_)(t:Tok)(it:g_):Turn P w K tg (Its x) [it] it (λi h=>h.IsStrIter it (strIterType x) x t i) where
 mem:=by simp
 obj:=λi h st b hb=>by
  have e:b=it:=by simpa using hb
  subst e;obtain⟨o,e,c,d⟩:=st;exact⟨o,e,λv z=>by rw[d]at z;cases z⟩
 keep:=λi h h' st k=>by
  obtain⟨o,e,r⟩:=st;exact⟨o,k it (by simp) o e,r⟩
 item:=by
  intro X hP hw hK hc i pins s σ H E I hf st hg;subst hP hw hK;have hi:i<x.cps.size:=hg;obtain⟨f0,f1,f2,f3,f4,f5⟩:=hf it (by simp);refine vQ st (k:=x.cps[i]) (by simp[hi]) λh' st' sb=>?_;have I1:Inv X pins σ H { s with heap:=h',toks:=s.toks+1 }:=I.turned (λb o hb e=>(sb.2 b hb).trans e) f0 f1 f3 f4 f5;obtain⟨o,e,c,d⟩:=id st';exact⟨_,Y,Gn (s:={ s with heap:=h',toks:=s.toks+1 }) e c d (AA x) ⟨.str ⟨#[x.cps[i]]⟩,H,I1,⟨_,Y⟩,⟨Y,_,by simp[hi],Y⟩,st',λb hb=>(hf b hb).1⟩⟩
 done:=by
  intro X hP hw hK hc i pins s σ H E I hf st hg;subst hP hw hK;have hi:x.cps.size<=i:=hg;obtain⟨f0,f1,f2,f3,f4,f5⟩:=hf it (by simp);exact wB (I.ok.hd hc) st (by simp[hi]) λh' eb=>⟨Y,I.turned (t':=s.toks) (λb o hb e=>eb b o hb e) f0 f1 f3 f4 f5⟩
 self:=λ_ _ _ _ _ st h=>wC st h
section
variable{X:Cx}{tg:Expr}
def afS(tl:TE):TI:=λσ H R=>tl σ H λv H1=>∃x,v= .str x/\R (Its x) H1
theorem uh{l:Expr}{tl:TE}(hl:PE X l tl):PI X tg l (afS tl):=by
 intro pins s σ H R I h;refine iB (hl pins s σ H _ I h) λv s1 ⟨y,H1,I1,r1,q1⟩=>?_;obtain⟨x,e,q⟩:=q1;subst e;obtain⟨t,rfl⟩:=r1;refine qcv ?_;refine⟨s1.heap.objs.size,[s1.heap.objs.size],_,_,H1,Y,I1.kept (t':=s1.toks) λb o e=>k_ _ e,Jg x t _,⟨_,H_ _ Y,Y,Y⟩,λb hb=>?_,q⟩;have e:b=s1.heap.objs.size:=by simpa using hb
 subst e;exact I1.D5 (j_ _) (I1.hok.fresh (j_ _))
theorem HY{x:r_}{g:TG}{tb:TS}{D:Ends}{σ:St}{H:Hp}(Pv:Nat->St->Hp->Prop)(h0:Pv 0 σ H)
  (hs:∀i k σ H,x.cps[i]? =some k->Pv i σ H->g (.str ⟨#[k]⟩) σ H λσ2 H2=>tb { D with nx:=Pv (i+1),ct:=Pv (i+1),bk:=D.nx } σ2 H2) (hd:∀ σ H,Pv x.cps.size σ H->D.nx σ H) :
  ∃W:Nat->Nat->St->Hp->Prop,(∃m,W 0 m σ H)/\∀i m σ H,W i m σ H →
   ((Its x).stop i H/\D.nx σ H)\/((Its x).go i H/\∃N:St->Hp->Prop,(∀ σ' H',N σ' H'->∃m',m'<m/\W (i+1) m' σ' H')/\∀y H',(Its x).IX i H y H'->g y σ H' λσ2 H2=>tb { D with nx:=N,ct:=N,bk:=D.nx } σ2 H2):=by
 refine⟨λi m σ H=>m=x.cps.size-i/\i<=x.cps.size/\Pv i σ H,⟨x.cps.size,by simp,X_ _,h0⟩,?_⟩;rintro i m σ H ⟨rfl,hi,p⟩;by_cases hlt:i<x.cps.size
 ·refine .inr ⟨hlt,Pv (i+1),λσ' H' p'=>⟨x.cps.size-(i+1),by omega,Y,hlt,p'⟩,λy H' q=>?_⟩;obtain⟨e,k,ek,rfl⟩:=q;subst e;exact hs i k σ _ ek p
 ·have e:i=x.cps.size:=by omega
  subst e;exact .inl ⟨j_ _,hd σ H p⟩
theorem NL{K:PySem.W.Frag}{c d:Cp}{xs ys:List V}{g:TG}{tb:TS}{D:Ends}{σ:St}{H:Hp}(Pv:Nat->St->Hp->Prop)(h0:Pv 0 σ H)(hl:∀i σ H,i<=min xs.length ys.length->Pv i σ H->c.at K H xs/\d.at K H ys)
  (hs:∀i x y p σ H,xs[i]? =some x->ys[i]? =some y->H p=none->Pv i σ H->g (.ref p) σ (upd H p (.tup [x,y])) λσ2 H2=>tb { D with nx:=Pv (i+1),ct:=Pv (i+1),bk:=D.nx } σ2 H2)
  (hd:∀ σ H,Pv (min xs.length ys.length) σ H->D.nx σ H) :
  ∃W:Nat->Nat->St->Hp->Prop,(∃m,W 0 m σ H)/\∀i m σ H,W i m σ H →
   ((Itz K c d).stop i H/\D.nx σ H)\/((Itz K c d).go i H/\∃N:St->Hp->Prop,(∀ σ' H',N σ' H'->∃m',m'<m/\W (i+1) m' σ' H')/\∀y H',(Itz K c d).IX i H y H'->g y σ H' λσ2 H2=>tb { D with nx:=N,ct:=N,bk:=D.nx } σ2 H2):=by
 refine⟨λi m σ H=>m=min xs.length ys.length-i/\i<=min xs.length ys.length/\Pv i σ H,⟨min xs.length ys.length,by simp,X_ _,h0⟩,?_⟩;rintro i m σ H ⟨rfl,hi,p⟩;obtain⟨zx,zy⟩:=hl i σ H hi p;by_cases hlt:i<min xs.length ys.length
 ·have h1:i<xs.length:=by omega
  have h2:i<ys.length:=by omega
  refine .inr ⟨⟨xs,ys,xs[i],ys[i],zx,zy,by simp[h1],by simp[h2]⟩,Pv (i+1),λσ' H' p'=>⟨min xs.length ys.length-(i+1),by omega,Y,hlt,p'⟩,λv H' q=>?_⟩;obtain⟨a,x,y,rfl,ha,rfl,e⟩:=q;obtain⟨e1,e2⟩:=e xs ys zx zy;exact hs i x y a σ H e1 e2 ha p
 ·have e:i=min xs.length ys.length:=by omega
  subst e;refine .inl ⟨⟨xs,ys,zx,zy,?_⟩,hd σ H p⟩;rcases Nat.le_total xs.length ys.length with q|q
  ·exact .inl (by rw[qbA q];exact j_ _)
  ·exact .inr (by rw[Nat.min_eq_right q];exact j_ _)
end
end
section
noncomputable def Cp.adr:Cp->List g_
 | .lst a=>[a]
 | .tup a=>[a]
 | .txt _=>[]
theorem Cp.Tf{c:Cp}{b:g_}(h:c.off b):b∉c.adr:=by
 cases c with
 |lst a =>
  intro z;have q:b=a:=by simpa[Cp.adr]using z
  exact h q.symm
 |tup a =>
  intro z;have q:b=a:=by simpa[Cp.adr]using z
  exact h q.symm
 |txt x=>intro z;cases z
theorem Cp.SS{c:Cp}{xs:List V}{h h':qad}(hs:c.src h xs)(k:∀b∈c.adr,∀o,h.get? b=some o->h'.get? b=some o):c.src h' xs:=by
 cases c with
 |lst a=>obtain⟨its,r,o,ho,q⟩:=hs;exact⟨its,r,o,k a (by simp[Cp.adr]) _ ho,q⟩
 |tup a=>obtain⟨its,r,o,ho,q⟩:=hs;exact⟨its,r,o,k a (by simp[Cp.adr]) _ ho,q⟩
 |txt x=>exact hs
theorem Cp.draws{prog:I_}{w:W_}{A:qam}{c:Cp}{xs:List V}(hh:A.handled=none)(it:g_):
  Draws prog w A it (it::c.adr) xs.length (λi v=>∃x,xs[i]? =some x/\RelV x v) (λi h=>c.Ll h it i/\c.src h xs) where
 live:=λi h st=>by
  obtain⟨o,_,_,ho,_⟩:=Cp.pO st.1;exact⟨o,ho⟩
 frame:=λi h h' st k=>⟨Cp.nU st.1 λo e=>k it (by simp) o e,Cp.SS st.2 λb hb o e=>k b (C_ _ hb) o e⟩
 item:=λi s Q E hi st hQ=>by
  obtain⟨o,T,_,ho,hc,_,n1,n2⟩:=Cp.pO st.1;have off:c.off it:=Cp.uo st.2 ho hc n1 n2;refine Cp.item st.1 st.2 (x:=xs[i]) (by simp[hi]) λu h' tk ru q sb=>?_;exact hQ u h' tk ⟨_,by simp[hi],ru⟩ ⟨q,Cp.qm st.2 sb.extBut off⟩ sb
 done:=λs Q E st hE=>Cp.fin hh st.1 st.2 (by simp) hE
noncomputable def Ite(K:PySem.W.Frag)(c:Cp):It :=
 ⟨λi H=>fD λxs x=>c.at K H xs/\xs[i]? =some x,
  λi H v H'=>fD λp x=>v= .ref p/\H p=none/\H'=upd H p (.tup [.int (i:Int),x])/\∀xs,c.at K H xs->xs[i]? =some x,
  λi H=>∃xs,c.at K H xs/\xs.length<=i⟩
theorem Ob{P:I_}{w:W_}{K:PySem.W.Frag}{elts:List Expr}{k:Nat}{pos:qcd}{c:Cp}{e it:g_}(hei:e≠it):
  Turn P w K (.Tuple elts k pos) (Ite K c) [e,it] e (λi h=>(∃old,IsEnum h e it i old)/\c.Ll h it i) where
 mem:=by simp
 obj:=λi h Z b hb=>by
  obtain⟨⟨old,he⟩,hi⟩:=Z;obtain⟨o,_,vs,ho,_,d,_⟩:=Cp.pO hi;simp only[S_,qaD,or_false]at hb;rcases hb with rfl|rfl
  ·exact⟨_,he,λv q=>by cases q⟩
  ·exact⟨_,ho,λv q=>by rw[d]at q;cases q⟩
 keep:=λi h h' Z kp=>by
  obtain⟨⟨old,he⟩,hi⟩:=Z;exact⟨⟨old,kp e (by simp) _ he⟩,Cp.nU hi λo q=>kp it (by simp) o q⟩
 item:=by
  intro X hP hw hK hc i pins s σ H E I hf Z hg;subst hP hw hK;obtain⟨xs,x,hx,ex⟩:=hg;obtain⟨⟨old,he⟩,hi⟩:=id Z;have sc:=Cp.vc I hx;have afu:c.off e:=Cp.uo sc he rfl (by decide) (by decide);have hlt:i<xs.length:=(q_.mp ex).1;have hh:X.A.in1.handled=none:=I.ok.hd hc;refine TK.dD (j_ s.toks) (wpAny_pyNext_enum_itemD (Cp.draws (c:=c) (xs:=xs) hh it) he ⟨hi,sc⟩ hlt hei (λz=>?_) λu h' tk hP ho st' hT hsz kk hup=>⟨_,Y,?_⟩)
  ·rcases S_.mp z with q|q
   ·exact hei q
   ·exact Cp.Tf afu q
  ·obtain⟨x',ex',ru⟩:=hP;rw[ex]at ex';cases ex';refine wpAny_letOwnedTupleGo_enum ho λh'' agm sb=>?_;have hne:s.heap.objs.size≠e:=qba (J_ he);have k2:∀b o,b∉[e,it]->s.heap.get? b=some o->h''.get? b=some o:=λb o hb q=>by
    simp only[S_,qaD,or_false,not_or]at hb;exact sb.extBut _ _ hb.1 (kk b o hb.1 hb.2 q)
   have I1:Inv X pins σ H { s with heap:=h'',toks:=tk+1 }:=I.moved k2 hf (by have z:s.toks<=tk+1:=hup;exact z);have hn:H s.heap.objs.size=none:=I.fresh;have fok:xD X pins H s.heap.objs.size:=I.D5 (j_ _) hn;have hp2:h''.get? s.heap.objs.size=some { cls:=.type "tuple",data:=.seq #[.int i tk,u] }:=sb.extBut _ _ hne hT;have I2:Inv X pins σ (upd H s.heap.objs.size (.tup [.int (i:Int),x])) { s with heap:=h'',toks:=tk+1 } :=
    I1.UH fok ⟨c_,[.int i tk,u],.cons ⟨_,rfl⟩ (.cons ru .nil),⟨_,hp2,rfl,_,rfl⟩⟩
   refine⟨.ref s.heap.objs.size,_,I2,Y,⟨_,x,Y,hn,Y,λxs' hx'=>?_⟩,⟨⟨_,agm⟩,Cp.nU st'.1 λo q=>sb.extBut _ _ (Ne.symm hei) q⟩,λb hb=>?_⟩
   ·rw[Cp.MO I hx' hx];exact ex
   ·obtain⟨o,_,vs,hoi,_⟩:=Cp.pO hi;have lt:b<s.heap.objs.size:=by
     have hb':=hb;simp only[S_,qaD,or_false]at hb';rcases hb' with rfl|rfl
     ·exact J_ he
     ·exact J_ hoi
    rw[aH (Y_ lt)];exact(hf b hb).1
 done:=by
  intro X hP hw hK hc i pins s σ H E I hf Z hg;subst hP hw hK;obtain⟨xs,hx,hle⟩:=hg;obtain⟨⟨old,he⟩,hi⟩:=Z;have hh:X.A.in1.handled=none:=I.ok.hd hc;have hT:s.TypeIs (.ref e) "enumerate" :=⟨_,he,rfl⟩;unfold pyNext;refine h_ (qcj (qaY (name:=w_ "__next__") hT F.slot_enumerate_next
   (qbN F.slot_enumerate_next hT F.entry_enumerate_next ?_ (F.args_enumerate_next_1 _))))
  show N_ _ _ (field (.ref e) 2 >>= _) _ _ _;refine h_ (qaE he Y (x:=.ref it) Y ?_);refine h_ (Cp.fin hh hi (Cp.vc I hx) (qaN hle) λh' y eb hy=>?_);obtain⟨o,ho,hcl⟩:=hy;refine h_ (wpAny_isInstance (T:= "StopIteration") (b:=true) ⟨o,ho,hcl⟩ isSubtype_stop ?_);refine t_ ⟨Y,I.moved (t':=s.toks) (ch:=[e,it]) (λb o hb q=>eb b o ?_ q) hf⟩;simp only[S_,qaD,or_false,not_or]at hb;exact hb.2
 self:=λ_ _ _ _ _ Z h=>by
  obtain⟨⟨old,he⟩,_⟩:=Z;exact wpAny_pyIter_enum he h
section
variable{prog:I_}{w:W_}{A:qam}{E:i_->p_->Prop}{s:p_}
set_option maxHeartbeats 1000000 in
theorem DS(l:g_)(items:Array i_)(n:Nat)(dct:Option g_)(sl:Array (Option i_)):
  Meets (Builtin.«enumerate.__new__» ⟨[.type "enumerate",.ref l],[]⟩) (λ_ R s=>s.heap.get? l=some { cls:=.type "tuple",dict:=dct,data:=.seq items n,slots:=sl } ∧
   R (.ok (.ret (.ref (s.heap.push { cls:=.type "tuple_iterator",data:=.fields #[.ref l,.int 0 0] }).objs.size)))
    { s with heap:=(s.heap.push { cls:=.type "tuple_iterator",data:=.fields #[.ref l,.int 0 0] }).push { cls:=.type "enumerate",data:=.fields #[.none,.bool false,.ref s.heap.objs.size,rawInt 0,.none,.none] } }) :=
 .of_wp λprog w A R s h=>by
  obtain⟨hp,g,d,tk,os⟩:=s;obtain⟨hl,h⟩:=h;have hsub:=sub_enumerate;have hL:Heap.IsTuple (Shared.heap ⟨hp,g,d,tk,os⟩) l items:=⟨_,hl,rfl,n,rfl⟩
  wp_walk using qbI hl
  refine wpAny_stack_any λst=>t_ ?_;split
  ·rename_i c _ _ _ _ _
   cases (c==Value.type "enumerate")
   ·wp_walk using qbI hl,qbW hL
    exact⟨_,Y,h⟩
   ·wp_walk using qbI hl,qbW hL
    exact⟨_,Y,h⟩
  ·wp_walk using qbI hl,qbW hL
   exact⟨_,Y,h⟩
theorem Fg{l:g_}{items:Array i_}{Q:i_->p_->Prop}(hL:s.heap.IsTuple l items)
  (h:∀h',IsEnum h' (s.heap.objs.size+1) s.heap.objs.size 0 .none->h'.IsTupleIter s.heap.objs.size l 0 →
   (∀b o,s.heap.get? b=some o->h'.get? b=some o)->Q (.ref (s.heap.objs.size+1)) { s with heap:=h' }) :
  N_ (model prog w) A (call (.type "enumerate") [.ref l]) Q E s:=by
 obtain⟨⟨c,dct,dt,sl⟩,hl,hc,n,hd⟩:=hL;replace hc:c= .type "tuple" :=hc;replace hd:dt= .seq items n:=hd;subst hc hd;refine callType_new F.called_enumerate (by decide) (F.typeCall_enumerate_1 _) (F.newCall_enumerate_1 _) (λobj=>F.args_object_init_2 obj _) F.entry_enumerate_new
  (DS l items n dct sl) ⟨hl,?_⟩
 have hz:(s.heap.push { cls:=.type "tuple_iterator",data:=.fields #[.ref l,.int 0 0] }).objs.size=s.heap.objs.size+1:=qaQ ..;show _/\_;rw[hz];have he:IsEnum ((s.heap.push { cls:=.type "tuple_iterator",data:=.fields #[.ref l,.int 0 0] }).push
   { cls:=.type "enumerate",data:=.fields #[.none,.bool false,.ref s.heap.objs.size,rawInt 0,.none,.none] }) (s.heap.objs.size+1) s.heap.objs.size 0 .none:=by
  have:=H_ (s.heap.push { cls:=.type "tuple_iterator",data:=.fields #[.ref l,.int 0 0] })
   (o:={ cls:=.type "enumerate",data:=.fields #[.none,.bool false,.ref s.heap.objs.size,rawInt 0,.none,.none] }) rfl
  rw[hz]at this;exact this
 exact⟨⟨_,he,Y⟩,h _ he ⟨_,k_ _ (H_ _ Y),Y,Y⟩ λb o x=>k_ _ (k_ _ x)⟩
theorem ML{c:Cp}{xs:List V}{t:Tok}{Q:i_->p_->Prop}(sc:c.src s.heap xs)
  (h:∀h',IsEnum h' (s.heap.objs.size+1) s.heap.objs.size 0 .none->c.Ll h' s.heap.objs.size 0->(∀b o,s.heap.get? b=some o->h'.get? b=some o)->Q (.ref (s.heap.objs.size+1)) { s with heap:=h' }) :
  N_ (model prog w) A (call (.type "enumerate") [c.value t]) Q E s:=by
 cases c with
 |lst a=>obtain⟨its,_,p⟩:=sc;exact call_enumerate_list p λh' a b _ k=>h h' a b k
 |tup a=>obtain⟨its,_,p⟩:=sc;exact Fg p λh' a b k=>h h' a b k
 |txt x=>exact call_enumerate_str λh' a b _ k=>h h' a ⟨t,b⟩ k
end
section
variable{X:Cx}
def abe(K:PySem.W.Frag)(ta:TA):TI:=λσ H R=>ta σ H λvs H1=>fD λc xs=>vs=[c.val]/\c.at K H1 xs/\R (Ite K c) H1
theorem zG {a:Expr}{ta:TA}{p pos:qcd}{elts:List Expr}{k:Nat}{tpos:qcd}(hg:Gl X "enumerate")(hm:X.mg "enumerate" =none)(ha:PA X [a] ta)
  (hs:Z_ [a] X.env=[(false,eval a X.env)]:=by rfl):PI X (.Tuple elts k tpos) (.Call (.Name "enumerate" p) [a] [] pos) (abe X.K ta):=by
 intro pins s σ H R I h;refine Call_ (vv I hg hm boot_enumerate (qaG (iB (ha pos pins s σ H _ I h) λus s1 ⟨vs,H1,I1,r1,q1⟩=>?_) hs Y));obtain⟨c,xs,e,hx,q⟩:=q1;subst e;obtain⟨u,rfl,ru⟩:=vals1 r1;obtain⟨t,rfl⟩:=Cp.value_of ru;have sc:=Cp.vc I1 hx;refine ML sc λh' he hi kk=>wpAny_pyIter_enum he ?_;have hei:s1.heap.objs.size+1≠s1.heap.objs.size:=qba (qbo _);refine⟨_,[s1.heap.objs.size+1,s1.heap.objs.size],_,_,H1,Y,I1.kept (t':=s1.toks) kk,Ob hei,⟨⟨_,he⟩,hi⟩,λb hb=>?_,q⟩;have le:s1.heap.objs.size<=b:=by
  simp only[S_,qaD,or_false]at hb;rcases hb with rfl|rfl
  ·exact qaM _ _
  ·exact j_ _
 exact I1.D5 le (I1.hok.fresh le)
theorem wY{K:PySem.W.Frag}{c:Cp}{xs:List V}{g:TG}{tb:TS}{D:Ends}{σ:St}{H:Hp}(Pv:Nat->St->Hp->Prop)(h0:Pv 0 σ H)(hl:∀i σ H,i<=xs.length->Pv i σ H->c.at K H xs)
  (hs:∀(i:Nat) x p σ H,xs[i]? =some x->H p=none->Pv i σ H->g (.ref p) σ (upd H p (.tup [.int (i:Int),x])) λσ2 H2=>tb { D with nx:=Pv (i+1),ct:=Pv (i+1),bk:=D.nx } σ2 H2)
  (hd:∀ σ H,Pv xs.length σ H->D.nx σ H) :
  ∃W:Nat->Nat->St->Hp->Prop,(∃m,W 0 m σ H)/\∀i m σ H,W i m σ H →
   ((Ite K c).stop i H/\D.nx σ H)\/((Ite K c).go i H/\∃N:St->Hp->Prop,(∀ σ' H',N σ' H'->∃m',m'<m/\W (i+1) m' σ' H')/\∀y H',(Ite K c).IX i H y H'->g y σ H' λσ2 H2=>tb { D with nx:=N,ct:=N,bk:=D.nx } σ2 H2):=by
 refine⟨λi m σ H=>m=xs.length-i/\i<=xs.length/\Pv i σ H,⟨xs.length,by simp,X_ _,h0⟩,?_⟩;rintro i m σ H ⟨rfl,hi,p⟩;have zx:=hl i σ H hi p;by_cases hlt:i<xs.length
 ·refine .inr ⟨⟨xs,xs[i],zx,by simp[hlt]⟩,Pv (i+1),λσ' H' p'=>⟨xs.length-(i+1),by omega,Y,hlt,p'⟩,λv H' q=>?_⟩;obtain⟨a,x,rfl,ha,rfl,e⟩:=q;exact hs i x a σ H (e xs zx) ha p
 ·have e:i=xs.length:=by omega
  subst e;exact .inl ⟨⟨xs,zx,j_ _⟩,hd σ H p⟩
end
end
section
set_option maxRecDepth 100000
noncomputable def met(val:Nat->r_)(i:Nat):List r_:=((E_ i).map val).foldl qcz []
theorem DQ(val:Nat->r_):met val 0=[]:=rfl
theorem wM(val:Nat->r_)(i:Nat):met val (i+1)=qcz (met val i) (val i):=by
 unfold met;rw[qbi,P_,qcw];rfl
theorem ye(val:Nat->r_):∀i,(met val i).length<=i
 | 0=>by rw[DQ];exact j_ _
 |i+1=>by
  rw[wM];have ih:=ye val i;unfold qcz;split
  ·omega
  ·rw[A_,qbw];omega
theorem zP(σ:List r_)(v k:r_):(qcz σ v).any (·==k)=(σ.any (·==k)||decide (k=v)):=by
 unfold qcz;by_cases h:σ.any (·==v)=true
 ·rw[if_pos h];by_cases e:k=v
  ·subst e;rw[h];simp
  ·simp[e]
 ·rw[if_neg h,List.any_append];by_cases e:k=v
  ·subst e;simp
  ·have hb:(v==k)=false:=by simpa[beq_iff_eq]using(λh':v=k=>e h'.symm)
   simp[hb,e]
theorem vS(σ:List r_)(v:r_):(qcz σ v).length=if σ.any (·==v)then σ.length else σ.length+1:=by
 unfold qcz;split<;>simp
section
variable{prog:I_}{w:W_}{A:qam}{R:Result->p_->Prop}{I:g_}{fp wr:List g_}{G:Array GenState->Array GenState->Prop}{n:Nat}{P:Nat->i_->Prop}{St:Nat->p_->Prop}
theorem GW(W:WalksS prog w A.in1 I fp wr G n P St)(S:g_)(hSf:S∉fp)(val:Nat->r_)(hval:∀i v,P i v->∃t,v= .str (val i) t)(hb:n+1<scanBound):
  ∀(k i:Nat) (s:p_),n-i=k->i<=n->St i s->s.heap.SetOf (strKind prog w) S (λk'=>(met val i).any (·==k')) (met val i).length →
   (∀s',Moved (S::wr) G s s'->s'.heap.SetOf (strKind prog w) S (λk'=>(met val n).any (·==k')) (met val n).length->R (.ok (.ret .none)) s') →
   codeAny (model prog w) A (.builtin "set.update.loop" ⟨[.ref S,.ref I],[]⟩) R s:=by
 have hSw:S∉wr:=λh=>hSf (W.sub _ h);have hsub:∀b∈wr,b∈S::wr:=λb hb=>C_ _ hb;intro k
 induction k with
 |zero =>
  intro i s hk hi hst hS hR;have hin:i=n:=by omega
  subst hin;refine codeAny_builtin PyProof.Rows.F.entry_set_update_loop ?_;rw[Around.under_plainId qbj _];show N_ _ A.in1 (pyNext (.ref I) >>= _) _ _ s;refine h_ (W.done s _ _ hst λs' hm=>?_);show N_ _ A.in1 (ret Value.none) _ _ s';exact t_ (hR s' (hm.mono hsub) (by
   obtain⟨o,es,ep,t,ho,rest⟩:=hS;exact⟨o,es,ep,t,hm.heap S _ hSw ho,rest⟩))
 |succ k ih =>
  intro i s hk hi hst hS hR;have hlt:i<n:=by omega
  refine codeAny_builtin PyProof.Rows.F.entry_set_update_loop ?_;rw[Around.under_plainId qbj _];show N_ _ A.in1 (pyNext (.ref I) >>= _) _ _ s;refine h_ (W.item i s _ _ hlt hst λv s' hP af0 hm=>?_);obtain⟨t,rfl⟩:=hval i v hP;have hS':s'.heap.SetOf (strKind prog w) S (λk'=>(met val i).any (·==k')) (met val i).length:=by
   obtain⟨o,es,ep,tb,ho,rest⟩:=hS;exact⟨o,es,ep,tb,hm.heap S _ hSw ho,rest⟩
  show N_ _ A.in1 (holding [Value.str (val i) t] (setAdd S (.str (val i) t)) >>= _) _ _ s';refine h_ (qaU ?_);unfold setAdd;refine qaU ?_;refine h_ ((strKind prog w).pyHash (k:=val i) (strKind_is _ _ _ _) ?_);have hroom:(met val i).length+1<scanBound:=by have:=ye val i;omega
  refine wpAny_setAddHashed_of (knd:=strKind prog w) (s:={ s' with toks:=s'.toks+1 }) (strKind_is _ _ _ _) Y hS' hroom λh' hsb I0=>?_;have hSi:h'.SetOf (strKind prog w) S (λk'=>(met val (i+1)).any (·==k')) (met val (i+1)).length :=
   SetOf_congr I0 (λk'=>by rw[wM,zP]) (by rw[wM,vS])
  refine t_ ⟨plainId_quiet qbj _,ih (i+1) _ (by omega) hlt (W.frame _ s' _ _ af0 (qaw _) λb hb o e=>?_) hSi λs'' agf agv=>?_⟩
  ·rw[hsb.2 b (λh:b=S=>hSf (by rw[←h];exact hb))];exact e
  ·refine hR s'' (Moved.trans W.gtrans ((hm.mono hsub).then_heap (qaw _) λb o hb e=>?_) agf) agv;rw[hsb.2 b (λh:b=S=>hb (by rw[h];exact D_))];exact e
end
noncomputable def rO(x:r_)(i:Nat):r_:=⟨#[x.cps.getD i 0]⟩
theorem Oa{prog:I_}{w:W_}{A:qam}(hh:A.handled=none)(I:g_)(x:r_)(t:Tok):
  Walks prog w A I [I] [I] x.cps.size (λi v=>∃u,v= .str (rO x i) u) (λi h=>h.IsStrIter I (strIterType x) x t i) where
 sub:=λ_ hb=>hb
 frame:=λ_ _ _ st hk=>let ⟨o,ho,r⟩:=st;⟨o,hk I (by simp) o ho,r⟩
 item:=λi s Q E hi st hQ=>by
  refine vQ st (k:=x.cps.getD i 0) (by simp[hi]) λh' agj hs'=>?_;exact hQ _ h' (s.toks+1) ⟨_,Y⟩ agj λb o hb e=>hs'.extBut b o (λh=>hb (by simp[h])) e
 done:=λs Q E st hQ=>wB hh st (by simp) λh' he'=>hQ h' s.toks λb o hb e=>he' b o (λh=>hb (by simp[h])) e
 self:=λ_ _ _ _ st hQ=>wC st hQ
theorem GL:isSubtype (.type "str") (.type "set")=pure false:=by rw[isSubtype_type];kernel_rfl
theorem yp:isSubtype (.type "str") (.type "frozenset")=pure false:=by rw[isSubtype_type];kernel_rfl
section
variable{prog:I_}{w:W_}{A:qam}{E:i_->p_->Prop}{s:p_}
set_option maxHeartbeats 3200000 in
theorem Ii{x:r_}{t:Tok}{Q:i_->p_->Prop}(hh:A.handled=none)(hb:x.cps.size+1<scanBound)
  (h:∀(h':qad) (tk:Nat),h'.SetOf (strKind prog w) s.heap.objs.size (λk'=>(met (rO x) x.cps.size).any (·==k')) (met (rO x) x.cps.size).length →
   (∀b o,b<s.heap.objs.size->s.heap.get? b=some o->h'.get? b=some o)->Q (.ref s.heap.objs.size) { s with heap:=h',toks:=tk }) :
  N_ (model prog w) A (call (.type "set") [.str x t]) Q E s:=by
 obtain⟨c,tl,ajJ⟩:=F.called_set.mro;have hmade:=F.called_set.made;have hsub:=F.called_set.sub;refine qbE (codeAny_of_tree ?_);show N_ _ _ (callAny (.type "set") _) _ _ _;refine t_ ⟨Code.quiet_builtin _ (by decide +kernel),codeAny_builtin F.entry_type_call ?_⟩;rw[Around.under_plain (weight_type_call_type "set" [.str x t] []) rfl];have h1:=F.called_set.notType;have h2:=F.called_set.canCreate;have hct:=F.typeCall_set_1 (.str x t)
 repeat (any_goals (first|assumption|wp_step))
 refine qbm (code_set_new_1 (.str x t) (E:=E) (Q₁:=λobj s₁=>∃led:Bool,obj= .ref s.heap.objs.size/\s₁={ s with heap:=s.heap.push { cls:=.type "set",dict:=none,data:=.set #[] 0 (.fresh 0 0 led) } }) λled=>⟨led,Y,Y⟩) λr s₁ hr=>?_
 cases r with
 |error e=>exact hr
 |ok fl =>
  cases fl with
  |ret obj =>
   obtain⟨led,rfl,rfl⟩:=hr;have hS:(s.heap.push { cls:=.type "set",dict:=none,data:=.set #[] 0 (.fresh 0 0 led) }).get? s.heap.objs.size=some { cls:=.type "set",dict:=none,data:=.set #[] 0 (.fresh 0 0 led) }:=H_ _ rfl;have hT:Shared.TypeIs { s with heap:=s.heap.push { cls:=.type "set",dict:=none,data:=.set #[] 0 (.fresh 0 0 led) } } (.ref s.heap.objs.size) "set" :=⟨_,hS,rfl⟩;have hli:=F.called_set.init.lookup;have hbi:=F.called_set.init.bind (.ref s.heap.objs.size)
   repeat (any_goals (first|assumption|wp_step))
   refine qbm (qbD (R:=wants (λr s₂=>r= .none/\fD λh' tk=>s₂={ s with heap:=h',toks:=tk } ∧
     h'.SetOf (strKind prog w) s.heap.objs.size (λk'=>(met (rO x) x.cps.size).any (·==k')) (met (rO x) x.cps.size).length ∧
     (∀b o,b<s.heap.objs.size->s.heap.get? b=some o->h'.get? b=some o)) E) F.called_set.init.plain F.entry_set_init (check_set_init_1 hT ?_)) λr₂ s₂ Rn=>?_
   ·have ajx:=GL;have ajy:=yp;have hne:(Value.type "str" ==Value.type "dict")=false:=by decide
    unfold Builtin.«set.__init__» noKeywords Builtin.Frozenset.updateFrom;generalize hPI:pyIter=PI
    wp_walk
    subst hPI;refine qcv ?_;refine h_ (wpAny_runValue ?_);have hh3:A.in1.in1.in1.handled=none:=by simp[hh]
    have hSf:s.heap.objs.size∉[(s.heap.push { cls:=.type "set",dict:=none,data:=.set #[] 0 (.fresh 0 0 led) }).objs.size]:=by
     rw[qaQ];simp only[F_];exact Y_ (qbo _)
    refine GW ((Oa hh3 _ x t).toS) s.heap.objs.size hSf (rO x) (λi v hv=>hv) hb (x.cps.size-0) 0 _ (by omega) (X_ _)
     ⟨_,H_ _ rfl,rfl,rfl⟩ ?hS0 ?hR
    case hS0 =>
     have hget:((s.heap.push { cls:=.type "set",dict:=none,data:=.set #[] 0 (.fresh 0 0 led) }).push { cls:=.type (strIterType x),data:=.fields #[.str x t,.int 0 0] }).get? s.heap.objs.size
       = some { cls:=.type "set",dict:=none,data:=.set #[] 0 (.fresh 0 0 led) }:=k_ _ hS
     exact SetOf_congr ((setObjOf_fresh (knd:=strKind prog w) led).setOf hget (by unfold scanBound;omega)) (λ_=>rfl) Y
    case hR =>
     intro s' hm hS';obtain⟨h',g',d',tk',os'⟩:=s';have eg:g'=s.gens:=hm.gens;have ed:d'=s.drawn:=hm.drawn;have eo:os'=s.os:=hm.os;subst eg;subst ed;subst eo;show N_ _ _ _ _ _ _;refine t_ ?_;show N_ _ _ (ret Value.none) _ _ _;refine t_ ⟨Y,h',tk',Y,hS',λb o hb e=>?_⟩;have hb1:b≠s.heap.objs.size:=Y_ hb;have hb2:b≠(s.heap.push { cls:=.type "set",dict:=none,data:=.set #[] 0 (.fresh 0 0 led) }).objs.size:=by
      rw[qaQ];exact Y_ (Nat.lt_succ_of_lt hb)
     exact hm.heap b o (by simp only[S_,F_,qaD,or_false,not_or];exact⟨hb1,hb2⟩) (k_ _ (k_ _ e))
   ·cases r₂ with
    |error e=>exact Rn
    |ok abQ =>
     cases abQ with
     |ret r =>
      obtain⟨rfl,h',tk,rfl,hS',hk'⟩:=Rn
      repeat (any_goals (first|assumption|wp_step))
      exact h _ _ hS' hk'
     |_=>exact Rn.elim
  |_=>exact hr.elim
end
end
section
noncomputable def aag(P:I_)(w:W_)(a:g_)(n:Nat):HO:=.ext λh=>∃S,h.SetOf (strKind P w) a S n
section
variable{X:Cx}
theorem Pg(hc:X.calm=true):rC X (.type "set") (λxs H Q=>∃x,xs=[.str x]/\x.cps.size+1<scanBound/\∀p,H p=none->Q (.ref p) (upd H p (aag X.prog X.w p (met (rO x) x.cps.size).length))):=by
 intro pins s σ H xs us Q I r h;obtain⟨x,rfl,hb,q⟩:=h;obtain⟨u,rfl,t,rfl⟩:=vals1 r;refine TK.dD (j_ s.toks) (Ii (I.ok.hd hc) hb λh' tk hS kk hup=>?_);have hn:H s.heap.objs.size=none:=I.fresh;have k:∀b o,s.heap.get? b=some o->h'.get? b=some o:=λb o e=>kk b o (J_ e) e;refine⟨.ref s.heap.objs.size,_,I.laid (t':=tk) k (j_ _) ?_,Y,q _ hn⟩;refine⟨⟨_,hS⟩,?_,λh1 h2 p e=>?_⟩
 ·obtain⟨o,_,_,_,ho,_⟩:=hS;exact⟨o,ho⟩
 ·obtain⟨S,o,es,ep,t,ho,rest⟩:=p;exact⟨S,o,es,ep,t,e o ho,rest⟩
theorem Ff:rC X (.builtin "len") (λxs H Q=>fD λp n=>xs=[.ref p]/\H p=some (aag X.prog X.w p n)/\Q (.int (n:Nat)) H):=by
 intro pins s σ H xs us Q I r h;obtain⟨p,n,rfl,hp,q⟩:=h;obtain⟨u,rfl,ru⟩:=vals1 r;cases ru;obtain⟨⟨S,o,es,ep,t,ho,hex,hd,_,_,hz,hf,hn⟩,_⟩:=I.hok p _ hp;subst hn;have:es.size<4096:=hz;exact call_len_set ho hex hd hf (by omega) ⟨.int es.size,H,I.tok _,⟨_,Y⟩,q⟩
def Bg(i:Int):Prop:=i.natAbs<2 ^ 9000
theorem Bg.log{i:Int}(h:Bg i):i.natAbs.log2<9000:=by
 rcases Nat.eq_zero_or_pos i.natAbs with h0|hp
 ·rw[h0];decide
 ·exact(Nat.log2_lt (by omega)).mpr h
theorem Bg.bits{i:Int}(h:Bg i):Builtin.Int.intBits i<=2 ^ 20:=by
 have:=h.log;unfold Builtin.Int.intBits;split
 ·exact X_ _
 ·exact m_ (show i.natAbs.log2+1<=9000 by omega) (by decide)
theorem Tc:uz X (binaryOp .Mult) (rI (λi j=>Bg i/\Bg j) λi j=>.int (i*j)):=opI λ_ _ _ _ _ _ _ hc q=>mul_int q (IntMulOk.of_bits hc.1.bits hc.2.bits)
noncomputable def i7(xs ys:List V):Bool:=(E_ (min xs.length ys.length)).all (λj=>Lm (xs.getD j .lV) (ys.getD j .lV))&&xs.length==ys.length
theorem HZ{A:qam}{s:p_}{xs ys:List V}{us vs:List i_}(rx:Vals xs us)(ry:Vals ys vs)(fx:xs.all rm=true)(fy:ys.all rm=true):
  ∀j (h1:j<us.toArray.size) (h2:j<vs.toArray.size),SeqAt.EqAt A s us.toArray[j] vs.toArray[j] (Lm (xs.getD j .lV) (ys.getD j .lV)):=by
 intro j h1 h2;have l1:=rx.length;have l2:=ry.length;have vA:j<xs.length:=by rw[l1];simpa using h1
 have h2':j<ys.length:=by rw[l2];simpa using h2
 obtain⟨u,eu,ru⟩:=rx.get (i:=j) (x:=xs[j]) (by simp[vA]);obtain⟨v,ev,rv⟩:=ry.get (i:=j) (x:=ys[j]) (by simp[h2']);have e1:us.toArray[j]=u:=by
  rw[e_ (by simpa using h1)]at eu;simpa using V_ eu
 have e2:vs.toArray[j]=v:=by
  rw[e_ (by simpa using h2)]at ev;simpa using V_ ev
 rw[e1,e2,L_,L_,e_ vA,e_ h2',qaS,qaS];exact RH ru rv (v_.mp fx _ (x_ vA)) (v_.mp fy _ (x_ h2'))
def aao(K:PySem.W.Frag)(neg:Bool):R2:=λx y H Q=>yj λp q xs ys=>x= .ref p/\y= .ref q/\eK K H p xs/\eK K H q ys/\xs.all rm=true/\ys.all rm=true/\Q (.bl (if neg then !i7 xs ys else i7 xs ys)) H
theorem L8(hu:X.A.units<cLine):uz X (compareOp .Eq) (aao X.K false):=by
 intro pins s σ H x y v u Q I rx ry h;obtain⟨p,q,xs,ys,rfl,rfl,hp,hq,fx,fy,k⟩:=h;cases rx;cases ry;obtain⟨us,r1,t1,_⟩:=I.tuple hp;obtain⟨vs,r2,t2,_⟩:=I.tuple hq;refine SeqAt.RcAt.tuples (A:=X.A) (s:=s) t1 t2 hu (HZ r1 r2 fx fy) X.prog X.w X.xe _ ⟨.bl (i7 xs ys),H,I,?_,k⟩;unfold i7;rw[r1.length,r2.length,u_,u_];rfl
theorem Ho(hu:X.A.units<cLine):uz X (compareOp .NotEq) (aao X.K true):=by
 intro pins s σ H x y v u Q I rx ry h;obtain⟨p,q,xs,ys,rfl,rfl,hp,hq,fx,fy,k⟩:=h;cases rx;cases ry;obtain⟨us,r1,t1,_⟩:=I.tuple hp;obtain⟨vs,r2,t2,_⟩:=I.tuple hq;refine SeqAt.RcNeAt.tuples (A:=X.A) (s:=s) t1 t2 hu (HZ r1 r2 fx fy) X.prog X.w X.xe _ ⟨.bl (!i7 xs ys),H,I,?_,k⟩;unfold i7;rw[r1.length,r2.length,u_,u_];rfl
end
end
section
noncomputable def Itc(K:PySem.W.Frag)(c:Cp):It :=
 ⟨λi H=>fD λxs x=>c.at K H xs/\xs[i]? =some x,λi H x H'=>H'=H/\∀xs,c.at K H xs->xs[i]? =some x,λi H=>∃xs,c.at K H xs/\xs.length<=i⟩
theorem Turn.conv{P:I_}{w:W_}{K:PySem.W.Frag}{tg:Expr}{J J':It}{fp:List g_}{it:g_}{tn:Nat->qad->Prop}(T:Turn P w K tg J fp it tn)
  (hg:∀i H,J'.go i H->J.go i H) (hy:∀i H x H',J.IX i H x H'->J'.IX i H x H') (hs:∀i H,J'.stop i H->J.stop i H):Turn P w K tg J' fp it tn where
 mem:=T.mem
 obj:=T.obj
 keep:=T.keep
 item:=λX hP hw hK hc i pins s σ H E I hf st g=>qaF (T.item X hP hw hK hc i pins s σ H E I hf st (hg i H g)) (λr s1 ⟨u,hr,h⟩=>⟨u,hr,qaF h (λ_ s2 ⟨x,H',I',r',y,t',n'⟩=>⟨x,H',I',r',hy i H x H' y,t',n'⟩) λ_ _ z=>z⟩) λ_ _ z=>z
 done:=λX hP hw hK hc i pins s σ H E I hf st g=>T.done X hP hw hK hc i pins s σ H E I hf st (hs i H g)
 self:=T.self
theorem signs_length(x:r_):(iC x).length=x.cps.size:=by simp[iC]
theorem signs_at{x:r_}{i k:Nat}(h:x.cps[i]? =some k):(iC x)[i]? =some (.str ⟨#[k]⟩):=by
 unfold iC;rw[n_];have e:x.cps.toList[i]? =some k:=by simpa using h
 rw[e];rfl
section
variable{X:Cx}{tg:Expr}
def iCp(K:PySem.W.Frag)(tl:TE):TI:=λσ H R=>tl σ H λv H1=>fD λc xs=>v=Cp.val c/\c.at K H1 xs/\R (Itc K c) H1
theorem zH{l:Expr}{tl:TE}(hl:PE X l tl):PI X tg l (iCp X.K tl):=by
 intro pins s σ H R I h;refine iB (hl pins s σ H _ I h) λv s1 ⟨y,H1,I1,r1,q1⟩=>?_;obtain⟨c,xs,e,hq,q⟩:=q1;subst e;have fp1:∀b∈[s1.heap.objs.size],xD X pins H1 b:=λb hb=>by
  have e:b=s1.heap.objs.size:=by simpa using hb
  subst e;exact I1.D5 (j_ _) (I1.hok.fresh (j_ _))
 cases c with
 |lst a =>
  cases (show v=Value.ref a from r1);obtain⟨its,rv,p,hz⟩:=I1.list hq;refine qb5 p.isList ?_;exact⟨s1.heap.objs.size,[s1.heap.objs.size],_,_,H1,Y,I1.kept (t':=s1.toks) λb o e=>k_ _ e,FU a _,⟨_,H_ _ Y,Y,Y⟩,fp1,q⟩
 |tup a =>
  cases (show v=Value.ref a from r1);obtain⟨its,rv,p,hz⟩:=I1.tuple hq;refine qbW (show s1.heap.IsTuple a its.toArray from p) ?_;exact⟨s1.heap.objs.size,[s1.heap.objs.size],_,_,H1,Y,I1.kept (t':=s1.toks) λb o e=>k_ _ e,LC a _,⟨_,H_ _ Y,Y,Y⟩,fp1,q⟩
 |txt x =>
  obtain⟨t,rfl⟩:=(show ∃t,v=Value.str x t from r1);refine qcv ?_;refine⟨s1.heap.objs.size,[s1.heap.objs.size],_,_,H1,Y,I1.kept (t':=s1.toks) λb o e=>k_ _ e,(Jg x t _).conv ?_ ?_ ?_,⟨_,H_ _ Y,Y,Y⟩,fp1,q⟩
  ·rintro i H ⟨xs,y,hx,e⟩;rw[show xs=iC x from hx]at e;have:=(q_.mp e).1;rw[signs_length]at this;exact this
  ·rintro i H y H' ⟨rfl,k,e,rfl⟩;refine⟨Y,λxs hx=>?_⟩;rw[show xs=iC x from hx];exact signs_at e
  ·rintro i H ⟨xs,hx,e⟩;rw[show xs=iC x from hx,signs_length]at e;exact e
theorem D6{K:PySem.W.Frag}{c:Cp}{xs:List V}{g:TG}{tb:TS}{D:Ends}{σ:St}{H:Hp}(Pv:Nat->St->Hp->Prop)(h0:Pv 0 σ H)(hl:∀i σ H,i<=xs.length->Pv i σ H->c.at K H xs)
  (hs:∀i x σ H,xs[i]? =some x->Pv i σ H->g x σ H λσ2 H2=>tb { D with nx:=Pv (i+1),ct:=Pv (i+1),bk:=D.nx } σ2 H2) (hd:∀ σ H,Pv xs.length σ H->D.nx σ H) :
  ∃W:Nat->Nat->St->Hp->Prop,(∃m,W 0 m σ H)/\∀i m σ H,W i m σ H →
   ((Itc K c).stop i H/\D.nx σ H)\/((Itc K c).go i H/\∃N:St->Hp->Prop,(∀ σ' H',N σ' H'->∃m',m'<m/\W (i+1) m' σ' H')/\∀x H',(Itc K c).IX i H x H'->g x σ H' λσ2 H2=>tb { D with nx:=N,ct:=N,bk:=D.nx } σ2 H2):=by
 refine⟨λi m σ H=>m=xs.length-i/\i<=xs.length/\Pv i σ H,⟨xs.length,by simp,X_ _,h0⟩,?_⟩;rintro i m σ H ⟨rfl,hi,p⟩;have q:=hl i σ H hi p;by_cases hlt:i<xs.length
 ·refine .inr ⟨⟨xs,xs[i],q,by simp[hlt]⟩,Pv (i+1),λσ' H' p'=>⟨xs.length-(i+1),by omega,Y,hlt,p'⟩,λx H' y=>?_⟩;obtain⟨e,y⟩:=y;subst e;exact hs i x σ _ (y xs q) p
 ·have e:i=xs.length:=by omega
  subst e;exact .inl ⟨⟨xs,q,j_ _⟩,hd σ H p⟩
end
end
end L2
namespace pR
noncomputable def lo(a b:Int):Int×Int:=(a / (qaj a b:Int),b / (qaj a b:Int))
theorem qM(a:Int){b:Int}(hb:0<b):0<(qaj a b:Int):=by
 have:0<qaj a b:=Int.gcd_pos_of_ne_zero_right a (by omega);omega
theorem My(a:Int){b:Int}(hb:0<b):(qaj a b:Int)<=b:=Int.le_of_dvd hb (qbc ..)
theorem HG(a:Int){b:Int}(hb:0<b):0<(lo a b).2 :=
 qbt hb (qa4 (qM a hb)) (qbc ..)
theorem lo_le(a:Int){b:Int}(hb:0<b):(lo a b).2<=b:=by
 have h:=qM a hb;exact Int.ediv_le_self _ (qa4 hb)
theorem HH(a:Int){b:Int}(hb:0<b):qaj (lo a b).1 (lo a b).2=1 :=
 Int.gcd_ediv_gcd_ediv_gcd (Int.gcd_pos_of_ne_zero_right a (by omega))
theorem DT(a b:Int):(lo a b).1*(qaj a b:Int)=a:=Int.ediv_mul_cancel (qcf ..)
theorem HF(a b:Int):(lo a b).2*(qaj a b:Int)=b:=Int.ediv_mul_cancel (qbc ..)
theorem Kq(a b:Int):(lo a b).1*b=a*(lo a b).2:=by
 have h1:=DT a b;have h2:=HF a b;generalize (lo a b).1=x at *;generalize (lo a b).2=y at *;generalize (qaj a b:Int)=g at *;rw[←h1,←h2,qcB,Int.mul_comm y g]
theorem Ry(a b:Int):qaj b (a % b)=qaj a b:=by
 have e:a=a % b+b*(a / b):=(Int.emod_add_mul_ediv a b).symm;have h:qaj (a % b+b*(a / b)) b=qaj (a % b) b:=Int.gcd_add_mul_left_left ..;rw[←e]at h;rw[h,Int.gcd_comm]
theorem Uc(a:Int):(if a<0 then -a else a)=(qaj a 0:Int):=by
 rw[Int.gcd_zero_right];split<;>omega
end pR
namespace GP
open PySem L2 pR
section
noncomputable abbrev cC:=Int×Int
noncomputable def jI(f:cC):cC:=lo f.1 f.2
theorem aj.upd{H:Hp}{q:g_}{o:HO}(h:H q=none):aj H (L2.upd H q o):=λb u e=>by rw[aH (b9 e h)];exact e
theorem aj.at{H H2:Hp}{t:g_}{o:HO}(e:aj H H2)(h:H t=none):aj H (L2.upd H2 t o):=λb u q=>by rw[aH (b9 q h)];exact e b u q
theorem aj.tup{K:PySem.W.Frag}{H H':Hp}{a:g_}{xs:List V}(e:aj H H')(h:eK K H a xs):eK K H' a xs:=by
 rcases h with(h|⟨o,h⟩)|h
 ·exact .inl (.inl (e _ _ h))
 ·exact .inl (.inr ⟨o,e _ _ h⟩)
 ·exact .inr h
theorem aj.cp{K:PySem.W.Frag}{H H':Hp}{c:Cp}{xs:List V}(e:aj H H')(h:c.at K H xs):c.at K H' xs:=by
 cases c with
 |lst a=>exact aj.seq e h
 |tup a=>exact aj.tup e h
 |txt x=>exact h
def pV(K:PySem.W.Frag)(H:Hp)(p:g_)(f:cC):Prop:=eK K H p [.int f.1,.int f.2]
theorem pV.same{K:PySem.W.Frag}{H H':Hp}{p:g_}{f:cC}(e:aj H H')(h:pV K H p f):pV K H' p f:=aj.tup e h
def rz(K:PySem.W.Frag)(H:Hp)(c:Cp)(fs:List cC):Prop:=∃ps:List g_,c.at K H (ps.map V.ref)/\Paired (pV K H) ps fs
theorem rz.same{K:PySem.W.Frag}{H H':Hp}{c:Cp}{fs:List cC}(e:aj H H')(h:rz K H c fs):rz K H' c fs:=by
 obtain⟨ps,a,b⟩:=h;exact⟨ps,aj.cp e a,Paired.qa b λ_ _ z=>z.same e⟩
def Vg(K:PySem.W.Frag)(H:Hp)(c:Cp)(rows:List (List cC)):Prop:=∃cs:List Cp,c.at K H (cs.map Cp.val)/\Paired (rz K H) cs rows
theorem Paired.at{α β:Type}{F:α->β->Prop}:∀{l₁:List α} {l₂:List β} {i:Nat} {x:α},Paired F l₁ l₂->l₁[i]? =some x->∃y,l₂[i]? =some y/\F x y
 |_,_,i,_,.nil,e=>by simp at e
 |_,_,0,_,.cons r _,e=>by simp at e;subst e;exact⟨_,Y,r⟩
 |_,_,i+1,x,.cons _ t,e=>by
  obtain⟨y,h1,h2⟩:=Paired.at (i:=i) (x:=x) t (by simpa using e);exact⟨y,by simpa using h1,h2⟩
theorem Paired.at'{α β:Type}{F:α->β->Prop}:∀{l₁:List α} {l₂:List β} {i:Nat} {y:β},Paired F l₁ l₂->l₂[i]? =some y->∃x,l₁[i]? =some x/\F x y
 |_,_,i,_,.nil,e=>by simp at e
 |_,_,0,_,.cons r _,e=>by simp at e;subst e;exact⟨_,Y,r⟩
 |_,_,i+1,y,.cons _ t,e=>by
  obtain⟨x,h1,h2⟩:=Paired.at' (i:=i) (y:=y) t (by simpa using e);exact⟨x,by simpa using h1,h2⟩
theorem Paired.len{α β:Type}{F:α->β->Prop}{l₁:List α}{l₂:List β}(h:Paired F l₁ l₂):l₁.length=l₂.length:=Paired.length h
theorem Paired.snoc{α β:Type}{F:α->β->Prop}{x:α}{y:β}:∀{l₁:List α} {l₂:List β},Paired F l₁ l₂->F x y->Paired F (l₁++[x]) (l₂++[y])
 |_,_,.nil,h=>.cons h .nil
 |_,_,.cons r t,h=>.cons r (Paired.snoc t h)
theorem take_snoc{α:Type}{l:List α}{i:Nat}{x:α}(h:l[i]? =some x):l.take (i+1)=l.take i++[x]:=by
 rw[qcx,h];rfl
theorem yf{α β:Type}{l:List α}{f:α->β}{i:Nat}{x:α}(h:l[i]? =some x):(l.map f).take (i+1)=(l.map f).take i++[f x]:=take_snoc (by rw[n_,h];rfl)
theorem ur{i j:Int}{A B:Prop}(h1:i≠j->A)(h2:i=j->B):if(!decide (V.int i=V.int j))=true then A else B:=by
 by_cases h:i=j
 ·rw[xR,if_neg (by simp[h])];exact h2 h
 ·rw[xR,if_pos (by simp[h])];exact h1 h
theorem DZ{i j:Int}{A B:Prop}(h1:i=j->A)(h2:i≠j->B):if(decide (V.int i=V.int j))=true then A else B:=by
 by_cases h:i=j
 ·rw[xR,if_pos (by simp[h])];exact h1 h
 ·rw[xR,if_neg (by simp[h])];exact h2 h
theorem gw{p:Prop}[Decidable p]{A B:Prop}(h1:p->A)(h2:¬p->B):if(decide p)=true then A else B:=by
 by_cases h:p
 ·rw[if_pos (decide_eq_true h)];exact h1 h
 ·rw[if_neg (by rw[decide_eq_false h];exact O_)];exact h2 h
theorem zY{A B:Prop}(h:A):if(!false)=true then A else B:=by
 rw[if_pos (show(!false)=true from rfl)];exact h
theorem kY{A B:Prop}(h:B):if(!true)=true then A else B:=by
 rw[if_neg (by decide)];exact h
structure Dn(K:PySem.W.Frag)(mg:r_->Option i_)(x:r_)(st:qaq)(ps:List r_)(f:g_)(fd:B_):Prop where
 fn:SA K x x st f fd
 b:Binds K fd ps []
 m:mg x=some (.ref f)
theorem gc{X:Cx}{k n:Nat}{f:g_}{fd:B_}{ps:List r_}{sp:Sp}{x:r_}{st:qaq}{e:Expr}{es:List Expr}{t:TA}{p pos:qcd}(F:aI X.prog X.w X.K X.mg X.base cO k f fd ps sp)(hr:pW n X.A)(D:Dn X.K X.mg x st ps f fd)(ha:PA X (e::es) t)(hg:Gl X x:=by exact Y)(hn:k<=n:=by decide)(hdb:(x==("__debug__" :r_))=false:=by decide)(he:Z_ (e::es) X.env=(false,eval e X.env)::Z_ es X.env:=by rfl)(hpl:(backTo pos (Z_ es X.env)).any (·.1)=false:=by rfl):PE X (.Call (.Name x p) (e::es) [] pos) (aab sp [] E0 t):=av F (hr.mono hn) hg D.m D.fn.kp D.b .nil aR ha hdb he hpl
theorem Z9X{X:Cx}{x:r_}{e:Expr}{te:TE}{pos pos':qcd}(i:Nat)(hN:X.N.Nodup)(he:PE X e te)(hi:X.N[i]? =some x:=by rfl)(hx:Loc X.env.scope x:=by exact Or.inl Y)(hs:swapsWith e (some (.Name x pos')) pos.line X.env=pure false:=by rfl)(hf:X.fn x=true\/X.env.scope.names.lookup x=some .local:=by first|exact .inl rfl|exact .inr rfl|assumption):PS X (.Assign [.Name x pos'] e pos) (SQ te (NK i)):=aN hN hi hx he hs hf
theorem Z9Y{X:Cx}{x:r_}{pos:qcd}(i:Nat)(hN:X.N.Nodup)(hi:X.N[i]? =some x:=by rfl)(hx:Loc X.env.scope x:=by exact Or.inl Y)(hf:X.fn x=true\/X.env.scope.names.lookup x=some .local:=by first|exact .inl rfl|exact .inr rfl|assumption):PG X (.Name x pos) (NK i):=aS hN hi hx hf
def Nf:Sp:=λvs H Q _=>fD λa b:Int=>vs=[.int a,.int b]/\0<=b/\Q (.int (qaj a b)) H
noncomputable def lm(a b:Int):Int:=a / (qaj a b:Int)*b
def UM(K:PySem.W.Frag):Sp:=λvs H Q _=>fD λ(p:g_) (f:cC)=>vs=[.ref p]/\pV K H p f/\0<f.2/\f.2<1073741824 ∧
 ∀q,H q=none->Q (.ref q) (L2.upd H q (.tup [.int (jI f).1,.int (jI f).2]))
def Lc(f:cC):Prop:=1<=f.2/\f.2<1073741824
def yq(K:PySem.W.Frag):Sp:=λvs H Q _=>fD λ(p:g_) (f:cC)=>vs=[.ref p]/\pV K H p f/\Lc f ∧
 ∀q,H q=none->Q (.ref q) (L2.upd H q (.tup [.int (jI f).1,.int (jI f).2]))
def BF(K:PySem.W.Frag):Sp:=λvs H Q _=>fD λ(c:Cp) (fs:List cC)=>vs=[c.val]/\rz K H c fs/\(∀f∈fs,Lc f)/\fs.length<=1000 ∧
 ∀q H',aj H H'->H q=none->rz K H' (.tup q) (fs.map jI)->Q (.ref q) H'
noncomputable def aO(o m:Int)(rows:List (List cC)):Int:=(rows.flatten.map (·.2)).foldl lm (lm o m)
noncomputable def qP(fo fm:cC)(rows:List (List cC)):List Int:=fo.2::fm.2::rows.flatten.map (·.2)
def Js(K:PySem.W.Frag):Sp:=λvs H Q _=>PR λ(P o m:g_) (rows:List (List cC)) (fo fm:cC)=>vs=[.ref P,.ref o,.ref m]/\Vg K H (.tup P) rows/\pV K H o fo/\pV K H m fm ∧
 rows.length<=12/\(∀r∈rows,r.length<=12)/\∀l H',aj H H'->H l=none->H' l=some (.lst ((qP fo fm rows).map V.int))->Q (.ref l) H'
noncomputable def xP(p:List Int×Int)(b:Int):List Int×Int:=if b / (qaj p.2 b:Int)>1 then(p.1++[b / (qaj p.2 b:Int)],p.2*(b / (qaj p.2 b:Int)))else p
noncomputable def uT(ns:List Int):List Int×Int:=ns.foldl xP ([],1)
def ux(n:Int):Prop:=0<n/\n<1073741824
def F3(K:PySem.W.Frag):Sp:=λvs H Q _=>fD λ(l:g_) (ns:List Int)=>vs=[.ref l]/\bY K H l (ns.map V.int)/\ns.length<=1000/\(∀n∈ns,ux n) ∧
 ∀q H',aj H H'->H q=none->H' q=some (.lst ((uT ns).1.map V.int))->Q (.ref q) H'
noncomputable def yc(fs:List Int):Int:=fs.foldl (·*·) 1
def Qn(K:PySem.W.Frag):Sp:=λvs H Q _=>fD λ(l:g_) (fs:List Int)=>vs=[.ref l]/\bY K H l (fs.map V.int)/\(∀n∈fs,ux n)/\Q (.int (yc fs)) H
def Dg(K:PySem.W.Frag):Sp:=λvs H Q _=>rG λ(p:g_) (f:cC) (u:Int)=>vs=[.ref p,.int u]/\pV K H p f/\Lc f/\Bg f.1/\Bg (u / f.2)/\Q (.int (f.1*(u / f.2))) H
theorem YB{b:Int}:lm 1 b=b:=by
 unfold lm;rw[Int.gcd_one_left];simp
theorem YC{a b:Int}:lm a b=a*(b / (qaj a b:Int)):=by
 unfold lm;rw[←Int.mul_ediv_assoc' b (qcf a b),Int.mul_ediv_assoc a (qbc a b)]
structure Li(p:List Int×Int)(ns:List Int):Prop where
 small:∀f∈p.1,ux f
 prod:yc p.1=p.2
 unit:p.2=ns.foldl lm 1
 pos:0<p.2
 len:p.1.length<=ns.length
theorem yC(fs:List Int)(f:Int):yc (fs++[f])=yc fs*f:=by
 unfold yc;rw[qcw];rfl
theorem NN{u b:Int}(hb:ux b):0<b / (qaj u b:Int)/\b / (qaj u b:Int)<=b:=by
 have g1:=qM u hb.1;exact⟨qbt hb.1 (qa4 g1) (qbc u b),Int.ediv_le_self _ (qa4 hb.1)⟩
theorem Li.step{p:List Int×Int}{ns:List Int}{b:Int}(h:Li p ns)(hb:ux b):Li (xP p b) (ns++[b]):=by
 obtain⟨d1,d2⟩:=NN (u:=p.2) hb;have e:(ns++[b]).foldl lm 1=p.2*(b / (qaj p.2 b:Int)):=by
  rw[qcw,←h.unit];exact YC
 unfold xP;split
 ·next h1 =>
  refine⟨λf hf=>?_,?_,e.symm,Int.mul_pos h.pos d1,?_⟩
  ·rcases qab.mp hf with hf|hf
   ·exact h.small f hf
   ·rw[F_.mp hf];exact⟨d1,Int.lt_of_le_of_lt d2 hb.2⟩
  ·rw[yC,h.prod]
  ·rw[A_,A_];exact Nat.add_le_add_right h.len 1
 ·next h1 =>
  have e1:b / (qaj p.2 b:Int)=1:=by omega
  refine⟨h.small,h.prod,?_,h.pos,?_⟩
  ·rw[e,e1,Int.mul_one]
  ·rw[A_];exact m_ h.len (qaM _ _)
theorem Eb(ns:List Int)(b:Int):uT (ns++[b])=xP (uT ns) b:=by
 unfold uT;rw[qcw];rfl
theorem Bl{ns:List Int}(h:∀n∈ns,ux n):∀i,i<=ns.length->Li (uT (ns.take i)) (ns.take i)
 | 0,_=>by
  rw[List.take_zero];exact⟨λf hf=>(by cases hf),Y,Y,(by decide),j_ _⟩
 |i+1,hi=>by
  have e:=e_ (l:=ns) (i:=i) hi;rw[take_snoc e,Eb];exact(Bl h i (qbU hi)).step (h _ (x_ hi))
theorem Ui{ns:List Int}(h:∀n∈ns,ux n):Li (uT ns) ns:=by
 have z:=Bl h ns.length (j_ _);rw[qbP]at z;exact z
theorem Jf(fo fm:cC)(rows:List (List cC)):(qP fo fm rows).foldl lm 1=aO fo.2 fm.2 rows:=by
 unfold qP aO;rw[qb1,qb1,YB]
end
section
structure Dm(K:PySem.W.Frag)(x qual:r_)(st:qaq)(ps:List r_)(f:g_)(fd:B_):Prop where
 fn:SA K x qual st f fd
 b:Binds K fd ps []
def Dat(H H':Hp):Prop:=∀b u,(∀C dx fs,u≠HO.ins C dx fs)->H b=some u->H' b=some u
theorem Dat.of{H H':Hp}(e:aj H H'):Dat H H':=λb u _ h=>e b u h
theorem Dat.trans{H H' Ao:Hp}(e:Dat H H')(f:Dat H' Ao):Dat H Ao:=λb u n h=>f b u n (e b u n h)
theorem Dat.set{H:Hp}{x C dx:g_}{fs fs':List (r_×V)}(h:H x=some (.ins C dx fs)):Dat H (L2.upd H x (.ins C dx fs')):=λb u n e=>by
 rw[aH (λz=>by subst z;rw[h]at e;cases e;exact n _ _ _ Y)];exact e
theorem Dat.tup{K:PySem.W.Frag}{H H':Hp}{a:g_}{xs:List V}(e:Dat H H')(h:eK K H a xs):eK K H' a xs:=by
 rcases h with(h|⟨o,h⟩)|h
 ·exact .inl (.inl (e _ _ (λ_ _ _ z=>by cases z) h))
 ·exact .inl (.inr ⟨o,e _ _ (λ_ _ _ z=>by cases z) h⟩)
 ·exact .inr h
theorem Dat.lst{K:PySem.W.Frag}{H H':Hp}{a:g_}{xs:List V}(e:Dat H H')(h:bY K H a xs):bY K H' a xs:=by
 rcases h with(h|⟨o,h⟩)|h
 ·exact .inl (.inl (e _ _ (λ_ _ _ z=>by cases z) h))
 ·exact .inl (.inr ⟨o,e _ _ (λ_ _ _ z=>by cases z) h⟩)
 ·exact .inr h
theorem Dat.cp{K:PySem.W.Frag}{H H':Hp}{c:Cp}{xs:List V}(e:Dat H H')(h:c.at K H xs):c.at K H' xs:=by
 cases c with
 |lst a=>exact Dat.lst e h
 |tup a=>exact Dat.tup e h
 |txt x=>exact h
theorem pV.dat{K:PySem.W.Frag}{H H':Hp}{p:g_}{f:cC}(e:Dat H H')(h:pV K H p f):pV K H' p f:=Dat.tup e h
theorem rz.dat{K:PySem.W.Frag}{H H':Hp}{c:Cp}{fs:List cC}(e:Dat H H')(h:rz K H c fs):rz K H' c fs:=by
 obtain⟨ps,a,b⟩:=h;exact⟨ps,Dat.cp e a,Paired.qa b λ_ _ z=>z.dat e⟩
def Ip(K:PySem.W.Frag)(H:Hp)(P:g_)(rows:List (List cC)):Prop:=∃qs:List g_,eK K H P (qs.map V.ref)/\Paired (λq r=>rz K H (.tup q) r) qs rows
theorem Ip.dat{K:PySem.W.Frag}{H H':Hp}{P:g_}{rows:List (List cC)}(e:Dat H H')(h:Ip K H P rows):Ip K H' P rows:=by
 obtain⟨cs,a,b⟩:=h;exact⟨cs,Dat.tup e a,Paired.qa b λ_ _ z=>z.dat e⟩
theorem yD{α β γ:Type}{F:γ->β->Prop}{g:α->γ}:∀{l₁:List α} {l₂:List β},Paired (λa b=>F (g a) b) l₁ l₂->Paired F (l₁.map g) l₂
 |_,_,.nil=>.nil
 |_,_,.cons r t=>.cons r (yD t)
theorem Ip.mat{K:PySem.W.Frag}{H:Hp}{P:g_}{rows:List (List cC)}(h:Ip K H P rows):Vg K H (.tup P) rows:=by
 obtain⟨qs,a,b⟩:=h;refine⟨qs.map Cp.tup,?_,yD b⟩;rw[qaf];exact a
theorem RS{K:PySem.W.Frag}{H:Hp}{c:Cp}{xs:List V}(h:c.at K H xs)(hx:∀x,c≠ .txt x):UA K c.val H xs.length:=by
 cases c with
 |lst a=>exact .inl ⟨_,h,Y⟩
 |tup a=>exact .inr ⟨_,h,Y⟩
 |txt x=>exact absurd Y (hx x)
theorem rz.len{K:PySem.W.Frag}{H:Hp}{c:Cp}{fs:List cC}(h:rz K H c fs)(hx:∀x,c≠ .txt x):UA K c.val H fs.length:=by
 obtain⟨ps,a,b⟩:=h;have z:=RS a hx;rw[f_,Paired.len b]at z;exact z
noncomputable def gO(n:Nat):Bool:=(decide ((32:Int)<=(n:Int))&&decide ((n:Int)<=126))&& !inV (.int n) [.int 34,.int 37,.int 45]
def GH(x:r_):Prop:=0<x.cps.size/\x.cps.size<=100/\(∀c∈x.cps.toList,gO c=true)/\x.cps.toList.Nodup
theorem mw{x:r_}(h:x.cps.toList.Nodup){i j a b:Nat}(hi:x.cps[i]? =some a)(hj:x.cps[j]? =some b)(hij:i≠j):a≠b:=by
 intro z;subst z;rw[←U_]at hi hj;exact hij ((List.getElem?_inj (q_.mp hi).1 h).mp (hi.trans hj.symm))
theorem ND(val:Nat->r_)(k:r_):∀i,(met val i).any (·==k)=true->∃j,j<i/\val j=k
 | 0,h=>by rw[DQ]at h;cases h
 |i+1,h=>by
  rw[wM,zP,Bool.or_eq_true]at h;rcases h with h|h
  ·obtain⟨j,h1,h2⟩:=ND val k i h;exact⟨j,by omega,h2⟩
  ·exact⟨i,by omega,(of_decide_eq_true h).symm⟩
theorem Km{val:Nat->r_}{n:Nat}(h:∀i j,i<n->j<n->i≠j->val i≠val j):∀i,i<=n->(met val i).length=i
 | 0,_=>by rw[DQ];rfl
 |i+1,hi=>by
  rw[wM,vS];have e:¬((met val i).any (·==val i)=true):=λz=>by
   obtain⟨j,h1,h2⟩:=ND val _ i z;exact h j i (by omega) (by omega) (by omega) h2
  rw[if_neg e,Km h i (by omega)]
theorem OP{x:r_}(h:x.cps.toList.Nodup):(met (rO x) x.cps.size).length=x.cps.size:=by
 refine Km (n:=x.cps.size) (λi j hi hj hij z=>?_) _ (j_ _);unfold rO at z;have e1:x.cps[i]? =some (x.cps.getD i 0):=by simp[hi]
 have e2:x.cps[j]? =some (x.cps.getD j 0):=by simp[hj]
 refine mw h e1 e2 hij ?_;have z2: #[x.cps.getD i 0]= #[x.cps.getD j 0]:=congrArg Str.cps z;simpa using z2
def Jy:Sp:=λvs H Q _=>∃c:Nat,vs=[.str ⟨#[c]⟩]/\Q (.bl (gO c)) H
def yr:Sp:=λvs H Q _=>∃x:r_,vs=[.str x]/\x.cps.size<=1000/\∀H',aj H H'->Q (.bl (x.cps.toList.all gO)) H'
def zw:Sp:=λvs H Q _=>∃x:r_,vs=[.str x]/\GH x/\∀H',aj H H'->Q .lV H'
def Vf(c:Cp):Prop:=∀x,c≠ .txt x
def Pw(K:PySem.W.Frag)(H:Hp)(c:Cp)(rows:List (List cC)):Prop:=Vf c/\∃cs:List Cp,(∀d∈cs,Vf d)/\c.at K H (cs.map Cp.val)/\Paired (rz K H) cs rows
theorem Pw.dat{K:PySem.W.Frag}{H H':Hp}{c:Cp}{rows:List (List cC)}(e:Dat H H')(h:Pw K H c rows):Pw K H' c rows:=by
 obtain⟨n,cs,m,a,b⟩:=h;exact⟨n,cs,m,Dat.cp e a,Paired.qa b λ_ _ z=>z.dat e⟩
def Sy(n:Nat)(rows:List (List cC)):Prop:=rows.length=n/\∀r∈rows,r.length=n
def wm(K:PySem.W.Frag):Sp:=λvs H Q _=>rG λ(x:r_) (c:Cp) (rows:List (List cC))=>vs=[.str x,c.val]/\Pw K H c rows/\x.cps.size<=100/\Sy x.cps.size rows/\Q .lV H
def Av(rows:List (List cC))(i j:Nat)(f:cC):Prop:=∃r,rows[i]? =some r/\r[j]? =some f
noncomputable def keyOf(a b:Nat):List Key:=[.inr ⟨#[a]⟩,.inr ⟨#[b]⟩]
def M0(kvs:List (List Key×V))(x:r_)(rows:List (List cC))(u:Int):Prop :=
 ∀i j a b f,x.cps[i]? =some a->x.cps[j]? =some b->Av rows i j f->mq kvs (keyOf a b)=some (.int (f.1*(u / f.2)))
def Sm(i:Int):Prop:=i.natAbs<2 ^ 200
def Bu(i:Int):Prop:=i.natAbs<=2 ^ 4380
theorem Sm.bg{i:Int}(h:Sm i):Bg i:=K_ h (qcb (by decide) (by decide))
theorem Bu.bg{i:Int}(h:Bu i):Bg i:=s_ h (Nat.pow_lt_pow_right (by decide) (by decide))
def OkB(u:Int)(f:cC):Prop:=Lc f/\Sm f.1/\Bu (u / f.2)
def Nj(K:PySem.W.Frag):Sp:=λvs H Q _=>yj λ(x:r_) (P:g_) (u:Int) (rows:List (List cC))=>vs=[.str x,.ref P,.int u]/\Ip K H P rows/\x.cps.size<=100/\x.cps.toList.Nodup/\Sy x.cps.size rows/\(∀r∈rows,∀f∈r,OkB u f) ∧
 ∀d H' kvs,aj H H'->H d=none->H' d=some (.dT kvs)->M0 kvs x rows u->Q (.ref d) H'
noncomputable def mS(x:r_)(P o m:g_)(u:Int)(d:g_×g_):List (r_×V) :=
 aX "costs" (.ref d.1) (aX "unit" (.int u) (aX "factors" (.ref d.2) (aX "more" (.ref m) (aX "opening" (.ref o) (aX "pairs" (.ref P) (aX "signs" (.str x) []))))))
theorem KH{x:r_}{P o m:g_}{u:Int}{d:g_×g_}:(mS x P o m u d).lookup ("signs" :r_)=some (.str x):=by
 unfold mS;rw[aC,if_neg (by decide +kernel),aC,if_neg (by decide +kernel),aC,if_neg (by decide +kernel),aC,if_neg (by decide +kernel),aC,if_neg (by decide +kernel),aC,if_neg (by decide +kernel),aC,if_pos rfl]
theorem KI{x:r_}{P o m:g_}{u:Int}{d:g_×g_}:(mS x P o m u d).lookup ("pairs" :r_)=some (.ref P):=by
 unfold mS;rw[aC,if_neg (by decide +kernel),aC,if_neg (by decide +kernel),aC,if_neg (by decide +kernel),aC,if_neg (by decide +kernel),aC,if_neg (by decide +kernel),aC,if_pos rfl]
theorem Fc{x:r_}{P o m:g_}{u:Int}{d:g_×g_}:(mS x P o m u d).lookup ("opening" :r_)=some (.ref o):=by
 unfold mS;rw[aC,if_neg (by decide +kernel),aC,if_neg (by decide +kernel),aC,if_neg (by decide +kernel),aC,if_neg (by decide +kernel),aC,if_pos rfl]
theorem MC{x:r_}{P o m:g_}{u:Int}{d:g_×g_}:(mS x P o m u d).lookup ("more" :r_)=some (.ref m):=by
 unfold mS;rw[aC,if_neg (by decide +kernel),aC,if_neg (by decide +kernel),aC,if_neg (by decide +kernel),aC,if_pos rfl]
theorem Fd{x:r_}{P o m:g_}{u:Int}{d:g_×g_}:(mS x P o m u d).lookup ("factors" :r_)=some (.ref d.2):=by
 unfold mS;rw[aC,if_neg (by decide +kernel),aC,if_neg (by decide +kernel),aC,if_pos rfl]
theorem D8{x:r_}{P o m:g_}{u:Int}{d:g_×g_}:(mS x P o m u d).lookup ("unit" :r_)=some (.int u):=by
 unfold mS;rw[aC,if_neg (by decide +kernel),aC,if_pos rfl]
theorem KJ{x:r_}{P o m:g_}{u:Int}{d:g_×g_}:(mS x P o m u d).lookup ("costs" :r_)=some (.ref d.1):=by
 unfold mS;rw[aC,if_pos rfl]
noncomputable def D9(x:r_)(P o m:g_)(u:Int)(d:g_×g_)(ou mu:Int):List (r_×V) :=
 aX "more_units" (.int mu) (aX "opening_units" (.int ou) (mS x P o m u d))
theorem z6 {x:r_}{P o m:g_}{u:Int}{d:g_×g_}{ou mu:Int}{f:r_}(h1:¬f= "more_units")(h2:¬f= "opening_units"):(D9 x P o m u d ou mu).lookup f=(mS x P o m u d).lookup f:=by
 unfold D9;rw[aC,if_neg h1,aC,if_neg h2]
theorem vB{x:r_}{P o m:g_}{u:Int}{d:g_×g_}{ou mu:Int}:(D9 x P o m u d ou mu).lookup ("signs" :r_)=some (.str x):=(z6 (by decide +kernel) (by decide +kernel)).trans KH
theorem D7{x:r_}{P o m:g_}{u:Int}{d:g_×g_}{ou mu:Int}:(D9 x P o m u d ou mu).lookup ("pairs" :r_)=some (.ref P):=(z6 (by decide +kernel) (by decide +kernel)).trans KI
theorem sr{x:r_}{P o m:g_}{u:Int}{d:g_×g_}{ou mu:Int}:(D9 x P o m u d ou mu).lookup ("factors" :r_)=some (.ref d.2):=(z6 (by decide +kernel) (by decide +kernel)).trans Fd
theorem MB{x:r_}{P o m:g_}{u:Int}{d:g_×g_}{ou mu:Int}:(D9 x P o m u d ou mu).lookup ("costs" :r_)=some (.ref d.1):=(z6 (by decide +kernel) (by decide +kernel)).trans KJ
theorem yh {x:r_}{P o m:g_}{u:Int}{d:g_×g_}{v:V}{f:r_}(h2:¬f= "opening_units"):(aX "opening_units" v (mS x P o m u d)).lookup f=(mS x P o m u d).lookup f:=by
 rw[aC,if_neg h2]
theorem Cm{x:r_}{P o m:g_}{u:Int}{d:g_×g_}{ou mu:Int}:(D9 x P o m u d ou mu).lookup ("more_units" :r_)=some (.int mu):=by
 unfold D9;rw[aC,if_pos rfl]
theorem Q6{x:r_}{P o m:g_}:(aX "more" (.ref m) (aX "opening" (.ref o) (aX "pairs" (.ref P) (aX "signs" (.str x) []))):List (r_×V)).lookup ("pairs" :r_)=some (.ref P):=by
 rw[aC,if_neg (by decide +kernel),aC,if_neg (by decide +kernel),aC,if_pos rfl]
theorem Ml{x:r_}{P o m:g_}:(aX "more" (.ref m) (aX "opening" (.ref o) (aX "pairs" (.ref P) (aX "signs" (.str x) []))):List (r_×V)).lookup ("opening" :r_)=some (.ref o):=by
 rw[aC,if_neg (by decide +kernel),aC,if_pos rfl]
theorem To{x:r_}{P o m:g_}:(aX "more" (.ref m) (aX "opening" (.ref o) (aX "pairs" (.ref P) (aX "signs" (.str x) []))):List (r_×V)).lookup ("more" :r_)=some (.ref m):=by
 rw[aC,if_pos rfl]
theorem Mm{x:r_}{P o m fl:g_}:(aX "factors" (.ref fl) (aX "more" (.ref m) (aX "opening" (.ref o) (aX "pairs" (.ref P) (aX "signs" (.str x) [])))):List (r_×V)).lookup ("factors" :r_)=some (.ref fl):=by
 rw[aC,if_pos rfl]
theorem Q5{x:r_}{P o m fl:g_}{u:Int}:(aX "unit" (.int u) (aX "factors" (.ref fl) (aX "more" (.ref m) (aX "opening" (.ref o) (aX "pairs" (.ref P) (aX "signs" (.str x) []))))):List (r_×V)).lookup ("signs" :r_)=some (.str x):=by
 rw[aC,if_neg (by decide +kernel),aC,if_neg (by decide +kernel),aC,if_neg (by decide +kernel),aC,if_neg (by decide +kernel),aC,if_neg (by decide +kernel),aC,if_pos rfl]
theorem OJ{x:r_}{P o m fl:g_}{u:Int}:(aX "unit" (.int u) (aX "factors" (.ref fl) (aX "more" (.ref m) (aX "opening" (.ref o) (aX "pairs" (.ref P) (aX "signs" (.str x) []))))):List (r_×V)).lookup ("pairs" :r_)=some (.ref P):=by
 rw[aC,if_neg (by decide +kernel),aC,if_neg (by decide +kernel),aC,if_neg (by decide +kernel),aC,if_neg (by decide +kernel),aC,if_pos rfl]
theorem Tn{x:r_}{P o m fl:g_}{u:Int}:(aX "unit" (.int u) (aX "factors" (.ref fl) (aX "more" (.ref m) (aX "opening" (.ref o) (aX "pairs" (.ref P) (aX "signs" (.str x) []))))):List (r_×V)).lookup ("unit" :r_)=some (.int u):=by
 rw[aC,if_pos rfl]
theorem aM{f:r_}{v:V}{fs:List (r_×V)}{n:Nat}(h:fs.length<=n):(aX f v fs).length<=n+1:=by
 have:=wO f v fs;omega
structure jA(K:PySem.W.Frag)(C:g_)(H:Hp)(x:g_)(sg:r_)(rows:List (List cC))(fo fm:cC):Prop where
 sig:GH sg
 UL:Sy sg.cps.size rows
 ok:∀r∈rows,∀f∈r,OkB (aO fo.2 fm.2 rows) f
 Sk:OkB (aO fo.2 fm.2 rows) fo
 Sl:OkB (aO fo.2 fm.2 rows) fm
 pos:0<aO fo.2 fm.2 rows
 big:Bu (aO fo.2 fm.2 rows)
 ob:yj λdx P o m=>∃d:g_×g_,∃kvs,H x=some (.ins C dx (D9 sg P o m (aO fo.2 fm.2 rows) d (fo.1*(aO fo.2 fm.2 rows / fo.2)) (fm.1*(aO fo.2 fm.2 rows / fm.2))))/\Ip K H P rows/\pV K H o fo/\pV K H m fm/\H d.1=some (.dT kvs)/\M0 kvs sg rows (aO fo.2 fm.2 rows) ∧
  ∃fs:List Int,(∀f∈fs,ux f)/\yc fs=aO fo.2 fm.2 rows/\H d.2=some (.lst (fs.map V.int))
theorem jA.same{K:PySem.W.Frag}{C:g_}{H H':Hp}{x:g_}{sg:r_}{rows:List (List cC)}{fo fm:cC}(e:aj H H')(h:jA K C H x sg rows fo fm):jA K C H' x sg rows fo fm:=by
 obtain⟨a,b,c,d,f,g,i,dx,P,o,m,dd,kvs,h1,h2,h3,h4,h5,h6,fs,h7,h8,h9⟩:=h;exact⟨a,b,c,d,f,g,i,dx,P,o,m,dd,kvs,e _ _ h1,h2.dat (Dat.of e),h3.same e,h4.same e,e _ _ h5,h6,fs,h7,h8,e _ _ h9⟩
def Se(H:Hp)(x c:g_):Prop:=∀C dx fs,H x=some (.ins C dx fs)->fs.lookup ("factors" :r_)≠some (.ref c)
def OkH(f:cC):Prop:=Lc f/\Sm f.1
noncomputable def Aw(rows:List (List cC)):List (List cC):=rows.map λr=>r.map jI
def Qo(K:PySem.W.Frag)(C:g_):Sp:=λvs H Q _=>ZP λ(x dx o m:g_) (sg:r_) (c:Cp) (rows:List (List cC)) (fo fm:cC)=>vs=[.ref x,.str sg,c.val,.ref o,.ref m]/\H x=some (.ins C dx [])/\GH sg/\sg.cps.size<=12 ∧
 Pw K H c rows/\Sy sg.cps.size rows/\(∀r∈rows,∀f∈r,OkH f)/\pV K H o fo/\OkH fo/\pV K H m fm/\OkH fm ∧
 ∀H',jA K C H' x sg (Aw rows) (jI fo) (jI fm)->(∀b u,H b=some u->b≠x->H' b=some u)->(∀c,H c≠none->Se H' x c)->Q .lV H'
def sM(K:PySem.W.Frag)(C:g_):Sp:=λvs H Q _=>Uw λ(x:g_) (sg:r_) (rows:List (List cC)) (fo fm:cC) (i j a b:Nat) (f:cC)=>vs=[.ref x,.str ⟨#[a]⟩,.str ⟨#[b]⟩]/\jA K C H x sg rows fo fm ∧
 sg.cps[i]? =some a/\sg.cps[j]? =some b/\Av rows i j f/\∀H',aj H H'->Q (.int (f.1*(aO fo.2 fm.2 rows / f.2))) H'
def De(K:PySem.W.Frag)(C:g_):Sp:=λvs H Q _=>GF λ(x:g_) (sg:r_) (rows:List (List cC)) (fo fm:cC)=>vs=[.ref x]/\jA K C H x sg rows fo fm/\Q (.int (fm.1*(aO fo.2 fm.2 rows / fm.2))) H
def AE(K:PySem.W.Frag)(C:g_):Sp:=λvs H Q _=>PR λ(x:g_) (n:Int) (sg:r_) (rows:List (List cC)) (fo fm:cC)=>vs=[.ref x,.int n]/\jA K C H x sg rows fo fm ∧
 ∀q H',aj H H'->H q=none->H' q=some (.tup [.int (jI (n,aO fo.2 fm.2 rows)).1,.int (jI (n,aO fo.2 fm.2 rows)).2])->Q (.ref q) H'
def gH(rows:List (List cC)):Prop:=∀i j f g,Av rows i j f->Av rows j i g->f=g
def Qw(K:PySem.W.Frag)(C:g_):Sp:=λvs H Q _=>GF λ(x:g_) (sg:r_) (rows:List (List cC)) (fo fm:cC)=>vs=[.ref x]/\jA K C H x sg rows fo fm/\∀(b:Bool) H',(b=true↔gH rows)->aj H H'->Q (.bl b) H'
end
section
theorem pN{α β:Type}{l:List α}{g:α->β}{i:Nat}{y:β}(h:(l.map g)[i]? =some y):∃x,l[i]? =some x/\y=g x:=by
 rw[n_]at h
 cases e:l[i]? with
 |none=>rw[e]at h;cases h
 |some x=>rw[e]at h;exact⟨x,Y,(V_ h).symm⟩
def qk(kvs:List (List Key×V))(x:r_)(rows:List (List cC))(u:Int)(n m:Nat):Prop :=
 ∀i j a b f,(i<n\/(i=n/\j<m))->x.cps[i]? =some a->x.cps[j]? =some b->Av rows i j f->mq kvs (keyOf a b)=some (.int (f.1*(u / f.2)))
theorem qk.nil(x:r_)(rows:List (List cC))(u:Int):qk [] x rows u 0 0:=λi j a b f h=>by omega
theorem OT{a b c d:Nat}(h:keyOf a b=keyOf c d):a=c/\b=d:=by
 unfold keyOf at h;have h1:=(List.cons.inj h).1;have h2:=(List.cons.inj (List.cons.inj h).2).1;have e1:(⟨#[a]⟩:r_)=⟨#[c]⟩:=Sum.inr.inj h1;have e2:(⟨#[b]⟩:r_)=⟨#[d]⟩:=Sum.inr.inj h2;have z1: #[a]= #[c]:=congrArg Str.cps e1;have z2: #[b]= #[d]:=congrArg Str.cps e2;exact⟨by simpa using z1,by simpa using z2⟩
theorem qk.put{kvs:List (List Key×V)}{x:r_}{rows:List (List cC)}{u:Int}{n m a b:Nat}{f:cC}(nd:x.cps.toList.Nodup)(h:qk kvs x rows u n m)(ha:x.cps[n]? =some a)(hb:x.cps[m]? =some b)(hf:Av rows n m f):
  qk (putK kvs (keyOf a b) (.int (f.1*(u / f.2)))) x rows u n (m+1):=by
 intro i j c d g hij hc hd hg;rw[zk];by_cases e:i=n/\j=m
 ·obtain⟨rfl,rfl⟩:=e;rw[ha]at hc;rw[hb]at hd;cases hc;cases hd;obtain⟨r,r1,r2⟩:=hf;obtain⟨r',r3,r4⟩:=hg;rw[r1]at r3;cases r3;rw[r2]at r4;cases r4;rw[if_pos rfl]
 ·have hne:¬keyOf c d=keyOf a b:=λz=>by
   obtain⟨z1,z2⟩:=OT z;subst z1 z2;refine e ⟨?_,?_⟩
   ·exact Decidable.byContradiction λq=>mw nd hc ha q Y
   ·exact Decidable.byContradiction λq=>mw nd hd hb q Y
  rw[if_neg hne];exact h i j c d g (by omega) hc hd hg
theorem qk.row{kvs:List (List Key×V)}{x:r_}{rows:List (List cC)}{u:Int}{n m:Nat}(hm:x.cps.size<=m)(h:qk kvs x rows u n m):qk kvs x rows u (n+1) 0:=by
 intro i j a b f hij ha hb hf;refine h i j a b f ?_ ha hb hf;have:j<x.cps.size:=by
  rw[←U_]at hb;have:=(q_.mp hb).1;simpa using this
 omega
theorem qk.all{kvs:List (List Key×V)}{x:r_}{rows:List (List cC)}{u:Int}{n:Nat}(hn:x.cps.size<=n)(h:qk kvs x rows u n 0):M0 kvs x rows u:=by
 intro i j a b f ha hb hf;refine h i j a b f (.inl ?_) ha hb hf;have:i<x.cps.size:=by
  rw[←U_]at ha;have:=(q_.mp ha).1;simpa using this
 omega
theorem HK{a b:Int}(ha:0<a)(hb:0<b):0<lm a b:=by
 have h:=qM a hb;have:=qbt ha (qa4 h) (qcf a b);exact Int.mul_pos this hb
theorem yX(a g:Int):(a / g).natAbs<=a.natAbs:=Int.natAbs_ediv_le_natAbs a g
theorem Q8(a b:Int):(lm a b).natAbs<=a.natAbs*b.natAbs:=by
 unfold lm;rw[Int.natAbs_mul];exact Nat.mul_le_mul_right _ (yX a _)
theorem KC:∀(l:List Int) {u:Int},0<u->(∀b∈l,0<b)->0<l.foldl lm u
 |[],_,h,_=>h
 |b::l,_,h,hb=>KC l (HK h (hb b D_)) λc hc=>hb c (C_ _ hc)
theorem KG{B:Nat}:∀(l:List Int) {u:Int},(∀b∈l,b.natAbs<=B)->(l.foldl lm u).natAbs<=u.natAbs*B ^ l.length
 |[],_,_=>by simp
 |b::l,u,h=>by
  have h1:=KG (B:=B) l (u:=lm u b) λc hc=>h c (C_ _ hc);have h2:=Q8 u b;have h3:=h b D_;show(l.foldl lm (lm u b)).natAbs<=_;refine m_ h1 ?_;rw[qac,Nat.pow_succ,Nat.mul_comm (B ^ l.length) B,←Nat.mul_assoc];exact Nat.mul_le_mul_right _ (m_ h2 (Nat.mul_le_mul_left _ h3))
theorem Ea{n:Nat}:∀{rows:List (List cC)},(∀r∈rows,r.length=n)->rows.flatten.length=rows.length*n
 |[],_=>by simp
 |r::rows,h=>by
  rw[qaO,A_,h r D_,Ea λr' hr=>h r' (C_ _ hr),qac,Nat.succ_mul,Nat.add_comm]
theorem Lc.abs{f:cC}(h:Lc f):f.2.natAbs<=2 ^ 30:=by
 obtain⟨h1,h2⟩:=h;have:(2:Nat) ^ 30=1073741824:=by decide
 omega
theorem P1{rows:List (List cC)}{fo fm:cC}(ho:Lc fo)(hm:Lc fm)(h:∀r∈rows,∀f∈r,Lc f):0<aO fo.2 fm.2 rows:=by
 refine KC _ (HK (by have:=ho.1;omega) (by have:=hm.1;omega)) λb hb=>?_;obtain⟨f,hf,rfl⟩:=G_.mp hb;obtain⟨r,hr,hfr⟩:=qcg.mp hf;have:=(h r hr f hfr).1;omega
theorem P6{n:Nat}{rows:List (List cC)}{fo fm:cC}(hn:n<=12)(hs:Sy n rows)(ho:Lc fo)(hm:Lc fm)(h:∀r∈rows,∀f∈r,Lc f):Bu (aO fo.2 fm.2 rows):=by
 have h1:(aO fo.2 fm.2 rows).natAbs<=(lm fo.2 fm.2).natAbs*(2 ^ 30) ^ (rows.flatten.map (·.2)).length:=by
  refine KG _ λb hb=>?_;obtain⟨f,hf,rfl⟩:=G_.mp hb;obtain⟨r,hr,hfr⟩:=qcg.mp hf;exact(h r hr f hfr).abs
 have h2:(lm fo.2 fm.2).natAbs<=2 ^ 30*2 ^ 30:=m_ (Q8 _ _) (qbb ho.abs hm.abs);have h3:(rows.flatten.map (·.2)).length<=144:=by
  rw[f_,Ea hs.2,hs.1];exact m_ (qbb hn hn) (by decide)
 have h4:(2 ^ 30:Nat) ^ (rows.flatten.map (·.2)).length<=(2 ^ 30) ^ 144:=qcb (by decide) h3;have h5:(2 ^ 30:Nat)*2 ^ 30*(2 ^ 30) ^ 144<=2 ^ 4380:=by
  rw[←Nat.pow_mul,←Nat.pow_add,←Nat.pow_add];exact qcb (by decide) (by decide)
 exact m_ h1 (m_ (qbb h2 h4) h5)
theorem wN{f:cC}(h:Lc f):Lc (jI f):=by
 obtain⟨h1,h2⟩:=h;have h0:0<f.2:=by omega
 have p:=HG f.1 h0;have l:=lo_le f.1 h0;exact⟨by show 1<=(lo f.1 f.2).2;omega,by show(lo f.1 f.2).2<_;omega⟩
theorem Tq{f:cC}(h:Sm f.1):Sm (jI f).1:=s_ (yX _ _) h
theorem Bu.div{u:Int}(h:Bu u)(g:Int):Bu (u / g):=m_ (yX _ _) h
theorem Tp{n:Nat}{rows:List (List cC)}(h:Sy n rows):Sy n (Aw rows):=by
 refine⟨by unfold Aw;rw[f_];exact h.1,λr hr=>?_⟩;obtain⟨r',h',rfl⟩:=G_.mp hr;rw[f_];exact h.2 r' h'
theorem HJ{p:cC->Prop}{rows:List (List cC)}(h:∀r∈rows,∀f∈r,p (jI f)):∀r∈Aw rows,∀f∈r,p f:=by
 intro r hr f hf;obtain⟨r',h',rfl⟩:=G_.mp hr;obtain⟨f',hf',rfl⟩:=G_.mp hf;exact h r' h' f' hf'
theorem Av.mem{rows:List (List cC)}{i j:Nat}{f:cC}(h:Av rows i j f):∃r∈rows,f∈r:=by
 obtain⟨r,h1,h2⟩:=h;exact⟨r,l_ h1,l_ h2⟩
end
section
theorem eK.off{K:PySem.W.Frag}{H:Hp}{l a:g_}{ys xs:List V}{o:HO}(hl:H l=some (.lst ys))(h:eK K H a xs):eK K (L2.upd H l o) a xs:=by
 rcases h with(h|⟨u,h⟩)|h
 ·exact .inl (.inl (by rw[aH (rJ h hl (by intro z;cases z))];exact h))
 ·exact .inl (.inr ⟨u,by rw[aH (rJ h hl (by intro z;cases z))];exact h⟩)
 ·exact .inr h
theorem rz.off{K:PySem.W.Frag}{H:Hp}{l q:g_}{ys:List V}{fs:List cC}{o:HO}(hl:H l=some (.lst ys))(h:rz K H (.tup q) fs):rz K (L2.upd H l o) (.tup q) fs:=by
 obtain⟨ps,a,b⟩:=h;exact⟨ps,eK.off hl a,Paired.qa b λ_ _ z=>eK.off hl z⟩
def Off(x:g_)(H H':Hp):Prop:=∀b u,H b=some u->b≠x->H' b=some u
theorem Off.of{x:g_}{H H':Hp}(e:aj H H'):Off x H H':=λb u h _=>e b u h
theorem Off.trans{x:g_}{H H' Ao:Hp}(e:Off x H H')(f:Off x H' Ao):Off x H Ao:=λb u h n=>f b u (e b u h n) n
theorem Off.set{x:g_}{H:Hp}{o:HO}:Off x H (L2.upd H x o):=λb u h n=>by rw[aH n];exact h
theorem Off.dat{x C dx:g_}{fs:List (r_×V)}{H H':Hp}(hx:H x=some (.ins C dx fs))(e:Off x H H'):Dat H H':=λb u n h=>e b u h λz=>by
 subst z;rw[hx]at h;cases h;exact n _ _ _ Y
theorem pl1{a:r_}{x:V}:(aX a x []).length<1000:=s_ (aM (j_ 0)) (by decide)
theorem pl2{a b:r_}{x y:V}:(aX a x (aX b y [])).length<1000:=s_ (aM (aM (j_ 0))) (by decide)
theorem pl3{a b c:r_}{x y z:V}:(aX a x (aX b y (aX c z []))).length<1000:=s_ (aM (aM (aM (j_ 0)))) (by decide)
theorem pl4{a b c d:r_}{x y z w:V}:(aX a x (aX b y (aX c z (aX d w [])))).length<1000:=s_ (aM (aM (aM (aM (j_ 0))))) (by decide)
theorem pl5{a b c d e:r_}{x y z w v:V}:(aX a x (aX b y (aX c z (aX d w (aX e v []))))).length<1000:=s_ (aM (aM (aM (aM (aM (j_ 0)))))) (by decide)
theorem pl6{a b c d e g:r_}{x y z w v t:V}:(aX a x (aX b y (aX c z (aX d w (aX e v (aX g t [])))))).length<1000:=s_ (aM (aM (aM (aM (aM (aM (j_ 0))))))) (by decide)
theorem pl7{x:r_}{P o m:g_}{u:Int}{d:g_×g_}:(mS x P o m u d).length<1000:=s_ (aM (aM (aM (aM (aM (aM (aM (j_ 0)))))))) (by decide)
theorem pl8{x:r_}{P o m:g_}{u:Int}{d:g_×g_}{a:r_}{v:V}:(aX a v (mS x P o m u d)).length<1000:=s_ (aM (aM (aM (aM (aM (aM (aM (aM (j_ 0))))))))) (by decide)
theorem FZ(f g:cC):i7 [.int f.1,.int f.2] [.int g.1,.int g.2]=true↔f=g:=by
 obtain⟨a,b⟩:=f;obtain⟨c,d⟩:=g;have e:i7 [.int a,.int b] [.int c,.int d]=((a==c&&b==d)):=by
  simp[i7,qbi,Lm]
 rw[e];simp
end
section
theorem Mt{a b:Int}:lm a b*(qaj a b:Int)=a*b:=by
 unfold lm;rw[qbX,Int.ediv_mul_cancel (qcf ..)]
theorem aaF{a b:Int}(ha:0<a)(hb:0<b):lm a b=(Int.lcm a b:Int):=by
 have h1:=Mt (a:=a) (b:=b);have h2:((Int.lcm a b*qaj a b:Nat):Int)=((a.natAbs*b.natAbs:Nat):Int):=congrArg _ (Int.lcm_mul_gcd a b);rw[Int.natCast_mul,Int.natCast_mul]at h2;have e1:(a.natAbs:Int)=a:=by omega
 have e2:(b.natAbs:Int)=b:=by omega
 rw[e1,e2,←h1]at h2;exact(qa5 (Int.ne_of_gt (qM a hb)) h2).symm
theorem Q7{a b z:Int}(ha:0<a)(hb:0<b):lm a b∣z↔a∣z/\b∣z:=by
 rw[aaF ha hb];constructor
 ·intro h;exact⟨Int.dvd_trans (Int.dvd_lcm_left a b) h,Int.dvd_trans (Int.dvd_lcm_right a b) h⟩
 ·rintro⟨h1,h2⟩;have z1:a∣(z.natAbs:Int):=Int.dvd_natAbs.mpr h1;have z2:b∣(z.natAbs:Int):=Int.dvd_natAbs.mpr h2;have z3:Int.lcm a b∣z.natAbs:=Int.lcm_dvd z1 z2;exact Int.dvd_natAbs.mp (Int.natCast_dvd_natCast.mpr z3)
theorem KD{z:Int}:∀(l:List Int) {u:Int},0<u->(∀b∈l,0<b)->(l.foldl lm u∣z↔u∣z/\∀b∈l,b∣z)
 |[],u,_,_=>by simp
 |b::l,u,hu,hb=>by
  have hb0:=hb b D_;have ih:=KD (z:=z) l (HK hu hb0) λc hc=>hb c (C_ _ hc);rw[qb1,ih,Q7 hu hb0];constructor
  ·rintro⟨⟨h1,h2⟩,h3⟩;refine⟨h1,λc hc=>?_⟩;rcases S_.mp hc with e|hc
   ·subst e;exact h2
   ·exact h3 c hc
  ·rintro⟨h1,h2⟩;exact⟨⟨h1,h2 b D_⟩,λc hc=>h2 c (C_ _ hc)⟩
theorem P5{o m:Int}{rows:List (List cC)}(ho:0<o)(hm:0<m)(h:∀r∈rows,∀f∈r,0<f.2):o∣aO o m rows/\m∣aO o m rows/\∀r∈rows,∀f∈r,f.2∣aO o m rows:=by
 have hp:∀b∈rows.flatten.map (·.2),0<b:=λb hb=>by
  obtain⟨f,hf,rfl⟩:=G_.mp hb;obtain⟨r,hr,hfr⟩:=qcg.mp hf;exact h r hr f hfr
 have q:(o∣aO o m rows/\m∣aO o m rows)/\∀b∈rows.flatten.map (·.2),b∣aO o m rows:=by
  have z:=(KD (z:=aO o m rows) _ (HK ho hm) hp).mp (Int.dvd_refl _);exact⟨(Q7 ho hm).mp z.1,z.2⟩
 exact⟨q.1.1,q.1.2,λr hr f hf=>q.2 _ (G_.mpr ⟨f,qcg.mpr ⟨r,hr,hf⟩,Y⟩)⟩
theorem NV{a b c:Int}(h:qaj a b=1)(d:a∣b*c):a∣c:=by
 have d':a.natAbs∣b.natAbs*c.natAbs:=by rw[←Int.natAbs_mul];exact Int.natAbs_dvd_natAbs.mpr d
 have h':Nat.Coprime a.natAbs b.natAbs:=h;exact Int.natAbs_dvd_natAbs.mp (h'.dvd_of_dvd_mul_left d')
theorem Ko{x y x' y':Int}(hy:0<y)(hy':0<y')(h:qaj x y=1)(h':qaj x' y'=1)(e:x*y'=x'*y):x=x'/\y=y':=by
 have d1:y∣y':=NV (b:=x) (by rw[Int.gcd_comm];exact h) (by rw[e];exact Int.dvd_mul_left _ _);have d2:y'∣y:=NV (b:=x') (by rw[Int.gcd_comm];exact h') (by rw[←e];exact Int.dvd_mul_left _ _);have ey:=Int.dvd_antisymm (qa4 hy) (qa4 hy') d1 d2;subst ey;exact⟨qa5 (Int.ne_of_gt hy) e,Y⟩
theorem RT{ov un b:Int}(hb:0<b)(hg:qaj ov un=1):qaj (ov / (qaj ov b:Int)) (un*(b / (qaj ov b:Int)))=1:=by
 have h1:qaj (ov / (qaj ov b:Int)) (b / (qaj ov b:Int))=1:=HH ov hb;have h2:qaj (ov / (qaj ov b:Int)) un=1:=by
  refine Nat.dvd_one.mp ?_;rw[←hg];refine Int.dvd_gcd (Int.dvd_trans (qcf ..) ?_) (qbc ..);exact⟨_,(DT ov b).symm⟩
 have z:Nat.Coprime (ov / (qaj ov b:Int)).natAbs (un.natAbs*(b / (qaj ov b:Int)).natAbs):=Nat.Coprime.mul_right h2 h1;rw[←Int.natAbs_mul]at z;exact z
theorem MG{ov un b n p:Int}(he:ov*p=n*un):ov / (qaj ov b:Int)*(p*b)=n*(un*(b / (qaj ov b:Int))):=by
 have h1:=DT ov b;have h2:=HF ov b;unfold lo at h1 h2;dsimp only at h1 h2;generalize ov / (qaj ov b:Int)=x at *;generalize b / (qaj ov b:Int)=y at *;generalize (qaj ov b:Int)=g at *;rw[←qcB n,←he,←h1,←h2]
 ac_rfl
theorem aaD{n U ov un:Int}(hU:0<U)(hun:0<un)(hg:qaj ov un=1)(he:ov*U=n*un):jI (n,U)=(ov,un):=by
 have c:=Kq n U;have e:(lo n U).1*un=ov*(lo n U).2:=by
  refine qa5 (Int.ne_of_gt hU) ?_
  calc (lo n U).1*un*U=(lo n U).1*U*un:=by ac_rfl
   _=n*un*(lo n U).2:=by rw[c];ac_rfl
   _=ov*(lo n U).2*U:=by rw[←he];ac_rfl
 obtain⟨z1,z2⟩:=Ko (HG n hU) hun (HH n hU) hg e;show lo n U=(ov,un);rw[←z1,←z2]
theorem Gg{f g:cC}(hf:0<f.2)(hg:0<g.2):f.1*g.2=g.1*f.2↔jI f=jI g:=by
 obtain⟨a,b⟩:=f;obtain⟨c,d⟩:=g;have hb:0<b:=hf;have hd:0<d:=hg;have g1:=qM a hb;have g2:=qM c hd;have a1:=DT a b;have a2:=HF a b;have c1:=DT c d;have c2:=HF c d;have p1:=HG a hb;have p2:=HG c hd;have o1:=HH a hb;have o2:=HH c hd;show a*d=c*b↔lo a b=lo c d;generalize hx:lo a b=f at *;generalize hy:lo c d=g at *;obtain⟨x,y⟩:=f;obtain⟨x',y'⟩:=g;dsimp only at *;generalize (qaj a b:Int)=u at *;generalize (qaj c d:Int)=v at *;constructor
 ·intro e;rw[←a1,←a2,←c1,←c2]at e;have e2:x*y'=x'*y:=by
   have e3:(x*y')*(u*v)=(x'*y)*(u*v):=by
    calc (x*y')*(u*v)=x*u*(y'*v):=by ac_rfl
     _=x'*v*(y*u):=e
     _=(x'*y)*(u*v):=by ac_rfl
   exact qa5 (Int.ne_of_gt (Int.mul_pos g1 g2)) e3
  obtain⟨z1,z2⟩:=Ko p1 p2 o1 o2 e2;rw[z1,z2]
 ·intro e;cases e;rw[←a1,←a2,←c1,←c2]
  calc x*u*(y*v)=(x*y)*(u*v):=by ac_rfl
   _=x*v*(y*u):=by ac_rfl
theorem CV{f:cC}{u:Int}(hd:(jI f).2∣u):(jI f).1*(u / (jI f).2)*f.2=f.1*u:=by
 have c:=Kq f.1 f.2
 calc (jI f).1*(u / (jI f).2)*f.2=(jI f).1*f.2*(u / (jI f).2):=by rw[qbX]
  _=f.1*(jI f).2*(u / (jI f).2):=by rw[show(jI f).1*f.2=f.1*(jI f).2 from c]
  _=f.1*u:=by rw[qcB,Int.mul_ediv_cancel' hd]
end
end GP
namespace L2
open PySem PySem.Spec PyProof.Rows
noncomputable def rL(scope:qbJ)(X:Cx):Bool:=scope.names.all λy=>(y.2 != qap)||(X.env.scope.names.lookup y.1==some qb3)
noncomputable def ixB(scope:qbJ)(X:Cx)(N:List r_)(nt:Nat)(ix:List Nat):Bool:=(E_ ix.length).all λk=>match N[nt+k]?,ix[k]? with
 |some x,some j=>(X.N[j]? ==some x)&&(scope.names.contains (x,qap))&&((relabel scope X.env).names.lookup x==some qb3)
 |_,_=>false
theorem cT.rL{X:Cx}{scope:qbJ}{N:List r_}{nt:Nat}{ix:List Nat}(kind:scope.kind= .function)(cell:∀y∈scope.names,y.2= .cell->(y.1,qap)∉scope.names)
  (names:∀y∈scope.names,y.2= .local->scope.names.lookup y.1=some .local) (hf:L2.rL scope X=true) (hl:N.length=nt+ix.length) (hx:ixB scope X N nt ix=true) (ok:X.Ok) :
  ∃cl,cT X scope cl N (st0 nt ix):=by
 refine cT.free kind cell names (λy hy hk=>?_) hl (λk j hj=>?_) ok
 ·have z:=v_.mp hf y hy;rw[hk]at z;have z2:X.env.scope.names.lookup y.1=some qb3:=by simpa using z
  exact z2
 ·have hk:k<ix.length:=(q_.mp hj).1;have z:=v_.mp hx k (qag.mpr hk);have hn:nt+k<N.length:=by omega
  rw[e_ hn,hj]at z;simp only[R_]at z;obtain⟨⟨z1,z2⟩,z3⟩:=z;exact⟨_,e_ hn,by simpa using z1,by simpa using z2,by simpa using z3⟩
theorem Kp.vd{r:St}{v:Option V}:Kp (none::r) ((none::r).set 0 v):=λi x e=>by
 cases i with
 |zero=>cases e
 |succ i=>exact e
theorem su{X:Cx}:rC X (.builtin "isinstance") (λxs H Q=>yj λx n t b=>xs=[x,.ty n]/\(Af X.K H x t\/fD λa ys=>x= .ref a/\eK X.K H a ys/\t= .type "tuple")/\PySem.W.kitOne X.K t (.type n)=some b/\Q (.bl b) H):=by
 intro pins s σ H xs us Q I r h;obtain⟨x,n,t,b,rfl,ty,e,q⟩:=h;obtain⟨u,w',rfl,rx,rn⟩:=vals2 r;cases rn;rcases ty with ty|⟨a,ys,rfl,hs,rfl⟩
 ·exact TK.dD (j_ s.toks) (Gm I rx ty e λtk hup=>⟨.bl b,H,I.tok _,Y,q⟩)
 ·cases (show u=Value.ref a from rx);obtain⟨its,_,⟨o,h1,h2,_⟩,_⟩:=I.tuple hs
  exact TK.dD (j_ s.toks) (PySem.W.kia_one PySem.W.kitx_tuple I.tu ⟨o,h1,h2⟩ e (λz=>nomatch z) λtk hup=>⟨.bl b,H,I.tok _,Y,q⟩)
end L2
namespace GP
open PySem L2 pR
theorem zS{K:PySem.W.Frag}{t:i_}:PySem.W.kitOne K t t=some true:=by unfold PySem.W.kitOne;rw[if_pos (by simp)]
theorem HL{K:PySem.W.Frag}:PySem.W.kitOne K (.type "int") (.type "bool")=some false:=by kernel_rfl
noncomputable def Wo(t:g_)(H:Hp):Hp:=λb=>if b=t then none else H b
theorem Wo.sub{t:g_}{H:Hp}:aj (Wo t H) H:=λb u h=>by
 unfold Wo at h;by_cases e:b=t
 ·rw[if_pos e]at h;cases h
 ·rw[if_neg e]at h;exact h
theorem Wo.ne{t:g_}{H:Hp}{b:g_}{u:HO}(h:Wo t H b=some u):b≠t:=λe=>by
 unfold Wo at h;rw[if_pos e]at h;cases h
theorem Wo.in{t:g_}{H:Hp}{b:g_}{u:HO}(n:b≠t)(h:H b=some u):Wo t H b=some u:=by
 unfold Wo;rw[if_neg n];exact h
theorem Wo.free{t:g_}{H:Hp}{b:g_}(h:H b=none):Wo t H b=none:=by
 unfold Wo;split
 ·rfl
 ·exact h
theorem Wo.set{t:g_}{H:Hp}{o:HO}:Wo t (L2.upd H t o)=Wo t H:=by
 funext b;unfold Wo;by_cases e:b=t
 ·rw[if_pos e,if_pos e]
 ·rw[if_neg e,if_neg e,aH e]
theorem Wo.same{t:g_}{H H':Hp}(e:aj H H'):aj (Wo t H) (Wo t H'):=λb u h=>Wo.in (Wo.ne h) (e b u (Wo.sub b u h))
theorem Wo.upd{t:g_}{H:Hp}{o:HO}:aj (Wo t H) (L2.upd H t o):=λb u h=>by rw[aH (Wo.ne h)];exact Wo.sub b u h
theorem P0{H:Hp}{t r:g_}{o:HO}(h:L2.upd H t o r=none):H r=none:=by
 by_cases e:r=t
 ·rw[e,ai]at h;cases h
 ·rw[aH e]at h;exact h
structure Au(K:PySem.W.Frag)(H:Hp)(s t:g_)(ns:List Int)(k:Int):Prop where
 sq:bY K (Wo t H) s (ns.map V.int)
 len:ns.length<=63
 at_:H t=some (.lst [.int k])
 k0:0<=k
theorem Au.scr{K:PySem.W.Frag}{H:Hp}{s t:g_}{ns:List Int}{k:Int}(c:Au K H s t ns k):bY K H s (ns.map V.int):=aj.seq Wo.sub c.sq
theorem Au.aah{K:PySem.W.Frag}{H:Hp}{s t:g_}{ns:List Int}{k:Int}(c:Au K H s t ns k)(o:HO):bY K (L2.upd H t o) s (ns.map V.int):=aj.seq Wo.upd c.sq
theorem Au.same{K:PySem.W.Frag}{H H':Hp}{s t:g_}{ns:List Int}{k:Int}(c:Au K H s t ns k)(e:aj H H'):Au K H' s t ns k:=⟨aj.seq (Wo.same e) c.sq,c.len,e _ _ c.at_,c.k0⟩
theorem Au.off{K:PySem.W.Frag}{H H':Hp}{s t:g_}{ns:List Int}{k k':Int}(c:Au K H s t ns k)(e:aj (Wo t H) (Wo t H'))(h:H' t=some (.lst [.int k']))(h0:0<=k'):Au K H' s t ns k':=⟨aj.seq e c.sq,c.len,h,h0⟩
theorem K1{c:Int}(h1: -(10 ^ 40)<=c)(h2:c<=10 ^ 40):Sm c:=by
 have h:c.natAbs<=10 ^ 40:=by omega
 have h3:(10:Nat) ^ 40<2 ^ 200:=by decide
 exact s_ h h3
def ZQ(f:cC):Prop:=1<=f.2/\f.2<=999/\Sm f.1
theorem ZQ.h{f:cC}(h:ZQ f):OkH f:=⟨⟨h.1,by have:=h.2.1;omega⟩,h.2.2⟩
def Dd(K:PySem.W.Frag):Sp:=λvs H Q _=>yj λ(s t:g_) (ns:List Int) (k:Int)=>vs=[.ref s,.ref t]/\Au K H s t ns k/\k<=100000 ∧
 ∀m:Int,0<=m->m<1999999973->Q (.int m) (L2.upd H t (.lst [.int (k+1)]))
def Qt(K:PySem.W.Frag):Sp:=λvs H Q _=>yj λ(s t:g_) (ns:List Int) (k:Int)=>vs=[.ref s,.ref t]/\Au K H s t ns k/\k<=100000 ∧
 ∀(f:cC) (q:g_) (H':Hp),ZQ f->aj (L2.upd H t (.lst [.int (k+1)])) H'->H q=none->H' q=some (.tup [.int f.1,.int f.2])->Q (.ref q) H'
structure Am(K:PySem.W.Frag)(H:Hp)(l:g_)(rs:List g_)(rows:List (List cC)):Prop where
 len:rs.length=rows.length
 at_:H l=some (.lst (rs.map V.ref))
 nd:rs.Nodup
 nl:l∉rs
 row:∀(i:Nat) r row,rs[i]? =some r->rows[i]? =some row->∃ps:List g_,H r=some (.lst (ps.map V.ref))/\Paired (pV K H) ps row
theorem Am.same{K:PySem.W.Frag}{H H':Hp}{l:g_}{rs:List g_}{rows:List (List cC)}(e:aj H H')(h:Am K H l rs rows):Am K H' l rs rows :=
 ⟨h.len,e _ _ h.at_,h.nd,h.nl,λi r row h1 h2=>by
  obtain⟨ps,a,b⟩:=h.row i r row h1 h2;exact⟨ps,e _ _ a,Paired.qa b λ_ _ z=>z.same e⟩⟩
theorem Gb{α β:Type}{F:α->β->Prop}:∀{l₁:List α} {l₂:List β},l₁.length=l₂.length->(∀(i:Nat) x y,l₁[i]? =some x->l₂[i]? =some y->F x y)->Paired F l₁ l₂
 |[],[],_,_=>.nil
 |x::l₁,y::l₂,hl,h=>.cons (h 0 x y rfl rfl) (Gb (by simpa using hl) λi a b h1 h2=>h (i+1) a b h1 h2)
theorem Am.afI{K:PySem.W.Frag}{H:Hp}{l:g_}{rs:List g_}{rows:List (List cC)}(h:Am K H l rs rows):Pw K H (.lst l) rows:=by
 refine⟨λx z=>(by cases z),rs.map Cp.lst,λd hd x z=>?_,?_,?_⟩
 ·obtain⟨q,_,e⟩:=G_.mp hd;rw[←e]at z;cases z
 ·rw[qaf];exact bY.of h.at_
 ·refine yD (Gb h.len λi r row h1 h2=>?_);obtain⟨ps,a,b⟩:=h.row i r row h1 h2;exact⟨ps,bY.of a,b⟩
def M8(K:PySem.W.Frag):Sp:=λvs H Q _=>fD λ(a:g_) (ns:List Int)=>vs=[.ref a]/\bY K H a (ns.map V.int)/\ns.length<=63/\∀H',Q (.bl true) H'
end GP
namespace L2
open PySem PySem.Spec PyProof.Rows
section
def Az(wi:TI)(g:TG)(tt:TT)(te:TE)(ua:St->St):TE:=λσ H Q=>wi σ H λJ H1=>∀l,H1 l=none->∃W:Nat->Nat->List V->Hp->Prop,(∃m,W 0 m [] (upd H1 l (.lst []))) ∧
 ∀i m ys H2,W i m ys H2->(J.stop i H2/\Q (.ref l) H2) ∨
  (J.go i H2/\∀x H3,J.IX i H2 x H3->g x (ua σ) H3 λFN H4=>Kp (ua σ) FN/\tt FN H4 λb H5 =>
   if b=true then te FN H5 (λy H6=>H6 l=some (.lst ys)/\ys.length<z_/\∃m',m'<m/\W (i+1) m' (ys++[y]) (upd H6 l (.lst (ys++[y]))))else ∃m',m'<m/\W (i+1) m' ys H5)
theorem aa9{A B:Prop}(h:if false=true then A else B):B:=by rw[if_neg O_]at h;exact h
theorem aa8{A B:Prop}(h:if true=true then A else B):A:=by rw[if_pos rfl]at h;exact h
def PTs(X:Cx)(ifs:List Expr)(t:TT):Prop :=
 ∀(pins:List (g_×qa0)) (s:p_) (σ:St) (H:Hp) (Q:Bool->Hp->Prop),Inv X pins σ H s->t σ H Q->N_ (model X.prog X.w) X.A (forIn ifs true λc r=>if r=true then do let ok ←isTrue c X.env (eval c X.env);pure (ForInStep.yield ok)else pure (ForInStep.yield r)) (TP X pins σ Q) X.xe s
set_option maxHeartbeats 2000000 in
theorem Ec{X:Cx}{elt tg iter:Expr}{ifs:List Expr}{tt:TT}{scope:qbJ}{pos pos':qcd}{wi:TI}{g:TG}{te:TE}{N:List r_}{ua:St->St}(hc:X.calm=true)(hS:X.Ok->∃cl,cT X scope cl N ua)(hi:PI X tg iter wi)
  (hg:∀cl C s H ex pn E,PG (j0 X scope cl C N s H ex pn E) tg g) (he:∀cl C s H ex pn E,PE (j0 X scope cl C N s H ex pn E) elt te) (ht:∀cl C s H ex pn E,PTs (j0 X scope cl C N s H ex pn E) ifs tt) (hs:∀x,foldedSetIterable iter X.env x=pure x)
  {pins:List (g_×qa0)} {s:p_} {σ:St} {H:Hp} {Q:VK} {use:Option (i_->Sem Unit)} {QQ:i_->p_->Prop} (I:Inv X pins σ H s) (h:Az wi g tt te ua σ H Q)
  (Rt:∀(l C:g_) (mC:r_->Option i_) (H':Hp) (s':p_),Inv X pins σ H' s'->xD X pins H' C->s'.heap.Ns C mC->Q (.ref l) H'->compPost (model X.prog X.w) X.A X.xe use QQ (.ref l) C (.ok .next) s') :
  N_ (model X.prog X.w) X.A (comprehension (.ListComp elt [⟨tg,iter,ifs,0⟩] scope pos) scope X.env pos' (newList []) false (eval iter X.env) use) QQ X.xe s:=by
 obtain⟨cl,S⟩:=hS I.ok;refine wpAny_comprehension_free (use:=use) Y hs S.clos S.kind S.names (iB (hi pins s σ H _ I h) λv s1 h1=>iB h1 λitv s2 h2=>?_);obtain⟨it,fp,tn,J,H2,e,I2,T,st2,f2,hq⟩:=h2;subst e;obtain⟨W,⟨m0,w0⟩,turn⟩:=hq _ I2.fresh;refine qa2 (RU S λMK h₁ G YW kp=>?_);have I3:Inv X pins σ (upd H2 s2.heap.objs.size (.lst [])) { s2 with heap:=s2.heap.push { cls:=.type "list",data:=.seq ([]:List i_).toArray } }:=I2.aaE (t':=s2.toks) .nil (X_ _);have UT:∀b o,s2.heap.get? b=some o->(s2.heap.push { cls:=.type "list",data:=.seq ([]:List i_).toArray }).get? b=some o:=λb o e=>k_ _ e;have f3:∀b∈fp,xD X pins (upd H2 s2.heap.objs.size (.lst [])) b/\b<(s2.heap.push { cls:=.type "list",data:=.seq ([]:List i_).toArray }).objs.size:=λb hb=>by
  obtain⟨o,ho,_⟩:=T.obj _ _ st2 b hb;have hlt:=J_ ho;obtain⟨f0,f1⟩:=f2 b hb;exact⟨⟨by rw[aH (Y_ hlt)];exact f0,f1⟩,J_ (UT b o ho)⟩
 have st3:tn 0 h₁:=T.keep _ _ _ st2 λb _ o e=>kp b o (UT b o e);generalize hR:(λr s'=>compPost (model X.prog X.w) X.A X.xe use QQ (.ref s2.heap.objs.size) (s2.heap.push { cls:=.type "list",data:=.seq ([]:List i_).toArray }).objs.size r s')=R;generalize Kw:j0 X scope MK (s2.heap.push { cls:=.type "list",data:=.seq ([]:List i_).toArray }).objs.size N { s2 with heap:=s2.heap.push { cls:=.type "list",data:=.seq ([]:List i_).toArray } }
  (upd H2 s2.heap.objs.size (.lst [])) fp (X.pn++pins) (notedBy (model X.prog X.w) X.A (compEnvC scope MK (s2.heap.push { cls:=.type "list",data:=.seq ([]:List i_).toArray }).objs.size X.env) λe s'=>R (.error e) s')=X'
 have I4:Inv X' [] (ua σ) (upd H2 s2.heap.objs.size (.lst [])) { s2 with heap:=h₁ }:=by
  subst Kw;exact Rf (s:={ s2 with heap:=s2.heap.push { cls:=.type "list",data:=.seq ([]:List i_).toArray } }) S G I3 f3 kp YW s2.toks
 have PG':PG X' tg g:=by subst Kw;exact hg _ _ _ _ _ _ _
 have PE':PE X' elt te:=by subst Kw;exact he _ _ _ _ _ _ _
 have PT':PTs X' ifs tt:=by subst Kw;exact ht _ _ _ _ _ _ _
 have stat:∀{H':Hp},(∀b∈fp,H' b=none)->∀b∈fp,xD X' [] H' b:=λhn b hb=>by
  subst Kw;obtain⟨⟨_,f1,fn,_,f4,f5⟩,lt⟩:=f3 b hb;refine⟨hn b hb,Y_ lt,λz=>?_,.inl hb,λx c e=>(G.look x c e).elim (λz=>qba (qcu lt z.1)) λz=>f4 x c (S.sub x c z),λp hp=>f5 p ?_⟩
  ·rcases S_.mp (I3.AD b z)with q|q
   ·exact f1 q
   ·exact fn q
  ·rcases qab.mp hp with z|z
   ·exact z
   ·cases z
 have hp1:X'.prog=X.prog:=by subst Kw;rfl
 have hp2:X'.w=X.w:=by subst Kw;rfl
 have hp3:X'.K=X.K:=by subst Kw;rfl
 have hp4:X'.calm=true:=by subst Kw;exact hc
 have ZJ:X'.A=X.A:=by subst Kw;rfl
 have hp6:X'.env=compEnvC scope MK (s2.heap.push { cls:=.type "list",data:=.seq ([]:List i_).toArray }).objs.size X.env:=by subst Kw;rfl
 have hp7:X'.xe=notedBy (model X.prog X.w) X.A X'.env λe s'=>R (.error e) s':=by subst Kw;rfl
 have fin:∀{H':Hp} {s':p_},Inv X' [] (ua σ) H' s'->Q (.ref s2.heap.objs.size) H'->R (.ok .next) s':=by
  intro H' s' I5 q;subst hR;obtain⟨mC,hnC,_⟩:=I5.loc;rw[hp6]at hnC;have hok:uV X.prog X.w H' s'.heap:=by
   have z:=I5.hok;rw[hp1,hp2]at z;exact z
  have u:Un (frs X.stack) fp (upd H2 s2.heap.objs.size (.lst [])) H' (s2.heap.push { cls:=.type "list",data:=.seq ([]:List i_).toArray }) s'.heap:=by
   have z:=I5.base;subst Kw;exact z
  have hC:H' (s2.heap.push { cls:=.type "list",data:=.seq ([]:List i_).toArray }).objs.size=none:=by
   have zf:=I5.free;rw[hp6]at zf;exact zf
  refine Rt _ _ mC H' s' (I3.Vb (ch:=fp) (s':=s') (by have z:=I5.os;subst Kw;exact z) u hok I5.bare (λb hb=>?_) (by have z:=I5.up;subst Kw;exact m_ I3.up z)) (I3.D5 (j_ _) hC) hnC q;obtain⟨⟨_,f1,_,f3',f4,f5⟩,_⟩:=f3 b hb;exact⟨f3',f1,f4,f5⟩
 have loop:∀s3:p_,Inv X' [] (ua σ) (upd H2 s2.heap.objs.size (.lst [])) s3->tn 0 s3.heap →
   codeAny (model X.prog X.w) X.A (.compLoop (.ListComp elt [⟨tg,iter,ifs,0⟩] scope pos) 0 (.ref it) (.ref s2.heap.objs.size) X'.env) R s3:=by
  intro s3 J3 t3;refine codeAny_loop Y (λn s'=>rG λi ys H'=>Inv X' [] (ua σ) H' s'/\tn i s'.heap/\(∀b∈fp,H' b=none)/\W i n ys H') ?_ m0 ⟨0,[],_,J3,t3,λb hb=>(f3 b hb).1.1,w0⟩;rintro n s4 ⟨i,ys,H4,J4,t4,n4,w4⟩;show N_ _ _ ((compTurn (.ListComp elt [⟨tg,iter,ifs,0⟩] scope pos) 0 (.ref it) (.ref s2.heap.objs.size) X'.env).onRaise (λx=>do noteFrame x X'.env;theTreesLotGoes x)) _ _ s4;refine wpAny_noted ?_;rw[compTurn_list];refine h_ (qci (h_ ?_));rcases turn i n ys H4 w4 with⟨stop,q⟩|⟨go,step⟩
  ·have z:=T.done X' hp1 hp2 hp3 hp4 i [] s4 (ua σ) H4 (notedBy (model X.prog X.w) X.A X'.env λe s'=>R (.error e) s') J4 (stat n4) t4 stop;rw[ZJ]at z;refine qaF z (λr s5 ⟨hr,J5⟩=>?_) λ_ _ x=>x;subst hr;exact t_ (fin J5 q)
  ·have z:=T.item X' hp1 hp2 hp3 hp4 i [] s4 (ua σ) H4 (notedBy (model X.prog X.w) X.A X'.env λe s'=>R (.error e) s') J4 (stat n4) t4 go;rw[ZJ]at z;refine qaF z (λr s5 ⟨u,hr,h5⟩=>?_) λ_ _ x=>x;subst hr;refine h_ (qaF h5 (λ_ s6 ⟨x,H6,J6,r6,y6,t6,n6⟩=>?_) λ_ _ x=>x);have J6':=J6.pinned (stat n6) (T.obj _ _ t6);have zg:=PG' _ s6 (ua σ) H6 x u _ J6' r6 (step x H6 y6);rw[hp1,hp2,ZJ,hp7]at zg;refine h_ (qaF zg (λ_ s7 ⟨Ln,H7,J7,k7,q7⟩=>?_) λ_ _ x=>x);have zt:=PT' _ s7 Ln H7 _ J7 q7;rw[hp1,hp2,ZJ,hp7]at zt;refine h_ (qaF zt (λok s7b h7b=>?_) λ_ _ x=>x);obtain⟨H7b,J7b,q7b⟩:=h7b
   cases ok with
   |false =>
    obtain⟨m',hm,w8⟩:=aa9 q7b;refine t_ ⟨Y,m',hm,i+1,ys,_,?_,?_,?_,w8⟩
    ·refine J7b.UG.weak ?_ ?_
     ·rw[S.len,J7b.len];subst Kw;rfl
     ·exact k7
    ·exact T.keep _ _ _ t6 λb hb o e=>(J7b.pin (b,o) (qae _ (qae _ (p9 hb e)))).1
    ·intro b hb;obtain⟨o,e,d⟩:=T.obj _ _ t6 b hb;exact(J7b.pin (b,o) (qae _ (qae _ (p9 hb e)))).2.1
   |true =>
    have ze:=PE' _ s7b Ln H7b _ J7b (aa8 q7b);rw[hp1,hp2,ZJ,hp7]at ze;refine h_ (h_ (qaF ze (λyv s8 h8=>?_) λ_ _ x=>x));obtain⟨y,H8,J8,r8,e8,z8,m',hm,w8⟩:=h8;have za:=k8 (X:=X') _ s8 Ln H8 (.ref s2.heap.objs.size) [y] (.ref s2.heap.objs.size) [yv] (λ_ H9=>H9=upd H8 s2.heap.objs.size (.lst (ys++[y]))) J8 rfl (.cons r8 .nil) ⟨_,ys,y,rfl,rfl,e8,z8,rfl⟩;rw[hp1,hp2,ZJ,hp7]at za;refine h_ (qaF za (λ_ s9 h9=>?_) λ_ _ x=>x);obtain⟨_,H9,J9,_,e9⟩:=h9;subst e9;refine t_ (t_ ⟨Y,m',hm,i+1,ys++[y],_,?_,?_,?_,w8⟩)
    ·refine J9.UG.weak ?_ ?_
     ·rw[S.len,J9.len];subst Kw;rfl
     ·exact k7
    ·exact T.keep _ _ _ t6 λb hb o e=>(J9.pin (b,o) (qae _ (qae _ (p9 hb e)))).1
    ·intro b hb;obtain⟨o,e,d⟩:=T.obj _ _ t6 b hb;exact(J9.pin (b,o) (qae _ (qae _ (p9 hb e)))).2.1
 have l0:=loop _ I4 st3;have l1:=codeAny_compStart_list l0 (T.self X.A 0 _ _ _ st3 l0);rw[hp6]at l1;subst hR;exact l1
theorem Gu{X:Cx}{elt tg iter:Expr}{scope:qbJ}{pos pos':qcd}{wi:TI}{g:TG}{te:TE}{N:List r_}{ua:St->St}(hc:X.calm=true)(hS:X.Ok->∃cl,cT X scope cl N ua)(hi:PI X tg iter wi)
  (hg:∀cl C s H ex pn E,PG (j0 X scope cl C N s H ex pn E) tg g) (he:∀cl C s H ex pn E,PE (j0 X scope cl C N s H ex pn E) elt te) (hs:∀x,foldedSetIterable iter X.env x=pure x)
  {pins:List (g_×qa0)} {s:p_} {σ:St} {H:Hp} {Q:VK} {use:Option (i_->Sem Unit)} {QQ:i_->p_->Prop} (I:Inv X pins σ H s) (h:Jr wi g te ua σ H Q)
  (Rt:∀(l C:g_) (mC:r_->Option i_) (H':Hp) (s':p_),Inv X pins σ H' s'->xD X pins H' C->s'.heap.Ns C mC->Q (.ref l) H'->compPost (model X.prog X.w) X.A X.xe use QQ (.ref l) C (.ok .next) s') :
  N_ (model X.prog X.w) X.A (comprehension (.ListComp elt [⟨tg,iter,[],0⟩] scope pos) scope X.env pos' (newList []) false (eval iter X.env) use) QQ X.xe s:=by
 have e:Jr wi g te ua=Az wi g (λ_ H Q=>Q true H) te ua:=by unfold Jr Az;simp only[if_true]
 rw[e]at h;exact Ec hc hS hi hg he (λ_ _ _ _ _ _ _ pins s σ H Q I q=>t_ ⟨H,I,q⟩) hs I h Rt
theorem gM{X:Cx}{elt tg iter:Expr}{scope:qbJ}{pos:qcd}{wi:TI}{g:TG}{te:TE}{N:List r_}{ua:St->St}(hc:X.calm=true)(hS:X.Ok->∃cl,cT X scope cl N ua)(hi:PI X tg iter wi)
  (hg:∀cl C s H ex pn E,PG (j0 X scope cl C N s H ex pn E) tg g) (he:∀cl C s H ex pn E,PE (j0 X scope cl C N s H ex pn E) elt te)
  (hs:∀x,foldedSetIterable iter X.env x=pure x:=by intro _;rfl):PE X (.ListComp elt [⟨tg,iter,[],0⟩] scope pos) (Jr wi g te ua):=by
 intro pins s σ H Q I h;rw[eval_ListComp];refine Gu (use:=none) (QQ:=EP X pins σ Q) hc hS hi hg he hs I h ?_;intro l C mC H' s' I' fp hn q;exact⟨mC,hn,λh' sb=>⟨.ref l,H',I'.moved (ch:=[C]) (t':=s'.toks) (λb o hb e=>(sb.2 b (by simpa using hb)).trans e) (λb hb=>by rw[F_.mp hb];exact fp),Y,q⟩⟩
theorem yz{X:Cx}{i:Nat}{y:r_}{py spos:qcd}{elt tg iter:Expr}{scope:qbJ}{pos:qcd}{wi:TI}{g:TG}{te:TE}{N:List r_}{ua:St->St}(hN:X.N.Nodup)(hi:X.N[i]? =some y)(hx:Loc X.env.scope y)
  (hc:X.calm=true) (hS:X.Ok->∃cl,cT X scope cl N ua) (hit:PI X tg iter wi)
  (hg:∀cl C s H ex pn E,PG (j0 X scope cl C N s H ex pn E) tg g) (he:∀cl C s H ex pn E,PE (j0 X scope cl C N s H ex pn E) elt te)
  (hsw:swapsWith (.ListComp elt [⟨tg,iter,[],0⟩] scope pos) (some (.Name y py)) spos.line X.env=pure true:=by rfl)
  (hf:X.fn y=true\/X.env.scope.names.lookup y=some .local:=by first|exact .inl rfl|exact .inr rfl|assumption)
  (hs:∀x,foldedSetIterable iter X.env x=pure x:=by intro _;rfl):PS X (.Assign [.Name y py] (.ListComp elt [⟨tg,iter,[],0⟩] scope pos) spos) (SQ (Jr wi g te ua) (NK i)):=by
 intro pins s σ H D I h;rw[exec_Assign_Name_used _ _ _ _ hsw];refine h_ (qci (h_ ?_))
 show N_ _ X.A (do let _ ←comprehension (.ListComp elt [⟨tg,iter,[],0⟩] scope pos) scope X.env _ (newList []) false (eval iter X.env) (some (assign (.Name y py) X.env))) _ _ s
 refine h_ (qaF (Gu (use:=some (assign (.Name y py) X.env)) (QQ:=λ_ s'=>SP X pins D .next s') hc hS hit hg he hs I h ?_) (λ_ s' hq=>t_ (t_ hq)) λ_ _ e=>e);intro l C mC H' s' I' fp hn q;show N_ _ X.A (assign (.Name y py) X.env (.ref l)) _ _ _;refine wpAny_assign_Name (AB I' hN hi hx (v:=.ref l) Y (λs2 I2 sb=>?_) hf);obtain⟨a,sb,ha⟩:=sb;have nC:C≠a:=by
  obtain⟨_,f1,_,_,f4,_⟩:=fp;rcases ha with z|z
  ·rw[z];exact f1
  ·exact λe=>f4 y a z e.symm
 refine⟨mC,hn.sameBut sb nC,λh' sb2=>?_⟩;refine⟨_,H',I2.moved (ch:=[C]) (t':=s2.toks) (λb o hb e=>(sb2.2 b (by simpa using hb)).trans e) (λb hb=>?_),q⟩;rw[F_.mp hb];exact fp
end
section
theorem TV{X:Cx}{K':PySem.W.Frag}(hK:X.K=K'):Sg X (Yk K'):=by subst hK;exact cQ
theorem Ku{X:Cx}{K':PySem.W.Frag}(hK:X.K=K'):Sg X (Yl K'):=by subst hK;exact cj
end
end L2
namespace GP
open PySem L2 pR
section
theorem Wo.aH{t q:g_}{H:Hp}{o:HO}(n:q≠t):Wo t (L2.upd H q o)=L2.upd (Wo t H) q o:=by
 funext b;by_cases e:b=q
 ·subst e;rw[L2.ai];unfold Wo;rw[if_neg n,L2.ai]
 ·rw[L2.aH e];unfold Wo;split
  ·rfl
  ·rw[L2.aH e]
theorem Wo.step{t:g_}{H H':Hp}{o:HO}(e:aj (L2.upd H t o) H'):aj (Wo t H) (Wo t H'):=by
 have z:=Wo.same (t:=t) e;rw[Wo.set]at z;exact z
theorem Wo.back{t r:g_}{H H':Hp}{o:HO}(e:aj (Wo t H) (Wo t H'))(ht:H' t=some o)(h:H' r=none):H r=none:=by
 cases q:H r with
 |none=>rfl
 |some u =>
  have n:r≠t:=λz=>by rw[z,ht]at h;cases h
  have z:=Wo.sub _ _ (e r u (Wo.in n q));rw[h]at z;cases z
theorem Paired.aaf{α β:Type}{F:α->β->Prop}{x:α}{y:β}:∀{l₁:List α} {l₂:List β} (j:Nat),Paired F l₁ l₂->F x y->Paired F (l₁.set j x) (l₂.set j y)
 |_,_,_,.nil,_=>.nil
 |_,_,0,.cons r t,h=>.cons h t
 |_,_,j+1,.cons r t,h=>.cons r (Paired.aaf j t h)
theorem Am.put{K:PySem.W.Frag}{H:Hp}{l r p:g_}{rs ps:List g_}{rows:List (List cC)}{row:List cC}{i j:Nat}{f:cC}(h:Am K H l rs rows)(hr:rs[i]? =some r)(Kv:rows[i]? =some row)
  (hps:H r=some (.lst (ps.map V.ref))) (hp:Paired (pV K H) ps row) (hf:pV K H p f):Am K (L2.upd H r (.lst ((ps.map V.ref).set j (.ref p)))) l rs (rows.set i (row.set j f)):=by
 have nlr:l≠r:=λz=>h.nl (z▸l_ hr);refine⟨by rw[qbh];exact h.len,by rw[L2.aH nlr];exact h.at_,h.nd,h.nl,λi' r' Yj h1 h2=>?_⟩;have hi:i<rows.length:=(q_.mp Kv).1;by_cases e:i=i'
 ·subst e;rw[hr]at h1;cases h1;rw[List.getElem?_set,if_pos rfl,if_pos hi]at h2;cases h2;refine⟨ps.set j p,by rw[L2.ai,List.map_set],?_⟩;exact Paired.qa (Paired.aaf j hp hf) λ_ _ z=>eK.off hps z
 ·rw[List.getElem?_set,if_neg e]at h2;obtain⟨ps',a,b⟩:=h.row i' r' Yj h1 h2;have n:r'≠r:=λz=>by
   subst z;exact e ((List.getElem?_inj (q_.mp hr).1 h.nd).mp (hr.trans h1.symm))
  exact⟨ps',by rw[L2.aH n];exact a,Paired.qa b λ_ _ z=>eK.off hps z⟩
theorem Am.snoc{K:PySem.W.Frag}{H H':Hp}{l r:g_}{rs ps:List g_}{rows:List (List cC)}{row:List cC}(h:Am K H l rs rows)(e:aj H H')(hr:H r=none)(hps:H' r=some (.lst (ps.map V.ref)))(hp:Paired (pV K H') ps row):
  Am K (L2.upd H' l (.lst (rs.map V.ref++[.ref r]))) l (rs++[r]) (rows++[row]):=by
 have hl':=e _ _ h.at_;have nlr:r≠l:=λz=>by rw[z,h.at_]at hr;cases hr
 have nin:r∉rs:=λz=>by
  obtain⟨i,hi,ei⟩:=qaA z;have hi2:i<rows.length:=by rw[←h.len];exact hi
  obtain⟨ps',a,_⟩:=h.row i r rows[i] (by rw[e_ hi,ei]) (e_ hi2);rw[hr]at a;cases a
 refine⟨by rw[A_,A_,h.len];rfl,by rw[L2.ai,P_];rfl,?_,?_,λi r' Yj h1 h2=>?_⟩
 ·refine List.nodup_append.mpr ⟨h.nd,(by simp),λx hx y hy z=>?_⟩;rw[F_.mp hy]at z;exact nin (z▸hx)
 ·intro z;rcases qab.mp z with z|z
  ·exact h.nl z
  ·exact nlr (F_.mp z).symm
 ·by_cases q:i<rs.length
  ·rw[qar q]at h1;rw[qar (by rw[←h.len];exact q)]at h2;obtain⟨ps',a,b⟩:=h.row i r' Yj h1 h2;have n:r'≠l:=λz=>h.nl (z▸l_ h1);exact⟨ps',by rw[L2.aH n];exact e _ _ a,Paired.qa b λ_ _ z=>eK.off hl' (z.same e)⟩
  ·have q':rs.length<=i:=Nat.le_of_not_lt q;rw[qal q']at h1;rw[qal (by rw[←h.len];exact q')]at h2;have z:i-rs.length=0:=by
    have:=(q_.mp h1).1;simp at this;omega
   rw[z]at h1;rw[←h.len,z]at h2;cases h1;cases h2;exact⟨ps,by rw[L2.aH nlr];exact hps,Paired.qa hp λ_ _ z=>eK.off hl' z⟩
end
section
section
variable{K:PySem.W.Frag}{C:g_}{H0 H H':Hp}{t l x o m:g_}{rs:List g_}{sg:r_}{rows:List (List cC)}{fo fm:cC}{k:Int}
end
theorem Av.lo{rows:List (List cC)}{i j:Nat}{f:cC}(h:Av rows i j f):Av (Aw rows) i j (jI f):=by
 obtain⟨r,h1,h2⟩:=h;exact⟨r.map jI,by unfold Aw;rw[n_,h1];rfl,by rw[n_,h2];rfl⟩
theorem Av.un{rows:List (List cC)}{i j:Nat}{g:cC}(h:Av (Aw rows) i j g):∃f,Av rows i j f/\g=jI f:=by
 obtain⟨r,h1,h2⟩:=h;obtain⟨r',e1,rfl⟩:=pN h1;obtain⟨f,e2,rfl⟩:=pN h2;exact⟨f,⟨r',e1,e2⟩,Y⟩
def Up(rows:List (List cC)):Prop:=∀i j f g,Av rows i j f->Av rows j i g->f.1*g.2=g.1*f.2
theorem R3{rows:List (List cC)}(h:∀r∈rows,∀f∈r,0<f.2):gH (Aw rows)↔Up rows:=by
 have pos:∀{i j f},Av rows i j f->0<f.2:=λa=>by
  obtain⟨r,hr,hf⟩:=a.mem;exact h r hr _ hf
 constructor
 ·intro b i j f g hf hg;exact(Gg (pos hf) (pos hg)).mpr (b i j _ _ hf.lo hg.lo)
 ·intro b i j f g hf hg;obtain⟨f',hf',rfl⟩:=hf.un;obtain⟨g',hg',rfl⟩:=hg.un;exact(Gg (pos hf') (pos hg')).mp (b i j _ _ hf' hg')
end
end GP
namespace L2
open PySem PySem.Spec PyProof.Rows
def KDict(P:I_)(w:W_)(K:PySem.W.Frag)(a:g_)(kvs:List (Key×V)):Prop:=(a==sysModules)=false/\∃vs,KV kvs vs/\∀h:qad,K.In h->h.DictOf (lW P w) a vs
noncomputable def agT(w:W_)(x:r_×Tok×i_):DictEntry:=⟨hashStr w x.1,.str x.1 x.2.1,x.2.2⟩
theorem KDict.mk {P:I_}{w:W_}{K:PySem.W.Frag}{a:g_}{ep:Nat}{es:Array DictEntry}(ys:List (r_×Tok×i_)){vs:List V}(hk:K.lookup a=some { cls:=.type "dict",data:=.dict es ep })
  (he:es.toList=ys.map (agT w)) (hn:(ys.map (·.1)).Nodup) (hv:Vals vs (ys.map (·.2.2))) (hs:(a==sysModules)=false):KDict P w K a ((ys.map (·.1)).zipWith (λx v=>(Sum.inr x,v)) vs):=by
 refine⟨hs,ys.map λy=>(Sum.inr y.1,y.2.2),?_,λh X=>⟨_,es,ep,X a _ hk,⟨Y,Y,Y⟩,Y,?_,?_,?_⟩⟩
 ·clear hk he hn
  induction ys generalizing vs with
  |nil=>cases hv;exact .nil
  |cons y ys ih =>
   cases hv with
   |cons r t=>exact .cons ⟨Y,r⟩ (ih t)
 ·intro e hm;rw[←Array.mem_toList_iff,he]at hm;obtain⟨y,_,rfl⟩:=G_.mp hm;exact⟨Sum.inr y.1,wL P w _ _,Y⟩
 ·rw[he];clear hk he hn hv
  induction ys with
  |nil=>exact .nil
  |cons y ys ih=>exact .cons (wL P w _ _) Y ih
 ·rw[qaf];have e:((λx:Key×i_=>x.1) ∘ λy:r_×Tok×i_=>((Sum.inr y.1:Key),y.2.2))=(λx:r_=>(Sum.inr x:Key)) ∘ (·.1):=rfl;rw[e,←qaf];exact List.Pairwise.map _ (λa b h z=>h (Sum.inr.inj z)) hn
section
variable{X:Cx}
theorem JU:uz X (compareOp .NotIn) (λx y H Q=>rG λa kvs k=>y= .ref a/\x=kV k/\KDict X.prog X.w X.K a kvs/\Q (.bl (!(mq kvs k).isSome)) H):=by
 intro pins s σ H x y v u Q I rx ry h;obtain⟨a,kvs,k,rfl,rfl,⟨hs,vs,rel,dd⟩,q⟩:=h;cases ry;refine wpAny_notIn_of (Gi rx) hs (dd _ I.tu).mapOf ?_;rw[←(rel.val k).xN];exact⟨.bl _,H,I.tok _,Y,q⟩
def Z6(P:I_)(w:W_)(K:PySem.W.Frag)(td ty:TE):TE:=λσ H Q=>td σ H λx H1=>ty σ H1 λy H2=>yj λa kvs k v=>x= .ref a/\y=kV k/\KDict P w K a kvs/\mq kvs k=some v/\Q v H2
theorem Nv{o i:Expr}{pos:qcd}{td ty:TE}(ho:PE X o td)(hi:PE X i ty)(hs:Zs i):PE X (.Subscript o i pos) (Z6 X.prog X.w X.K td ty):=by
 intro pins s σ H Q I h;refine M3 PySem.F.slot_dict_getitem.lookup hs (iB (ho pins s σ H _ I h) λu s1 ⟨x,H1,I1,rx,q1⟩=>iB (hi pins s1 σ H1 _ I1 q1) λiv s2 ⟨y,H2,I2,ry,a,kvs,k,v,ex,ey,⟨hd,vs,rel,dd⟩,l,q2⟩=>?_);subst ex ey;obtain rfl:u=Value.ref a:=rx;obtain⟨w',hw,rw'⟩:=vD.some_of (v:=v) (o:=valueAt vs k) (by rw[←l];exact rel.val k);have d2:=dd _ I2.tu;exact⟨d2.typeIs,wpAny_getItem_of (Gi ry) d2.mapOf hw ⟨v,H2,I2.tok _,rw',q2⟩⟩
end
end L2
namespace GP
open PySem L2 pR
section
def TupAt(H:Hp)(q:g_)(f:cC):Prop:=H q=some (.tup [.int f.1,.int f.2])
theorem TupAt.fr{K:PySem.W.Frag}{H:Hp}{q:g_}{f:cC}(h:TupAt H q f):pV K H q f:=eK.of h
theorem TupAt.off{H:Hp}{q l:g_}{f:cC}{ys:List V}{o:HO}(hl:H l=some (.lst ys))(h:TupAt H q f):TupAt (L2.upd H l o) q f:=by
 have n:q≠l:=rJ h hl (by intro z;cases z);show L2.upd H l o q=_;rw[L2.aH n];exact h
def Tj(c:Nat):Prop:=c=112\/c=97\/c=98
noncomputable def stp(q:cC)(c:Nat):cC:=(q.1+(if c=98 then 0 else 1),q.2+(if c=97 then 0 else 1))
def Of(sg x:r_):Prop:=∀c∈x.cps.toList,c∈sg.cps.toList
theorem MH{x:r_}{i c:Nat}(h:x.cps[i]? =some c):i<x.cps.size:=by
 rw[←U_]at h;have:=(q_.mp h).1;simpa using this
theorem Ic{x:r_}{i c:Nat}(h:x.cps[i]? =some c):c∈x.cps.toList:=by
 rw[←U_]at h;exact l_ h
theorem nZ{x:r_}{i c:Nat}(h:x.cps[i]? =some c):x.cps.toList[i]? =some c:=by
 rw[U_];exact h
theorem RQ{x:r_}{i:Nat}(h:i<x.cps.size):∃c,x.cps[i]? =some c:=⟨x.cps[i],by simp[h]⟩
noncomputable def sj(sg:r_)(rows:List (List cC))(u:Int)(a b:Nat):Int :=
 match (rows[sg.cps.toList.idxOf a]?).bind (·[sg.cps.toList.idxOf b]?)with
 |some f=>f.1*(u / f.2)
 |none=>0
theorem wD{sg:r_}{rows:List (List cC)}{u:Int}{a b:Nat}(sq:Sy sg.cps.size rows)(ha:a∈sg.cps.toList)(hb:b∈sg.cps.toList):
  rG λi j f=>sg.cps[i]? =some a/\sg.cps[j]? =some b/\Av rows i j f/\sj sg rows u a b=f.1*(u / f.2):=by
 have hi:=List.idxOf_lt_length_iff.mpr ha;have hj:=List.idxOf_lt_length_iff.mpr hb;have ei:sg.cps.toList[sg.cps.toList.idxOf a]? =some a:=by rw[e_ hi,List.getElem_idxOf hi]
 have ej:sg.cps.toList[sg.cps.toList.idxOf b]? =some b:=by rw[e_ hj,List.getElem_idxOf hj]
 have hi':sg.cps.toList.idxOf a<rows.length:=by rw[sq.1];simpa using hi
 have hj':sg.cps.toList.idxOf b<(rows[sg.cps.toList.idxOf a]).length:=by rw[sq.2 _ (x_ hi')];simpa using hj
 refine⟨_,_,(rows[sg.cps.toList.idxOf a])[sg.cps.toList.idxOf b],by rw[←U_];exact ei,by rw[←U_];exact ej,⟨_,e_ hi',e_ hj'⟩,?_⟩;unfold sj;rw[e_ hi']
 show(match (rows[sg.cps.toList.idxOf a])[sg.cps.toList.idxOf b]? with|some f=>f.1*(u / f.2)|none=>0)=_
 rw[e_ hj']
def Di(K:PySem.W.Frag):Sp:=λvs H Q _=>rG λ(q:g_) (c:Nat) (ij:cC)=>vs=[.ref q,.str ⟨#[c]⟩]/\pV K H q ij/\Tj c/\∀r,H r=none->Q (.ref r) (L2.upd H r (.tup [.int (stp ij c).1,.int (stp ij c).2]))
end
section
theorem eK.wo{K:PySem.W.Frag}{H:Hp}{t a:g_}{ys xs:List V}(ht:H t=some (.lst ys))(h:eK K H a xs):eK K (Wo t H) a xs:=by
 rcases h with(h|⟨u,h⟩)|h
 ·exact .inl (.inl (Wo.in (rJ h ht (by intro z;cases z)) h))
 ·exact .inl (.inr ⟨u,Wo.in (rJ h ht (by intro z;cases z)) h⟩)
 ·exact .inr h
theorem jA.wo{K:PySem.W.Frag}{C:g_}{H:Hp}{t x:g_}{ys:List V}{sg:r_}{rows:List (List cC)}{fo fm:cC}(ht:H t=some (.lst ys))(nf:Se H x t)(h:jA K C H x sg rows fo fm):jA K C (Wo t H) x sg rows fo fm:=by
 obtain⟨a,b,c,d,f,g,i,dx,P,o,m,dd,kvs,h1,⟨qs,h2,h2'⟩,h3,h4,h5,h6,fs,h7,h8,h9⟩:=h;have n:dd.2≠t:=λz=>nf _ _ _ h1 (by rw[sr,z]);refine⟨a,b,c,d,f,g,i,dx,P,o,m,dd,kvs,Wo.in (rJ h1 ht (by intro z;cases z)) h1,⟨qs,eK.wo ht h2,Paired.qa h2' λq r z=>?_⟩,eK.wo ht h3,eK.wo ht h4,Wo.in (rJ h5 ht (by intro z;cases z)) h5,h6,fs,h7,h8,Wo.in n h9⟩;obtain⟨ps,z1,z2⟩:=z;exact⟨ps,eK.wo ht z1,Paired.qa z2 λ_ _ y=>eK.wo ht y⟩
end
end GP
namespace L2
open PySem PySem.Spec PyProof.Rows
section
def MY(h:qad)(φ:g_->Prop)(ea:g_)(cls:i_)(od:Option g_):Prop :=
 φ ea/\fD λvs sl=>h.get? ea=some ⟨cls,od,.fields vs,sl⟩/\(od=none->vs[2]? =some .none)/\(vs[1]? =some .none ∨
  rG λT oT ts=>vs[1]? =some (.ref T)/\T≠ea/\φ T/\h.get? T=some oT/\oT.data= .fields ts/\3<ts.size)
def FL(h:qad)(φ:g_->Prop)(ea:g_)(cls:i_)(od:Option g_):Prop :=
 φ ea/\fD λvs sl=>h.get? ea=some ⟨cls,od,.fields vs,sl⟩/\(od=none->vs[2]? =some .none) ∧
  rG λT oT ts=>vs[1]? =some (.ref T)/\T≠ea/\φ T/\h.get? T=some oT/\oT.data= .fields ts/\3<ts.size
theorem FL.n{h:qad}{φ:g_->Prop}{ea:g_}{cls:i_}{od:Option g_}(x:FL h φ ea cls od):MY h φ ea cls od:=by
 obtain⟨p,vs,sl,e,c2,t⟩:=x;exact⟨p,vs,sl,e,c2,.inr t⟩
theorem MY.to{h:qad}{φ ψ:g_->Prop}{ea:g_}{cls:i_}{od:Option g_}(x:MY h φ ea cls od)(m:∀b,φ b->ψ b):MY h ψ ea cls od:=by
 obtain⟨p,vs,sl,e,c2,t⟩:=x;refine⟨m _ p,vs,sl,e,c2,?_⟩;rcases t with t|⟨T,oT,ts,a,b,c,d⟩
 ·exact .inl t
 ·exact .inr ⟨T,oT,ts,a,b,m _ c,d⟩
structure tY(fr:List g_)(φ:g_->Prop)(h h':qad):Prop where
 keep:∀b o,h.get? b=some o->¬ φ b->b∉fr->h'.get? b=some o
 slot:∀b o,h.get? b=some o->¬ φ b->∃sl,h'.get? b=some { o with slots:=sl }
 there:∀b o,h.get? b=some o->∃o',h'.get? b=some o'
 size:h.objs.size<=h'.objs.size
theorem tY.refl{fr:List g_}{φ:g_->Prop}{h:qad}:tY fr φ h h:=⟨λ_ _ e _ _=>e,λ_ o e _=>⟨o.slots,e⟩,λ_ o e=>⟨o,e⟩,j_ _⟩
theorem tY.trans{fr:List g_}{φ:g_->Prop}{h h1 h2:qad}(a:tY fr φ h h1)(b:tY fr φ h1 h2):tY fr φ h h2 where
 keep:=λc o e n f=>b.keep c o (a.keep c o e n f) n f
 slot:=λc o e n=>by
  obtain⟨sl,e1⟩:=a.slot c o e n;obtain⟨PB,e2⟩:=b.slot c _ e1 n;exact⟨PB,e2⟩
 there:=λc o e=>by
  obtain⟨o',e1⟩:=a.there c o e;exact b.there c o' e1
 size:=m_ a.size b.size
section
variable{M:qcH}{A:qam}{E:i_->p_->Prop}{s:p_}{base:qad}{env e0:Env}{r:List Env}{L ea:g_}{φ:g_->Prop}{cls:i_}{od:Option g_}
theorem KA{Q:i_->p_->Prop}(hs:A.frames=some (e0::r))(hl:s.heap.FunFrames base (e0::r))(h0:e0.frame=some L)(he:env.frame=some L)
  (h:∀h',Heap.SlotsOnly ((e0::r).filterMap (·.frame)) s.heap h'->Q (.ref L) { s with heap:=h' }):N_ M A (PySem.frameOf env) Q E s:=by
 unfold PySem.frameOf;refine h_ (wpAny_frameEnvs hs ?_);rw[show((e0::r).dropWhile λx=>x.frame != env.frame)=e0::r by simp[List.dropWhile,h0,he]];unfold frameObject;refine h_ (h_ (wpAny_readyFrames_fun hl λh1 k1=>t_ ?_));rw[h0];exact t_ (h h1 k1)
theorem Gs{vs:Array i_}{sl:Array (Option i_)}{head:i_}{hadNext:Bool}{Q:Unit->p_->Prop}(hs:A.frames=some (e0::r))(hl:s.heap.FunFrames base (e0::r))(h0:e0.frame=some L)(hf:env.frame=some L)
  (pe:φ ea) (he:s.heap.get? ea=some ⟨cls,od,.fields vs,sl⟩) (h1:1<vs.size) (h2:od=none->vs[2]? =some .none) (new:∀b,s.heap.objs.size<=b->φ b)
  (q:∀h',tY (frs (e0::r)) φ s.heap h'->FL h' φ ea cls od->Q () { s with heap:=h' }) :
  N_ M A (do let a ←PySem.frameOf env;let pl ←entryPlaceOf L hadNext;let b ←EntryCells.newEntry head a .none (rawInt L) .none pl;setField (.ref ea) 1 b) Q E s:=by
 have nfr:ea∉(e0::r).filterMap (·.frame):=λhm=>by
  obtain⟨_,o,ho,nf⟩:=hl.mem hm;rw[he]at ho;cases ho;exact nf vs Y
 refine h_ (KA hs hl h0 hf λg k=>?_);refine h_ (wpAny_entryPlaceOf λpl pk=>?_);simp only[EntryCells.newEntry,newFields];refine h_ (qa2 ?_ (pk.sizeOk5 _ _ _ _ _));have e1:g.get? ea=some ⟨cls,od,.fields vs,sl⟩:=(k.2.1 ea nfr).trans he;have ne:g.objs.size≠ea:=qba (J_ e1)
 generalize hob:({ cls:=.type "traceback",dict:=none,data:=.fields ([head,.ref L,.none,rawInt L,.none]++(if pl.isEmpty then y_ 6 Value.none else pl)).toArray }:qa0)=ob
 have e2:=k_ (h:=g) ob e1;refine qca e2 Y h1 (q _ ⟨λb o e n f=>?_,λb o e n=>?_,λb o e=>?_,?_⟩ ⟨pe,_,sl,qaH _ e2 Y,λz=>(Array.getElem?_setIfInBounds_ne (by decide)).trans (h2 z),g.objs.size,ob,_,?_,ne,new _ (qce k.1.symm),?_,by subst hob;rfl,?_⟩)
 ·have be:b≠ea:=λz=>n (z▸pe);rw[qav _ _ (Ne.symm be)];exact k_ _ ((k.2.1 b f).trans e)
 ·have be:b≠ea:=λz=>n (z▸pe);obtain⟨PB,e'⟩:=k.2.2 b o e;refine⟨PB,?_⟩;rw[qav _ _ (Ne.symm be)];exact k_ _ e'
 ·by_cases be:b=ea
  ·subst be;exact⟨_,qaH _ e2 Y⟩
  ·obtain⟨PB,e'⟩:=k.2.2 b o e;exact⟨{ o with slots:=PB },(qav _ _ (Ne.symm be)).trans (k_ _ e')⟩
 ·rw[Heap.size_after_update,qaQ,k.1];exact qaw _
 ·simp[h1]
 ·rw[qav _ _ (Ne.symm ne)];exact H_ _ (by subst hob;rfl)
 ·rw[u_,A_];exact K_ (by decide:3<5) (qaM _ _)
theorem Ke{Q:Unit->p_->Prop}(hs:A.frames=some (e0::r))(hl:s.heap.FunFrames base (e0::r))(h0:e0.frame=some L)(hf:env.frame=some L)
  (x:MY s.heap φ ea cls od) (new:∀b,s.heap.objs.size<=b->φ b) (q:∀h',tY (frs (e0::r)) φ s.heap h'->FL h' φ ea cls od->Q () { s with heap:=h' }) :
  N_ M A (noteFrame (.ref ea) env) Q E s:=by
 obtain⟨pe,vs,sl,he,c2,hv⟩:=x;unfold noteFrame;simp only[hf];rcases hv with h1|⟨T,oT,ts,h1,ne,pT,hT,hd,h3⟩
 ·refine h_ (qaE he Y h1 ?_);rw[if_neg (by decide)];exact Gs hs hl h0 hf pe he (qcc.mp h1).1 c2 new q
 ·have g3:ts[3]? =some ts[3]:=Array.getElem?_eq_getElem h3;refine h_ (qaE he Y h1 ?_);rw[if_pos (show(Value.ref T != Value.none)=true by simp)];refine h_ (qaE hT hd g3 ?_);by_cases e3:(ts[3]==rawInt L)=true
  ·rw[if_pos e3];exact t_ (q s.heap tY.refl ⟨pe,vs,sl,he,c2,T,oT,ts,h1,ne,pT,hT,hd,h3⟩)
  ·rw[if_neg e3];refine h_ (qca hT hd h3 ?_);have other:∀b,b≠T->(s.heap.update T (qcC (·.setIfInBounds 3 Value.none))).get? b=s.heap.get? b:=λb z=>qav _ _ (Ne.symm z);have n1:tY (frs (e0::r)) φ s.heap (s.heap.update T (qcC (·.setIfInBounds 3 Value.none))):=by
    refine⟨λb o e n f=>(other b λz=>n (z▸pT)).trans e,λb o e n=>⟨o.slots,(other b λz=>n (z▸pT)).trans e⟩,λb o e=>?_,qce (Heap.size_after_update ..).symm⟩;by_cases z:b=T
    ·subst z;exact⟨_,qaH _ hT (qb4 (qbr hd _))⟩
    ·exact⟨o,(other b z).trans e⟩
   refine Gs (s:={ s with heap:=s.heap.update T (qcC (·.setIfInBounds 3 Value.none)) }) hs (hl.of_keeps λb o e nf=>⟨o,(other b λz=>?_).trans e,Y⟩) h0 hf pe ((other ea (Ne.symm ne)).trans he) (qcc.mp h1).1 c2
    (λb hb=>new b (m_ n1.size hb)) λh' n2 x2=>q h' (n1.trans n2) x2
   subst z;rw[hT]at e;cases e;exact nf ts hd
theorem yW{fl:Option g_}{fr:List g_}{Q:Unit->p_->Prop}(x:FL s.heap φ ea cls od)(q:∀h',tY fr φ s.heap h'->FL h' φ ea cls od->Q () { s with heap:=h' }):
  N_ M A (setFlight (.ref ea) fl) Q E s:=by
 obtain⟨pe,vs,sl,he,c2,T,oT,ts,h1,ne,pT,hT,hd,h3⟩:=x;unfold setFlight;refine h_ (qaE he Y h1 ?_);rw[if_pos (show(Value.ref T != Value.none)=true by simp)];have other:∀(f:qa0->qa0) b,b≠T->(s.heap.update T f).get? b=s.heap.get? b:=λf b z=>qav _ _ (Ne.symm z);refine qca hT hd h3 (q _ ⟨λb o e n f=>(other _ b λz=>n (z▸pT)).trans e,λb o e n=>⟨o.slots,(other _ b λz=>n (z▸pT)).trans e⟩,λb o e=>?_,qce (Heap.size_after_update ..).symm⟩
  ⟨pe,vs,sl,(other _ ea (Ne.symm ne)).trans he,c2,T,_,_,h1,ne,pT,qaH _ hT (qb4 (qbr hd _)),qbr hd _,by simp[h3]⟩)
 by_cases z:b=T
 ·subst z;exact⟨_,qaH _ hT (qb4 (qbr hd _))⟩
 ·exact⟨o,(other _ b z).trans e⟩
end
end
section
section
variable{X:Cx}{pins:List (g_×qa0)}{σ:St}{H H':Hp}{s:p_}
def Ux(X:Cx)(pins:List (g_×qa0))(H:Hp)(b:g_):Prop :=
 H b=none/\b≠X.env.locals/\b∉X.fs/\(X.s₀.heap.get? b=none\/b∈X.ex)/\(∀x c,X.env.cells.lookup x=some c->c≠b)/\∀p∈X.pn++pins,p.1≠b
theorem Inv.xok{b:g_}(I:Inv X pins σ H s)(hn:s.heap.get? b=none)(hH:H' b=none):Ux X pins H' b:=by
 refine⟨hH,λz=>?_,λz=>?_,?_,λx c e z=>?_,λp hp z=>?_⟩
 ·obtain⟨m,⟨o,_,_,ho,_⟩,_⟩:=I.loc;rw[←z,hn]at ho;cases ho
 ·obtain⟨_,o,ho,_⟩:=I.yT.mem z;rw[hn]at ho;cases ho
 ·by_cases hx:b∈X.ex
  ·exact .inr hx
  ·left
   cases q:X.s₀.heap.get? b with
   |none=>rfl
   |some o =>
    obtain⟨o',e⟩:=I.base.there b o q hx;rw[hn]at e;cases e
 ·obtain⟨v,o,ho,_⟩:=I.cell x c e;rw[z,hn]at ho;cases ho
 ·have q:=(I.pin p hp).1;rw[z,hn]at q;cases q
theorem Inv.ZX{b:g_}(I:Inv X pins σ H s)(hb:s.heap.objs.size<=b):Ux X pins H b:=I.xok (qb8 hb) (I.hok.fresh hb)
theorem Un.noted{fs fr ex:List g_}{H₀:Hp}{h₀ h h':qad}{φ:g_->Prop}(u:Un fs ex H₀ H h₀ h)(n:tY fr φ h h')(new:∀b o,h₀.get? b=some o->b∉ex->¬ φ b)(hf:∀b o,h₀.get? b=some o->b∈fr->b∈fs):Un fs ex H₀ H h₀ h' where
 keep:=λb o e hn nf nx=>n.keep b o (u.keep b o e hn nf nx) (new b o e nx) λz=>nf (hf b o e z)
 slot:=λb o e hn hb nx=>by
  obtain⟨sl,e1⟩:=u.slot b o e hn hb nx;obtain⟨PB,e2⟩:=n.slot b _ e1 (new b o e nx);exact⟨PB,e2⟩
 free:=u.free
 there:=λb o e nx=>by
  obtain⟨o',e1⟩:=u.there b o e nx;exact n.there b o' e1
 tups:=u.tups
 yV:=u.yV
 zo:=u.zo
theorem uV.noted{P:I_}{w:W_}{h h':qad}{fr:List g_}{φ:g_->Prop}(x:uV P w H h)(n:tY fr φ h h')(hφ:∀b,φ b->H b=none)(hf:∀b∈fr,H b=none):uV P w H h':=λa u e =>
 (x a u e).stay (λb v hb q=>by
  have nb:H b≠none:=λz=>by
   rcases hb with y|y
   ·rw[y,e]at z;cases z
   ·rw[y]at z;cases z
  exact n.keep b v q (λz=>nb (hφ b z)) λz=>nb (hf b z)) (λ_ q=>q) λ_ _ q=>q
theorem Inv.noted{h':qad}(I:Inv X pins σ H s)(n:tY (frs X.stack) (Ux X pins H) s.heap h'):Inv X pins σ H { s with heap:=h' }:=by
 have cellK:∀x c,X.env.cells.lookup x=some c->∀v,s.heap.IsCell c v->h'.IsCell c v:=λx c e v ⟨o,ho,hd⟩=>by
  obtain⟨sl,q⟩:=n.slot c o ho λk=>k.2.2.2.2.1 x c e rfl;exact⟨_,q,hd⟩
 refine⟨I.ok,I.os,I.bare,I.base.noted n (λb o e nx k=>?_) (λb o e z=>?_),?_,λx c e=>?_,I.free,I.pP,λp hp=>?_,I.hok.noted n (λb k=>k.1) I.GO,I.len,I.up⟩
 ·rcases k.2.2.2.1 with z|z
  ·rw[e]at z;cases z
  ·exact nx z
 ·rcases S_.mp (I.AD b z)with q|q
  ·subst q;exact absurd (K_ (J_ e) I.ok.above) (qa_ _)
  ·exact q
 ·obtain⟨m,⟨o,es,ep,ho,rr⟩,hl⟩:=I.loc;obtain⟨sl,q⟩:=n.slot _ o ho λk=>k.2.1 rfl;refine⟨m,⟨_,es,ep,q,rr⟩,λi x v e1 e2 e3=>?_⟩;obtain⟨u,rv,l⟩:=hl i x v e1 e2 e3;refine⟨u,rv,?_⟩;rcases l with l|⟨k,c,e,z⟩
  ·exact .inl l
  ·exact .inr ⟨k,c,e,cellK x c e _ z⟩
 ·obtain⟨v,z⟩:=I.cell x c e;exact⟨v,cellK x c e v z⟩
 ·obtain⟨e,hn,ne,nf,d⟩:=I.pin p hp;refine⟨n.keep p.1 p.2 e (λk=>k.2.2.2.2.2 p hp Y) λz=>?_,hn,ne,nf,d⟩;rcases S_.mp (I.AD _ z)with q|q
  ·exact ne q
  ·exact nf q
end
theorem Un.same{fs ex:List g_}{H₀ H:Hp}{h₀ h h':qad}(u:Un fs ex H₀ H h₀ h)(k:∀b o,h₀.get? b=some o->h'.get? b=h.get? b):Un fs ex H₀ H h₀ h' where
 keep:=λb o e hn nf nx=>(k b o e).trans (u.keep b o e hn nf nx)
 slot:=λb o e hn hb nx=>by
  obtain⟨sl,e1⟩:=u.slot b o e hn hb nx;exact⟨sl,(k b o e).trans e1⟩
 free:=u.free
 there:=λb o e nx=>by
  obtain⟨o',e1⟩:=u.there b o e nx;exact⟨o',(k b o e).trans e1⟩
 tups:=u.tups
 yV:=u.yV
 zo:=u.zo
def sZ(P:I_)(w:W_):Pz:=λouter H s E e s'=>yj λea cls od H'=>e= .ref ea/\s'.os=s.os/\AllBare s'.gens/\s.toks<=s'.toks/\Un (frs outer) [] H H' s.heap s'.heap/\uV P w H' s'.heap ∧
 MY s'.heap (λb=>s.heap.get? b=none/\H' b=none) ea cls od/\E cls od H'
def Lets(X:Cx)(E:St->XK):Prop:=∀(pins:List (g_×qa0)) (σ:St) (H:Hp) (s:p_) (ea:g_) (cls:i_) (od:Option g_),Inv X pins σ H s->MY s.heap (Ux X pins H) ea cls od->E σ cls od H->X.xe (.ref ea) s
theorem Lets.pass{X:Cx}{E:St->XK}{pins:List (g_×qa0)}{σ:St}{H:Hp}{s s':p_}{e:i_}(L:Lets X E)(I:Inv X pins σ H s)(h:sZ X.prog X.w X.stack H s (E σ) e s'):X.xe e s':=by
 obtain⟨ea,cls,od,H',rfl,os,bare,tt,un,hok,x,hE⟩:=h
 have I2:Inv X pins σ H' s':=I.Vb (ch:=[]) os un hok bare (λb z=>nomatch z) (m_ I.up tt)
 exact L pins σ H' s' ea cls od I2 (x.to λb k=>I.xok k.1 k.2) hE
theorem Lets.passes{X:Cx}{E:XK}(L:Lets X λ_=>E):Passes (sZ X.prog X.w) X E:=λ_ _ _ _ _ _ I h=>L.pass I h
section
variable{P:I_}{w:W_}{K:PySem.W.Frag}{mg:r_->Option i_}{base:qad}
theorem fB{N:List r_}{qual:r_}{scope:qbJ}{f:g_}{cd:i_}{A:qam}{outer:List Env}{s:p_}{H:Hp}{E:XK}:Lets (Bp (sZ P w) P w K mg base N qual scope f cd A outer s H E) λ_=>E:=by
 intro pins σ H' s' ea cls od I x hE;show N_ _ _ (leaving _ (.ref ea)) _ _ s';unfold leaving;refine h_ (Ke I.ok.frames I.stack Y Y x (λb hb=>I.ZX hb) λh1 n1 x1=>?_);refine yW (fr:=frs (Bp (sZ P w) P w K mg base N qual scope f cd A outer s H E).stack) x1 λh2 n2 x2=>?_;have I2:=I.noted (n1.trans n2);refine⟨ea,cls,od,H',Y,I2.os,I2.bare,I2.up,I2.base,I2.hok,x2.n.to λb k=>⟨?_,k.1⟩,hE⟩;rcases k.2.2.2.1 with z|z
 ·exact z
 ·exact nomatch z
theorem m7{N:List r_}{qual:r_}{scope:qbJ}{f:g_}{cd:i_}{A:qam}{outer:List Env}{s:p_}{H:Hp}{E:XK}:
  PassesOwn (model P w) (Bp (sZ P w) P w K mg base N qual scope f cd A outer s H E).A (Bp (sZ P w) P w K mg base N qual scope f cd A outer s H E).env (Bp (sZ P w) P w K mg base N qual scope f cd A outer s H E).xe:=PassesOwn.leaving
theorem SA.BK{x qual:r_}{st:qaq}{f:g_}{fd:B_}{N ps:List r_}{k:Nat}{sp:Sp}(F:SA K x qual st f fd)(S:aK N ps (ay st))(len:∀vs H Q E,sp vs H Q E->vs.length=ps.length)
  (hbody:∀(cdv:i_) (A:qam) (outer:List Env) (s:p_) (H:Hp) (vs:List V) (Q:VK) (E:XK),pW k (A.deeper (envOfC qual (ay st) s.heap.objs.size f cdv))->sp vs H Q E →
   ∃t,IG (Bp (sZ P w) P w K mg base N qual (ay st) f cdv A outer s H E) (jD st) t/\t { nx:=λ_ H'=>Q .lV H',rt:=Q } (start N vs) H):aI P w K mg base (sZ P w) (k+1) f fd ps sp:=by
 obtain⟨oc,od,kV,doc,pm,an,cdv,ct,osl,rfl,lk,hcd⟩:=F.ex;exact U7 lk hcd S len λA outer s H vs Q E hr Sq=>hbody cdv A outer s H vs Q E hr Sq
end
theorem eN.got{P:I_}{w:W_}{H:Hp}{h:qad}{a:g_}{o:HO}(x:eN P w H h a o):h.get? a≠none:=by
 cases o with
 |lst xs=>obtain⟨_,_,_,_,e⟩:=x;rw[e];exact λz=>nomatch z
 |tup xs=>obtain⟨_,_,_,ob,e,_⟩:=x;rw[e];exact λz=>nomatch z
 |dK kvs=>obtain⟨_,_,_,_,o,_,_,e,_⟩:=x;rw[e];exact λz=>nomatch z
 |dT kvs=>obtain⟨_,_,_,_,o,_,_,e,_⟩:=x;rw[e];exact λz=>nomatch z
 |set S n=>obtain⟨o,_,_,_,e,_⟩:=x;rw[e];exact λz=>nomatch z
 |ins C dx fs=>obtain⟨_,_,_,e,_⟩:=x;rw[e];exact λz=>nomatch z
 |own y=>obtain⟨_,e⟩:=x;rw[e];exact λz=>nomatch z
 |xd fs=>obtain⟨_,⟨_,_,_,e,_⟩,_⟩:=x;rw[e];exact λz=>nomatch z
 |rng lo hi=>obtain⟨_,_,_,e⟩:=x;rw[e];exact λz=>nomatch z
 |MA ob u=>obtain⟨e,_⟩:=x;rw[e];exact λz=>nomatch z
 |UJ ps=>have e:h.get? a=some _:=x;rw[e];exact λz=>nomatch z
 |met f y=>have e:h.get? a=some _:=x;rw[e];exact λz=>nomatch z
 |ext φ=>obtain⟨_,⟨_,e⟩,_⟩:=x;rw[e];exact λz=>nomatch z
theorem uV.none_of{P:I_}{w:W_}{H:Hp}{h:qad}{a:g_}(x:uV P w H h)(e:h.get? a=none):H a=none:=by
 cases q:H a with
 |none=>rfl
 |some o=>exact absurd e (x a o q).got
set_option genInjectivity false in
structure XP where
 nm:r_
 q:r_
 N:g_
 bs:List i_
 bm:List i_
 hdct:Bool
 sn:List r_
 sub:List i_
 ab:Bool
 col:Option Bool
 dd:Option g_
 k0:Option i_
 k1:Option i_
 k2:Option i_
 k3:Option i_
 k5:Option i_
 mN:r_->Option i_
noncomputable abbrev XP.obj(d:XP)(C:g_)(newId:String):qa0:=excClassObj d.nm d.q C d.N d.bs d.bm d.hdct d.sn d.sub d.ab d.col d.dd d.k0 d.k1 d.k2 d.k3 d.k5 newId
structure ahb(K:PySem.W.Frag)(C:g_)(Bn B newId inN nid initId:String)(bmN bmB:List i_):Prop where
 fn:qcy Bn newId inN bmN
 has:bmB.contains (.type Bn)=true
 fb:qcy B nid initId bmB
 obj:∀h:qad,K.In h->∃d:XP,h.get? C=some (d.obj C newId)/\h.Ns d.N d.mN/\d.mN "__init__" =none/\OwnTail h bmB d.bm
def GG(K:PySem.W.Frag)(C:g_):Prop:=Vd λBn B newId inN nid initId bmN bmB=>ahb K C Bn B newId inN nid initId bmN bmB
theorem Cz {K:PySem.W.Frag}{C:g_}(q:PySem.W.excIn K C [.type "ValueError",.type "Exception",.type "BaseException",.type "object"] "ValueError.__new__" =true):GG K C:=by
 refine⟨_,_,_,_,_,_,_,_,PySem.F.excBase_ValueError,PySem.F.excBase_ValueError.hasB,PySem.F.excBase_ValueError,λh k=>?_⟩;unfold PySem.W.excIn at q;split at q
 ·rename_i dd cd sl hob
  split at q
  ·rename_i C' bm k0 k1 k2 k3 nn k5 hmr Rm
   simp only[R_,beq_iff_eq,qbd]at q;obtain⟨⟨⟨⟨⟨e1,e2⟩,e3⟩,e4⟩,e5⟩,e6⟩:=q;subst e1 e2;obtain⟨nm,bs,mro,ns,qn,hd,sn,sub,ab,col,del⟩:=cd;dsimp only at hmr e3 e5 e6;subst hmr e3;have hsl:sl= #[k0,k1,k2,k3,some (.builtin "ValueError.__new__"),k5]:=by
    obtain⟨l⟩:=sl;simp only at Rm;rw[Rm]
   subst hsl;exact⟨⟨nm,qn,ns,bs,bm,hd,sn,sub,ab,col,dd,k0,k1,k2,k3,k5,_⟩,k _ _ hob,.of_isNs (PySem.W.isNs_of_in k e5),PySem.W.nsMap_none_of_in k e5 e6,PySem.W.tail_of_in k e4⟩
  ·cases q
 ·cases q
def X0(C:g_)(E:St->XK)(t:TA):TS:=λ_ σ H=>t σ H λvs H1=>vs.length<=z_/\E σ (.ref C) none H1
theorem qY{X:Cx}{E:St->XK}{C:g_}{x:r_}{np cpos pos:qcd}{e:Expr}{es:List Expr}{t:TA}(L:Lets X E)(OE:GG X.K C)(hc:X.calm=true)
  (hg:Gl X x) (hm:X.mg x=some (.ref C)) (ha:PA X (e::es) t) (hdb:(x==("__debug__" :r_))=false:=by decide) (he:Z_ (e::es) X.env=(false,eval e X.env)::Z_ es X.env:=by rfl)
  (hpl:(backTo cpos (Z_ es X.env)).any (·.1)=false:=by rfl):PS X (.Raise (some (.Call (.Name x np) (e::es) [] cpos)) none pos) (X0 C E t):=by
 intro pins s σ H D I h;obtain⟨Bn,B,newId,inN,nid,initId,bmN,bmB,O⟩:=OE;obtain⟨d,hC,hN,hni,T⟩:=O.obj X.base I.ok.mod.TN;refine wpAny_Raise_call_subU (C:=C) (nm:=d.nm) (q:=d.q) (N:=d.N) (bs:=d.bs) (bm:=d.bm) (hdct:=d.hdct) (sn:=d.sn) (sub:=d.sub) (ab:=d.ab) (col:=d.col) (dd:=d.dd) (k0:=d.k0) (k1:=d.k1) (k2:=d.k2) (k3:=d.k3) (k5:=d.k5) O.fn O.has O.fb
  (mN:=d.mN) (T.hasType O.fb.hasBase) (I.ok.hd hc) (by rw[he];show(false||(backTo cpos (Z_ es X.env)).any (·.1))=false;rw[hpl];rfl) hni (qK I hg hm ⟨rfl,?_⟩ hdb)
 have z:=ha cpos pins s σ H _ I h;rw[he]at z ⊢;refine qb9 (iB z λus s2 ⟨vs,H2,I2,r,hl,q2⟩=>⟨Y,?_,I2.bk _ _ hC,hN.keeps I2.bk,T.keeps I2.bk,λh' ea hm=>?_⟩)
 ·show us.length<=z_;rw[←r.length];exact hl
 ·obtain⟨t',ht,_,_⟩:=hm.there;exact L pins σ H2 _ ea (.ref C) none (I2.kept (t':=s2.toks) hm.keeps) ⟨I2.xok hm.new (I2.hok.none_of hm.new),_,_,ht,λ_=>rfl,.inl Y⟩ q2
end
section
def Fm(X:Cx):Prop:=rG λe0 r L=>X.stack=e0::r/\e0.frame=some L/\X.env.frame=some L
theorem Y7{CX:Pz}{P:I_}{w:W_}{K:PySem.W.Frag}{mg:r_->Option i_}{base:qad}{N:List r_}{qual:r_}{scope:qbJ}{f:g_}{cd:i_}{A:qam}{outer:List Env}{s:p_}{H:Hp}{E:XK}:
  Fm (Bp CX P w K mg base N qual scope f cd A outer s H E).nox:=⟨_,_,_,rfl,rfl,rfl⟩
noncomputable abbrev Cx.Eh(X:Cx)(pn:List (g_×qa0))(xe:i_->p_->Prop):Cx:={ X with pn:=pn,xe:=xe }
theorem Cx.Ok.Eh{X:Cx}(ok:X.Ok)(pn:List (g_×qa0))(xe:i_->p_->Prop):(X.Eh pn xe).Ok :=
 ⟨ok.mod,ok.kind,ok.glob,ok.blt,ok.above,ok.inj,ok.has,ok.Ut,ok.hd,ok.frames,ok.stk,ok.exf,ok.bs,ok.R0,ok.Mg,ok.O6,ok.yT,ok.Ug,ok.tk⟩
section
variable{X:Cx}{pins ps:List (g_×qa0)}{σ:St}{H:Hp}{s:p_}{xe:i_->p_->Prop}
theorem Inv.Eh(I:Inv X pins σ H s):Inv (X.Eh (X.pn++pins) xe) [] σ H s :=
 ⟨I.ok.Eh _ _,I.os,I.bare,I.base,I.loc,I.cell,I.free,I.pP,λp hp=>I.pin p (by simpa using hp),I.hok,I.len,I.up⟩
theorem Inv.yk(ok:X.Ok)(I:Inv (X.Eh (X.pn++pins) xe) ps σ H s):Inv X pins σ H s :=
 ⟨ok,I.os,I.bare,I.base,I.loc,I.cell,I.free,I.pP,λp hp=>I.pin p (qbB _ hp),I.hok,I.len,I.up⟩
theorem Ux.yk{b:g_}(k:Ux (X.Eh (X.pn++pins) xe) ps H b):Ux X pins H b :=
 ⟨k.1,k.2.1,k.2.2.1,k.2.2.2.1,k.2.2.2.2.1,λp hp=>k.2.2.2.2.2 p (qbB _ hp)⟩
theorem FL.to{h:qad}{φ ψ:g_->Prop}{ea:g_}{cls:i_}{od:Option g_}(x:FL h φ ea cls od)(m:∀b,φ b->ψ b):FL h ψ ea cls od:=by
 obtain⟨p,vs,sl,e,c2,T,oT,ts,a,b,c,d⟩:=x;exact⟨m _ p,vs,sl,e,c2,T,oT,ts,a,b,m _ c,d⟩
end
noncomputable abbrev TH:=i_->Option g_->TS
def PH(X:Cx)(hs:List ExceptHandler)(th:TH):Prop :=
 ∀(pins:List (g_×qa0)) (s:p_) (σ:St) (H:Hp) (D:Ends) (ea:g_) (cls:i_) (od:Option g_),Inv X pins σ H s->FL s.heap (Ux X pins H) ea cls od->th cls od D σ H →
  N_ (model X.prog X.w) X.A (handleBy (.ref ea) X.env hs) (SP X pins D) X.xe s
def aeW(tb:(St->XK)->TS)(th:TH):TS:=λD σ H=>tb (λσ' cls od H'=>th cls od D σ' H') D σ H
theorem Yn{X:Cx}{body:List qaq}{h₀:ExceptHandler}{hs:List ExceptHandler}{pos:qcd}{tb:(St->XK)->TS}{th:TH}(F:Fm X)
  (hb:∀(E:St->XK) (pn:List (g_×qa0)) (xe:i_->p_->Prop),Lets (X.Eh pn xe) E->PassesOwn (model X.prog X.w) X.A X.env xe->IG (X.Eh pn xe) body (tb E)) (hh:PH X (h₀::hs) th) :
  PS X (.Try body (h₀::hs) [] [] pos) (aeW tb th):=by
 intro pins s σ H D I h;obtain⟨e0,r,L,hst,h0,hf⟩:=F;refine wpAny_Try_except ?_;generalize hxe:(λe s₁=>N_ (model X.prog X.w) X.A (noteFrame e X.env) (λ_ s₂=>N_ (model X.prog X.w) X.A (setFlight e none) (λ_ s₃=>N_ (model X.prog X.w) X.A (handleBy e X.env (h₀::hs)) (SP X pins D) X.xe s₃) X.xe s₂) X.xe s₁)=xe;have LX:Lets (X.Eh (X.pn++pins) xe) λσ' cls od H'=>th cls od D σ' H':=by
  intro ps σ' H' s' ea cls od J x q;show xe (.ref ea) s';subst hxe;have fr:=J.ok.frames;have sf:=J.stack;refine Ke (s:=s') (e0:=e0) (r:=r) (by rw[←hst];exact fr) (by rw[←hst];exact sf) h0 hf x (λb hb=>J.ZX hb) λh1 n1 x1=>?_;refine yW (fr:=frs (e0::r)) x1 λh2 n2 x2=>?_;have UW:=n1.trans n2;rw[←hst]at UW;have J2:=J.noted UW;exact hh pins _ σ' H' D ea cls od (J2.yk I.ok) (x2.to λb k=>k.yk) q
 have po:PassesOwn (model X.prog X.w) X.A X.env xe:=by
  subst hxe;exact PassesOwn.looking
 refine qaF (hb _ _ xe LX po [] s σ H D I.Eh h) (λf s1 q=>?_) λe s1 q=>?_
 ·cases f with
  |next =>
   obtain⟨σ',H',J,q⟩:=q;exact qcm ⟨σ',H',J.yk I.ok,q⟩
  |brk =>
   obtain⟨σ',H',J,q⟩:=q;exact⟨σ',H',J.yk I.ok,q⟩
  |cont =>
   obtain⟨σ',H',J,q⟩:=q;exact⟨σ',H',J.yk I.ok,q⟩
  |ret u =>
   obtain⟨v,σ',H',J,rv,q⟩:=q;exact⟨v,σ',H',J.yk I.ok,rv,q⟩
 ·have q':xe e s1:=q;subst hxe;exact q'
noncomputable abbrev Cx.within(X:Cx)(ea:g_):Cx:={ X with A:=X.A.mark (some (.ref ea)),calm:=false,xe:=λ_ _=>False }
theorem Cx.Ok.within{X:Cx}(ok:X.Ok)(ea:g_):(X.within ea).Ok :=
 ⟨ok.mod,ok.kind,ok.glob,ok.blt,ok.above,ok.inj,ok.has,ok.Ut,(λz=>nomatch z),ok.frames,ok.stk,ok.exf,ok.bs,ok.R0,ok.Mg,ok.O6,ok.yT,ok.Ug,ok.tk⟩
section
variable{X:Cx}{pins:List (g_×qa0)}{σ:St}{H:Hp}{s:p_}{ea:g_}
theorem Inv.within(I:Inv X pins σ H s)(ea:g_):Inv (X.within ea) pins σ H s:=⟨I.ok.within ea,I.os,I.bare,I.base,I.loc,I.cell,I.free,I.pP,I.pin,I.hok,I.len,I.up⟩
theorem Inv.behind(ok:X.Ok)(I:Inv (X.within ea) pins σ H s):Inv X pins σ H s:=⟨ok,I.os,I.bare,I.base,I.loc,I.cell,I.free,I.pP,I.pin,I.hok,I.len,I.up⟩
end
noncomputable def Sw(ea:g_)(cls:i_)(od:Option g_):HO:=.ext λh=>fD λvs sl=>h.get? ea=some ⟨cls,od,.fields vs,sl⟩
noncomputable def Ends.un(D:Ends)(i:Nat):Ends:={ nx:=λσ H=>D.nx (σ.set i none) H,rt:=D.rt,bk:=λσ H=>D.bk (σ.set i none) H,ct:=λσ H=>D.ct (σ.set i none) H }
theorem Inv.Qc{X:Cx}{pins:List (g_×qa0)}{σ:St}{H:Hp}{s:p_}{a:g_}{o:HO}(I:Inv X pins σ H s)(k:Ux X pins H a)(new:eN X.prog X.w (upd H a o) s.heap a o):Inv X pins σ (upd H a o) s:=by
 obtain⟨hn,k1,k2,k3,k4,k5⟩:=k;refine⟨I.ok,I.os,I.bare,⟨I.base.keep,I.base.slot,λb ob q n hx=>?_,I.base.there,λb xs q=>?_,λb ob u q=>?_,λb ps q=>?_⟩,I.loc,I.cell,?_,λx c e=>?_,λp hp=>?_,λb u q=>?_,I.len,I.up⟩
 ·have ne:b≠a:=λz=>by
   rcases k3 with y|y
   ·rw[←z,q]at y;cases y
   ·exact hx (z▸y)
  rw[aH ne];exact I.base.free b ob q n hx
 ·have q':=I.base.tups b xs q;rw[aH (b9 q' hn)];exact q'
 ·have q':=I.base.yV b ob u q;rw[aH (b9 q' hn)];exact q'
 ·obtain⟨more,q'⟩:=I.base.zo b ps q;exact⟨more,by rw[aH (b9 q' hn)];exact q'⟩
 ·rw[aH (Ne.symm k1)];exact I.free
 ·rw[aH (k4 x c e)];exact I.pP x c e
 ·obtain⟨e,n,r⟩:=I.pin p hp;exact⟨e,by rw[aH (k5 p hp)];exact n,r⟩
 ·by_cases hb:b=a
  ·subst hb;rw[ai]at q;cases q;exact new
  ·rw[aH hb]at q;exact(I.hok b u q).stay (λc v _ r=>r) (λc r=>by rw[aH (b9 r hn)];exact r) λc xs r=>by rw[aH (b9 r hn)];exact r
structure XB(K:PySem.W.Frag)(D:g_):Prop where
 hd:PySem.W.hasDictIn K D=true
 ty:PySem.W.typeIn K (.ref D)=some (.type "type")
 be:PySem.W.mroIn K D (.type "BaseException")=some true
theorem O7{M:qcH}{A:qam}{E:i_->p_->Prop}{s:p_}{K:PySem.W.Frag}{Q:Bool->p_->Prop}{ea C D:g_}{o:qa0}{b:Bool}(k:K.In s.heap)(he:s.heap.get? ea=some o)(hc:o.cls= .ref C)
  (h0:PySem.W.subIn K (.ref C) (.ref D)=some b) (h2:XB K D) (q:Q b s):N_ M A (excMatches (.ref ea) (.ref D)) Q E s:=by
 have h1:PySem.W.kitCls K (.ref C) (.ref D)=some b:=by
  obtain⟨cd,hcd,_⟩:=PySem.W.any_some h2.hd
  show(if((PySem.W.clsIn K D).isSome&&PySem.W.typeIn K (.ref D)==some (.type "type"))=true then PySem.W.subIn K (.ref C) (.ref D)else none)=some b
  rw[if_pos (by rw[hcd,h2.ty];simp)];exact h0
 obtain⟨lt,li,ls⟩:=PySem.W.kit_cls (M:=M) k h1;have lb:=PySem.W.looks_mroIn (M:=M) k h2.be;have le:PySem.W.Looks M s.heap (typeOf (.ref ea)) (.ref C):=by
  intro A' Q' E' s' kk qq;unfold typeOf;exact h_ (qct (kk _ _ he) (t_ (by rw[hc];exact qq)))
 have l0:PySem.W.Looks M s.heap (isInstance (.ref D) (.type "tuple")) false:=lt.andThen (PySem.W.Looks.of_pure tc_notTuple);have l1:PySem.W.Looks M s.heap (isExcClass (.ref D)) true:=by
  unfold isExcClass;exact li.andThen lb
 unfold excMatches;refine h_ (l0.here (h_ ?_));simp only[qbY,if_false];refine t_ ?_;rw[qco];refine h_ (h_ (h_ (l1.here ?_)));simp only[Bool.not_true,qbY,if_false];refine t_ (t_ ?_);refine h_ (le.here (h_ ?_));rw[qco];refine h_ (h_ (ls.here ?_))
 cases b with
 |true =>
  simp only[if_true];exact t_ (t_ (t_ q))
 |false =>
  simp only[qbY,if_false];exact t_ (t_ (t_ q))
theorem name_goes{X:Cx}{pins:List (g_×qa0)}{σ:St}{H:Hp}{s:p_}{M:qcH}{A:qam}{E:i_->p_->Prop}{Q:Unit->p_->Prop}{i:Nat}{n:r_}{pos:qcd}(I:Inv X pins σ H s)(hN:X.N.Nodup)(hi:X.N[i]? =some n)(hl:X.env.scope.names.lookup n=some .local)
  (h:∀s',Inv X pins (σ.set i none) H s'->Q () s'):N_ M A (do bindName X.env n .none;unbindBehindTheSuite X.env n pos) Q E s:=by
 obtain⟨m,hn,hlk⟩:=I.loc;refine wpAny_nameGoes_keeps hl hn (by rw[I.ok.kind];rfl) λh' v hn' sb=>h _ ?_;have cellK:∀x c,X.env.cells.lookup x=some c->∀v,s.heap.IsCell c v->h'.IsCell c v:=λx c e v ⟨o,ho,hd⟩=>⟨o,(sb.2 c (I.Va x c e)).trans ho,hd⟩;refine⟨I.ok,I.os,I.bare,I.base.same λb o e=>sb.2 b (Y_ (K_ (J_ e) I.ok.above)),⟨_,hn',λj y u e1 e2 e3=>?_⟩,λx c e=>?_,I.free,I.pP,λp hp=>?_,I.hok.but I.free sb,by rw[qbh];exact I.len,Nat.le_succ_of_le I.up⟩
 ·have ji:i≠j:=λz=>by
   subst z;rw[qa1 (by rw[I.len];exact(q_.mp hi).1)]at e2;cases e2
  rw[qaX ji]at e2;obtain⟨w,rv,l⟩:=hlk j y u e1 e2 e3;refine⟨w,rv,?_⟩;rcases l with⟨k1,k2⟩|⟨k,c,e,z⟩
  ·refine .inl ⟨k1,?_⟩;have ne:y≠n:=λz=>ji (DN hN hi (z▸e1))
   show(if y=n then v else m y)=some w
   rw[if_neg ne];exact k2
  ·exact .inr ⟨k,c,e,cellK y c e _ z⟩
 ·obtain⟨v,z⟩:=I.cell x c e;exact⟨v,cellK x c e v z⟩
 ·obtain⟨e,hh,ne,r⟩:=I.pin p hp;exact⟨(sb.2 _ ne).trans e,hh,ne,r⟩
def tAs(K:PySem.W.Frag)(C:g_)(i:Nat)(ts:TS)(th:TH):TH:=λcls od D σ H=>fD λCe b=>cls= .ref Ce/\PySem.W.subIn K (.ref Ce) (.ref C)=some b ∧
 if b=true then ∀ea,H ea=none->ts (D.un i) (σ.set i (some (.ref ea))) (upd H ea (Sw ea cls od))else th cls od D σ H
theorem aaq{X:Cx}{i:Nat}{n x:r_}{C:g_}{b₀:qaq}{suite:List qaq}{np pos:qcd}{rest:List ExceptHandler}{ts:TS}{th:TH}(hN:X.N.Nodup)(hi:X.N[i]? =some n)(hl:X.env.scope.names.lookup n=some .local)(hg:Gl X x)(hm:X.mg x=some (.ref C))
  (O2:XB X.K C) (hsu:∀ea,IG (X.within ea) (b₀::suite) ts) (hr:PH X rest th) (hdb:(x==("__debug__" :r_))=false:=by decide) :
  PH X (.ExceptHandler (some (.Name x np)) (some n) (b₀::suite) pos::rest) (tAs X.K C i ts th):=by
 intro pins s σ H D ea cls od I x h;obtain⟨Ce,b,rfl,hk,h⟩:=h;obtain⟨pe,vs,sl,he,hT⟩:=id x;refine wpAny_handleBy_cons (codeAny_handlers_test (qK (X:=X.within ea) (I.within ea) hg hm ?_ hdb)) (by intro q;cases q);refine O7 I.tu he Y hk O2 ?_
 cases b with
 |false=>exact hr pins s σ H D ea _ od I x h
 |true =>
  refine codeAny_handlers_suite_as ?_;refine yW (fr:=frs X.stack) x λh1 n1 x1=>?_;have I1:=I.noted n1;obtain⟨pe1,vs1,sl1,he1,_⟩:=id x1;have I2:Inv X pins σ (upd H ea (Sw ea (.ref Ce) od)) { s with heap:=h1 }:=I1.Qc pe1 ⟨⟨vs1,sl1,he1⟩,⟨_,he1⟩,λh1 h2 ⟨v,s',e⟩ k=>⟨v,s',k _ e⟩⟩;refine C0 (X:=X.within ea) (I2.within ea) hN hi (.inl hl) (v:=.ref ea) Y (λs2 I3=>?_) (.inr hl);have z:=hsu ea pins s2 _ _ (D.un i) I3 (h ea pe1.1);refine qaF z (λf s3 q=>?_) λ_ _ z=>qaz z
  cases f with
  |next =>
   obtain⟨σ',H',J,q⟩:=q;exact name_goes (J.behind I.ok) hN hi hl λs4 J4=>⟨_,_,J4,q⟩
  |brk =>
   obtain⟨σ',H',J,q⟩:=q;exact name_goes (J.behind I.ok) hN hi hl λs4 J4=>⟨_,_,J4,q⟩
  |cont =>
   obtain⟨σ',H',J,q⟩:=q;exact name_goes (J.behind I.ok) hN hi hl λs4 J4=>⟨_,_,J4,q⟩
  |ret u =>
   obtain⟨v,σ',H',J,rv,q⟩:=q;exact name_goes (J.behind I.ok) hN hi hl λs4 J4=>⟨v,_,_,J4,rv,q⟩
theorem Yq{X:Cx}:PH X [] λ_ _ _ _ _=>False:=λ_ _ _ _ _ _ _ _ _ _ h=>qaz h
def X7(sp:Sp)(Bo:List V)(E:St->XK)(t:TA):TE:=λσ H Q=>t σ H λvs H1=>sp (vs++Bo) H1 Q (E σ)
def X4(C:g_)(sp:Sp)(Bo:List V)(E:St->XK)(t:TA):TE:=λσ H Q=>t σ H λvs H1=>∀x dx,H1 x=none->H1 dx=none->dx≠x →
 sp (.ref x::(vs++Bo)) (upd (upd H1 dx (.own x)) x (.ins C dx [])) (λv H2=>v= .lV/\Q (.ref x) H2) (E σ)
section
variable{X:Cx}{k:Nat}{f C:g_}{fd:B_}{ps:List r_}{sp:Sp}{Bo:List V}{ds:List i_}{E:St->XK}{x:r_}{p pos:qcd}{e:Expr}{es:List Expr}{t:TA}
theorem QO(F:aI X.prog X.w X.K X.mg X.base (sZ X.prog X.w) k f fd ps sp)(hr:pW k X.A)(hg:Gl X x)(hm:X.mg x=some (.ref f))(hk:PySem.W.keepIn X.K (.ref f)=true)(hb:Binds X.K fd ps ds)(hd:Vals Bo ds)(LX:Lets X E)
  (ha:PA X (e::es) t) (hdb:(x==("__debug__" :r_))=false:=by decide) (he:Z_ (e::es) X.env=(false,eval e X.env)::Z_ es X.env:=by rfl) (hpl:(backTo pos (Z_ es X.env)).any (·.1)=false:=by rfl) :
  PE X (.Call (.Name x p) (e::es) [] pos) (X7 sp Bo E t):=by
 intro pins s σ H Q I h;refine qa7 (qK I hg hm ?_ hdb);refine PySem.W.callWith_K (h₀:=X.base) I.ok.mod.TN hk (iB (ha pos pins s σ H _ I h) λus s1 ⟨vs,H1,I1,r,q⟩=>⟨I1.tu,?_⟩) he hpl;have r2:Vals (vs++Bo) (us++ds):=r.append hd;have hl:(us++ds).length=ps.length:=by rw[←r2.length];exact F.len _ _ _ _ q
 refine qbE (qbm (F.run X.A X.stack s1 H1 ⟨us,[]⟩ (us++ds) (vs++Bo) Q (E σ) hr I1.RJ (hb s1 us I1.tu hl) r2 q) λrr s' hq=>?_)
 cases rr with
 |error e=>exact LX.pass I1 hq
 |ok fl =>
  cases fl with
  |ret u=>exact I1.after hq
  |next=>exact qaz hq
  |brk=>exact qaz hq
  |cont=>exact qaz hq
theorem QK(M:Mk X.K C f)(F:aI X.prog X.w X.K X.mg X.base (sZ X.prog X.w) k f fd ps sp)(hr:pW (k+1) X.A)(hg:Gl X x)(hm:X.mg x=some (.ref C))(hb:Binds X.K fd ps ds)(hd:Vals Bo ds)(LX:Lets X E)
  (ha:PA X (e::es) t) (hdb:(x==("__debug__" :r_))=false:=by decide) (he:Z_ (e::es) X.env=(false,eval e X.env)::Z_ es X.env:=by rfl) (hpl:(backTo pos (Z_ es X.env)).any (·.1)=false:=by rfl) :
  PE X (.Call (.Name x p) (e::es) [] pos) (X4 C sp Bo E t):=by
 intro pins s σ H Q I h;refine qa7 (qK I hg hm ?_ hdb);refine PySem.W.callWith_K (h₀:=X.base) I.ok.mod.TN M.kp (iB (ha pos pins s σ H _ I h) λus s1 ⟨vs,H1,I1,r,q⟩=>⟨I1.tu,?_⟩) he hpl;have hq:=q (s1.heap.objs.size+1) s1.heap.objs.size (I1.hok.fresh (qaw _)) (I1.hok.fresh (j_ _)) (Y_ (qbo _));have I2:=Inv.made (C:=C) I1;have r2:Vals (V.ref (s1.heap.objs.size+1)::(vs++Bo)) (Value.ref (s1.heap.objs.size+1)::(us++ds)):=.cons rfl (r.append hd);have hl:(Value.ref (s1.heap.objs.size+1)::us++ds).length=ps.length:=by
  have z:=r2.length;rw[F.len _ _ _ _ hq]at z;exact z.symm
 refine qbE (Kn (f:=f) I1.tu M.makes M.init (beq_iff_eq.mp M.fn) (qbm (F.run _ X.stack _ _ ⟨Value.ref (s1.heap.objs.size+1)::us,[]⟩ (Value.ref (s1.heap.objs.size+1)::(us++ds)) _ _ (E σ) (hr.make C us [])
  (I2.RJ.make C us []) (hb _ (Value.ref (s1.heap.objs.size+1)::us) I2.tu hl) r2 hq) λrr s' hq'=>?_))
 cases rr with
 |error e=>exact LX.pass I2 hq'
 |ok fl =>
  cases fl with
  |ret u =>
   obtain⟨v,H',I3,rv,ev,q3⟩:=I2.after hq';subst ev;exact⟨rv,⟨V.ref (s1.heap.objs.size+1),H',I3,Y,q3⟩⟩
  |next=>exact qaz hq'
  |brk=>exact qaz hq'
  |cont=>exact qaz hq'
end
end
section
end
section
section
variable{X:Cx}
noncomputable abbrev TJ:=St->Hp->r_->(r_->Hp->Prop)->Prop
def PJ(X:Cx)(es:List Expr)(tj:TJ):Prop:=∀(pins:List (g_×qa0)) (s:p_) (σ:St) (H:Hp) (acc:r_) (R:r_->Hp->Prop),Inv X pins σ H s->tj σ H acc R →
 Joins (model X.prog X.w) X.A X.xe (evalEach es X.env) acc (λout s1=>out.length<=z_/\∃H1,Inv X pins σ H1 s1/\R out H1) s
theorem Yo:PJ X [] (λ_ H acc R=>acc.length<=z_/\R acc H):=λ_ _ _ H _ _ I h=>⟨h.1,H,I,h.2⟩
theorem CG{e:Expr}{es:List Expr}{te:TE}{tj:TJ}(he:PE X e te)(hr:PJ X es tj)(hx:evalEach (e::es) X.env=eval e X.env::evalEach es X.env:=by rfl):
  PJ X (e::es) (λσ H acc R=>te σ H λv H1=>∃y,v= .str y/\(acc++y).length<=z_/\tj σ H1 (acc++y) R):=by
 intro pins s σ H acc R I h;rw[hx];refine iB (he pins s σ H _ I h) λu s1 ⟨v,H1,I1,r,y,e1,hl,q⟩=>?_;subst e1;obtain⟨t,rfl⟩:=r;exact⟨y,t,Y,hl,hr pins s1 σ H1 _ R I1 q⟩
theorem Gj{M:qcH}{A:qam}{E:i_->p_->Prop}:∀{parts:List (Sem i_)} {acc:r_} {Q Q':r_->p_->Prop} {s:p_},Joins M A E parts acc Q s->(∀out s1,Q out s1->Q' out s1)->Joins M A E parts acc Q' s
 |[],_,_,_,_,h,k=>k _ _ h
 |_::_,_,_,_,_,h,k=>iB h λ_ _ ⟨y,t,e,hl,q⟩=>⟨y,t,e,hl,Gj q k⟩
theorem S6{v₁ v₂:Expr}{rest:List Expr}{pos:qcd}{tj:TJ}(h:PJ X (v₁::v₂::rest) tj):PE X (.JoinedStr (v₁::v₂::rest) pos) (λσ H Q=>tj σ H qcF λout H1=>Q (.str out) H1):=by
 intro pins s σ H Q I q;refine wpAny_JoinedStr (Gj (h pins s σ H qcF _ I q) λout s1 ⟨hl,H1,I1,q1⟩=>⟨hl,.str out,H1,I1.tok _,⟨_,Y⟩,q1⟩)
theorem QL{value:Expr}{pos:qcd}{te:TE}(he:PE X value te):PE X (.FormattedValue value (-1) none pos) (λσ H Q=>te σ H λv H1=>∃i:Int,v= .int i/\i.natAbs.log2<1920/\Q (.str (w_ (toString i))) H1):=by
 intro pins s σ H Q I h;refine wpAny_FormattedValue_plain (iB (he pins s σ H _ I h) λu s1 ⟨v,H1,I1,r,i,e,hl,q⟩=>?_);subst e;obtain⟨t,rfl⟩:=r;exact wpAny_formatField_int hl ⟨.str (w_ (toString i)),H1,I1.tok _ (by show s1.toks<=_;omega),⟨_,Y⟩,q⟩
end
structure Sx(K:PySem.W.Frag)(C:g_):Prop where
 ga:PySem.W.findIn K (.ref C) "__getattribute__" =some (some (.builtin "BaseException.__getattribute__"))
 gn:PySem.W.findIn K (.ref C) "__getattr__" =some none
 hd:PySem.W.hasDictIn K C=true
 ha:PySem.W.findIn K (.ref C) "__class__" =some (some (.builtin "object.__class__"))
 hn:PySem.W.specialIn K (.builtin "object.__class__") "__get__" =some (some (.builtin "getset_descriptor.__get__"))
 htk:PySem.W.takesIn K (.builtin "object.__class__")=some true
 hm:PySem.W.mroIn K C (.type "object")=some true
 hb:PySem.W.mroIn K C (.type "BaseException")=some true
theorem O8{prog:I_}{w:W_}{A:qam}{E:i_->p_->Prop}{s:p_}{K:PySem.W.Frag}{x C:g_}{ox:qa0}{od:Option qa0}{Q:Option i_->p_->Prop}(Z:Sx K C)(k:K.In s.heap)(I:PySem.W.InstAt s.heap x ox C od)
  (h:Q (some (.ref C)) { s with toks:=s.toks+1 }):N_ (model prog w) A (getAttr? (.ref x) "__class__") Q E s:=by
 obtain⟨hh,g,d,t,os⟩:=s;have L0:=I.type (M:=model prog w);have L1:=PySem.W.looks_findIn (M:=model prog w) k Z.ga;have L2:=PySem.W.looks_findIn (M:=model prog w) k Z.gn;have LB:=PySem.W.looks_mroIn (M:=model prog w) k Z.hb;have hf:PySem.W.findObj K C od "__class__" =some (.bind (.builtin "getset_descriptor.__get__") (.builtin "object.__class__")):=by
  obtain⟨cd,hc,_⟩:=PySem.W.any_some Z.hd;unfold PySem.W.findObj;rw[hc,qbQ,Z.ha,qbQ];simp[Z.hn,Z.htk]
 have LF:=PySem.W.looks_find (M:=model prog w) k I hf;unfold getAttr? getAttrBy? getAttrBy;refine h_ (wpAny_mkText (h_ (qcj (qaU (h_ (L0.at (h_ (L1.at ?_))))))));show N_ _ _ (getAttrByItsOwn _ _ _ _ _ _) _ _ _;unfold getAttrByItsOwn hookBefore;refine h_ (L2.at ?_);refine h_ (qcj (qaU ?_));show N_ _ _ (boundAndCalled _ _ _) _ _ _;unfold boundAndCalled;refine h_ (wpAny_of_eq (PySem.F.attr_ValueError.ga.bind (.ref x)) ?_);show N_ _ _ (call (.builtin "BaseException.__getattribute__") [.ref x,.str "__class__" t]) _ _ _;refine qbE (qbD PySem.F.attr_ValueError.ga.plain PySem.F.entry_bexc_ga ?_);have c1:builtinKind "BaseException.__getattribute__" =some .slot:=by decide +kernel
 have c2:splitId "BaseException.__getattribute__" =some ("BaseException","__getattribute__"):=by decide +kernel
 have c3:=PySem.F.args_bexc_ga (.ref x) (.str "__class__" t);simp only[checkBuiltinCall,c1,c2];refine h_ (h_ (L0.at (LB.at ?_)));simp only[Bool.not_true,qbY,if_false];unfold argsOk at c3;refine wpAny_of_eq c3 ?_;unfold Builtin.«object.__getattribute__»;refine h_ (t_ (h_ (t_ (h_ (L0.at (h_ (LF.at ?_)))))));show N_ _ _ (holding [.builtin "object.__class__"] (call (.builtin "getset_descriptor.__get__") [.builtin "object.__class__",.ref x,.ref C]) >>= ret) _ _ _;refine h_ (qaU (qbE (PySem.W.class_get (ox:=ox) (od:=od) k I Z.hm ?_)));refine t_ ?_;show N_ _ _ (handedOut (.ref C)) _ _ _;exact PySem.W.handed_on Y (t_ h)
end
section
theorem zQ{K:PySem.W.Frag}{x C:g_}{ox:qa0}{od:Option qa0}(Z:Sx K C):PySem.W.KitX K (.ref x) (.ref C) (λh=>PySem.W.InstAt h x ox C od) where
 ty:=λ_ _ _ I=>I.type
 it:=λ_ _ k _=>by
  obtain⟨cd,hcd,_⟩:=PySem.W.any_some Z.hd;unfold PySem.W.clsIn at hcd;split at hcd
  ·rename_i c1 d1 cd1 sl1 hob
   intro A1 Q1 E1 s1 kk q;unfold isType loadHead;exact h_ (qct (kk _ _ (k _ _ hob)) (t_ q))
  ·cases hcd
 ne:=λh tp dd its n sl k htp=>by
  obtain⟨cd,hcd,_⟩:=PySem.W.any_some Z.hd;refine qb6.mpr λq=>?_;have e:=Value.ref.inj (beq_iff_eq.mp q);subst e;unfold PySem.W.clsIn at hcd;split at hcd
  ·rename_i c1 d1 cd1 sl1 hob
   have z:=(k _ _ hob).symm.trans htp;cases z
  ·cases hcd
 ca:=λk I q=>O8 Z k I q
end
end L2
namespace GP
open PySem L2 pR
end GP
namespace L2
open PySem PySem.Spec PyProof.Rows
theorem AH{X:Cx}:SlR X (λx lo hi H Q=>∃y,x= .str y/\y.length<=z_/\Q (.str (Txt.slice y lo hi)) H):=by
 intro pins s σ H x v vl vu lo hi sl Q I rx hs pl pu h;obtain⟨y,rfl,hz,q⟩:=h;obtain⟨t,rfl⟩:=rx;refine⟨"str",_,PySem.F.slot_str_getitem.lookup,typeIs_str _ _ _,?_⟩;have fin:(Txt.slice y lo hi).length<=z_/\∀t' k,s.toks<=k->EP X pins σ Q (.str (Txt.slice y lo hi) t') { s with toks:=k }:=⟨m_ (Txt.slice_le y _ _) hz,λt' k hk=>⟨.str (Txt.slice y lo hi),H,I.tok k hk,⟨_,rfl⟩,q⟩⟩;refine TK.dD (j_ s.toks) ?_
 cases pl with
 |none =>
  cases pu with
  |none=>exact qbR (l:=none) (u:=none) (st:=none) hs Y (post_val_or_str fin)
  |int j u=>exact qbR (l:=none) (u:=some (j,u)) (st:=none) hs Y (post_val_or_str fin)
 |int i u =>
  cases pu with
  |none=>exact qbR (l:=some (i,u)) (u:=none) (st:=none) hs Y (post_val_or_str fin)
  |int j u'=>exact qbR (l:=some (i,u)) (u:=some (j,u')) (st:=none) hs Y (post_val_or_str fin)
end L2
namespace GP
open PySem L2 pR
theorem RP{xs:List V}{n:Nat}(h:n<=xs.length):vX xs none (some (n:Int))=xs.take n:=by
 unfold vX;rw[HT.wz,HT.se,qbS,Nat.sub_zero,qbA h]
theorem KP{xs:List V}{n:Nat}(h:n<=xs.length):vX xs (some (n:Int)) none=xs.drop n:=by
 unfold vX;rw[HT.wz,HT.se,qbA h,qaa];rw[qa8];exact j_ _
end GP
namespace L2
open PySem PySem.Spec PyProof.Rows
section
section
variable{prog:I_}{w:W_}{A:qam}{E:i_->p_->Prop}{h:qad}{gs:Array GenState}{dr:Drawn}{tk:Nat}{os:OsState}
variable{nm qn:r_}{C N:g_}{bs tl bmB bmN:List i_}{hdct:Bool}{sn:List r_}{sub:List i_}{ab:Bool}{col:Option Bool}{dd:Option g_}{k0 k1 k2 k3 k5:Option i_}{B Bn newId nid initId inN:String}
theorem CW{mN:r_->Option i_}{rest:List i_}{fI:g_}{oI:qa0}{Q:Fin->p_->Prop}(Fn:qcy Bn newId inN bmN)(hBn:bmB.contains (.type Bn)=true)(FB:qcy B nid initId bmB)(T:OwnTail h bmB tl)
  (hob:h.get? C=some (excClassObj nm qn C N bs tl hdct sn sub ab col dd k0 k1 k2 k3 k5 newId)) (hns:h.Ns N mN) (YY:mN "__init__" =some (.ref fI)) (hfo:h.get? fI=some oI) (hfc:oI.cls= .type "function")
  (hq:∀h' e,Heap.MadeExcOf h h' e (.ref C) rest->N_ (model prog w) A (call (.ref fI) (.ref e::rest)) (λr s'=>r= .none/\Q (.done (.ret (.ref e))) s') E ⟨h',gs,dr,tk,os⟩) (hz:rest.length<=z_) :
  N_ (model prog w) A (Builtin.«type.__call__» ⟨.ref C::rest,[]⟩) Q E ⟨h,gs,dr,tk,os⟩:=by
 repeat (first|with_reducible refine qb7 hob ?_|with_reducible refine wpAny_madeBy_exc hob ?_|wp_step)
 refine codeAny_call_builtin_code (Code.quiet_builtin _ Fn.quiet) (wpAny_check_new_subU Fn hBn T hob ?_);refine codeAny_exc_new_subU Fn hBn FB T hob ?_ hz;show N_ _ _ _ _ _ _;have kp:∀b o,h.get? b=some o->((h.push { cls:=.type "tuple",data:=.seq rest.toArray }).push { cls:=.ref C,data:=.fields #[.ref h.objs.size,.none,.none,.none,.bool false,.none] }).get? b=some o:=λb o e=>k_ _ (k_ _ e);have abo:=kp _ _ hob;have agk:=kp _ _ hfo;have agb:=hns.keeps kp;have T1:=T.keeps kp;have U4:((h.push { cls:=.type "tuple",data:=.seq rest.toArray }).push { cls:=.ref C,data:=.fields #[.ref h.objs.size,.none,.none,.none,.bool false,.none] }).get? (h.objs.size+1)=some { cls:=.ref C,data:=.fields #[.ref h.objs.size,.none,.none,.none,.bool false,.none] }:=by heap_get
 have hself:(Value.ref C::tl).contains (.ref C)=true:=by simp
 unfold isInstance
 repeat (first|with_reducible refine qb7 U4 ?_|(with_reducible refine wpAny_isSubtype_exc abo ?_;rw[hself])|wp_step)
 show N_ _ _ (typeLookup (.ref C) _) _ _ _;refine wpAny_typeLookup_tail abo agb T1 FB.mroIs FB.init.lookup ?_;rw[YY];refine qaU (h_ ?_);unfold bindSpecial;refine h_ (wpAny_typeOf (T:= "function") ⟨_,agk,hfc⟩ ?_);rw[if_pos (by decide)];have made:Heap.MadeExcOf h ((h.push { cls:=.type "tuple",data:=.seq rest.toArray }).push { cls:=.ref C,data:=.fields #[.ref h.objs.size,.none,.none,.none,.bool false,.none] }) (h.objs.size+1) (.ref C) rest :=
  ⟨kp,qb8 (qaw _),h.objs.size,U4,qb8 (j_ _),k_ _ (Heap.get?_push_at rfl rfl)⟩
 refine t_ (h_ (qaF (hq _ _ made) (λr s' hr=>?_) λ_ _ x=>x));obtain⟨rfl,hQ⟩:=hr
 wp_walk
 exact hQ
theorem Ph{mN:r_->Option i_}{rest:List i_}{fI:g_}{oI:qa0}{Q:i_->p_->Prop}(Fn:qcy Bn newId inN bmN)(hBn:bmB.contains (.type Bn)=true)(FB:qcy B nid initId bmB)(T:OwnTail h bmB tl)
  (hob:h.get? C=some (excClassObj nm qn C N bs tl hdct sn sub ab col dd k0 k1 k2 k3 k5 newId)) (hns:h.Ns N mN) (YY:mN "__init__" =some (.ref fI)) (hfo:h.get? fI=some oI) (hfc:oI.cls= .type "function")
  (hq:∀h' e,Heap.MadeExcOf h h' e (.ref C) rest->N_ (model prog w) (A.under (.builtin "type.__call__" ⟨.ref C::rest,[]⟩)) (call (.ref fI) (.ref e::rest)) (λr s'=>r= .none/\Q (.ref e) s') E ⟨h',gs,dr,tk,os⟩) (hz:rest.length<=z_) :
  N_ (model prog w) A (call (.ref C) rest) Q E ⟨h,gs,dr,tk,os⟩:=by
 have l1:=tc_lookup;have l2:=tc_bind (.ref C);have hTy:(⟨h,gs,dr,tk,os⟩:p_).TypeIs (.ref C) "type" :=⟨_,hob,rfl⟩;refine qbE (codeAny_of_tree ?_);show N_ _ _ (callAny (.ref C) _) _ _ _
 repeat (any_goals (first|assumption|with_reducible refine qb7 hob ?_|wp_step))
 refine⟨Y,codeAny_call_builtin_at (Code.quiet_builtin _ (by decide +kernel)) entry_typeCall (wpAny_check_type_call_sub hob (CW Fn hBn FB T hob hns YY hfo hfc (λh' e hm=>?_) hz))⟩;exact hq h' e hm
end
end
section
noncomputable def newX(e C:g_)(od:Option g_):HO:=.ext λh=>fD λvs sl=>h.get? e=some ⟨.ref C,od,.fields vs,sl⟩/\vs[1]? =some .none/\vs[2]? =some .none/\4<vs.size
noncomputable def CN(dx:g_)(fs:List (r_×V)):HO:=.ext λh=>∃mA,h.Ns1 dx mA/\(∀f,vD (fs.lookup f) (mA f))/\PySem.Within mA (fs.map (·.1))
section
variable{P:I_}{w:W_}{H:Hp}{h:qad}
theorem HD{e C:g_}{od:Option g_}{vs:Array i_}{sl:Array (Option i_)}(he:h.get? e=some ⟨.ref C,od,.fields vs,sl⟩)(h1:vs[1]? =some .none/\vs[2]? =some .none/\4<vs.size):eN P w H h e (newX e C od) :=
 ⟨⟨vs,sl,he,h1⟩,⟨_,he⟩,λ_ _ ⟨v,s,e,z⟩ k=>⟨v,s,k _ e,z⟩⟩
theorem Lr{dx:g_}{fs:List (r_×V)}{mA:r_->Option i_}(n:h.Ns1 dx mA)(r:∀f,vD (fs.lookup f) (mA f))(wi:PySem.Within mA (fs.map (·.1))):eN P w H h dx (CN dx fs) :=
 ⟨⟨mA,n,r,wi⟩,(let ⟨o,_,_,e,_⟩:=n;⟨o,e⟩),λ_ _ ⟨m,n,r,wi⟩ k=>⟨m,n.at k,r,wi⟩⟩
end
noncomputable def del(H:Hp)(e:g_):Hp:=λb=>if b=e then none else H b
theorem wZ{H:Hp}{e b:g_}(h:b≠e):del H e b=H b:=by unfold del;rw[if_neg h]
theorem KO{H:Hp}{e:g_}:del H e e=none:=by unfold del;rw[if_pos rfl]
theorem z9{H:Hp}{e b:g_}(h:H b=none):del H e b=none:=by unfold del;split<;>first|rfl|exact h
theorem Vk{H:Hp}{a:g_}{o:HO}(h:H a=some o):upd H a o=H:=by
 funext b;unfold upd;split
 ·rename_i z;rw[z,h]
 ·rfl
section
variable{X:Cx}{pins:List (g_×qa0)}{σ:St}{H:Hp}{s:p_}
theorem Inv.drop{e:g_}{φ:qad->Prop}(I:Inv X pins σ H s)(he:H e=some (.ext φ)):Inv X pins σ (del H e) s:=by
 have ne:∀{b:g_} {o:HO},H b=some o->(∀ ψ,o≠ .ext ψ)->b≠e:=λ{b o} hb n z=>by
  subst z;rw[he]at hb;exact n _ (V_ hb).symm
 refine⟨I.ok,I.os,I.bare,⟨I.base.keep,I.base.slot,λb ob q n hx=>z9 (I.base.free b ob q n hx),I.base.there,λb xs q=>?_,λb ob u q=>?_,λb ps q=>?_⟩,I.loc,I.cell,z9 I.free,λx c q=>z9 (I.pP x c q),λp hp=>?_,λb u q=>?_,I.len,I.up⟩
 ·have q':=I.base.tups b xs q;rw[wZ (ne q' λψ z=>by cases z)];exact q'
 ·have q':=I.base.yV b ob u q;rw[wZ (ne q' λψ z=>by cases z)];exact q'
 ·obtain⟨more,q'⟩:=I.base.zo b ps q;exact⟨more,by rw[wZ (ne q' λψ z=>by cases z)];exact q'⟩
 ·obtain⟨a,n,r⟩:=I.pin p hp;exact⟨a,z9 n,r⟩
 ·have hb:b≠e:=λz=>by rw[z,KO]at q;cases q
  rw[wZ hb]at q;exact(I.hok b u q).stay (λc v _ r=>r) (λc r=>by rw[wZ (ne r λψ z=>by cases z)];exact r) λc xs r=>by rw[wZ (ne r λψ z=>by cases z)];exact r
end
section
variable{M:qcH}{A:qam}{E:i_->p_->Prop}{env:Env}
variable{nm q:r_}{C N:g_}{bs bm:List i_}{hdct:Bool}{sn:List r_}{sub:List i_}{ab:Bool}{col:Option Bool}{dd:Option g_}{k0 k1 k2 k3 k5:Option i_}{newId:String}
theorem LU {s:p_}{x:Sem i_}{Q:Flow->p_->Prop}(hbase:bm.contains (.type "BaseException")=true)(hh:A.handled=none)
  (h:N_ M A x (λv s₁=>yj λe od vs sl=>v= .ref e/\s₁.heap.get? C=some (excClassObj nm q C N bs bm hdct sn sub ab col dd k0 k1 k2 k3 k5 newId) ∧
   s₁.heap.get? e=some ⟨.ref C,od,.fields vs,sl⟩/\vs[1]? =some .none/\E (.ref e) s₁) E s):N_ M A (raiseStmt env (some x) none) Q E s:=by
 have hcB:(Value.ref C::bm).contains (.type "BaseException")=true:=by rw[List.contains_cons,hbase,Bool.or_true]
 unfold raiseStmt;refine h_ (qaF h (λv s₁ h₁=>?_) λ_ _ x=>x);obtain⟨e,od,vs,sl,rfl,hC,he,hv,hE⟩:=h₁;obtain⟨hp,g,d,tk,os⟩:=s₁
 repeat (first|with_reducible refine qb7 he ?_|with_reducible refine qb7 hC ?_|(with_reducible refine wpAny_isSubtype_exc hC ?_;rw[hcB])|wp_step)
 rw[hv];refine t_ ?_;rw[if_neg (by decide)];exact t_ (wpAny_raiseNew_none hh hE)
end
noncomputable def PZ:List i_:=[.type "ValueError",.type "Exception",.type "BaseException",.type "object"]
structure N3(K:PySem.W.Frag)(C fI:g_):Prop where
 obj:∀h:qad,K.In h->∃d:XP,h.get? C=some (d.obj C "ValueError.__new__")/\h.Ns d.N d.mN/\d.mN "__init__" =some (.ref fI)/\OwnTail h PZ d.bm
noncomputable def MF(K:PySem.W.Frag)(C fI:g_):Bool:=match K.lookup C with
 |some ⟨.type "type",_,.cls cd,sl⟩=>(match cd.mro,sl.toList with
  | .ref C'::bm,[_,_,_,_,some (.builtin n),_]=>C'==C&&n== "ValueError.__new__" && !cd.hasDel&&PySem.W.tailIn K PZ bm&&PySem.W.nsOkIn K cd.ns&&PySem.W.nsIn K cd.ns "__init__" ==some (some (.ref fI))
  |_,_=>false)
 |_=>false
theorem Mf{K:PySem.W.Frag}{h:qad}{N:g_}{mg:r_->Option i_}{n:r_}{v:i_}(X:K.In h)(G:h.Ns N mg)(e:PySem.W.nsIn K N n=some (some v)):mg n=some v:=by
 obtain⟨o,es,ep,ho,hd,_,hf⟩:=G;unfold PySem.W.nsIn at e;split at e
 ·rename_i c d es' n' sl q
  have:=X _ _ q;rw[ho]at this;cases this;cases hd;split at e
  ·rename_i he
   cases e;rw[←hf];unfold nsFind findBy;rw[←Array.find?_toList,he];rfl
  ·split at e
   ·cases e
   ·cases e
 ·cases e
theorem Ja{K:PySem.W.Frag}{C fI:g_}(q:MF K C fI=true):N3 K C fI:=by
 refine⟨λh k=>?_⟩;unfold MF at q;split at q
 ·rename_i dd cd sl hob
  split at q
  ·rename_i C' bm k0 k1 k2 k3 nn k5 hmr Rm
   simp only[R_,beq_iff_eq,qbd]at q;obtain⟨⟨⟨⟨⟨e1,e2⟩,e3⟩,e4⟩,e5⟩,e6⟩:=q;subst e1 e2;obtain⟨nm,bs,mro,ns,qn,hd,sn,sub,ab,col,del⟩:=cd;dsimp only at hmr e3 e5 e6;subst hmr e3;have hsl:sl= #[k0,k1,k2,k3,some (.builtin "ValueError.__new__"),k5]:=by
    obtain⟨l⟩:=sl;simp only at Rm;rw[Rm]
   subst hsl;have G:h.Ns ns _:=.of_isNs (PySem.W.isNs_of_in k e5);exact⟨⟨nm,qn,ns,bs,bm,hd,sn,sub,ab,col,dd,k0,k1,k2,k3,k5,_⟩,k _ _ hob,G,Mf k G e6,PySem.W.tail_of_in k e4⟩
  ·cases q
 ·cases q
structure XBase(K:PySem.W.Frag)(W:g_):Prop where
 ga:PySem.W.specialIn K (.ref W) "__getattribute__" =some (some (.builtin "type.__getattribute__"))
 rd:PySem.W.readsIn K W (.type "type")=true
 fd:PySem.W.findCls K (.ref W) (.type "type") "__init__" =some (.val (.builtin "ValueError.__init__"))
noncomputable def yo:List i_->Bool
 |[]=>false
 |v::r=>(v::r)==PZ||match v with| .ref _=>yo r|_=>false
structure XSt(K:PySem.W.Frag)(C:g_):Prop where
 hd:PySem.W.hasDictIn K C=true
 po:((PySem.W.clsIn K C).any λcd=>yo cd.mro)=true
 sa:PySem.W.findIn K (.ref C) "__setattr__" =some (some (.builtin "object.__setattr__"))
theorem F9(self:i_):∀{l:List i_},yo l=true->refuseLoop self "__setattr__" l=pure ()
 |[],e=>by cases e
 |v::r,e=>by
  unfold yo at e;rcases Bool.or_eq_true_iff.mp e with q|q
  ·rw[beq_iff_eq.mp q];exact PySem.F.store_ValueError.passes self
  ·split at q
   ·rw[refuseLoop_ref];exact F9 self q
   ·cases q
theorem PY:∀{l:List i_},yo l=true->l.contains (.type "object")=true
 |[],e=>by cases e
 |v::r,e=>by
  unfold yo at e;rcases Bool.or_eq_true_iff.mp e with q|q
  ·rw[beq_iff_eq.mp q];decide +kernel
  ·split at q
   ·rw[List.contains_cons,PY q,Bool.or_true]
   ·cases q
end
section
def aac(K:PySem.W.Frag)(t:TA):TE:=λσ H Q=>t σ H λvs H1=>GF λe C fI od y=>vs=[.ref e,y]/\H1 e=some (newX e C od)/\N3 K C fI/\Q .lV H1
theorem S7 {X:Cx}{x:r_}{W:g_}{np apos cpos:qcd}{a b:Expr}{t:TA}{pl:Sem Bool}(hW:XBase X.K W)(hg:Gl X x)(hm:X.mg x=some (.ref W))(ha:PA X [a,b] t)(hdb:(x==("__debug__" :r_))=false:=by decide)
  (hev:eval (.Call (.Attribute (.Name x np) "__init__" apos) [a,b] [] cpos) X.env=(do
   let ov ←eval (.Name x np) X.env
   standAt apos.atName
   let (f,first) ←holding [ov] (getMethod ov "__init__" pl)
   callWith cpos f first (backTo cpos (Z_ [a,b] X.env)) (backToKw cpos (keywordEach [] X.env))):=by rfl)
  (hs:Z_ [a,b] X.env=(false,eval a X.env)::Z_ [b] X.env:=by rfl) (hpl:(backTo cpos (Z_ [b] X.env)).any (·.1)=false:=by rfl) :
  PE X (.Call (.Attribute (.Name x np) "__init__" apos) [a,b] [] cpos) (aac X.K t):=by
 intro pins s σ H Q I h;refine PySem.W.methodCall_KW (pl:=pl) (qK I hg hm ?_ hdb) hev;refine PySem.W.method_cls I.tu hW.ga (PySem.W.cls_value I.tu hW.rd hW.fd (by decide +kernel) ?_);have hA:=ha cpos pins { s with toks:=s.toks+1 } σ H _ (I.tok _) h;rw[hs]at hA ⊢;refine qbV (by show(false||(backTo cpos (Z_ [b] X.env)).any (·.1))=false;rw[hpl]<;>rfl) (qb9 ?_);refine iB hA λus s2 ⟨vs,H2,I2,r2,e,C,fI,od,y,e1,hx,O,q⟩=>?_;subst e1;obtain⟨u1,u2,rfl,ru1,_⟩:=vals2 r2;cases (show u1=Value.ref e from ru1);obtain⟨⟨vs,sl,he,h1⟩,_,_⟩:=(show eN X.prog X.w H2 s2.heap e (newX e C od) from I2.hok e _ hx);obtain⟨d,hC,hN,hni,T⟩:=O.obj s2.heap I2.tu;have F:=PySem.F.excBase_ValueError;have I2':=I2;obtain⟨hh,gs,dr,tk,os⟩:=s2;show N_ _ _ (call (.builtin "ValueError.__init__") [.ref e,u2]) _ _ _;refine qbE (qbD F.init.plain F.initEntry (wpAny_check_init_subU F T hC he Y ?_));have hv:0<vs.size:=s_ (X_ 1) (qcc.mp h1.1).1;have hv0:vs[0]? =some vs[0]:=Array.getElem?_eq_getElem hv
 wp_walk
 rw[hv0];refine t_ ?_;have hg:(hh.push { cls:=.type "tuple",data:=.seq #[u2] }).get? e=some ⟨.ref C,od,.fields vs,sl⟩:=k_ _ he;refine h_ (qca hg Y hv ?_);have hu:=qaH (qcC (·.setIfInBounds 0 (Value.ref hh.objs.size))) hg rfl;have fin:EP X pins σ Q Value.none ⟨(hh.push { cls:=.type "tuple",data:=.seq #[u2] }).update e (qcC (·.setIfInBounds 0 (Value.ref hh.objs.size))),gs,dr,tk,os⟩:=by
  refine⟨.lV,H2,?_,Y,q⟩;have J1:=I2'.kept (h':=hh.push { cls:=.type "tuple",data:=.seq #[u2] }) (t':=tk) λb u z=>k_ _ z;have J2:=J1.write (x:=e) (e:=e) (o:=newX e C od) (t':=tk) (by rw[hx];exact True.intro) (.inl rfl) (λb u hb z=>(qav _ _ (Ne.symm hb)).trans z) ⟨_,hu⟩ (HD hu (by simp[h1]));rw[Vk hx]at J2;exact J2
 cases hq:vs[0]with
 |ref t0=>exact wpAny_letGo (t_ fin)
 |_=>exact t_ (t_ fin)
end
section
section
variable{prog:I_}{w:W_}{A:qam}{E:i_->p_->Prop}{s:p_}{K:PySem.W.Frag}{x dx C:g_}{name:r_}{v:i_}{R:Result->p_->Prop}
theorem Ny{ox:qa0}{od:Option qa0}{tk:Tok}(X:K.In s.heap)(I:PySem.W.InstAt s.heap x ox C od)(S:XSt K C)(ht:PySem.W.takerIn K C name=some none)
  (h:∀b,N_ (model prog w) A.in1 (Builtin.ObjectAttr.storeInOwnDict (.ref x) (.ref C) (.str name tk) name v b)
   (λfin s'=>match fin with| .done f=>R (.ok f) s'| .again c'=>c'.quiet=true/\codeAny (model prog w) A c' R s') (λe s'=>R (.error e) s') s) :
  codeAny (model prog w) A (.call (.builtin "object.__setattr__") ⟨[.ref x,.str name tk,v],[]⟩) R s:=by
 have SF:=PySem.F.store_object;obtain⟨cd,hc,ho⟩:=PySem.W.any_some S.po;have ne:cd.mro.isEmpty=false:=by cases q:cd.mro with|nil=>rw[q]at ho;cases ho|cons _ _=>rfl
 have sub:PySem.W.Looks (model prog w) s.heap (isInstance (.ref x) (.type "object")) true:=I.type.andThen (PySem.W.looks_mroIn X (by unfold PySem.W.mroIn;rw[hc,qbQ,if_neg (by rw[ne];decide),PY ho]));refine qbD SF.slot.plain SF.entry (@PySem.W.check_slot (model prog w) _ _ s "object.__setattr__" "object" "__setattr__" (.ref x) [.str name tk,v] [] _ SF.kind SF.split sub (SF.args (.ref x) (.str name tk) v) ?_);obtain⟨attr,ha,hr⟩:=Option.bind_eq_some_iff.mp ht;have hm:PySem.W.Looks (model prog w) s.heap (mroOf (.ref C)) cd.mro:=(PySem.W.looks_clsIn X hc).andThen .now;have L3:PySem.W.Looks (model prog w) s.heap (Builtin.ObjectAttr.storeTaker? attr) none:=by
  cases attr with
  |none=>cases hr;exact .now
  |some a =>
   obtain⟨b,hb,e⟩:=qaL.mp hr;refine(PySem.W.looks_takesIn X hb).andThen ?_
   cases b with
   |false=>exact .now
   |true=>cases e
 rw[PySem.W.osa_eq,refuse_eq];refine h_ (h_ (I.type.here (h_ (hm.here ?_))));rw[F9 _ ho];refine t_ (h_ (I.type.here (h_ ((PySem.W.looks_findIn X ha).here (h_ (L3.here ?_))))));exact h _
theorem LG{vs:Array i_}{sl:Array (Option i_)}{mA:r_->Option i_}{ns:List r_}{Q:Unit->p_->Prop}(X:K.In s.heap)(S:XSt K C)(ht:PySem.W.takerIn K C name=some none)
  (he:s.heap.get? x=some ⟨.ref C,some dx,.fields vs,sl⟩) (hn:s.heap.Ns1 dx mA) (hw:PySem.Within mA ns) (hsz:ns.length+1<=z_)
  (h:∀h',h'.Ns1 dx (λy=>if y=name then some v else mA y)->qbl dx s.heap h'->Q () { s with heap:=h',toks:=s.toks+2 }):N_ (model prog w) A (setAttr (.ref x) name v) Q E s:=by
 obtain⟨od,ho,hl⟩:=AW hn;have J:PySem.W.InstAt s.heap x ⟨.ref C,some dx,.fields vs,sl⟩ C (some od):=⟨he,rfl,rfl,ho⟩;refine PySem.W.set_plain X J S.sa (Ny (s:={ s with toks:=s.toks+1 }) X J S ht λb=>?_);obtain⟨cd,hc,hd'⟩:=PySem.W.any_some S.hd;refine h_ (t_ (h_ (h_ (qct he (h_ (PySem.W.Looks.here (s:={ s with toks:=s.toks+1 }) (PySem.W.looks_clsIn X hc) ?_))))));rw[hd'];refine t_ (a:=some dx) (h_ (t_ (h_ ?_)));refine wpAny_nsSet1 (s:={ s with toks:=s.toks+1 }) hn λh' hn2 hs2=>?_;obtain⟨oD,esD,epD,hoD,hdD,hcD⟩:=hn2.count (PySem.Within.cons name v hw);refine h_ (wpAny_lookBehind hoD (by rw[hdD];exact pastItsLine_dict (m_ hcD (by rw[qac];omega))) ?_);exact t_ (h _ hn2 hs2)
theorem LH{vs:Array i_}{sl:Array (Option i_)}{Q:Unit->p_->Prop}(X:K.In s.heap)(S:XSt K C)(ht:PySem.W.takerIn K C name=some none)
  (he:s.heap.get? x=some ⟨.ref C,none,.fields vs,sl⟩)
  (h:∀h',h'.Ns1 s.heap.objs.size (λy=>if y=name then some v else none)->qbl s.heap.objs.size ((s.heap.push PySem.W.emptyDict).update x λo=>{ o with dict:=some s.heap.objs.size }) h'->Q () { s with heap:=h',toks:=s.toks+2 }):N_ (model prog w) A (setAttr (.ref x) name v) Q E s:=by
 have J:PySem.W.InstAt s.heap x ⟨.ref C,none,.fields vs,sl⟩ C none:=⟨he,rfl,rfl,trivial⟩;refine PySem.W.set_plain X J S.sa (Ny (s:={ s with toks:=s.toks+1 }) X J S ht λb=>?_);obtain⟨cd,hc,hd'⟩:=PySem.W.any_some S.hd;refine h_ (t_ (h_ (h_ (qct he (h_ (PySem.W.Looks.here (s:={ s with toks:=s.toks+1 }) (PySem.W.looks_clsIn X hc) ?_))))));rw[hd'];rw[if_neg (by decide)];have hxs:x≠s.heap.objs.size:=Y_ (J_ he);have abh:(s.heap.push PySem.W.emptyDict).get? x=some ⟨.ref C,none,.fields vs,sl⟩:=k_ _ he;show N_ (model prog w) A.in1 (alloc PySem.W.emptyDict >>= λd=>update x (λo=>{ o with dict:=some d }) >>= λ_=>dictMade (.ref C) x d) _ _ _;refine h_ (wpAny_alloc (h_ (wpAny_update abh ?_)));refine t_ ?_;have hgd:((s.heap.push PySem.W.emptyDict).update x λo=>{ o with dict:=some s.heap.objs.size }).get? s.heap.objs.size=some PySem.W.emptyDict :=
  (Heap.get?_update_ne _ _ _ _ hxs.symm).trans (H_ _ rfl)
 have hnd:((s.heap.push PySem.W.emptyDict).update x λo=>{ o with dict:=some s.heap.objs.size }).Ns s.heap.objs.size (λ_=>none) :=
  ⟨_,#[],_,hgd,rfl,λe he=>absurd he (by simp),λ_=>rfl⟩
 show N_ _ _ (Builtin.ObjectAttr.storeInDict s.heap.objs.size (.str name s.toks) name v) _ _ _;refine h_ (t_ (h_ ?_));refine wpAny_nsSet1 (s:={ s with heap:=(s.heap.push PySem.W.emptyDict).update x λo=>{ o with dict:=some s.heap.objs.size },toks:=s.toks+1 }) (Heap.Ns1.of_empty hnd) λh' hn2 hs2=>?_;obtain⟨oD,esD,epD,hoD,hdD,hcD⟩:=hn2.count (PySem.Within.cons name v PySem.Within.nil);refine h_ (wpAny_lookBehind hoD (by rw[hdD];exact pastItsLine_dict (m_ hcD (by rw[qac,List.length_nil,qcE];omega))) ?_);exact t_ (h _ hn2 hs2)
end
end
section
theorem JK{fs:List (r_×V)}{mA:r_->Option i_}{f:r_}{y:V}{u:i_}(r:∀g,vD (fs.lookup g) (mA g))(ry:RelV y u):∀g,vD ((aX f y fs).lookup g) (if g=f then some u else mA g):=λg=>by
 rw[aC];by_cases q:g=f
 ·rw[if_pos q,if_pos q];exact ry
 ·rw[if_neg q,if_neg q];exact r g
theorem CO{fs:List (r_×V)}{mA:r_->Option i_}{f:r_}{y:V}{u:i_}(wi:PySem.Within mA (fs.map (·.1))):PySem.Within (λg=>if g=f then some u else mA g) ((aX f y fs).map (·.1)):=λg hg=>by
 by_cases q:g=f
 ·rw[q];exact(uR f y fs).1
 ·refine(uR f y fs).2 g (wi g λz=>hg ?_)
  show(if g=f then some u else mA g)=none
  rw[if_neg q];exact z
def aaj(K:PySem.W.Frag)(ta tv:TE)(f:r_):TS:=λD σ H=>tv σ H λy H1=>ta σ H1 λx H2=>fD λe C=>x= .ref e/\XSt K C/\cD K C f ∧
 ((H2 e=some (newX e C none)/\∀dx,H2 dx=none->D.nx σ (upd (upd (upd H2 dx (CN dx [])) e (newX e C (some dx))) dx (CN dx (aX f y [])))) ∨
  fD λdx fs=>H2 e=some (newX e C (some dx))/\H2 dx=some (CN dx fs)/\fs.length<1000/\D.nx σ (upd H2 dx (CN dx (aX f y fs))))
theorem Nu{X:Cx}{o value:Expr}{f:r_}{pos pos':qcd}{ta tv:TE}(ha:PE X o ta)(hv:PE X value tv)(hs:swapsWith value (some (.Attribute o f pos')) pos.line X.env=pure false):PS X (.Assign [.Attribute o f pos'] value pos) (aaj X.K ta tv f):=by
 intro pins s σ H D I h;refine plainObj_wpAny_Assign_Attribute (iB (hv pins s σ H _ I h) λu s1 ⟨y,H1,I1,ry,q⟩=>iB (ha pins s1 σ H1 _ I1 q) λov s2 ⟨x,H2,I2,rx,e,C,ex,S,n,hk⟩=>?_) hs;subst ex;obtain rfl:ov=Value.ref e:=rx;rcases hk with⟨hx,q2⟩|⟨dx,fs,hx,hd,hl,q2⟩
 ·obtain⟨⟨vs,sl,he,h1⟩,_,_⟩:=(show eN X.prog X.w H2 s2.heap e (newX e C none) from I2.hok e _ hx);refine LH I2.tu S n.Qd he λh' hn' sb=>?_;have ne:e≠s2.heap.objs.size:=Y_ (J_ he);have e1:(s2.heap.push PySem.W.emptyDict).get? s2.heap.objs.size=some PySem.W.emptyDict:=H_ _ rfl;have n1:(s2.heap.push PySem.W.emptyDict).Ns1 s2.heap.objs.size (λ_=>none):=Heap.Ns1.of_empty ⟨_,#[],_,e1,rfl,(λe he=>absurd he (by simp)),λ_=>rfl⟩;have he1:(s2.heap.push PySem.W.emptyDict).get? e=some ⟨.ref C,none,.fields vs,sl⟩:=k_ _ he;have he2:=qaH (λo=>{ o with dict:=some s2.heap.objs.size }) he1 rfl;have J1:=I2.laid (a:=s2.heap.objs.size) (o:=CN s2.heap.objs.size []) (h':=s2.heap.push PySem.W.emptyDict) (t':=s2.toks) (λb u q=>k_ _ q) (j_ _) (Lr n1 (λ_=>True.intro) (λy hy=>absurd rfl hy));have J2:=J1.write (x:=e) (e:=e) (o:=newX e C (some s2.heap.objs.size)) (t':=s2.toks) (by rw[aH ne,hx];exact True.intro) (.inl rfl) (λb u hb q=>(qav _ _ (Ne.symm hb)).trans q) ⟨_,he2⟩ (HD he2 h1)
  have J3:=J2.write (x:=s2.heap.objs.size) (e:=s2.heap.objs.size) (o:=CN s2.heap.objs.size (aX f y [])) (h':=h') (t':=s2.toks+2) (by rw[aH (Ne.symm ne),ai];exact True.intro) (.inl rfl) (λb u hb q=>(sb.2 b hb).trans q) (let ⟨o,_,_,e,_⟩:=hn';⟨o,e⟩)
   (Lr hn' (JK (mA:=λ_=>none) (λ_=>True.intro) ry) (CO (mA:=λ_=>none) λy hy=>absurd rfl hy)) (ht:=by show s2.toks<=s2.toks+2;omega)
  exact⟨σ,_,J3,q2 _ (I2.hok.fresh (j_ _))⟩
 ·obtain⟨⟨vs,sl,he,h1⟩,_,_⟩:=(show eN X.prog X.w H2 s2.heap e (newX e C (some dx)) from I2.hok e _ hx);obtain⟨⟨mA,nA,rA,wA⟩,_,_⟩:=(show eN X.prog X.w H2 s2.heap dx (CN dx fs) from I2.hok dx _ hd);refine LG I2.tu S n.Qd he nA wA (by rw[f_,qcE];omega) λh' hn' sb=>?_
  have J3:=I2.write (x:=dx) (e:=dx) (o:=CN dx (aX f y fs)) (h':=h') (t':=s2.toks+2) (by rw[hd];exact True.intro) (.inl rfl) (λb u hb q=>(sb.2 b hb).trans q) (let ⟨o,_,_,e,_⟩:=hn';⟨o,e⟩) (Lr hn' (JK rA ry) (CO wA))
  exact⟨σ,_,J3,q2⟩
structure XMk(K:PySem.W.Frag)(C f:g_):Prop where
 cls:N3 K C f
 fn:PySem.W.isFn K (.ref f)=true
 kp:PySem.W.keepIn K (.ref C)=true
def SN(C:g_)(sp:Sp)(E:St->XK)(t:TA):TS:=λ_ σ H=>t σ H λvs H1=>vs.length<=z_/\∀e,H1 e=none →
 sp (.ref e::vs) (upd H1 e (newX e C none)) (λv H2=>v= .lV/\∃od,H2 e=some (newX e C od)/\E σ (.ref C) od (del H2 e)) (E σ)
theorem Ot{X:Cx}{E:St->XK}{C f:g_}{x:r_}{np cpos pos:qcd}{k:Nat}{fd:B_}{ps:List r_}{sp:Sp}{e:Expr}{es:List Expr}{t:TA}(L:Lets X E)(M:XMk X.K C f)
  (F:aI X.prog X.w X.K X.mg X.base (sZ X.prog X.w) k f fd ps sp) (hr:pW (k+1) X.A) (hb:Binds X.K fd ps []) (hc:X.calm=true)
  (hg:Gl X x) (hm:X.mg x=some (.ref C)) (ha:PA X (e::es) t) (hdb:(x==("__debug__" :r_))=false:=by decide) (he:Z_ (e::es) X.env=(false,eval e X.env)::Z_ es X.env:=by rfl)
  (hpl:(backTo cpos (Z_ es X.env)).any (·.1)=false:=by rfl):PS X (.Raise (some (.Call (.Name x np) (e::es) [] cpos)) none pos) (SN C sp E t):=by
 intro pins s σ H D I h;obtain⟨d,hC,hN,hni,T⟩:=M.cls.obj X.base I.ok.mod.TN;rw[arm_exec_Raise];have FB:=PySem.F.excBase_ValueError;simp only[evalOpt,Option.map];refine h_ (qci (LU (C:=C) (nm:=d.nm) (q:=d.q) (N:=d.N) (bs:=d.bs) (bm:=d.bm) (hdct:=d.hdct) (sn:=d.sn) (sub:=d.sub) (ab:=d.ab) (col:=d.col) (dd:=d.dd) (k0:=d.k0) (k1:=d.k1) (k2:=d.k2) (k3:=d.k3) (k5:=d.k5) (newId:= "ValueError.__new__") (T.hasType FB.hasBase) (I.ok.hd hc) ?_));refine h_ (iB (Q:=λv s₁=>yj λe od vs sl=>v= .ref e/\s₁.heap.get? C=some (d.obj C "ValueError.__new__")/\s₁.heap.get? e=some ⟨.ref C,od,.fields vs,sl⟩/\vs[1]? =some .none/\X.xe (.ref e) s₁) ?_ λv s2 h2=>h_ (qci (t_ h2)));refine qa7 (qK I hg hm ?_ hdb);refine PySem.W.callWith_K (h₀:=X.base) I.ok.mod.TN M.kp (iB (ha cpos pins s σ H _ I h) λus s1 ⟨vs,H1,I1,r,hl,q1⟩=>⟨I1.tu,?_⟩) he hpl;have hfo:∃o,s1.heap.get? f=some o/\o.cls= .type "function" :=by
  obtain⟨o,ho,hc⟩:=qaL.mp (beq_iff_eq.mp M.fn);exact⟨o,I1.tu _ _ ho,hc⟩
 obtain⟨oI,hfo,hfc⟩:=hfo;have I1':=I1;obtain⟨hh,gs,dr,tk,os⟩:=s1;refine Ph (N:=d.N) (mN:=d.mN) FB FB.hasB FB (T.keeps I1.bk) (I1.bk _ _ hC) (hN.keeps I1.bk) hni hfo hfc (λh' ea made=>?_) (by show us.length<=z_;rw[←r.length];exact hl);obtain⟨t',ht,_,_⟩:=made.there;have xo:=I1.xok made.new (I1.hok.none_of made.new);have J0:Inv X pins σ H1 ⟨h',gs,dr,tk,os⟩:=I1.kept (t':=tk) made.keeps;have J1:Inv X pins σ (upd H1 ea (newX ea C none)) ⟨h',gs,dr,tk,os⟩:=J0.Qc xo (HD ht ⟨rfl,rfl,by simp⟩);have hq:=q1 ea xo.1;have r2:Vals (V.ref ea::vs) (Value.ref ea::us):=.cons rfl r;have hlen:(Value.ref ea::us).length=ps.length:=by rw[←r2.length];exact F.len _ _ _ _ hq
 refine qbE (qbm (F.run _ X.stack _ _ ⟨Value.ref ea::us,[]⟩ (Value.ref ea::us) _ _ (E σ) (hr.make C us []) (J1.RJ.make C us []) (by have z:=hb _ (Value.ref ea::us) J1.tu (by rw[qaR];exact hlen);rw[qaR]at z;exact z) r2 hq) λrr s' hq'=>?_)
 cases rr with
 |error e=>exact L.pass J1 hq'
 |ok fl =>
  cases fl with
  |ret u =>
   obtain⟨v,H',I3,rv,ev,od,hx,qE⟩:=J1.after hq';subst ev;obtain⟨⟨vs',PB,he',vA⟩,_,_⟩:=(show eN X.prog X.w H' s'.heap ea (newX ea C od) from I3.hok ea _ hx);refine⟨rv,ea,od,vs',PB,Y,I3.bk _ _ hC,he',vA.1,?_⟩;exact L pins σ (del H' ea) s' ea (.ref C) od (I3.drop hx) ⟨⟨KO,xo.2⟩,vs',PB,he',λ_=>vA.2.1,.inl vA.1⟩ qE
  |next=>exact qaz hq'
  |brk=>exact qaz hq'
  |cont=>exact qaz hq'
end
section
section
variable{X:Cx}{a b c:Expr}{ta tb tc:TE}{pos:qcd}{rest:List Expr}
end
end
section
theorem Ed{X:Cx}{elt tg iter test:Expr}{tt:TT}{scope:qbJ}{pos pos':qcd}{wi:TI}{g:TG}{te:TE}{N:List r_}{ua:St->St}(hc:X.calm=true)(hS:X.Ok->∃cl,cT X scope cl N ua)(hi:PI X tg iter wi)
  (hg:∀cl C s H ex pn E,PG (j0 X scope cl C N s H ex pn E) tg g) (he:∀cl C s H ex pn E,PE (j0 X scope cl C N s H ex pn E) elt te) (ht:∀cl C s H ex pn E,PT (j0 X scope cl C N s H ex pn E) test tt) (hs:∀x,foldedSetIterable iter X.env x=pure x)
  {pins:List (g_×qa0)} {s:p_} {σ:St} {H:Hp} {Q:VK} {use:Option (i_->Sem Unit)} {QQ:i_->p_->Prop} (I:Inv X pins σ H s) (h:Az wi g tt te ua σ H Q)
  (Rt:∀(l C:g_) (mC:r_->Option i_) (H':Hp) (s':p_),Inv X pins σ H' s'->xD X pins H' C->s'.heap.Ns C mC->Q (.ref l) H'->compPost (model X.prog X.w) X.A X.xe use QQ (.ref l) C (.ok .next) s') :
  N_ (model X.prog X.w) X.A (comprehension (.ListComp elt [⟨tg,iter,[test],0⟩] scope pos) scope X.env pos' (newList []) false (eval iter X.env) use) QQ X.xe s :=
 Ec hc hS hi hg he (λcl C s H ex pn E pins s' σ H' Q I q=>wpAny_tests_one (ht cl C s H ex pn E pins s' σ H' Q I q)) hs I h Rt
theorem JS{X:Cx}{elt tg iter test:Expr}{tt:TT}{scope:qbJ}{pos:qcd}{wi:TI}{g:TG}{te:TE}{N:List r_}{ua:St->St}(hc:X.calm=true)(hS:X.Ok->∃cl,cT X scope cl N ua)(hi:PI X tg iter wi)
  (hg:∀cl C s H ex pn E,PG (j0 X scope cl C N s H ex pn E) tg g) (he:∀cl C s H ex pn E,PE (j0 X scope cl C N s H ex pn E) elt te) (ht:∀cl C s H ex pn E,PT (j0 X scope cl C N s H ex pn E) test tt)
  (hs:∀x,foldedSetIterable iter X.env x=pure x:=by intro _;rfl):PE X (.ListComp elt [⟨tg,iter,[test],0⟩] scope pos) (Az wi g tt te ua):=by
 intro pins s σ H Q I h;rw[eval_ListComp];refine Ed (use:=none) (QQ:=EP X pins σ Q) hc hS hi hg he ht hs I h ?_;intro l C mC H' s' I' fp hn q;exact⟨mC,hn,λh' sb=>⟨.ref l,H',I'.moved (ch:=[C]) (t':=s'.toks) (λb o hb e=>(sb.2 b (by simpa using hb)).trans e) (λb hb=>by rw[F_.mp hb];exact fp),Y,q⟩⟩
end
end L2
namespace GP
open PySem L2 pR
theorem Gf{n:Nat}(h:n<=100000):((n:Nat):Int).natAbs.log2<1920:=by
 rw[Int.natAbs_natCast];by_cases z:n=0
 ·subst z;decide
 ·rw[Nat.log2_lt z];exact s_ h (K_ (show 100000<2 ^ 20 by decide) (qcb (by decide) (by decide)))
theorem Ia{a b:r_}{m n:Nat}(h1:a.length<=m)(h2:b.length<=n):(a++b).length<=m+n:=by rw[strLen_append];omega
def Jv(C:g_):Sp:=λvs H Q _=>rG λ(e:g_) (i j:Nat)=>vs=[.ref e,.int i,.int j]/\H e=some (newX e C none)/\i<=100000/\j<=100000 ∧
 ∀dx H',(∀b u,H b=some u->b≠e->H' b=some u)->H dx=none->H' e=some (newX e C (some dx))->H' dx=some (CN dx (aX "place" (.int j) (aX "row" (.int i) [])))->Q .lV H'
end GP
namespace L2
open PySem PySem.Spec PyProof.Rows
theorem RE{prog:I_}{w:W_}{A:qam}{E:i_->p_->Prop}{s:p_}{K:PySem.W.Frag}{x C:g_}{ox:qa0}{od:Option qa0}{name:r_}{expr:Bool}{v:i_}{Q:i_->p_->Prop}(Z:Sx K C)(k:K.In s.heap)(I:PySem.W.InstAt s.heap x ox C od)
  (hf:PySem.W.findObj K C od name=some (.value v)) (hd:PySem.W.handedIn v=true) (h:Q v { s with toks:=s.toks+1 }):N_ (model prog w) A (getAttr (.ref x) name expr) Q E s:=by
 obtain⟨hh,g,d,t,os⟩:=s;have L0:=I.type (M:=model prog w);have L1:=PySem.W.looks_findIn (M:=model prog w) k Z.ga;have L2:=PySem.W.looks_findIn (M:=model prog w) k Z.gn;have LB:=PySem.W.looks_mroIn (M:=model prog w) k Z.hb;have LF:=PySem.W.looks_find (M:=model prog w) k I hf;unfold getAttr getAttrBy;refine h_ (wpAny_mkText (qaU (h_ (L0.at (h_ (L1.at ?_))))));show N_ _ _ (getAttrByItsOwn _ _ _ _ _ _) _ _ _;unfold getAttrByItsOwn hookBefore;refine h_ (L2.at ?_);refine h_ (qcj (qaU ?_));have e0:∀n:i_,callGetattribute (.ref x) n (.builtin "BaseException.__getattribute__") expr=boundAndCalled (.builtin "BaseException.__getattribute__") (.ref x) n:=λn=>by
  unfold callGetattribute;cases expr<;>rfl
 rw[e0];unfold boundAndCalled;refine h_ (wpAny_of_eq (PySem.F.attr_ValueError.ga.bind (.ref x)) ?_);show N_ _ _ (call (.builtin "BaseException.__getattribute__") [.ref x,.str name t]) _ _ _;refine qbE (qbD PySem.F.attr_ValueError.ga.plain PySem.F.entry_bexc_ga ?_);have c1:builtinKind "BaseException.__getattribute__" =some .slot:=by decide +kernel
 have c2:splitId "BaseException.__getattribute__" =some ("BaseException","__getattribute__"):=by decide +kernel
 have c3:=PySem.F.args_bexc_ga (.ref x) (.str name t);simp only[checkBuiltinCall,c1,c2];refine h_ (h_ (L0.at (LB.at ?_)));simp only[Bool.not_true,qbY,if_false];unfold argsOk at c3;refine wpAny_of_eq c3 ?_;unfold Builtin.«object.__getattribute__»;refine h_ (t_ (h_ (t_ (h_ (L0.at (h_ (LF.at ?_)))))));refine t_ ?_;show N_ _ _ (handedOut v) _ _ _;rw[PySem.W.handedOut_of hd];exact t_ h
def Z7(K:PySem.W.Frag)(ta:TE)(f:r_):TE:=λσ H Q=>ta σ H λx H1=>GF λe C dx fs i=>x= .ref e/\H1 e=some (Sw e (.ref C) (some dx))/\H1 dx=some (CN dx fs)/\Sx K C/\cD K C f/\fs.lookup f=some (.int i)/\Q (.int i) H1
theorem D0{P:I_}{w:W_}{H:Hp}{h:qad}{e C dx:g_}{fs:List (r_×V)}(hok:uV P w H h)(he:H e=some (Sw e (.ref C) (some dx)))(hd:H dx=some (CN dx fs)):
  fD λox od=>∃mA:r_->Option i_,PySem.W.InstAt h e ox C (some od)/\(∀name,PySem.W.lookIn name od=some (mA name))/\∀f,vD (fs.lookup f) (mA f):=by
 obtain⟨⟨vs,sl,h1⟩,_,_⟩:=(show eN P w H h e (Sw e (.ref C) (some dx)) from hok e _ he);obtain⟨⟨mA,nA,rA,wA⟩,_,_⟩:=(show eN P w H h dx (CN dx fs) from hok dx _ hd);obtain⟨od,ho,hl⟩:=AW nA;exact⟨_,od,mA,⟨h1,Y,Y,ho⟩,hl,rA⟩
theorem Nx{X:Cx}{e:Expr}{f:r_}{pos:qcd}{ta:TE}(he:PE X e ta)(hb:attributeBase e f X.env (eval e X.env)=eval e X.env):PE X (.Attribute e f pos) (Z7 X.K ta f):=by
 intro pins s σ H Q I h;refine N1 hb (iB (he pins s σ H _ I h) λu s1 ⟨x,H1,I1,rx,e,C,dx,fs,i,ex,hx,hd,Z,n,l,q⟩=>?_);subst ex;obtain rfl:u=Value.ref e:=rx;obtain⟨ox,od,mA,J,hl,rA⟩:=D0 I1.hok hx hd;have r:=rA f;rw[l]at r
 cases hm:mA f with
 |none=>rw[hm]at r;exact r.elim
 |some u =>
  rw[hm]at r;obtain⟨t,rfl⟩:=(show ∃t,u=Value.int i t from r);refine RE Z I1.tu J ?_ Y ⟨.int i,H1,I1.tok _,⟨t,Y⟩,q⟩;obtain⟨cd,hc,hdd⟩:=PySem.W.any_some Z.hd;have hn:PySem.W.findIn X.K (.ref C) f=some none:=n;unfold PySem.W.findObj;rw[hc,qbQ,hn,qbQ];simp only[qbQ,PySem.W.ownOf,hdd,if_true,hl,hm]
theorem uw{X:Cx}:rC X (.builtin "isinstance") (λxs H Q=>PR λea C od c cv b=>xs=[.ref ea,c]/\((∃D,c= .ref D/\cv= .ref D)\/∃T,c= .ty T/\cv= .type T)/\H ea=some (Sw ea (.ref C) od)/\(od=none\/fD λdx fs=>od=some dx/\H dx=some (CN dx fs))/\Sx X.K C/\PySem.W.kitOne X.K (.ref C) cv=some b/\Q (.bl b) H):=by
 intro pins s σ H vs us Q I r h;obtain⟨ea,C,od,c,cv,b,rfl,hc,hx,hod,Z,hk,q⟩:=h;obtain⟨u,u2,rfl,rx,rc⟩:=vals2 r;cases (show u=Value.ref ea from rx);have e2:u2=cv:=by
  rcases hc with⟨D,rfl,rfl⟩|⟨T,rfl,rfl⟩
  ·exact rc
  ·exact rc
 subst e2;rcases hod with rfl|⟨dx,fs,rfl,hd⟩
 ·obtain⟨⟨ws,sl,e⟩,_,_⟩:=(show eN X.prog X.w H s.heap ea (Sw ea (.ref C) none) from I.hok ea _ hx)
  exact TK.dD (j_ s.toks) (PySem.W.kia_one (zQ (ox:=⟨.ref C,none,.fields ws,sl⟩) (od:=none) Z) I.tu ⟨e,Y,Y,trivial⟩ hk (λz=>nomatch z) λtk hup=>⟨.bl b,H,I.tok tk,Y,q⟩)
 ·obtain⟨ox,o,mA,J,hl,rA⟩:=D0 I.hok hx hd
  exact TK.dD (j_ s.toks) (PySem.W.kia_one (zQ (ox:=ox) (od:=some o) Z) I.tu J hk (λz=>nomatch z) λtk hup=>⟨.bl b,H,I.tok tk,Y,q⟩)
theorem Yb{x y:r_}(h:x.cps=y.cps):x=y:=by
 cases x;cases y;exact congrArg Str.mk h
noncomputable def vW(x:r_)(n:Int):r_:=⟨(y_ n.toNat x.cps).foldl (·++·) #[]⟩
theorem Dv(a:Array Nat):∀(n:Nat) (b:Array Nat),((y_ n a).foldl (·++·) b).toList=b.toList++(y_ n a.toList).flatten
 | 0,b=>by simp
 |n+1,b=>by
  rw[qat,qb1,Dv a n,qat,qaO,Array.toList_append,qa3]
theorem AL(x:r_)(n:Int):(vW x n).cps.toList=(y_ n.toNat x.cps.toList).flatten:=by
 unfold vW;rw[Dv];rfl
theorem JJ(x:r_)(n:Int):(vW x n).cps.size=n.toNat*x.cps.size:=by
 rw[←o_,AL,List.length_flatten,List.map_replicate,List.sum_replicate_nat];rfl
theorem Hi{X:Cx}:uz X (binaryOp .Mult) (λx y H Q=>fD λz n=>x= .str z/\y= .int n/\ -1000000<=n/\n<=1000000/\z.cps.size<=1000000/\n.toNat*z.cps.size<=z_/\Q (.str (vW z n)) H):=by
 intro pins s σ H x y v u Q I rx ry h;obtain⟨z,n,rfl,rfl,h1,h2,h3,h4,q⟩:=h;obtain⟨t,rfl⟩:=rx;obtain⟨t',rfl⟩:=ry;have hl:z.length=z.cps.size:=rfl;refine TK.dD (j_ s.toks) (PySem.P.mul_str ?_ (λk1 _=>?_) (λ_ _=>?_) ?_)
 ·rw[decide_eq_false (by omega),decide_eq_false (by omega)];rfl
 ·have k2:1<=n:=by omega
  have:(2 ^ 63-1:Int) / n>=1000000:=by
   rw[ge_iff_le,Int.le_ediv_iff_mul_le (by omega)]
   calc 1000000*n<=1000000*1000000:=by omega
    _<=_:=by decide
  omega
 ·show decide (z.length*n.toNat>z_)=false;rw[hl,Nat.mul_comm];exact decide_eq_false (Nat.not_lt.mpr h4)
 ·have fin:∀y:r_,y=vW z n->∀t k,s.toks<=k->EP X pins σ Q (.str y t) { s with toks:=k }:=λy e t k hk=>⟨.str (vW z n),H,I.tok k hk,⟨t,by rw[e]⟩,q⟩;by_cases k1:n<1
  ·rw[if_pos k1];refine⟨X_ _,fin _ ?_ _ _⟩;unfold vW;rw[show n.toNat=0 by omega];rfl
  ·rw[if_neg k1];by_cases k2:(n==1||z.length==0)=true
   ·rw[if_pos k2];refine fin _ ?_ _ s.toks;rcases Bool.or_eq_true_iff.mp k2 with k|k
    ·have e:n=1:=by simpa using k
     subst e;show z=⟨#[]++z.cps⟩;simp
    ·have e:z.cps.size=0:=(show z.length=0 from eq_of_beq k);have e1:=JJ z n;rw[e,Nat.mul_zero]at e1;have a1:z.cps= #[]:=Array.eq_empty_of_size_eq_zero e;have a2:(vW z n).cps= #[]:=Array.eq_empty_of_size_eq_zero e1;have:z.cps=(vW z n).cps:=a1.trans a2.symm;exact Yb this
   ·rw[if_neg k2];refine⟨?_,fin _ Y _ _⟩;show(vW z n).cps.size<=z_;rw[JJ];exact h4
end L2
namespace GP
open PySem L2 pR
section
theorem Dj{x:r_}{lo hi:Option Int}{a b:Nat}(e:PySem.Builtin.Str.strSliceIndices lo hi 1 x.length=PySem.Builtin.Str.strSliceIndices (some (a:Int)) (some (b:Int)) 1 x.length)(hab:a<=b)(hb:b<=x.cps.size):(Txt.slice x lo hi).cps.toList=(x.cps.toList.drop a).take (b-a):=by
 have hb':b<=x.length:=hb;have f:=StrLaws.sliced_plain x hab hb';unfold Txt.slice;rw[e];split
 ·next h =>
  have hl:(PySem.Builtin.Str.strSliceIndices (some (a:Int)) (some (b:Int)) 1 x.length).length=x.length:=by simpa using h
  rw[StrLaws.strSliceIndices_plain hab hb',f_,qan]at hl;have hl':b-a=x.cps.size:=hl;have ha:a=0:=by omega
  subst ha;rw[qbS,qaa (by rw[o_];omega)]
 ·exact f
theorem QA{x:r_}{k:Int}(h0:0<=k)(h1:k<=(x.cps.size:Int)):(Txt.slice x none (some k)).cps.toList=x.cps.toList.take k.toNat:=by
 obtain⟨n,rfl⟩:∃n:Nat,k=(n:Int):=⟨k.toNat,(qaB h0).symm⟩;have e:=Dj (x:=x) (lo:=none) (hi:=some (n:Int)) (a:=0) (b:=n) (by
  simp only[PySem.Builtin.Str.strSliceIndices];simp;rw[show max (0:Int) (min 0 (x.length:Int))=0 by omega]) (X_ _) (by omega)
 rw[e,qbS];rfl
theorem QB{x:r_}{k:Int}(h0:0<=k)(h1:k<=(x.cps.size:Int)):(Txt.slice x (some k) none).cps.toList=x.cps.toList.drop k.toNat:=by
 obtain⟨n,rfl⟩:∃n:Nat,k=(n:Int):=⟨k.toNat,(qaB h0).symm⟩;have e:=Dj (x:=x) (lo:=some (n:Int)) (hi:=none) (a:=n) (b:=x.cps.size) (by
  have hl:x.length=x.cps.size:=rfl;simp only[PySem.Builtin.Str.strSliceIndices,hl];simp;rw[if_neg (show ¬(x.cps.size:Int)<0 by omega),show max (0:Int) (min (x.cps.size:Int) (x.cps.size:Int))=(x.cps.size:Int) by omega]) (by omega) (j_ _)
 rw[e,qaa (by rw[qa8,o_];omega)];rfl
noncomputable def Fe(i j:Nat):List (r_×V):=aX "place" (.int j) (aX "row" (.int i) [])
theorem RB{i j:Nat}:(Fe i j).lookup ("row" :r_)=some (.int i):=by
 unfold Fe;rw[aC,if_neg (by decide +kernel),aC,if_pos rfl]
theorem MD{i j:Nat}:(Fe i j).lookup ("place" :r_)=some (.int j):=by
 unfold Fe;rw[aC,if_pos rfl]
end
section
end
end GP
namespace L2
open PySem PySem.Spec PyProof.Rows PySem.Builtin PySem.Builtin.Str
theorem Yt{X:Cx}(hu:X.A.units<cLine):uz X (compareOp .NotEq) (λx y H Q=>rG λp q xs=>x= .ref p/\y= .ref q/\bY X.K H p xs/\bY X.K H q xs/\(∀z∈xs,(∃a,z= .str a)\/∃a,z= .ref a)/\Q (.bl false) H):=by
 intro pins s σ H x y v u Q I rx ry h;obtain⟨p,q,xs,rfl,rfl,hp,hq,ha,k⟩:=h;cases rx;cases ry;obtain⟨us,r1,t1,_⟩:=I.list hp;obtain⟨vs,r2,t2,_⟩:=I.list hq;have hsz:us.toArray.size=vs.toArray.size:=by rw[u_,u_,←r1.length,←r2.length]
 refine SeqAt.RcNeAt.lists (A:=X.A) (s:=s) (e:=λ_=>true) t1.isList t2.isList hsz hu (λj h1 h2=>?_) X.prog X.w X.xe _ ⟨.bl false,H,I,?_,k⟩
 ·have vA:j<us.length:=by simpa using h1
  have h2':j<vs.length:=by simpa using h2
  have h3:j<xs.length:=by rw[r1.length];exact vA
  obtain⟨u,e1,ru⟩:=r1.get (e_ h3);obtain⟨v,e2,rv⟩:=r2.get (e_ h3);have g1:us.toArray[j]=u:=by rw[e_ vA]at e1;simpa using e1
  have g2:vs.toArray[j]=v:=by rw[e_ h2']at e2;simpa using e2
  rw[g1,g2];rcases ha _ (x_ h3)with⟨i,hx⟩|⟨a,hx⟩
  ·rw[hx]at ru rv;obtain⟨t,rfl⟩:=ru;obtain⟨t',rfl⟩:=rv;have z:=SeqAt.EqAt.str_str (A:=X.A.in1) (s:=s) i t i t';rw[beq_self_eq_true]at z;exact z
  ·rw[hx]at ru rv;cases ru;cases rv;exact .same _
 ·show Value.bool _=Value.bool false;simp
theorem FP:∀{cs:List g_} {us:List i_},Vals (cs.map V.ref) us->us=cs.map Value.ref
 |[],_,.nil=>rfl
 |_::_,_,.cons r q=>by
  cases r;rw[FP q];rfl
theorem yi{X:Cx}:rC X (.builtin "isinstance") (λxs H Q=>PR λ(ea C:g_) (od:Option g_) (tp:g_) (cs:List g_) (b:Bool)=>xs=[.ref ea,.ref tp]/\H tp=some (.tup (cs.map V.ref))/\H ea=some (Sw ea (.ref C) od)/\(od=none\/fD λdx fs=>od=some dx/\H dx=some (CN dx fs))/\Sx X.K C/\PySem.W.kitAny X.K (.ref C) (cs.map Value.ref)=some b/\Q (.bl b) H):=by
 intro pins s σ H vs us Q I r h;obtain⟨ea,C,od,tp,cs,b,rfl,htp,hx,hod,Z,hk,q⟩:=h;obtain⟨u,u2,rfl,rx,rc⟩:=vals2 r;cases (show u=Value.ref ea from rx);cases (show u2=Value.ref tp from rc);obtain⟨its,rv,⟨⟨cl,dd,da,sl⟩,e1,e2,n,e3⟩,_⟩:=I.tuple (eK.of htp);simp only at e2 e3;subst e2 e3;have hi:=FP rv;subst hi;rcases hod with rfl|⟨dx,fs,rfl,hd⟩
 ·obtain⟨⟨ws,sl,e⟩,_,_⟩:=(show eN X.prog X.w H s.heap ea (Sw ea (.ref C) none) from I.hok ea _ hx)
  exact TK.dD (j_ s.toks) (PySem.W.kia_tup (zQ (ox:=⟨.ref C,none,.fields ws,sl⟩) (od:=none) Z) I.tu ⟨e,Y,Y,trivial⟩ e1 hk (λz=>nomatch z) λtk hup=>⟨.bl b,H,I.tok tk,Y,q⟩)
 ·obtain⟨ox,o,mA,J,hl,rA⟩:=D0 I.hok hx hd
  exact TK.dD (j_ s.toks) (PySem.W.kia_tup (zQ (ox:=ox) (od:=some o) Z) I.tu J e1 hk (λz=>nomatch z) λtk hup=>⟨.bl b,H,I.tok tk,Y,q⟩)
end L2
namespace GP
open PySem L2 pR
section
theorem rD(x y:r_):(x++y).cps.toList=x.cps.toList++y.cps.toList:=by
 show(x.cps++y.cps).toList=_;rw[Array.toList_append]
theorem uZ(x y:r_):(x++y).cps.size=x.cps.size+y.cps.size:=by
 rw[←o_,rD,A_,o_,o_]
theorem JC(x:r_)(b:Nat):(Txt.slice x none (some (b:Int))).cps.toList=x.cps.toList.take b:=by
 have hl:x.cps.toList.length=x.cps.size:=o_;have e:=Dj (x:=x) (lo:=none) (hi:=some (b:Int)) (a:=0) (b:=min b x.cps.size) (by
  have hl:x.length=x.cps.size:=rfl;simp only[PySem.Builtin.Str.strSliceIndices,hl];simp;rw[if_neg (by omega),if_neg (by omega)];congr 2<;>omega) (by omega) (by omega)
 rw[e,qbS,Nat.sub_zero];by_cases h1:b<=x.cps.size
 ·rw[qbA h1]
 ·rw[Nat.min_eq_right (by omega),qaa (by omega),qaa (by omega)]
end
section
theorem xM{K:PySem.W.Frag}{t:i_}:PySem.W.kitAny K t []=some false:=rfl
theorem dh{K:PySem.W.Frag}{t c:i_}{r:List i_}{b:Bool}(h:PySem.W.kitOne K t c=some false)(h':PySem.W.kitAny K t r=some b):PySem.W.kitAny K t (c::r)=some b:=by
 unfold PySem.W.kitAny;rw[h];exact h'
end
section
end
end GP
namespace L2
open PySem PySem.Spec PyProof.Rows
theorem JQ{X:Cx}{i:Nat}{y:r_}{py spos:qcd}{elt tg iter test:Expr}{tt:TT}{scope:qbJ}{pos:qcd}{wi:TI}{g:TG}{te:TE}{N:List r_}{ua:St->St}(hN:X.N.Nodup)(hi:X.N[i]? =some y)(hx:Loc X.env.scope y)
  (hc:X.calm=true) (hS:X.Ok->∃cl,cT X scope cl N ua) (hit:PI X tg iter wi)
  (hg:∀cl C s H ex pn E,PG (j0 X scope cl C N s H ex pn E) tg g) (he:∀cl C s H ex pn E,PE (j0 X scope cl C N s H ex pn E) elt te) (ht:∀cl C s H ex pn E,PT (j0 X scope cl C N s H ex pn E) test tt)
  (hsw:swapsWith (.ListComp elt [⟨tg,iter,[test],0⟩] scope pos) (some (.Name y py)) spos.line X.env=pure true:=by rfl)
  (hf:X.fn y=true\/X.env.scope.names.lookup y=some .local:=by first|exact .inl rfl|exact .inr rfl|assumption)
  (hs:∀x,foldedSetIterable iter X.env x=pure x:=by intro _;rfl):PS X (.Assign [.Name y py] (.ListComp elt [⟨tg,iter,[test],0⟩] scope pos) spos) (SQ (Az wi g tt te ua) (NK i)):=by
 intro pins s σ H D I h;rw[exec_Assign_Name_used _ _ _ _ hsw];refine h_ (qci (h_ ?_))
 show N_ _ X.A (do let _ ←comprehension (.ListComp elt [⟨tg,iter,[test],0⟩] scope pos) scope X.env _ (newList []) false (eval iter X.env) (some (assign (.Name y py) X.env))) _ _ s
 refine h_ (qaF (Ed (use:=some (assign (.Name y py) X.env)) (QQ:=λ_ s'=>SP X pins D .next s') hc hS hit hg he ht hs I h ?_) (λ_ s' hq=>t_ (t_ hq)) λ_ _ e=>e);intro l C mC H' s' I' fp hn q;show N_ _ X.A (assign (.Name y py) X.env (.ref l)) _ _ _;refine wpAny_assign_Name (AB I' hN hi hx (v:=.ref l) Y (λs2 I2 sb=>?_) hf);obtain⟨a,sb,ha⟩:=sb;have nC:C≠a:=by
  obtain⟨_,f1,_,_,f4,_⟩:=fp;rcases ha with z|z
  ·rw[z];exact f1
  ·exact λe=>f4 y a z e.symm
 refine⟨mC,hn.sameBut sb nC,λh' sb2=>?_⟩;refine⟨_,H',I2.moved (ch:=[C]) (t':=s2.toks) (λb o hb e=>(sb2.2 b (by simpa using hb)).trans e) (λb hb=>?_),q⟩;rw[F_.mp hb];exact fp
noncomputable def ZR(lo:Int)(n:Nat):It:=⟨λi _=>i<n,λi H x H'=>H'=H/\x= .int (lo-i),λi _=>n<=i⟩
theorem Jh{P:I_}{w:W_}{K:PySem.W.Frag}{tg:Expr}(it:g_)(lo:Int)(n:Nat):Turn P w K tg (ZR lo n) [it] it (λi h=>IsRangeIter h it (lo+(i:Nat)*(-1)) ((n:Int)-(i:Nat)) (-1)) where
 mem:=by simp
 obj:=λi h st b hb=>by
  have e:b=it:=by simpa using hb
  subst e;exact⟨_,st,λv z=>by
   have z':Data.fields _=Data.cell v:=z;cases z'⟩
 keep:=λi h h' st k=>k it (by simp) _ st
 item:=by
  intro X hP hw hK hc i pins s σ H E I hf st hg;subst hP hw hK;obtain⟨f0,f1,f2,f3,f4,f5⟩:=hf it (by simp);have W:=Walks.range (prog:=X.prog) (w:=X.w) (I.ok.hd hc) it lo (-1) n;refine TK.dD (j_ s.toks) (W.item i s _ _ hg st λv h' tk hv st' kk hup=>?_);obtain⟨t,rfl⟩:=hv;have I1:Inv X pins σ H { s with heap:=h',toks:=tk }:=I.turned (λb o hb e=>kk b o (by simpa using hb) e) f0 f1 f3 f4 f5;refine⟨_,Y,Gn (s:={ s with heap:=h',toks:=tk }) (n:= "range_iterator") st' Y Y (by decide) ⟨.int (lo-i),H,I1,⟨t,?_⟩,⟨Y,Y⟩,st',λb hb=>(hf b hb).1⟩⟩;rw[Int.mul_neg,Int.mul_one,Int.sub_eq_add_neg]
 done:=by
  intro X hP hw hK hc i pins s σ H E I hf st hg;subst hP hw hK;obtain⟨f0,f1,f2,f3,f4,f5⟩:=hf it (by simp);exact wpAny_pyNext_range_end (I.ok.hd hc) st (by have:n<=i:=hg;omega) λh' eb=>⟨Y,I.turned (t':=s.toks) (λb o hb e=>eb b o hb e) f0 f1 f3 f4 f5⟩
 self:=λ_ _ _ _ _ st h=>wpAny_pyIter_rangeiter st h
theorem F6(lo hi:Int):qbL lo hi (-1)=(((lo-hi).toNat:Nat):Int):=by
 unfold qbL;rw[if_neg (by decide)];split
 ·rw[show(-(-1:Int))=1 from rfl,Int.ediv_one];omega
 ·omega
theorem small_down{a b:Int}(ha: -(2 ^ 62)<=a)(ha':a<2 ^ 62)(hb: -(2 ^ 62)<=b)(hb':b<2 ^ 62):Builtin.Range.small a b (-1)=true:=by
 unfold Builtin.Range.small;rw[F6];simp only[Builtin.Range.rangeFitsLong,R_,Bool.or_eq_true,decide_eq_true_eq,beq_iff_eq,show ¬(-1:Int)>0 by decide,if_false];omega
section
variable{X:Cx}{tg:Expr}
theorem Oq{pins:List (g_×qa0)}{σ:St}{H:Hp}{s:p_}{R:It->Hp->Prop}{E:i_->p_->Prop}{lo hi:Int}{t u v:Tok}{tk:Nat}(I:Inv X pins σ H s)(h1: -(2 ^ 62)<=lo)(h2:lo<2 ^ 62)(h3: -(2 ^ 62)<=hi)(h4:hi<2 ^ 62)
  (q:R (ZR lo (lo-hi).toNat) H) (htk:s.toks<=tk:=by first|exact j_ _|exact qaw _|assumption|omega):N_ (model X.prog X.w) X.A (pyIter (.ref s.heap.objs.size)) (PIE X pins σ tg R) E { s with heap:=s.heap.push { cls:=.type "range",data:=.fields #[.int lo t,.int hi u,.int (-1) v] },toks:=tk }:=by
 refine wpAny_pyIter_range (IsRange.new ..) (small_down h1 h2 h3 h4) ?_;have I1:Inv X pins σ H { s with heap:=s.heap.push { cls:=.type "range",data:=.fields #[.int lo t,.int hi u,.int (-1) v] },toks:=tk }:=I.kept λb o e=>k_ _ e;refine⟨(s.heap.push { cls:=.type "range",data:=.fields #[.int lo t,.int hi u,.int (-1) v] }).objs.size,[(s.heap.push { cls:=.type "range",data:=.fields #[.int lo t,.int hi u,.int (-1) v] }).objs.size],_,_,H,Y,
  I1.kept (t':=tk) λb o e=>k_ _ e,Jh _ lo (lo-hi).toNat,?_,λb hb=>?_,q⟩
 ·have e1:lo+((0:Nat):Int)*(-1)=lo:=by simp
  have e2:(((lo-hi).toNat:Nat):Int)-((0:Nat):Int)=qbL lo hi (-1):=by rw[F6];omega
  show IsRangeIter _ _ (lo+((0:Nat):Int)*(-1)) ((((lo-hi).toNat:Nat):Int)-((0:Nat):Int)) (-1);rw[e1,e2];exact H_ _ Y
 ·have e:b=(s.heap.push { cls:=.type "range",data:=.fields #[.int lo t,.int hi u,.int (-1) v] }).objs.size:=by simpa using hb
  subst e;exact I1.D5 (j_ _) (I1.hok.fresh (j_ _))
def aba(ta:TA):TI:=λσ H R=>ta σ H λvs H1=>fD λi j:Int=>vs=[.int i,.int j,.int (-1)]/\(-(2 ^ 62)<=i/\i<2 ^ 62/\ -(2 ^ 62)<=j/\j<2 ^ 62)/\R (ZR i (i-j).toNat) H1
theorem Ov {a b c:Expr}{ta:TA}{p pos:qcd}(hg:Gl X "range")(hm:X.mg "range" =none)(ha:PA X [a,b,c] ta)(hs:Z_ [a,b,c] X.env=[(false,eval a X.env),(false,eval b X.env),(false,eval c X.env)]:=by rfl)(hs2:Z_ [b,c] X.env=[(false,eval b X.env),(false,eval c X.env)]:=by rfl) :
  PI X tg (.Call (.Name "range" p) [a,b,c] [] pos) (aba ta):=by
 intro pins s σ H R I h;refine Call_ (vv I hg hm boot_range (qaG (iB (ha pos pins s σ H _ I h) λus s1 ⟨vs,H1,I1,r1,q1⟩=>?_) (by rw[hs,hs2]) (by rw[hs2];rfl)));obtain⟨i,j,e,⟨q1,q2,q3,q4⟩,q⟩:=q1;subst e
 cases r1 with
 |cons r rr =>
  cases rr with
  |cons r' rr =>
   cases rr with
   |cons r'' rr =>
    cases rr;obtain⟨t,rfl⟩:=r;obtain⟨t',rfl⟩:=r';obtain⟨t'',rfl⟩:=r'';exact call_range_3 (by decide) (Oq I1 q1 q2 q3 q4 q) (.inl (PyProof.noPylong_small (by decide)))
end
theorem RA{lo:Int}{n:Nat}{g:TG}{tb:TS}{D:Ends}{σ:St}{H:Hp}(Pv:Nat->St->Hp->Prop)(h0:Pv 0 σ H)
  (hs:∀i σ H,i<n->Pv i σ H->g (.int (lo-i)) σ H λσ2 H2=>tb { D with nx:=Pv (i+1),ct:=Pv (i+1),bk:=D.nx } σ2 H2) (hd:∀ σ H,Pv n σ H->D.nx σ H) :
  ∃W:Nat->Nat->St->Hp->Prop,(∃m,W 0 m σ H)/\∀i m σ H,W i m σ H →
   ((ZR lo n).stop i H/\D.nx σ H)\/((ZR lo n).go i H/\∃N:St->Hp->Prop,(∀ σ' H',N σ' H'->∃m',m'<m/\W (i+1) m' σ' H')/\∀x H',(ZR lo n).IX i H x H'->g x σ H' λσ2 H2=>tb { D with nx:=N,ct:=N,bk:=D.nx } σ2 H2):=by
 refine⟨λi m σ H=>m=n-i/\i<=n/\Pv i σ H,⟨n,by simp,X_ _,h0⟩,?_⟩;rintro i m σ H ⟨rfl,hi,p⟩;by_cases hlt:i<n
 ·refine .inr ⟨hlt,Pv (i+1),λσ' H' p'=>⟨n-(i+1),by omega,Y,hlt,p'⟩,λx H' y=>?_⟩;obtain⟨e,y⟩:=y;subst e y;exact hs i σ _ hlt p
 ·have e:i=n:=by omega
  subst e;exact .inl ⟨j_ _,hd σ H p⟩
end L2
namespace GP
open PySem L2 pR
end GP
namespace L2
open PySem PySem.Spec PyProof.Rows
section
noncomputable def GK(K:PySem.W.Frag)(t:Nat):Bool:=match K.lookup M_ with
 |some ⟨_,_,.dict es _,_⟩=>es.all λe=>match e.val with| .str _ u=>Nat.blt u t&& !(Nat.beq u 0)|_=>true
 |_=>false
theorem ME{f:r_->i_->Bool}{es:Array DictEntry}{n:r_}{v:i_}(h:PySem.findBy f es n=some v):∃e∈es,e.val=v:=by
 unfold PySem.findBy at h;obtain⟨e,he,rfl⟩:=qaL.mp h;exact⟨e,Array.mem_of_find?_eq_some he,Y⟩
theorem SK{K:PySem.W.Frag}{h:qad}{mg:r_->Option i_}{t:Nat}(KX:K.In h)(hns:h.Ns M_ mg)(c:GK K t=true):K3 mg t:=by
 obtain⟨o,es,ep,e,d,_,hm⟩:=hns;unfold GK at c;split at c
 ·rename_i cl dd es' ep' sl hl
  have e':=KX _ _ hl;rw[e]at e';cases e';cases d;intro x v u hx;obtain⟨en,hen,ev⟩:=ME ((hm x).trans hx);have z:=Array.all_eq_true'.mp c en hen;rw[ev]at z;simp only[R_,Nat.blt_eq,qbd]at z;exact⟨z.1,λq=>by rw[q]at z;exact absurd z.2 (by decide)⟩
 ·cases c
theorem PX{l:PySem.W.OpenLaw}{n k N t:Nat}{q:I_}{loose:List r_}{XP:(r_->Option i_)->qad->Prop}{as:List g_}{d:DefRec}{K:Params->PySem.W.Frag}{CX:W_->Pz}{sp:W_->Sp}{x:r_}
  (hn:l.most=some n) (hn2:n<=z_) (hdf:d.params.defaults=[]) (hr:pW k callerA)
  (hk:∀P,as=(K P).map (·.1)) (ht:∀P,GK (K P) t=true)
  (F:∀(w:W_) (mg:r_->Option i_) (fa:g_) (h:qad),(K w.params).In h->h.Ns M_ mg->mg d.name=some (.ref fa) →
   ∃fd:B_,(∀(s:p_) (u:i_),BindsTo s fd ⟨[u],[]⟩ [(x,u)]) ∧
    ∀base:qad,(K w.params).In base->base.Ns M_ mg->aI l.prog w (K w.params) mg base (CX w) k fa fd [x] (sp w))
  (Sq:∀(w:W_) (H:Hp) (a:g_) (ns:List Int),ns.length<=n->Zr H->bY (K w.params) H a (ns.map V.int)->sp w [.ref a] H (λv _=>v= .bl true) λ_ _ _=>False)
  (hCX:∀(w:W_) (H:Hp) (s:p_) (e:i_) (s':p_),CX w [] H s (λ_ _ _=>False) e s'->False) :
  PySem.W.WalkX q loose XP (PySem.W.X.obsZ as) (PySem.W.X.valZ K N t) l.row.toRowW d [] (λf vs=>PySem.call f vs):=by
 intro w s₀ s₁ mg mb G y fa o pm cd doc dV kV ho hd hcd hD hmg hg args vals as' L hpre hlay hrd hwl hlo;have Z:=PySem.W.X.z_facts hk y;have tk:t<=s₁.toks:=by
  obtain⟨ord,_,e⟩:=L.laid;have g:=(PySem.W.layAllW_grows _ _ _ e).toks;rw[Z.2.2.2]at g;exact g
 have KX:(K w.params).In s₁.heap:=PySem.W.InK.keeps w s₀.heap s₁.heap Z.2.1 L.keeps;obtain rfl:dV= .none:=PySem.W.Dflts.none hD hdf;obtain rfl:kV= .none:=PySem.W.Dflts.noKw hD;obtain⟨a,vs,ns,rfl,rfl,hobj,hints,hlen⟩:=Att.Oi hn hpre hwl;obtain⟨fd,hb,hF⟩:=F w mg fa _ KX G.T.g hmg;refine PySem.W.enter_call (qbm (Q9 KX G.T.g G.T.b G.T.builtins G.T.nolimit hg ((SK KX G.T.g (ht _)).mono tk) hobj hints (m_ hlen hn2) hr hF hb (λH hO hS=>Sq w H a ns hlen hO hS) λH e s'=>hCX w H s₁ e s') λr s' hq=>?_);obtain⟨rfl,h2,h3,h4⟩:=hq
 exact⟨.inl ⟨.bool true,.bool true,[],Y,λ_=>rfl,.bool true,Att.Ou l _,λ_=>⟨List.Pairwise.nil,λ_ hm=>(nomatch hm)⟩⟩,h2,h3,h4⟩
end
section
noncomputable def aY(c:Nat)(z:r_):r_:=⟨(z.cps.toList.filter (· != c)).toArray⟩
theorem LR(z:r_)(c:Nat):Txt.replace z ⟨#[c]⟩ ⟨#[]⟩=aY c z:=by
 have h:=replace_strikes z c;unfold aY;rw[←h]
def SM(c:Nat)(to:TE):TE:=λσ H Q=>to σ H λx H1=>∃z:r_,x= .str z/\z.cps.size<=1000000/\Q (.str (aY c z)) H1
section
variable{X:Cx}{o:Expr}{to:TE}{g:r_}{c j:Nat}{u:Tok}{apos cpos p1 p2:qcd}
theorem Ox(ho:PE X o to)(hg:Gl X g)(hmg:X.mg g=some (.str ⟨#[c]⟩ u))
  (hbase:attributeBase o "replace" X.env (eval o X.env)=eval o X.env:=by rfl)
  (hfew:((backTo cpos (Z_ [.Name g p1,.Constant (.str "") j p2] X.env)).all (λx=>!x.1)&&(backToKw cpos (keywordEach [] X.env)).all (λx=>x.1.isSome)
   && decide (([.Name g p1,.Constant (.str "") j p2]:List Expr).length+([]:List Keyword).length+(if([]:List Keyword).isEmpty then 0 else 1)<30))=true:=by rfl)
  (hline:(apos.endLine==cpos.line)=true:=by rfl) (hs:Z_ [.Name g p1,.Constant (.str "") j p2] X.env=[(false,eval (.Name g p1) X.env),(false,eval (.Constant (.str "") j p2) X.env)]:=by rfl)
  (hd:(g==("__debug__" :r_))=false:=by decide) :
  PE X (.Call (.Attribute o "replace" apos) [.Name g p1,.Constant (.str "") j p2] [] cpos) (SM c to):=by
 intro pins s σ H Q I h;refine wpAny_Call_method_late hbase hfew hline Y (iB (ho pins s σ H _ I h) λv s1 ⟨x,H1,I1,r1,q1⟩=>?_);obtain⟨z,rfl,hz,q⟩:=q1;obtain⟨h1,h2⟩:=LA (T:= "str") I1 r1 rfl;obtain⟨t,rfl⟩:=r1;refine⟨"str",_,F.plainAttrs_str,F.slot_str_replace,F.type_str_replace,h1,h2,?_⟩;rw[hs];refine qbV Y (qb9 ?_);refine Calls.spliced_cons (qK I1 hg hmg ?_ hd);show N_ _ _ (spliced [(false,eval (.Constant (.str "") j p2) X.env)]) _ _ s1;refine Calls.spliced_cons (Calls.Constant_str (Calls.spliced_nil ?_));obtain⟨k1,k2⟩:=I1.tk g _ _ hmg;have I2:Inv X pins σ H1 { s1 with toks:=s1.toks+1 }:=I1.tok _;refine TK.dD (j_ (s1.toks+1)) (SC.replace (s:={ s1 with toks:=s1.toks+1 }) k2 (qba (s_ (X_ u) k1)) (Y_ k1) ?_ ?_ λt' k hk=>?_)
 ·show(((⟨#[c]⟩:r_))==((⟨#[]⟩:r_)))=false;exact beq_eq_false_iff_ne.mpr λe=>by cases e
 ·show z.cps.size+(z.cps.size+1)*0<=16777216;omega
 ·refine⟨.str (aY c z),H1,I2.tok k hk,⟨t',?_⟩,q⟩;rw[←LR];rfl
end
end
section
noncomputable abbrev sg(c:Nat):V:=.str ⟨#[c]⟩
theorem CT:∀{cs:List Nat} {us:List i_},Vals (cs.map sg) us->∃l:List (r_×Tok),us=strValues l/\l.map (·.1)=cs.map λc=>(⟨#[c]⟩:r_)
 |[],_,.nil=>⟨[],rfl,rfl⟩
 |c::cs,_,.cons r rs=>by
  obtain⟨t,e⟩:=r;obtain⟨l,e1,e2⟩:=CT rs;exact⟨(⟨#[c]⟩,t)::l,by rw[e,e1];rfl,by rw[qak,e2];rfl⟩
theorem Gq:∀(l:List Nat) (n:Nat),(l.map λc=>(⟨#[c]⟩:r_)).foldl (λa (x:r_)=>a+x.length+(⟨#[]⟩:r_).length) n=n+l.length
 |[],_=>rfl
 |c::l,n=>by
  rw[qak,qb1,Gq l];show n+1+0+l.length=n+(l.length+1);omega
theorem Q4{X:Cx}{K':PySem.W.Frag}(hK:X.K=K'):MtR X "str.join" (λx xs H Q=>fD λ(l:g_) (cs:List Nat)=>x= .str ⟨#[]⟩/\xs=[.ref l]/\bY K' H l (cs.map sg)/\cs.length<=100000/\Q (.str ⟨cs.toArray⟩) H):=by
 subst hK;intro pins s σ H x xs v us Q I rx rs h;obtain⟨l,cs,rfl,rfl,hl,hn,q⟩:=h;obtain⟨t,rfl⟩:=rx
 cases rs with
 |cons r rr =>
  cases rr;cases r;obtain⟨its,r1,t1,_⟩:=I.list hl;obtain⟨ls,e1,e2⟩:=CT r1;refine TK.dD (j_ s.toks) (SC.join (l:=ls) (by rw[←e1];exact t1.isList) e2 ?_ λt' k hk=>⟨.str ⟨cs.toArray⟩,H,I.tok k hk,⟨t',?_⟩,q⟩)
  ·unfold JoinOk;rw[List.foldl_toArray,Gq];unfold Builtin.Str.tooLong;rw[qbd,decide_eq_false_iff_not,Nat.zero_add];exact Nat.not_lt.mpr (m_ hn (by decide))
  ·have e:Txt.join ⟨#[]⟩ (cs.map λc=>(⟨#[c]⟩:r_))=⟨cs.toArray⟩:=by
    show Builtin.Str.glued _ _=_;rw[StrLaws.glued_eq_join,join_ones]
   rw[e]
theorem HE{X:Cx}:MtR X "str.join" (λx xs H Q=>fD λ(l:g_) (cs:List Nat)=>x= .str ⟨#[]⟩/\xs=[.ref l]/\bY X.K H l (cs.map sg)/\cs.length<=100000/\Q (.str ⟨cs.toArray⟩) H):=Q4 rfl
theorem QX{X:Cx}(hu:X.A.units<cLine):uz X (compareOp .Eq) (λx y H Q=>yj λp q xs ys=>x= .ref p/\y= .ref q/\bY X.K H p xs/\bY X.K H q ys/\xs.length=ys.length/\xs.all rm=true/\ys.all rm=true/\Q (.bl (i7 xs ys)) H):=by
 intro pins s σ H x y v u Q I rx ry h;obtain⟨p,q,xs,ys,rfl,rfl,hp,hq,hl,fx,fy,k⟩:=h;cases rx;cases ry;obtain⟨us,r1,t1,_⟩:=I.list hp;obtain⟨vs,r2,t2,_⟩:=I.list hq;have hsz:us.toArray.size=vs.toArray.size:=by rw[u_,u_,←r1.length,←r2.length,hl]
 refine SeqAt.RcAt.lists (A:=X.A) (s:=s) t1.isList t2.isList hsz hu (HZ r1 r2 fx fy) X.prog X.w X.xe _ ⟨.bl (i7 xs ys),H,I,?_,k⟩;unfold i7;have e1:min xs.length ys.length=us.toArray.size:=by rw[←hl,Nat.min_self,r1.length,u_]
 have e2:(xs.length==ys.length)=true:=by rw[hl];exact beq_self_eq_true _
 rw[e1,e2,Bool.and_true];rfl
end
section
noncomputable def nv(sp:Sp):Sp:=λvs H Q _=>sp vs H Q λ_ _ _=>False
theorem aI.nv{P:I_}{w:W_}{K:PySem.W.Frag}{mg:r_->Option i_}{base:qad}{k:Nat}{f:g_}{fd:B_}{ps:List r_}{sp:Sp}(F:aI P w K mg base (sZ P w) k f fd ps sp):aI P w K mg base cO k f fd ps (nv sp) :=
 ⟨λvs H Q E q=>F.len vs H Q _ q,λA outer s H args us vs Q E hr he hb hv hs=>qbm (F.run A outer s H args us vs Q _ hr he hb hv hs) λr s' h=>by
  cases r with
  |error e=>obtain⟨ea,cls,od,H',h⟩:=h;exact(h.2.2.2.2.2.2.2:False).elim
  |ok fl=>cases fl<;>exact h⟩
theorem nV{J:It}{g:TG}{te:TE}{σ':St}{H1:Hp}{D:Hp->Prop}{l:g_}(n:Nat)(f:Nat->V)(hl:H1 l=none)(hn:n<z_)
  (go:∀i H,aj H1 H->i<n->J.go i H) (st:∀H,aj H1 H->J.stop n H)
  (el:∀i x H H3 (R:VK),aj H1 H->i<n->J.IX i H x H3->(∀H5,aj H H5->R (f i) H5)->g x σ' H3 λFN H4=>Kp σ' FN/\te FN H4 R)
  (fin:∀H',aj H1 H'->H' l=some (.lst ((E_ n).map f))->D H') :
  ∃W:Nat->Nat->List V->Hp->Prop,(∃m,W 0 m [] (upd H1 l (.lst [])))/\∀i m ys H2,W i m ys H2->(J.stop i H2/\D H2) ∨
   (J.go i H2/\∀x H3,J.IX i H2 x H3->g x σ' H3 λFN H4=>Kp σ' FN/\te FN H4 λy H5=>H5 l=some (.lst ys)/\ys.length<z_/\∃m',m'<m/\W (i+1) m' (ys++[y]) (upd H5 l (.lst (ys++[y])))):=by
 refine⟨λi m ys H2=>m=n-i/\i<=n/\ys=(E_ i).map f/\aj H1 H2/\H2 l=some (.lst ys),⟨n,Y,X_ _,Y,GP.aj.upd hl,ai⟩,?_⟩;rintro i m ys H2 ⟨rfl,hi,rfl,s2,h2⟩;by_cases hlt:i<n
 ·refine .inr ⟨go i H2 s2 hlt,λx H3 y=>el i x H2 H3 _ s2 hlt y λH5 s5=>?_⟩;refine⟨s5 _ _ h2,by rw[f_,qan];omega,n-(i+1),by omega,Y,hlt,?_,GP.aj.at (s2.trans s5) hl,ai⟩;rw[qbi,P_];rfl
 ·have e:i=n:=by omega
  subst e;exact .inl ⟨st H2 s2,fin H2 s2 h2⟩
theorem Ig{J:It}{g:TG}{tt:TT}{te:TE}{σ':St}{H1:Hp}{D:Hp->Prop}{l:g_}(n:Nat)(b:Nat->Bool)(f:Nat->V)(hl:H1 l=none)(hn:n<z_)
  (go:∀i H,aj H1 H->i<n->J.go i H) (st:∀H,aj H1 H->J.stop n H)
  (el:∀i x H H3 (R:VK) (S:Hp->Prop),aj H1 H->i<n->J.IX i H x H3->(b i=true->∀H5,aj H H5->R (f i) H5)->(b i=false->∀H5,aj H H5->S H5) →
   g x σ' H3 λFN H4=>Kp σ' FN/\tt FN H4 λb' H5=>if b'=true then te FN H5 R else S H5)
  (fin:∀H',aj H1 H'->H' l=some (.lst (((E_ n).filter b).map f))->D H') :
  ∃W:Nat->Nat->List V->Hp->Prop,(∃m,W 0 m [] (upd H1 l (.lst [])))/\∀i m ys H2,W i m ys H2->(J.stop i H2/\D H2) ∨
   (J.go i H2/\∀x H3,J.IX i H2 x H3->g x σ' H3 λFN H4=>Kp σ' FN/\tt FN H4 λb H5 =>
    if b=true then te FN H5 (λy H6=>H6 l=some (.lst ys)/\ys.length<z_/\∃m',m'<m/\W (i+1) m' (ys++[y]) (upd H6 l (.lst (ys++[y]))))else ∃m',m'<m/\W (i+1) m' ys H5):=by
 refine⟨λi m ys H2=>m=n-i/\i<=n/\ys=((E_ i).filter b).map f/\aj H1 H2/\H2 l=some (.lst ys),⟨n,Y,X_ _,Y,GP.aj.upd hl,ai⟩,?_⟩;rintro i m ys H2 ⟨rfl,hi,rfl,s2,h2⟩;by_cases hlt:i<n
 ·refine .inr ⟨go i H2 s2 hlt,λx H3 y=>el i x H2 H3 _ _ s2 hlt y (λhb H5 s5=>?_) λhb H5 s5=>?_⟩
  ·refine⟨s5 _ _ h2,?_,n-(i+1),by omega,Y,hlt,?_,GP.aj.at (s2.trans s5) hl,ai⟩
   ·rw[f_];exact s_ (m_ (qaI _ _) (by rw[qan];omega)) hn
   ·rw[qbi,qcr,P_,qbe hb];rfl
  ·refine⟨n-(i+1),by omega,Y,hlt,?_,s2.trans s5,s5 _ _ h2⟩;rw[qbi,qcr,qbf (by rw[hb];exact O_),List.filter_nil,qaR]
 ·have e:i=n:=by omega
  subst e;exact .inl ⟨st H2 s2,fin H2 s2 h2⟩
end
end L2
namespace GP
open PySem L2 pR
def Rw(K:PySem.W.Frag)(H:Hp)(v:V)(rs:List r_):Prop:=∃a,v= .ref a/\(bY K H a (rs.map V.str)\/eK K H a (rs.map V.str))
theorem Rw.same{K:PySem.W.Frag}{H H':Hp}{v:V}{rs:List r_}(h:Rw K H v rs)(e:aj H H'):Rw K H' v rs:=by
 obtain⟨a,h1,h2⟩:=h;exact⟨a,h1,h2.imp (aj.seq e) (aj.tup e)⟩
theorem Rw.cp{K:PySem.W.Frag}{H:Hp}{v:V}{rs:List r_}(h:Rw K H v rs):∃c:Cp,v=c.val/\∀H',aj H H'->c.at K H' (rs.map V.str):=by
 obtain⟨a,rfl,h|h⟩:=h
 ·exact⟨.lst a,Y,λH' e=>aj.seq e h⟩
 ·exact⟨.tup a,Y,λH' e=>aj.tup e h⟩
theorem Rw.len{K:PySem.W.Frag}{H:Hp}{v:V}{rs:List r_}(h:Rw K H v rs):UA K v H rs.length:=by
 obtain⟨a,rfl,h|h⟩:=h
 ·exact .inl ⟨_,h,by rw[f_]⟩
 ·exact .inr ⟨_,h,by rw[f_]⟩
theorem Rw.ix{K:PySem.W.Frag}{H:Hp}{v:V}{rs:List r_}{i:Nat}{r:r_}{Q:VK}(h:Rw K H v rs)(e:rs[i]? =some r)(q:Q (.str r) H):rIx K v (.int (i:Int)) H Q:=by
 obtain⟨a,rfl,h|h⟩:=h
 ·exact .inl ⟨a,_,_,_,Y,Y,h,cG (by rw[n_,e];rfl),q⟩
 ·exact .inr (.inl ⟨a,_,_,_,Y,Y,h,cG (by rw[n_,e];rfl),q⟩)
structure Iq(rs:List r_):Prop where
 len:rs.length<=100
 row:∀r∈rs,r.cps.size<=1000
noncomputable def ff(rs:List r_)(n:Nat):List Nat:=rs.map λr=>r.cps.toList.getD n 0
noncomputable def iK(rs:List r_)(n:Nat):r_:=⟨(ff rs n).toArray⟩
noncomputable def cols(rs:List r_)(n:Nat):List r_:=(E_ n).map (iK rs)
noncomputable def c6(x:r_):Bool:=x.cps.toList.all (·==45)
noncomputable def jB(x:r_):Bool:=(aY 45 x).cps.toList.all gO
noncomputable def mR:List r_->Bool
 |[]=>false
 |r::rs=>(r::rs).all λx=>x.cps.size==r.cps.size
noncomputable def ck(rs:List r_):Nat:=(rs.headD ⟨#[]⟩).cps.size
noncomputable def Aa(rs:List r_):Bool:=(cols rs (ck rs)).all λc=>!c6 c
noncomputable def cR(rs:List r_):Bool:=mR rs&&(rs.all jB&&Aa rs)
theorem bG{rs:List r_}:mR rs=true↔rs≠[]/\∀r∈rs,r.cps.size=ck rs:=by
 cases rs with
 |nil=>exact⟨λh=>(by cases h),λh=>absurd Y h.1⟩
 |cons r rs =>
  show((r::rs).all λx=>x.cps.size==r.cps.size)=true↔_;rw[v_];exact⟨λh=>⟨by simp,λx hx=>eq_of_beq (h x hx)⟩,λh x hx=>beq_iff_eq.mpr (h.2 x hx)⟩
theorem Ud{x:r_}:decide (V.str x=V.str (vW (w_ "-") (x.length:Nat)))=c6 x:=by
 have e:(vW (w_ "-") (x.length:Nat)).cps.toList=y_ x.cps.toList.length 45:=by
  rw[AL];show(y_ x.cps.size [45]).flatten=_;rw[o_];generalize x.cps.size=n
  induction n with
  |zero=>rfl
  |succ n ih=>rw[qat,qaO,ih,qat];rfl
 rw[qbg,decide_eq_true_iff];unfold c6;rw[v_];refine⟨λh c hc=>?_,λh=>?_⟩
 ·injection h with h;rw[h,e]at hc;exact beq_iff_eq.mpr (qax hc)
 ·have z:x.cps.toList=y_ x.cps.toList.length 45:=List.eq_replicate_of_mem λc hc=>eq_of_beq (h c hc);rw[←e]at z;have:x.cps=(vW (w_ "-") (x.length:Nat)).cps:=Array.toList_inj.mp z;have e2:x=vW (w_ "-") (x.length:Nat):=by
   rcases h3:vW (w_ "-") (x.length:Nat)with⟨cs⟩;rw[h3]at this;rcases x with⟨xs⟩;exact congrArg Str.mk this
  rw[←e2]
def C9(K:PySem.W.Frag):Sp:=λvs H Q _=>rG λ(v:V) (rs:List r_) (n:Nat)=>vs=[v,.int n]/\Rw K H v rs/\Iq rs/\(∀r∈rs,n<r.cps.size)/\∀H',aj H H'->Q (.str (iK rs n)) H'
def zq(K:PySem.W.Frag):Sp:=λvs H Q _=>rG λ(v:V) (rs:List r_) (n:Nat)=>vs=[v,.int n]/\Rw K H v rs/\Iq rs/\n<=1000/\(∀r∈rs,n<=r.cps.size) ∧
 ∀l H',aj H H'->H l=none->H' l=some (.lst ((cols rs n).map V.str))->Q (.ref l) H'
def uH(K:PySem.W.Frag):Sp:=λvs H Q _=>fD λ(v:V) (rs:List r_)=>vs=[v]/\Rw K H v rs/\Iq rs/\mR rs=true ∧
 ∀l H',aj H H'->H l=none->H' l=some (.lst ((cols rs (ck rs)).map V.str))->Q (.ref l) H'
def Df:Sp:=λvs H Q _=>∃x:r_,vs=[.str x]/\x.cps.size<=1000/\Q (.bl (c6 x)) H
def uG:Sp:=λvs H Q _=>∃x:r_,vs=[.str x]/\x.cps.size<=1000/\Q (.str (aY 45 x)) H
def BG:Sp:=λvs H Q _=>∃x:r_,vs=[.str x]/\x.cps.size<=1000/\∀H',aj H H'->Q (.bl (jB x)) H'
def F5(K:PySem.W.Frag)(C:g_)(pre p:List r_->Bool):Sp:=λvs H Q E=>fD λ(v:V) (rs:List r_)=>vs=[v]/\Rw K H v rs/\Iq rs/\pre rs=true ∧
 (p rs=true->∀H',aj H H'->Q .lV H')/\(p rs=false->∀H',aj H H'->E (.ref C) none H')
def vV(K:PySem.W.Frag)(C:g_)(H:Hp)(b:g_)(rs:List r_):Prop:=fD λdx q=>H b=some (.ins C dx (aX "rows" (.ref q) []))/\eK K H q (rs.map V.str)
theorem vV.same{K:PySem.W.Frag}{C:g_}{H H':Hp}{b:g_}{rs:List r_}(h:vV K C H b rs)(e:aj H H'):vV K C H' b rs:=by
 obtain⟨dx,q,h1,h2⟩:=h;exact⟨dx,q,e _ _ h1,aj.tup e h2⟩
def tG(K:PySem.W.Frag)(C X:g_):Sp:=λvs H Q E=>yj λ(b dx:g_) (v:V) (rs:List r_)=>vs=[.ref b,v]/\H b=some (.ins C dx [])/\Rw K H v rs/\Iq rs ∧
 (cR rs=true->∀H',(∀a u,H a=some u->a≠b->H' a=some u)->vV K C H' b rs->Q .lV H')/\(cR rs=false->∀H',aj H H'->E (.ref X) none H')
end GP
namespace L2
open PySem PySem.Spec PyProof.Rows
theorem QY{X:Cx}:uz X (binaryOp .Add) (λx y H Q=>rG λa b ys=>x= .ref a/\y= .ref b/\eK X.K H a []/\eK X.K H b ys/\Q (.ref b) H):=by
 intro pins s σ H x y v u Q I rx ry h;obtain⟨a,b,ys,rfl,rfl,ha,hb,q⟩:=h;cases rx;cases ry;obtain⟨its,r1,p1,_⟩:=I.tuple ha;obtain⟨its2,r2,p2,z2⟩:=I.tuple hb;cases r1;obtain⟨⟨cls,dd,data,sl⟩,ho,hc,n,hd⟩:=id p1;obtain⟨⟨ag3,dd2,data2,sl2⟩,ho2,hc2,n2,hd2⟩:=id p2;simp only at hc hd hc2 hd2;subst hc hd hc2 hd2;exact concat_meets ⟨_,ho,Y⟩ ⟨_,ho2,Y⟩ noFill_tuple_add seq_tuple_add PySem.F.slot_tuple_add PySem.F.entry_tuple_add (PySem.F.args_tuple_add_2 _ _) (tuple_addW0 a b _ _ n n2 dd dd2 sl sl2 (by simp)) ⟨ho,ho2,.ref b,H,I,Y,q⟩
theorem DB{X:Cx}:uz X (binaryOp .Add) (λx y H Q=>QG X.K x y H Q\/rG λa b ys=>x= .ref a/\y= .ref b/\eK X.K H a []/\eK X.K H b ys/\Q (.ref b) H):=NB.or QY
end L2
namespace GP
open PySem L2 pR
section
theorem eK.afv{K:PySem.W.Frag}{H:Hp}{l a C dx:g_}{fs:List (r_×V)}{xs:List V}{o:HO}(hl:H l=some (.ins C dx fs))(h:eK K H a xs):eK K (L2.upd H l o) a xs:=by
 rcases h with(h|⟨u,h⟩)|h
 ·exact .inl (.inl (by rw[aH (rJ h hl (by intro z;cases z))];exact h))
 ·exact .inl (.inr ⟨u,by rw[aH (rJ h hl (by intro z;cases z))];exact h⟩)
 ·exact .inr h
theorem fz{q:V}:(aX "rows" q []).lookup ("rows" :r_)=some q:=by
 rw[aC,if_pos rfl]
noncomputable def inR(i:Int)(n:Nat):Bool:=decide (0<=i)&&decide (i<n)
def LJ(K:PySem.W.Frag)(C X:g_):Sp:=λvs H Q E=>rG λ(b:g_) (i:Int) (rs:List r_)=>vs=[.ref b,.int i]/\vV K C H b rs/\(inR i rs.length=true->Q .lV H)/\(inR i rs.length=false->E (.ref X) none H)
def Qx(K:PySem.W.Frag)(C X:g_):Sp:=λvs H Q E=>rG λ(b:g_) (i:Int) (rs:List r_)=>vs=[.ref b,.int i]/\vV K C H b rs/\Iq rs/\(∀r,0<=i->rs[i.toNat]? =some r->Q (.str (aY 45 r)) H)/\(inR i rs.length=false->E (.ref X) none H)
def JB(K:PySem.W.Frag)(C X:g_):Sp:=λvs H Q E=>∃x:r_,vs=[.str x]/\x.cps.size<=1000 ∧
 (cR [x]=true->∀b H',aj H H'->H b=none->vV K C H' b [x]->Q (.ref b) H')/\(cR [x]=false->∀H',aj H H'->E (.ref X) none H')
def Dc(K:PySem.W.Frag)(C:g_):Sp:=λvs H Q _=>rG λ(b:g_) (n:Nat) (rs:List r_)=>vs=[.ref b,.int (n:Int)]/\vV K C H b rs/\n<rs.length/\rs.length<=100 ∧
 ∀q H',aj H H'->eK K H' q ((rs.eraseIdx n).map V.str)->Q (.ref q) H'
noncomputable def packed(rs:List r_):List r_:=cols ((cols rs (ck rs)).filter λc=>!c6 c) rs.length
def F1(K:PySem.W.Frag)(C X:g_):Sp:=λvs H Q E=>rG λ(b:g_) (i:Int) (rs:List r_)=>vs=[.ref b,.int i]/\vV K C H b rs/\Iq rs/\ck rs<=100/\cR rs=true ∧
 (inR i rs.length=true->rs.length≠1->∀b' H',aj H H'->H b'=none->vV K C H' b' (packed (rs.eraseIdx i.toNat))->Q (.ref b') H')/\(inR i rs.length=false\/rs.length=1->∀H',aj H H'->E (.ref X) none H')
theorem Ef{rs:List r_}{n:Nat}:(ff rs n).length=rs.length:=by unfold ff;rw[f_]
theorem lQ{rs:List r_}{n:Nat}:(iK rs n).cps.size=rs.length:=by
 show(ff rs n).length=_;exact Ef
theorem bE{rs:List r_}{n:Nat}:(cols rs n).length=n:=by unfold cols;rw[f_,qan]
theorem xT{rs:List r_}{n i:Nat}(h:i<n):(cols rs n)[i]? =some (iK rs i):=by
 unfold cols;rw[n_,List.getElem?_range h];rfl
theorem sL{x:r_}:jB x=true↔∀c∈x.cps.toList,c≠45->gO c=true:=by
 unfold jB aY;rw[v_];refine⟨λh c hc n=>h c ?_,λh c hc=>?_⟩
 ·show c∈x.cps.toList.filter (· != 45);exact qaC.mpr ⟨hc,by simpa using n⟩
 ·have hc':c∈x.cps.toList.filter (· != 45):=hc;obtain⟨a,b⟩:=qaC.mp hc';exact h c a (by simpa using b)
theorem xS{cs:List r_}{n:Nat}(h:∀c∈cs,c.cps.size=n):cols (cols cs n) cs.length=cs:=by
 refine List.ext_getElem? λi=>?_;by_cases hi:i<cs.length
 ·rw[xT hi,e_ hi];have hs:=h _ (x_ hi);have e:ff (cols cs n) i=cs[i].cps.toList:=by
   unfold ff cols;rw[qaf];refine qaZ (by simp[hs]) λj h1 h2=>?_;have hj:j<n:=by simpa using h1
   have hj2:j<cs[i].cps.toList.length:=h2;have e1:(iK cs j).cps.toList.getD i 0=cs[i].cps.toList.getD j 0:=by
    show(ff cs j).getD i 0=_;unfold ff;rw[L_,n_,e_ hi];rfl
   simp only[qaJ,qa9,Function.comp];rw[e1,L_,e_ hj2,qaS]
  unfold iK;rw[e]
 ·rw[qaN (by rw[bE];omega),qaN (by omega)]
theorem uO{rs:List r_}(hl:mR rs=true)(ht:rs.all jB=true):cR (packed rs)=true:=by
 obtain⟨hne,hw⟩:=bG.mp hl;have hlen:0<rs.length:=qbK.mpr hne;have hcs:∀c∈(cols rs (ck rs)).filter (λc=>!c6 c),c.cps.size=rs.length:=λc hc=>by
  obtain⟨a,_⟩:=qaC.mp hc;unfold cols at a;obtain⟨j,_,rfl⟩:=G_.mp a;exact lQ
 have Kv:∀r∈packed rs,r.cps.size=((cols rs (ck rs)).filter λc=>!c6 c).length:=λr hr=>by
  unfold packed cols at hr;obtain⟨j,_,rfl⟩:=G_.mp hr;exact lQ
 have hpl:(packed rs).length=rs.length:=bE;have hpn:packed rs≠[]:=λz=>by rw[z]at hpl;exact absurd hpl.symm (qba hlen)
 have abj:ck (packed rs)=((cols rs (ck rs)).filter λc=>!c6 c).length:=by
  cases hp:packed rs with
  |nil=>exact absurd hp hpn
  |cons r t=>exact Kv r (by rw[hp];exact D_ ..)
 unfold cR;rw[R_,R_];refine⟨bG.mpr ⟨hpn,λr hr=>(Kv r hr).trans abj.symm⟩,v_.mpr λr hr=>sL.mpr λc hc hn=>?_,?_⟩
 ·unfold packed at hr;unfold cols at hr;obtain⟨j,hj,rfl⟩:=G_.mp hr;have hj':j<rs.length:=qag.mp hj;have hc':c∈ff ((cols rs (ck rs)).filter λc=>!c6 c) j:=hc;unfold ff at hc';obtain⟨col,agr,rfl⟩:=G_.mp hc';obtain⟨a,_⟩:=qaC.mp agr;unfold cols at a;obtain⟨i,hi,rfl⟩:=G_.mp a;have hi':i<ck rs:=qag.mp hi;have e1:(iK rs i).cps.toList.getD j 0=rs[j].cps.toList.getD i 0:=by
   show(ff rs i).getD j 0=_;unfold ff;rw[L_,n_,e_ hj'];rfl
  rw[e1]at hn ⊢;have hm:=x_ hj';have hz:i<rs[j].cps.toList.length:=by rw[o_,hw _ hm];exact hi'
  rw[L_,e_ hz,qaS]at hn ⊢;exact sL.mp (v_.mp ht _ hm) _ (x_ hz) hn
 ·unfold Aa;rw[abj];unfold packed;rw[xS hcs,v_];intro c hc;exact(qaC.mp hc).2
theorem Pb{rs:List r_}{n:Nat}(h:mR rs=true)(hn:n<rs.length)(h1:rs.length≠1):mR (rs.eraseIdx n)=true:=by
 obtain⟨hne,hw⟩:=bG.mp h;have hl:(rs.eraseIdx n).length=rs.length-1:=qbu hn;have hn2:rs.eraseIdx n≠[]:=λz=>by rw[z]at hl;have:0=rs.length-1:=hl;omega
 refine bG.mpr ⟨hn2,λr hr=>?_⟩;have hw2:ck (rs.eraseIdx n)=ck rs:=by
  cases hp:rs.eraseIdx n with
  |nil=>exact absurd hp hn2
  |cons r t=>exact hw r (T_ (by rw[hp];exact D_ ..))
 rw[hw2];exact hw r (T_ hr)
theorem Ib{rs:List r_}{n:Nat}(h:rs.all jB=true):(rs.eraseIdx n).all jB=true :=
 v_.mpr λr hr=>v_.mp h r (T_ hr)
theorem O5{rs:List r_}{n:Nat}:((E_ n).filter λi=>!c6 (iK rs i)).map (λi=>V.str (iK rs i))=((cols rs n).filter λc=>!c6 c).map V.str:=by
 unfold cols;rw[qcp,qaf];rfl
theorem MI{rs:List r_}{n:Nat}(hn:n<=100)(hr:rs.length<=100)(p:r_->Bool):Iq ((cols rs n).filter p) :=
 ⟨m_ (qaI _ _) (by rw[bE];exact hn),λr h=>by
  obtain⟨a,_⟩:=qaC.mp h;unfold cols at a;obtain⟨j,_,rfl⟩:=G_.mp a;rw[lQ];omega⟩
theorem Uq{rs:List r_}{n:Nat}{p:r_->Bool}{r:r_}(h:r∈(cols rs n).filter p):r.cps.size=rs.length:=by
 obtain⟨a,_⟩:=qaC.mp h;unfold cols at a;obtain⟨j,_,rfl⟩:=G_.mp a;exact lQ
theorem Hh{rs:List r_}(hn:ck rs<=100)(hr:rs.length<=100):Iq (packed rs) :=
 ⟨by unfold packed;rw[bE];exact hr,λr h=>by
  unfold packed cols at h;obtain⟨j,_,rfl⟩:=G_.mp h;rw[lQ];exact m_ (qaI _ _) (by rw[f_,qan];omega)⟩
theorem Pa{rs:List r_}{n:Nat}(h:mR rs=true)(hn:n<rs.length)(h1:rs.length≠1):ck (rs.eraseIdx n)=ck rs:=by
 obtain⟨hne,hw⟩:=bG.mp h;have hl:(rs.eraseIdx n).length=rs.length-1:=qbu hn
 cases hp:rs.eraseIdx n with
 |nil=>rw[hp]at hl;have:0=rs.length-1:=hl;omega
 |cons r t=>exact hw r (T_ (by rw[hp];exact D_ ..))
end
section
def PC(c:Nat):Prop:=c=45\/gO c=true
structure uy(rs:List r_)(n i:Nat):Prop where
 len:rs.length=n
 ck:∀r∈rs,r.cps.size=i
 ok:∀r∈rs,∀c∈r.cps.toList,PC c
 col:∀j,j<i->∃r∈rs,∃c,r.cps.toList[j]? =some c/\c≠45
theorem uy.w{rs:List r_}{n i:Nat}(h:uy rs n i)(hn:0<n):GP.ck rs=i:=by
 cases hr:rs with
 |nil=>have:=h.len;rw[hr]at this;have:0=n:=this;omega
 |cons r t=>exact h.ck r (by rw[hr];exact D_ ..)
theorem uy.mR{rs:List r_}{n i:Nat}(h:uy rs n i)(hn:0<n):GP.mR rs=true:=by
 refine bG.mpr ⟨λz=>?_,λr hr=>(h.ck r hr).trans (h.w hn).symm⟩;have:=h.len;rw[z]at this;have:0=n:=this;omega
theorem uy.things{rs:List r_}{n i:Nat}(h:uy rs n i):rs.all jB=true :=
 v_.mpr λr hr=>sL.mpr λc hc hn=>(h.ok r hr c hc).resolve_left hn
theorem Ky{rs:List r_}{j:Nat}:c6 (iK rs j)=true↔∀r∈rs,r.cps.toList.getD j 0=45:=by
 unfold c6 iK ff;rw[v_];refine⟨λh r hr=>eq_of_beq (h _ (G_.mpr ⟨r,hr,Y⟩)),λh c hc=>?_⟩;obtain⟨r,hr,rfl⟩:=G_.mp (show c∈rs.map λr=>r.cps.toList.getD j 0 from hc);exact beq_iff_eq.mpr (h r hr)
theorem uy.block{rs:List r_}{n i:Nat}(h:uy rs n i)(hn:0<n):cR rs=true:=by
 unfold cR;rw[h.mR hn,h.things,qck,qck];unfold Aa;rw[h.w hn,v_];intro c hc;unfold cols at hc;obtain⟨j,hj,rfl⟩:=G_.mp hc;obtain⟨r,hr,c,hc,hne⟩:=h.col j (qag.mp hj);rw[qbd,qb6];intro z;have:=Ky.mp z r hr;rw[L_,hc]at this;exact hne this
noncomputable def grown(rs:List r_)(cs:List Nat)(n:Nat):List r_:=(E_ n).map λr=>rs.getD r ⟨#[]⟩++⟨#[cs.getD r 0]⟩
theorem bz{α:Type}{l:List α}{i:Nat}{d x:α}(h:l[i]? =some x):l.getD i d=x:=by
 rw[L_,h];rfl
theorem uy.next{rs:List r_}{n i:Nat}{cs:List Nat}(h:uy rs n i)(hl:cs.length=n)(ho:∀c∈cs,PC c)(hg:∃c∈cs,c≠45):uy (grown rs cs n) n (i+1):=by
 have at_:∀r,r<n->fD λx c=>rs[r]? =some x/\cs[r]? =some c/\x∈rs/\c∈cs/\rs.getD r ⟨#[]⟩++⟨#[cs.getD r 0]⟩=x++(⟨#[c]⟩:r_):=λr hr=>by
  have h1:r<rs.length:=by rw[h.len];exact hr
  have h2:r<cs.length:=by rw[hl];exact hr
  refine⟨rs[r],cs[r],e_ h1,e_ h2,x_ h1,x_ h2,?_⟩;rw[bz (e_ h1),bz (e_ h2)]
 have mem:∀y∈grown rs cs n,fD λx c=>x∈rs/\c∈cs/\y=x++(⟨#[c]⟩:r_):=λy hy=>by
  unfold grown at hy;obtain⟨r,hr,rfl⟩:=G_.mp hy;obtain⟨x,c,_,_,a,b,e⟩:=at_ r (qag.mp hr);exact⟨x,c,a,b,e⟩
 have app:∀(x:r_) (c:Nat),(x++(⟨#[c]⟩:r_)).cps.toList=x.cps.toList++[c]:=λx c=>by
  rw[Str.cps_append,Array.toList_append]
 refine⟨by unfold grown;rw[f_,qan],λy hy=>?_,λy hy d hd=>?_,λj hj=>?_⟩
 ·obtain⟨x,c,a,b,rfl⟩:=mem y hy;rw[←o_,app,A_,o_,h.ck x a];rfl
 ·obtain⟨x,c,a,b,rfl⟩:=mem y hy;rw[app]at hd;rcases qab.mp hd with hd|hd
  ·exact h.ok x a d hd
  ·rw[F_.mp hd];exact ho c b
 ·by_cases z:j<i
  ·obtain⟨x,hx,c,hc,hne⟩:=h.col j z;obtain⟨r,hr,e⟩:=qaA hx;have hr':r<n:=by rw[←h.len];exact hr
   obtain⟨x',c',e1,_,_,_,e3⟩:=at_ r hr';rw[e_ hr,e]at e1;cases e1;refine⟨_,G_.mpr ⟨r,qag.mpr hr',e3⟩,c,?_,hne⟩;rw[app,qar (by rw[o_,h.ck x hx];exact z),hc]
  ·have ej:j=i:=by omega
   subst ej;obtain⟨c,hc,hne⟩:=hg;obtain⟨r,hr,e⟩:=qaA hc;have hr':r<n:=by rw[←hl];exact hr
   obtain⟨x',c',e1,e2,hx',_,e3⟩:=at_ r hr';rw[e_ hr,e]at e2;cases e2;refine⟨_,G_.mpr ⟨r,qag.mpr hr',e3⟩,c,?_,hne⟩;have hs:x'.cps.toList.length=j:=by rw[o_];exact h.ck x' hx'
   rw[app,qal (by omega),hs,qbZ];rfl
def Nk(K:PySem.W.Frag)(C:g_):Sp:=λvs H Q _=>rG λ(b a:g_) (rs:List r_)=>vs=[.ref b,.ref a]/\vV K C H b rs/\bY K H a (rs.map V.str)/\rs.length<=100/\∀H',aj H H'->Q (.bl true) H'
end
end GP
namespace L2
open PySem PySem.Spec PyProof.Rows
theorem Ij{X:Cx}:rC X (.builtin "isinstance") (λxs H Q=>yj λb C dx fs=>xs=[.ref b,.ref C]/\H b=some (.ins C dx fs)/\PySem.W.isIn X.K (.ref C) C=true/\Q (.bl true) H):=by
 intro pins s σ H xs us Q I r h;obtain⟨b,C,dx,fs,rfl,hb,e,q⟩:=h;obtain⟨u,w',rfl,rx,rn⟩:=vals2 r;cases (show u=Value.ref b from rx);cases (show w'=Value.ref C from rn);obtain⟨mA,J,_⟩:=CI I.hok hb;obtain⟨od,J',_⟩:=J.look
 exact PySem.W.isi_call I.tu (λM=>J'.type) e (λz=>nomatch z) ⟨.bl true,H,I,Y,q⟩
end L2
namespace GP
open PySem L2 pR
section
theorem yl{xs:List r_}:i7 (xs.map V.str) (xs.map V.str)=true:=by
 unfold i7;rw[beq_self_eq_true,Bool.and_true,v_];intro j hj;have hj':j<xs.length:=by
  have:=qag.mp hj;rw[Nat.min_self,f_]at this;exact this
 rw[bz (show(xs.map V.str)[j]? =some (V.str xs[j]) by rw[n_,e_ hj'];rfl)];show(xs[j]==xs[j])=true;exact beq_self_eq_true _
theorem Bk{xs:List r_}:(xs.map V.str).all rm=true:=v_.mpr λy hy=>by
 obtain⟨x,_,rfl⟩:=G_.mp hy;rfl
theorem Nr(cs:List Nat):cs.map sg=(cs.map λc=>(⟨#[c]⟩:r_)).map V.str:=by rw[qaf];rfl
theorem Dw(n:Nat)(v:V):(y_ n [v]).flatten=y_ n v:=by
 induction n with
 |zero=>rfl
 |succ n ih=>rw[qat,qaO,ih,qat];rfl
theorem Th{cs:List Nat}{n:Nat}(hl:cs.length=n)(h:i7 (cs.map sg) (y_ n (sg 45))=false):∃c∈cs,c≠45:=by
 by_cases z:∃c∈cs,c≠45
 ·exact z
 ·have e:cs=y_ n 45:=List.eq_replicate_iff.mpr ⟨hl,λc hc=>Classical.byContradiction λhne=>z ⟨c,hc,hne⟩⟩;have e2:y_ n (sg 45)=cs.map sg:=by rw[e,List.map_replicate]
  rw[e2,Nr,yl]at h;cases h
theorem GV{c:Nat}(h:gO c=true):c≠45:=λz=>by rw[z]at h;exact absurd h (by decide)
end
section
end
section
end
section
def Qk:Sp:=λvs H Q _=>rG λ(r z:r_) (k:Nat)=>vs=[.str r,.int (k:Int),.str z]/\k<r.cps.size/\r.cps.size<=1000/\z.cps.size<=100/\∀o:r_,o.cps.toList=r.cps.toList.take k++z.cps.toList++r.cps.toList.drop (k+1)->Q (.str o) H
end
section
theorem pY{x:r_}{c:Nat}(h:c∈(aY 45 x).cps.toList):c∈x.cps.toList/\c≠45:=by
 have h':c∈x.cps.toList.filter (· != 45):=h;obtain⟨a,b⟩:=qaC.mp h';exact⟨a,by simpa using b⟩
theorem tE{x:r_}:(aY 45 x).cps.size<=x.cps.size:=by
 show(x.cps.toList.filter (· != 45)).length<=_;exact m_ (qaI _ _) (by rw[o_];exact j_ _)
theorem Ae{x:r_}(h:∀c∈x.cps.toList,PC c):cR [aY 45 x]=true:=by
 refine uy.block (n:=1) (i:=(aY 45 x).cps.size) ⟨Y,λr hr=>by rw[F_.mp hr],λr hr c hc=>?_,λj hj=>?_⟩ (by decide)
 ·rw[F_.mp hr]at hc;exact h c (pY hc).1
 ·have hj':j<(aY 45 x).cps.toList.length:=by rw[o_];exact hj
  exact⟨_,F_.mpr Y,_,e_ hj',(pY (x_ hj')).2⟩
end
section
theorem range_getD(L:List Nat):(E_ L.length).map (λj=>L.getD j 0)=L:=by
 refine qaZ (by simp) λi h1 h2=>?_;simp[L_,e_ h2]
theorem KL(L:List Nat):((E_ L.length).filter (λj=>L.getD j 0 != 45)).map (λj=>sg (L.getD j 0))=(L.filter (· != 45)).map sg:=by
 conv=>rhs;rw[←range_getD L]
 rw[qcp,qaf];rfl
theorem Ye(c:Nat):(!decide (sg c=V.str (w_ "-")))=(c != 45):=by
 have e:decide (sg c=V.str (w_ "-"))=(c==45):=by
  rw[qbg,decide_eq_true_iff,beq_iff_eq];refine⟨λh=>?_,λh=>by rw[h];rfl⟩;have h':(⟨#[c]⟩:r_)=⟨#[45]⟩:=by injection h
  injection h' with h';simpa using h'
 rw[e];rfl
end
end GP
namespace L2
end L2
namespace GP
open PySem L2 pR
structure Da(K:PySem.W.Frag)(mg:r_->Option i_)(x y:r_)(st:qaq)(ps:List r_)(f:g_)(fd:B_):Prop where
 fn:SA K y y st f fd
 b:Binds K fd ps []
 m:mg x=some (.ref f)
end GP
namespace L2
open PySem PySem.Spec PyProof.Rows
theorem BH(ns:List Int):∀n:Nat,preSum (λi=>(ns[i]?).getD 0) n=(ns.take n).sum
 | 0=>rfl
 |n+1=>by
  show preSum _ n+(ns[n]?).getD 0=_;rw[BH ns n];by_cases hn:n<ns.length
  ·rw[qcx,e_ hn,List.sum_append];simp
  ·rw[qaN (by omega),qaa (by omega),qaa (by omega)];simp
theorem ints_get:∀{ns:List Int} {us:List i_},Vals (ns.map V.int) us->∀(i:Nat) (v:i_),us[i]? =some v->fD λn t=>ns[i]? =some n/\v= .int n t
 |[],_,r,i,v,e=>by
  cases r;simp at e
 |n::ns,_,r,i,v,e=>by
  cases r with
  |cons r1 r2 =>
   cases i with
   |zero =>
    simp at e;subst e;obtain⟨t,z⟩:=r1;exact⟨n,t,Y,z⟩
   |succ i=>exact ints_get r2 i v e
theorem qi{X:Cx}{K':PySem.W.Frag}(hK:X.K=K')(hc:X.calm=true):rC X (.builtin "sum") (λxs H Q=>fD λ(l:g_) (ns:List Int)=>xs=[.ref l]/\bY K' H l (ns.map V.int)/\Q (.int ns.sum) H):=by
 subst hK;intro pins s σ H xs us Q I r h;obtain⟨l,ns,rfl,hl,q⟩:=h;obtain⟨u,rfl,ru⟩:=vals1 r;cases ru;obtain⟨its,rv,p,hz⟩:=I.list hl;have pl:s.heap.IsList l its.toArray:=p.isList;have hlt:l<s.heap.objs.size:=by obtain⟨_,e,_⟩:=pl;exact J_ e
 have hlen:ns.length=its.length:=by rw[←rv.length,f_]
 refine TK.dD (j_ s.toks) ?_;refine call_sum_walkG (qb5 pl ?_);refine⟨s.heap.objs.size,[s.heap.objs.size,l],[s.heap.objs.size],its.toArray.size,_,_,λi=>(ns[i]?).getD 0,Y,Walks.list (A:=X.A.in1) (I.ok.hd hc) _ l (Y_ hlt) its.toArray,
  ⟨⟨_,H_ _ rfl,rfl,rfl⟩,pl.push _⟩,λb hb=>?_,λi v hP=>?_,λh' tk t' hk hup=>?_⟩
 ·show b<(s.heap.push _).objs.size;rw[qaQ];rcases S_.mp hb with rfl|z
  ·exact qbo _
  ·rw[F_.mp z];exact Nat.lt_succ_of_lt hlt
 ·obtain⟨n,t,e,rfl⟩:=ints_get rv i v (by simpa using hP);exact⟨t,by show _=Value.int ((ns[i]?).getD 0) t;rw[e];rfl⟩
 ·rw[BH,u_,←hlen,qbP];refine⟨.int ns.sum,H,I.kept (t':=tk) (λb x e=>hk b x (λhm=>?_) (k_ _ e)),⟨_,Y⟩,q⟩;rw[F_.mp hm]at e;exact qa_ _ (J_ e)
end L2
namespace GP
open PySem L2 pR
section
noncomputable def sm(f:Nat->Int):Nat->Int
 | 0=>0
 |n+1=>sm f n+f n
theorem dF{f g:Nat->Int}:∀{n:Nat},(∀i,i<n->f i=g i)->sm f n=sm g n
 | 0,_=>rfl
 |n+1,h=>by
  show sm f n+f n=sm g n+g n;rw[dF λi hi=>h i (by omega),h n (by omega)]
theorem zC:∀n:Nat,sm (λ_=>0) n=0
 | 0=>rfl
 |n+1=>by show sm (λ_=>0) n+0=0;rw[zC n];rfl
theorem AF(f g:Nat->Int):∀n:Nat,sm (λi=>f i+g i) n=sm f n+sm g n
 | 0=>rfl
 |n+1=>by show sm (λi=>f i+g i) n+(f n+g n)=sm f n+f n+(sm g n+g n);rw[AF f g n];omega
theorem CA(f:Nat->Nat->Int)(m:Nat):∀n:Nat,sm (λi=>sm (f i) m) n=sm (λj=>sm (λi=>f i j) n) m
 | 0=>(zC m).symm
 |n+1=>by
  show sm (λi=>sm (f i) m) n+sm (f n) m=sm (λj=>sm (λi=>f i j) n+f n j) m;rw[AF,CA f m n]
theorem Qz(f:Nat->Int){r:Nat}:∀{n:Nat},r<=n->sm f r=sm (λi=>if i<r then f i else 0) n
 | 0,h=>by
  have:r=0:=by omega
  rw[this];rfl
 |n+1,h=>by
  show _=sm (λi=>if i<r then f i else 0) n+(if n<r then f n else 0)
  by_cases e:r=n+1
  ·rw[e,if_pos (by omega)];show sm f n+f n=_;rw[dF (f:=f) λi hi=>(if_pos (show i<n+1 by omega)).symm]
  ·rw[Qz f (show r<=n by omega),if_neg (by omega),qb0]
theorem Yd(g:Nat->Nat->Nat->Int)(n w:Nat):
  sm (λk=>sm (λr=>sm (λi=>g k i r) r) n) w=sm (λi=>sm (λj=>if i<j then sm (λk=>g k i j) w else 0) n) n:=by
 rw[dF λk _=>dF λr hr=>Qz (λi=>g k i r) (qbU hr)]
 rw[CA (λk r=>sm (λi=>if i<r then g k i r else 0) n) n w]
 rw[dF λr _=>CA (λk i=>if i<r then g k i r else 0) n w]
 rw[CA (λr i=>sm (λk=>if i<r then g k i r else 0) w) n n]
 refine dF λi _=>dF λr _=>?_;by_cases h:i<r
 ·rw[if_pos h];exact dF λk _=>if_pos h
 ·rw[if_neg h];exact(dF λk _=>if_neg h).trans (zC w)
theorem Qg(l:List Int)(x:Int):(l++[x]).sum=l.sum+x:=by rw[List.sum_append];simp
theorem uI(f:Nat->Int):∀n:Nat,((E_ n).map f).sum=sm f n
 | 0=>rfl
 |n+1=>by rw[qbi,P_,List.map_singleton,Qg,uI f n];rfl
noncomputable def qL(sg:r_):r_:=sg++w_ "-"
theorem lX{sg:r_}{c:Nat}:c∈(qL sg).cps.toList↔c=45\/c∈sg.cps.toList:=by
 have e:(qL sg).cps.toList=sg.cps.toList++[45]:=rD _ _;rw[e,qab,F_];exact Or.comm
noncomputable def pX(sg:r_)(rows:List (List cC))(fo fm:cC)(a b:Nat):Int :=
 if a=45/\b=45 then 0 else if a=45\/b=45 then fm.1*(aO fo.2 fm.2 rows / fm.2)else sj sg rows (aO fo.2 fm.2 rows) a b
noncomputable def vY(tc:Nat->Nat->Int)(L:List Nat)(n:Nat):Int:=sm (λr=>sm (λi=>tc (L.getD i 0) (L.getD r 0)) r) n
noncomputable def kN(tc:Nat->Nat->Int)(rs:List r_):Int:=sm (λk=>vY tc (ff rs k) rs.length) (ck rs)
def zj(kn:r_)(rs:List r_)(i j:Nat):Prop :=
 (fD λr c=>rs[i]? =some r/\r.cps[j]? =some c/\c∉kn.cps.toList/\∀k d,k<j->r.cps[k]? =some d->d∈kn.cps.toList)/\∀m r,m<i->rs[m]? =some r->Of kn r
def Jx(K:PySem.W.Frag)(C:g_):Sp:=λvs H Q E=>rG λ(kn:r_) (v:V) (rs:List r_)=>vs=[.str kn,v]/\Rw K H v rs/\Iq rs ∧
 ((∀r∈rs,Of kn r)->∀H',aj H H'->Q .lV H')/\(∀i j,zj kn rs i j->∀dx H',aj H H'->H' dx=some (CN dx (Fe i j))->E (.ref C) (some dx) H')
def tF(K:PySem.W.Frag)(C X:g_):Sp:=λvs H Q E=>Po λ(x:g_) (sg:r_) (rows:List (List cC)) (fo fm:cC) (v:V) (rs:List r_)=>vs=[.ref x,v]/\jA K C H x sg rows fo fm/\Rw K H v rs/\Iq rs ∧
 ((∀r∈rs,Of (qL sg) r)->∀H',aj H H'->Q .lV H')/\(∀i j,zj (qL sg) rs i j->∀dx H',aj H H'->H' dx=some (CN dx (Fe i j))->E (.ref X) (some dx) H')
def zu(K:PySem.W.Frag)(C:g_):Sp:=λvs H Q _=>Po λ(x:g_) (sg:r_) (rows:List (List cC)) (fo fm:cC) (a b:Nat)=>vs=[.ref x,.str ⟨#[a]⟩,.str ⟨#[b]⟩]/\jA K C H x sg rows fo fm/\a∈(qL sg).cps.toList/\b∈(qL sg).cps.toList ∧
 ∀H',aj H H'->Q (.int (pX sg rows fo fm a b)) H'
def F4(K:PySem.W.Frag)(C:g_):Sp:=λvs H Q _=>PR λ(x:g_) (sg:r_) (rows:List (List cC)) (fo fm:cC) (c:r_)=>vs=[.ref x,.str c]/\jA K C H x sg rows fo fm/\Of (qL sg) c/\c.cps.size<=100 ∧
 ∀H',aj H H'->Q (.int (vY (pX sg rows fo fm) c.cps.toList c.cps.size)) H'
def Dh(K:PySem.W.Frag)(C CB:g_):Sp:=λvs H Q _=>Po λ(x b:g_) (sg:r_) (rows:List (List cC)) (fo fm:cC) (rs:List r_)=>vs=[.ref x,.ref b]/\jA K C H x sg rows fo fm/\vV K CB H b rs/\Iq rs/\mR rs=true/\(∀r∈rs,Of (qL sg) r) ∧
 ∀H',aj H H'->Q (.int (kN (pX sg rows fo fm) rs)) H'
end
section
theorem Fb(c:Nat):decide (V.str ⟨#[c]⟩=V.str (w_ "-"))=decide (c=45):=by
 rw[qbg,decide_eq_true_iff,decide_eq_true_iff];refine⟨λh=>?_,λh=>by rw[h];rfl⟩;have h':(⟨#[c]⟩:r_)=⟨#[45]⟩:=by injection h
 injection h' with h';simpa using h'
theorem Ay{sg:r_}{rows:List (List cC)}{fo fm:cC}{a b:Nat}(h:a=45)(h2:b=45):pX sg rows fo fm a b=0:=if_pos ⟨h,h2⟩
theorem zm{sg:r_}{rows:List (List cC)}{fo fm:cC}{a b:Nat}(h:¬(a=45/\b=45))(h2:a=45\/b=45):pX sg rows fo fm a b=fm.1*(aO fo.2 fm.2 rows / fm.2):=(if_neg h).trans (if_pos h2)
theorem Jj{sg:r_}{rows:List (List cC)}{fo fm:cC}{a b:Nat}(h:a≠45)(h2:b≠45):pX sg rows fo fm a b=sj sg rows (aO fo.2 fm.2 rows) a b:=(if_neg λz=>h z.1).trans (if_neg λz=>z.elim h h2)
end
section
theorem SI{a tv:Int}{i j:Nat}(ht:tv=1\/tv=3\/tv=5\/tv=7\/tv=9\/tv=11)(hij:i<j)(hj:j<6):((a+(i:Int)*tv) % 92).toNat≠((a+(j:Int)*tv) % 92).toNat:=by
 rcases ht with rfl|rfl|rfl|rfl|rfl|rfl<;>omega
theorem Mh{L:List Nat}{p:Nat->Nat}(hL:L.Nodup)(n:Nat)(hp:∀i,i<n->p i<L.length)(hne:∀i j,i<j->j<n->p i≠p j):((E_ n).map λi=>L.getD (p i) 0).Nodup:=by
 rw[List.Nodup,List.pairwise_map];refine List.Pairwise.imp_of_mem ?_ (List.pairwise_lt_range (n:=n));intro i j hi hj hij z;have h1:=hp i (qag.mp hi);have h2:=hp j (qag.mp hj);rw[bz (e_ h1),bz (e_ h2)]at z;exact hne i j hij (qag.mp hj) ((List.getElem_inj hL).mp z)
noncomputable def Rg:List Nat->Bool
 |a::b::r=>decide (a<b)&&Rg (b::r)
 |_=>true
theorem HQ:∀{a:Nat} {l:List Nat},Rg (a::l)=true->(∀c∈l,a<c)/\Rg l=true
 |a,[],_=>⟨λc hc=>(nomatch hc),rfl⟩
 |a,b::r,h=>by
  have h':(decide (a<b)&&Rg (b::r))=true:=h;rw[R_]at h';have h1:=of_decide_eq_true h'.1;refine⟨λc hc=>?_,h'.2⟩;rcases S_.mp hc with rfl|hc
  ·exact h1
  ·exact qcu h1 ((HQ h'.2).1 c hc)
theorem D3:∀{l:List Nat},Rg l=true->l.Nodup
 |[],_=>List.nodup_nil
 |a::l,h=>qcn.mpr ⟨λz=>qa_ _ ((HQ h).1 a z),D3 (HQ h).2⟩
theorem Pn(e:Int):Sm (e % ((10:Int) ^ (40:Int).toNat)-5*(10:Int) ^ (39:Int).toNat):=by
 have e1:(10:Int) ^ (40:Int).toNat=10000000000000000000000000000000000000000:=by decide
 have e2:(10:Int) ^ (39:Int).toNat=1000000000000000000000000000000000000000:=by decide
 rw[e1,e2];have h1:=qao e (show(10000000000000000000000000000000000000000:Int)≠0 by decide);have h2:=qah e (show(0:Int)<10000000000000000000000000000000000000000 by decide);exact K1 (by omega) (by omega)
def Jt(K:PySem.W.Frag):Sp:=λvs H Q _=>GF λ(s t:g_) (ns:List Int) (k:Int) (n:Nat)=>vs=[.ref s,.ref t,.int n]/\Au K H s t ns k/\k<=100000/\n<=6 ∧
 ∀(x:r_) H',x.cps.size=n->(∀c∈x.cps.toList,gO c=true)->x.cps.toList.Nodup->aj (L2.upd H t (.lst [.int (k+1)])) H'->Q (.str x) H'
end
section
noncomputable def ym(rs:List r_)(i k:Nat):Nat:=(rs.getD i ⟨#[]⟩).cps.toList.getD k 0
theorem Ie{rs:List r_}{i k:Nat}(h:i<rs.length):(ff rs k).getD i 0=ym rs i k:=by
 unfold ff ym;rw[bz (by rw[n_,e_ h];rfl),bz (e_ h)]
theorem R7(tc:Nat->Nat->Int)(rs:List r_):sm (λi=>sm (λj=>if i<j then sm (λk=>tc (ym rs i k) (ym rs j k)) (ck rs)else 0) rs.length) rs.length=kN tc rs:=by
 rw[←Yd λk i r=>tc (ym rs i k) (ym rs r k)];unfold kN vY;refine dF λk _=>dF λr hr=>dF λi hi=>?_;rw[Ie hr,Ie (qcu hi hr)]
theorem Nq{i:Nat}(f:Nat->Int):∀n,n<=i+1->sm (λj=>if i<j then f j else 0) n=0
 | 0,_=>rfl
 |n+1,h=>by
  show sm (λj=>if i<j then f j else 0) n+(if i<n then f n else 0)=0
  rw[Nq f n (by omega),if_neg (by omega)];rfl
def C7:Sp:=λvs H Q _=>∃n:Int,vs=[.int n]/\Q (.bl true) H
def Jz(K:PySem.W.Frag)(C:g_):Sp:=λvs H Q _=>Po λ(x q:g_) (sg:r_) (rows:List (List cC)) (fo fm:cC) (n:Int)=>vs=[.ref x,.ref q,.int n]/\jA K C H x sg rows fo fm/\H q=some (.tup [.int (jI (n,aO fo.2 fm.2 rows)).1,.int (jI (n,aO fo.2 fm.2 rows)).2]) ∧
 ∀H',aj H H'->Q (.bl true) H'
end
section
theorem bZ{rs:List r_}(h:cR rs=true):mR rs=true:=by
 unfold cR at h;rw[R_]at h;exact h.1
theorem zj.uniq{kn:r_}{rs:List r_}{i j i' j':Nat}(h:zj kn rs i j)(h':zj kn rs i' j'):i=i'/\j=j':=by
 obtain⟨⟨r,c,h1,h2,h3,h4⟩,h5⟩:=h;obtain⟨⟨r',c',vA,h2',h3',h4'⟩,h5'⟩:=h';have m:c∈r.cps.toList:=by rw[←U_]at h2;exact l_ h2
 have m':c'∈r'.cps.toList:=by rw[←U_]at h2';exact l_ h2'
 have ei:i=i':=Nat.le_antisymm (Nat.not_lt.mp λz=>h3' (h5 i' r' z vA c' m')) (Nat.not_lt.mp λz=>h3 (h5' i r z h1 c m));subst ei;rw[h1]at vA;cases vA;exact⟨Y,Nat.le_antisymm (Nat.not_lt.mp λz=>h3' (h4 j' c' z h2')) (Nat.not_lt.mp λz=>h3 (h4' j c z h2))⟩
theorem zj.no{kn:r_}{rs:List r_}{i j:Nat}(h:zj kn rs i j):¬ ∀r∈rs,Of kn r:=λz=>by
 obtain⟨⟨r,c,h1,h2,h3,_⟩,_⟩:=h;exact h3 (z r (l_ h1) c (by rw[←U_]at h2;exact l_ h2))
end
section
def BK(x:r_)(c:Nat):Prop:=PC c/\c∈(qL x).cps.toList
theorem BK.gap{x:r_}:BK x 45:=⟨.inl rfl,lX.mpr (.inl rfl)⟩
theorem BK.of{x:r_}{c:Nat}(h:gO c=true/\c∈x.cps.toList):BK x c:=⟨.inr h.1,lX.mpr (.inr h.2)⟩
theorem Rx{kn:r_}{rs:List r_}{cs:List Nat}{n:Nat}(hl:rs.length=n)(hc:cs.length=n)(h:∀r∈rs,Of kn r)(hk:∀c∈cs,c∈kn.cps.toList):∀r∈grown rs cs n,Of kn r:=λy hy d hd=>by
 unfold grown at hy;obtain⟨r,hr,rfl⟩:=G_.mp hy;have hr':=qag.mp hr;have h1:r<rs.length:=by rw[hl];exact hr'
 have h2:r<cs.length:=by rw[hc];exact hr'
 rw[bz (e_ h1),bz (e_ h2),rD]at hd;rcases qab.mp hd with hd|hd
 ·exact h _ (x_ h1) d hd
 ·rw[F_.mp hd];exact hk _ (x_ h2)
def Qu(K:PySem.W.Frag):Sp:=λvs H Q _=>PR λ(s t:g_) (ns:List Int) (k:Int) (x:r_) (n:Nat)=>vs=[.ref s,.ref t,.str x,.int n]/\Au K H s t ns k/\k<=90000/\0<n/\n<=10/\0<x.cps.size/\x.cps.size<=10/\(∀c∈x.cps.toList,gO c=true) ∧
 ∀(l:g_) (cs:List Nat) (k':Int) (H':Hp),cs.length=n->(∀c∈cs,BK x c)->(∃c∈cs,c≠45)->H' l=some (.lst (cs.map sg))->H l=none->aj (Wo t H) (Wo t H')->H' t=some (.lst [.int k'])->k<=k'->k'<=k+20->Q (.ref l) H'
def M6(K:PySem.W.Frag):Sp:=λvs H Q _=>Po λ(s t:g_) (ns:List Int) (k:Int) (x:r_) (n m:Nat)=>vs=[.ref s,.ref t,.str x,.int n,.int m]/\Au K H s t ns k/\k<=80000/\0<n/\n<=10/\m<=50/\0<x.cps.size/\x.cps.size<=10/\(∀c∈x.cps.toList,gO c=true) ∧
 ∀(l:g_) (rs:List r_) (k':Int) (H':Hp),uy rs n m->(∀r∈rs,Of (qL x) r)->H' l=some (.lst (rs.map V.str))->H l=none->aj (Wo t H) (Wo t H')->H' t=some (.lst [.int k'])->k<=k'->k'<=k+1000->Q (.ref l) H'
end
section
theorem Um(l:List Nat)(c:Nat):∀(k:Nat),k<l.length->l.take k++[c]++l.drop (k+1)=l.set k c:=by
 induction l with
 |nil=>intro k h;cases h
 |cons a l ih =>
  intro k h
  cases k with
  |zero=>rfl
  |succ k =>
   have:=ih k (by simpa using h);show a::(l.take k++[c]++l.drop (k+1))=a::l.set k c;rw[this]
theorem uy.put{rs:List r_}{n w r k:Nat}{row o:r_}{c:Nat}(h:uy rs n w)(hr:rs[r]? =some row)(hk:k<w)(ho:o.cps.toList=row.cps.toList.set k c)(hc:gO c=true):uy (rs.set r o) n w:=by
 have hm:=l_ hr;have hrl:r<rs.length:=(q_.mp hr).1;have T7:k<row.cps.toList.length:=by rw[o_,h.ck row hm];exact hk
 refine⟨by rw[qbh];exact h.len,λy hy=>?_,λy hy d hd=>?_,λj hj=>?_⟩
 ·rcases qaK hy with hy|rfl
  ·exact h.ck y hy
  ·rw[←o_,ho,qbh,o_];exact h.ck row hm
 ·rcases qaK hy with hy|rfl
  ·exact h.ok y hy d hd
  ·rw[ho]at hd;rcases qaK hd with hd|rfl
   ·exact h.ok row hm d hd
   ·exact .inr hc
 ·obtain⟨y,hy,d,hd,hne⟩:=h.col j hj;obtain⟨q,hq,e⟩:=qaA hy;by_cases z:q=r
  ·subst z;rw[e_ hq,e]at hr;cases hr;refine⟨o,List.mem_set hrl o,?_⟩;by_cases z2:j=k
   ·subst z2;exact⟨c,by rw[ho,qa1 T7],GV hc⟩
   ·exact⟨d,by rw[ho,qaX (Ne.symm z2)];exact hd,hne⟩
  ·refine⟨y,?_,d,hd,hne⟩;refine l_ (i:=q) ?_;rw[qaX (Ne.symm z),e_ hq,e]
theorem Qe{l:List Nat}(h:l.Nodup){k j c:Nat}(hj:l[j]? =some c)(hk:k<=j):c∉l.take k:=λz=>by
 obtain⟨i,hi,e⟩:=qaA z;rw[qai]at hi;have hi2:i<l.length:=by omega
 obtain⟨hj2,e2⟩:=q_.mp hj;rw[List.getElem_take]at e;have:=(List.getElem_inj (h₀:=hi2) (h₁:=hj2) h).mp (e.trans e2.symm);omega
section
variable{K:PySem.W.Frag}{CP CB:g_}{H H' Ao:Hp}{t a x o:g_}{k k2:Int}{sg:r_}{rows:List (List cC)}{fo fm:cC}{rs0 rs rs2:List r_}
end
end
section
theorem vV.wo{K:PySem.W.Frag}{C:g_}{H:Hp}{t b:g_}{ys:List V}{rs:List r_}(ht:H t=some (.lst ys))(h:vV K C H b rs):vV K C (Wo t H) b rs:=by
 obtain⟨dx,q,h1,h2⟩:=h;exact⟨dx,q,Wo.in (rJ h1 ht (by intro z;cases z)) h1,eK.wo ht h2⟩
theorem SJ(a b:Int):i7 [V.int a,V.int b] [V.int a,V.int b]=true:=by simp[i7,E_,qcq,Lm]
end
section
noncomputable def uF(e b b1 r:Int):Int:=if e<=0 then min (e+b1) (min b r)else min b r
noncomputable def xW(e b:Nat->Int)(n:Nat):Nat->Int
 | 0=>0
 |k+1=>uF (e (n-1-k)) (b (n-1-k)) (b (n-k)) (xW e b n k)
noncomputable def Om(E:Nat->Nat->Int)(m n:Nat):Nat->Nat->Int
 | 0,_=>0
 |k+1,j=>xW (E (m-1-k)) (Om E m n k) n (n-j)
noncomputable def jE(E:Nat->Nat->Int)(m n i j:Nat):Int:=Om E m n (m-i) j
theorem zF{E:Nat->Nat->Int}{m n j:Nat}:jE E m n m j=0:=by unfold jE;rw[qbZ];rfl
theorem Du{E:Nat->Nat->Int}{m n i j:Nat}(hi:i<m):jE E m n i j=xW (E i) (jE E m n (i+1)) n (n-j):=by
 unfold jE;obtain⟨k,hk⟩:∃k,m-i=k+1:=⟨m-i-1,by omega⟩;rw[hk];show xW (E (m-1-k)) (Om E m n k) n (n-j)=_;rw[show m-1-k=i by omega,show m-(i+1)=k by omega]
theorem F8{E:Nat->Nat->Int}{m n i:Nat}(hi:i<=m):jE E m n i n=0:=by
 by_cases h:i<m
 ·rw[Du h,qbZ];rfl
 ·rw[show i=m by omega,zF]
theorem Oo{E:Nat->Nat->Int}{m n i j:Nat}(hi:i<m)(hj:j<n):jE E m n i j=uF (E i j) (jE E m n (i+1) j) (jE E m n (i+1) (j+1)) (jE E m n i (j+1)):=by
 rw[Du (j:=j) hi,Du (j:=j+1) hi];obtain⟨k,hk⟩:∃k,n-j=k+1:=⟨n-j-1,by omega⟩;rw[hk,show n-(j+1)=k by omega];show uF (E i (n-1-k)) (jE E m n (i+1) (n-1-k)) (jE E m n (i+1) (n-k)) _=_;rw[show n-1-k=j by omega,show n-k=j+1 by omega]
theorem Qi{e b b1 r:Int}:uF e b b1 r<=b/\uF e b b1 r<=r/\(e<=0->uF e b b1 r<=e+b1)/\(uF e b b1 r=e+b1\/uF e b b1 r=b\/uF e b b1 r=r):=by
 unfold uF;split<;>(refine⟨by omega,by omega,by omega,by omega⟩)
theorem S1{E:Nat->Nat->Int}{m n i j:Nat}(hi:i<m)(hj:j<n):jE E m n i j=E i j+jE E m n (i+1) (j+1)\/jE E m n i j=jE E m n (i+1) j\/jE E m n i j=jE E m n i (j+1):=by
 rw[Oo hi hj];exact Qi.2.2.2
noncomputable def Lj(E:Nat->Nat->Int)(m n i j:Nat):Nat :=
 if i=m then 98 else if j<n/\E i j+jE E m n (i+1) (j+1)=jE E m n i j then 112 else if jE E m n (i+1) j=jE E m n i j then 97 else 98
theorem Yx{E:Nat->Nat->Int}{m n i j:Nat}:Tj (Lj E m n i j):=by
 unfold Lj Tj;split
 ·exact .inr (.inr Y)
 ·split
  ·exact .inl Y
  ·split
   ·exact .inr (.inl Y)
   ·exact .inr (.inr Y)
inductive uA(m n i j:Nat):Nat->Nat->Nat->Prop
 |p (hi:i<m) (hj:j<n):uA m n i j 112 (i+1) (j+1)
 |a (hi:i<m):uA m n i j 97 (i+1) j
 |b (hj:j<n):uA m n i j 98 i (j+1)
theorem Yy{E:Nat->Nat->Int}{m n i j:Nat}(hi:i<=m)(hj:j<=n)(h:¬(i=m/\j=n)):
  fD λi' j'=>uA m n i j (Lj E m n i j) i' j'/\jE E m n i j=(if Lj E m n i j=112 then E i j else 0)+jE E m n i' j':=by
 unfold Lj;by_cases h1:i=m
 ·rw[if_pos h1];refine⟨i,j+1,.b (by omega),?_⟩;rw[h1,zF,zF];rfl
 ·rw[if_neg h1];by_cases h2:j<n/\E i j+jE E m n (i+1) (j+1)=jE E m n i j
  ·rw[if_pos h2];refine⟨i+1,j+1,.p (by omega) h2.1,?_⟩;rw[if_pos rfl];exact h2.2.symm
  ·rw[if_neg h2];by_cases h3:jE E m n (i+1) j=jE E m n i j
   ·rw[if_pos h3];refine⟨i+1,j,.a (by omega),?_⟩;rw[h3];simp
   ·rw[if_neg h3];have hjn:j<n:=by
     by_cases z:j<n
     ·exact z
     ·exfalso;apply h3;rw[show j=n by omega,F8 (by omega),F8 (by omega)]
    refine⟨i,j+1,.b hjn,?_⟩;rcases S1 (E:=E) (show i<m by omega) hjn with z|z|z
    ·exact absurd ⟨hjn,z.symm⟩ h2
    ·exact absurd z.symm h3
    ·rw[←z];simp
inductive Path(m n:Nat):List Nat->Nat->Nat->Prop
 |nil:Path m n [] 0 0
 |snoc {cs:List Nat} {i j c i' j':Nat}:Path m n cs i j->uA m n i j c i' j'->Path m n (cs++[c]) i' j'
theorem uA.in{m n i j c i' j':Nat}(h:uA m n i j c i' j')(hi:i<=m)(hj:j<=n):i'<=m/\j'<=n/\i+j<i'+j':=by
 cases h<;>omega
theorem Path.in{m n:Nat}{cs:List Nat}{i j:Nat}(h:Path m n cs i j):i<=m/\j<=n/\cs.length<=i+j:=by
 induction h with
 |nil=>exact⟨X_ _,X_ _,j_ _⟩
 |snoc _ s ih =>
  obtain⟨a,b,c⟩:=s.in ih.1 ih.2.1;refine⟨a,b,?_⟩;rw[A_];have:=ih.2.2;show _+1<=_;omega
theorem uA.stp{m n i j c i' j':Nat}(h:uA m n i j c i' j'):GP.stp ((i:Int),(j:Int)) c=((i':Int),(j':Int)):=by
 cases h<;>rfl
theorem uA.ok{m n i j c i' j':Nat}(h:uA m n i j c i' j'):Tj c:=by
 cases h
 ·exact .inl Y
 ·exact .inr (.inl Y)
 ·exact .inr (.inr Y)
inductive xC(E:Nat->Nat->Int)(m n:Nat):List Nat->Nat->Nat->Prop
 |nil:xC E m n [] 0 0
 |snoc {cs:List Nat} {i j i' j':Nat}:xC E m n cs i j->uA m n i j (Lj E m n i j) i' j'->jE E m n i j=(if Lj E m n i j=112 then E i j else 0)+jE E m n i' j'->xC E m n (cs++[Lj E m n i j]) i' j'
theorem xC.path{E:Nat->Nat->Int}{m n:Nat}{cs:List Nat}{i j:Nat}(h:xC E m n cs i j):Path m n cs i j:=by
 induction h with
 |nil=>exact .nil
 |snoc _ s _ ih=>exact .snoc ih s
noncomputable def pI(cs:List Nat)(k:Nat):Nat:=((cs.take k).filter (· != 98)).length
noncomputable def pJ(cs:List Nat)(k:Nat):Nat:=((cs.take k).filter (· != 97)).length
noncomputable def x9(A B:List r_)(g1 g2:r_)(i j c:Nat):r_:=(if c=98 then g1 else A.getD i ⟨#[]⟩)++(if c=97 then g2 else B.getD j ⟨#[]⟩)
noncomputable def wc(A B:List r_)(g1 g2:r_)(cs:List Nat)(n:Nat):List r_:=(E_ n).map λk=>x9 A B g1 g2 (pI cs k) (pJ cs k) (cs.getD k 0)
theorem L5{cs ds:List Nat}{k:Nat}(h:k<=cs.length):pI (cs++ds) k=pI cs k/\pJ (cs++ds) k=pJ cs k:=by
 unfold pI pJ;rw[List.take_append_of_le_length h];exact⟨Y,Y⟩
theorem S8{cs:List Nat}{k c:Nat}(h:cs[k]? =some c):pI cs (k+1)=pI cs k+(if c=98 then 0 else 1)/\pJ cs (k+1)=pJ cs k+(if c=97 then 0 else 1):=by
 unfold pI pJ;rw[qcx,h];show(List.filter _ (cs.take k++[c])).length=_/\(List.filter _ (cs.take k++[c])).length=_;rw[qcr,qcr,A_,A_];constructor
 ·by_cases e:c=98<;>simp[e]
 ·by_cases e:c=97<;>simp[e]
theorem Path.at_{m n:Nat}{cs:List Nat}{i j:Nat}(h:Path m n cs i j):pI cs cs.length=i/\pJ cs cs.length=j/\∀k,k<cs.length->∃c,cs[k]? =some c/\uA m n (pI cs k) (pJ cs k) c (pI cs (k+1)) (pJ cs (k+1)):=by
 induction h with
 |nil=>exact⟨Y,Y,λk hk=>absurd hk (qa6 _)⟩
 | @snoc cs i j c i' j' _ s ih =>
  obtain⟨h1,h2,h3⟩:=ih;have e1:(cs++[c])[cs.length]? =some c:=by rw[qal (j_ _),qbZ];rfl
  have e2:=S8 e1;have e3:=L5 (cs:=cs) (ds:=[c]) (j_ cs.length);rw[e3.1,e3.2,h1,h2]at e2
  have e4:i'=i+(if c=98 then 0 else 1)/\j'=j+(if c=97 then 0 else 1):=by cases s<;>exact⟨Y,Y⟩
  have el:(cs++[c]).length=cs.length+1:=A_;rw[el];refine⟨e2.1.trans e4.1.symm,e2.2.trans e4.2.symm,λk hk=>?_⟩;by_cases z:k=cs.length
  ·subst z;refine⟨c,e1,?_⟩;rw[e2.1,e2.2,←e4.1,←e4.2,e3.1,e3.2,h1,h2];exact s
  ·have hk':k<cs.length:=by omega
   obtain⟨d,hd,sd⟩:=h3 k hk';refine⟨d,by rw[qar hk'];exact hd,?_⟩;have a1:=L5 (cs:=cs) (ds:=[c]) (k:=k) (by omega);have a2:=L5 (cs:=cs) (ds:=[c]) (k:=k+1) (by omega);rw[a1.1,a1.2,a2.1,a2.2];exact sd
end
section
noncomputable def lZ(f:Nat->Int)(L:List Nat):Int:=(L.map f).sum
theorem uD(f:Nat->Int):lZ f []=0:=rfl
theorem iL(f:Nat->Int)(a:Nat)(L:List Nat):lZ f (a::L)=f a+lZ f L:=by unfold lZ;rw[qak,qbn]
theorem zp(f:Nat->Int)(L M:List Nat):lZ f (L++M)=lZ f L+lZ f M:=by unfold lZ;rw[P_,List.sum_append]
theorem Oc(f:Nat->Int)(L:List Nat)(a:Nat):lZ f (L++[a])=lZ f L+f a:=by rw[zp,iL,uD];omega
theorem uE(f g:Nat->Int):∀L:List Nat,lZ (λa=>f a+g a) L=lZ f L+lZ g L
 |[]=>rfl
 |a::L=>by rw[iL,iL,iL,uE f g L];omega
theorem kF{f g:Nat->Int}:∀{L:List Nat},(∀a∈L,f a=g a)->lZ f L=lZ g L
 |[],_=>rfl
 |a::L,h=>by rw[iL,iL,h a (D_ ..),kF λb hb=>h b (C_ _ hb)]
theorem uY(c:Int):∀L:List Nat,lZ (λ_=>c) L=(L.length:Int)*c
 |[]=>by rw[uD];simp
 |a::L=>by rw[iL,uY c L,qac,Int.natCast_add,Int.add_mul];simp;omega
noncomputable def ya(L:List Nat):List Nat:=L.filter (· != 45)
theorem uC(f:Nat->Int):∀L:List Nat,lZ (λa=>if a=45 then 0 else f a) L=lZ f (ya L)
 |[]=>rfl
 |a::L=>by
  rw[iL,uC f L];unfold ya;by_cases e:a=45
  ·rw[if_pos e,qbf (by simp[e])];omega
  ·rw[if_neg e,qbe (by simp[e]),iL]
theorem Np(f:Nat->Int)(L:List Nat):sm (λi=>f (L.getD i 0)) L.length=lZ f L:=by
 rw[←uI];unfold lZ;congr 1;refine qaZ (by simp) λi h1 h2=>?_;have hi:i<L.length:=by simpa using h2
 rw[qaJ,qaJ,qa9,bz (e_ hi)]
noncomputable def cc(tc:Nat->Nat->Int)(L:List Nat):Int:=vY tc L L.length
theorem Ih(tc:Nat->Nat->Int)(L:List Nat)(x:Nat):cc tc (L++[x])=cc tc L+lZ (λl=>tc l x) L:=by
 unfold cc;rw[show(L++[x]).length=L.length+1 from A_];show vY tc (L++[x]) L.length+sm (λi=>tc ((L++[x]).getD i 0) ((L++[x]).getD L.length 0)) L.length=_;have e:∀i,i<L.length->(L++[x]).getD i 0=L.getD i 0:=λi hi=>by rw[L_,qar hi,←L_]
 have e2:(L++[x]).getD L.length 0=x:=by rw[L_,qal (j_ _),qbZ];rfl
 rw[e2,dF λi hi=>congrArg (tc · x) (e i hi),Np λl=>tc l x];unfold vY;rw[dF λr hr=>dF λi hi=>by rw[e i (by omega),e r hr]]
noncomputable def MN(tc:Nat->Nat->Int)(L M:List Nat):Int:=lZ (λb=>lZ (λa=>tc a b) L) M
theorem xh(tc:Nat->Nat->Int)(L:List Nat):∀M:List Nat,cc tc (L++M)=cc tc L+cc tc M+MN tc L M:=by
 intro M;obtain⟨n,hn⟩:∃n,M.length=n:=⟨_,rfl⟩
 induction n generalizing M with
 |zero =>
  have e:M=[]:=List.eq_nil_of_length_eq_zero hn;rw[e,qaR];show _=cc tc L+0+0;omega
 |succ n ih =>
  obtain⟨M',x,rfl⟩:fD λM' x=>M=M'++[x]:=by
   rcases List.eq_nil_or_concat M with h|⟨M',x,h⟩
   ·rw[h]at hn;cases hn
   ·exact⟨M',x,by rw[h,List.concat_eq_append]⟩
  have hM:M'.length=n:=by rw[A_]at hn;exact Nat.succ.inj hn
  rw[←qa3,Ih,ih M' hM,Ih,zp];unfold MN;rw[Oc];omega
noncomputable def NO(pc:Nat->Nat->Int)(mo:Int)(S O:List Nat):Int:=lZ (λo=>lZ (λs=>pc s o-2*mo) S) O
theorem MM{tc pc:Nat->Nat->Int}{mo:Int}(h0:∀a b,a=45->b=45->tc a b=0)(h1:∀a b,¬(a=45/\b=45)->(a=45\/b=45)->tc a b=mo)(h2:∀a b,a≠45->b≠45->tc a b=pc a b)(L M:List Nat):
  MN tc L M=NO pc mo (ya L) (ya M)+((ya L).length:Int)*(M.length:Int)*mo+((ya M).length:Int)*(L.length:Int)*mo:=by
 have e:∀a b,tc a b=(if a=45 then 0 else if b=45 then 0 else pc a b-2*mo)+((if a=45 then 0 else mo)+(if b=45 then 0 else mo)):=λa b=>by
  by_cases ha:a=45
  ·by_cases hb:b=45
   ·rw[h0 a b ha hb,if_pos ha,if_pos ha,if_pos hb];rfl
   ·rw[h1 a b (λz=>hb z.2) (.inl ha),if_pos ha,if_pos ha,if_neg hb];omega
  ·by_cases hb:b=45
   ·rw[h1 a b (λz=>ha z.1) (.inr hb),if_neg ha,if_neg ha,if_pos hb,if_pos hb];omega
   ·rw[h2 a b ha hb,if_neg ha,if_neg ha,if_neg hb,if_neg hb];omega
 unfold MN
 rw[kF (g:=λb=>(if b=45 then 0 else lZ (λs=>pc s b-2*mo) (ya L))+(((ya L).length:Int)*mo+(if b=45 then 0 else(L.length:Int)*mo))) λb _=>?_]
 ·rw[uE,uC (λb=>lZ (λs=>pc s b-2*mo) (ya L)),uE,uY,uC (λ_=>(L.length:Int)*mo),uY];unfold NO;rw[Int.mul_comm ((ya L).length:Int) (M.length:Int),qcB,qcB,qcl]
 ·rw[kF λa _=>e a b,uE,uE,uC (λ_=>mo),uY,uY,uC (λa=>if b=45 then 0 else pc a b-2*mo)]
  by_cases hb:b=45
  ·rw[if_pos hb,if_pos hb,kF (g:=λ_=>0) λa _=>if_pos hb,uY,if_pos hb];omega
  ·rw[if_neg hb,if_neg hb,kF (g:=λa=>pc a b-2*mo) λa _=>if_neg hb,if_neg hb]
theorem JE(n:Nat):ya (y_ n 45)=[]:=by
 unfold ya;rw[List.filter_eq_nil_iff];intro a ha;rw[qax ha];simp
theorem CK{tc:Nat->Nat->Int}(h0:∀a b,a=45->b=45->tc a b=0):∀n:Nat,cc tc (y_ n 45)=0
 | 0=>rfl
 |n+1=>by
  rw[List.replicate_succ',Ih,CK h0 n,kF (g:=λ_=>0) λa ha=>h0 _ _ (qax ha) rfl,uY];omega
end
section
noncomputable def aV(n:Nat):r_:=⟨(y_ n 45).toArray⟩
theorem sE(n:Nat):(aV n).cps.toList=y_ n 45:=rfl
theorem iO(n:Nat):(aV n).cps.size=n:=by rw[←o_,sE,qau]
theorem JI(n:Nat):vW (w_ "-") (n:Nat)=aV n:=by
 have e:(vW (w_ "-") (n:Nat)).cps.toList=y_ n 45:=by
  rw[AL];show(y_ n [45]).flatten=_
  induction n with
  |zero=>rfl
  |succ n ih=>rw[qat,qaO,ih,qat];rfl
 rw[←sE n]at e;have e2:=Array.toList_inj.mp e;rcases h3:vW (w_ "-") (n:Nat)with⟨cs⟩;rw[h3]at e2;exact congrArg Str.mk e2
structure oK(kn:List Nat)(A:List r_)(n:Nat):Prop where
 size:∀c∈A,c.cps.size=n
 ok:∀c∈A,∀x∈c.cps.toList,PC x
 of:∀c∈A,∀x∈c.cps.toList,x∈kn
 full:∀c∈A,c6 c=false
theorem wj{x:r_}{c:Nat}(h:jB x=true)(hc:c∈x.cps.toList):PC c:=by
 by_cases e:c=45
 ·exact .inl e
 ·exact .inr (sL.mp h c hc e)
theorem tU{sg:r_}{rs:List r_}(hb:cR rs=true)(ho:∀r∈rs,Of (qL sg) r):oK (qL sg).cps.toList (cols rs (ck rs)) rs.length:=by
 unfold cR at hb;rw[R_,R_]at hb;obtain⟨hl,ht,hc⟩:=hb;obtain⟨hne,hw⟩:=bG.mp hl;have key:∀c∈cols rs (ck rs),∀x∈c.cps.toList,∃r∈rs,x∈r.cps.toList:=λc hc x hx=>by
  unfold cols at hc;obtain⟨j,hj,rfl⟩:=G_.mp hc;obtain⟨r,hr,rfl⟩:=G_.mp (show x∈rs.map λr=>r.cps.toList.getD j 0 from hx);have hj':j<r.cps.toList.length:=by rw[o_,hw r hr];exact qag.mp hj
  refine⟨r,hr,?_⟩;rw[bz (e_ hj')];exact x_ hj'
 refine⟨λc hc=>?_,λc hc x hx=>?_,λc hc x hx=>?_,λc hc'=>?_⟩
 ·unfold cols at hc;obtain⟨j,hj,rfl⟩:=G_.mp hc;exact f_ ..
 ·obtain⟨r,hr,hx⟩:=key c hc x hx;exact wj (v_.mp ht r hr) hx
 ·obtain⟨r,hr,hx⟩:=key c hc x hx;exact ho r hr x hx
 ·unfold Aa at hc;have:=v_.mp hc c hc';rw[qbd]at this;exact this
theorem GR{α:Type}(F:α->Int)(l:List α)(d:α):sm (λi=>F (l.getD i d)) l.length=(l.map F).sum:=by
 rw[←uI];congr 1;refine qaZ (by simp) λi h1 h2=>?_;have hi:i<l.length:=by simpa using h2
 rw[qaJ,qaJ,qa9,bz (e_ hi)]
theorem Br(tc:Nat->Nat->Int)(rs:List r_):kN tc rs=sm (λi=>cc tc ((cols rs (ck rs)).getD i ⟨#[]⟩).cps.toList) (ck rs):=by
 unfold kN;refine dF λk hk=>?_;rw[bz (xT hk)];show _=vY tc (ff rs k) (ff rs k).length;rw[show(ff rs k).length=rs.length from f_ ..]
theorem FW{os:List r_}{N k:Nat}{o:r_}(hs:∀o∈os,o.cps.size=N)(hk:os[k]? =some o):ff (cols os N) k=o.cps.toList:=by
 have ho:=hs o (l_ hk);unfold ff cols;rw[qaf];refine qaZ (by rw[f_,qan,o_,ho]) λr h1 h2=>?_;rw[qaJ,qa9];show(os.map λx=>x.cps.toList.getD r 0).getD k 0=_;rw[bz (x:=o.cps.toList.getD r 0) (by rw[n_,hk];rfl),bz (e_ h2)]
theorem CQ{os:List r_}{N:Nat}(h:0<N):ck (cols os N)=os.length:=by
 obtain⟨M,rfl⟩:∃M,N=M+1:=⟨N-1,by omega⟩;unfold ck cols;rw[List.range_succ_eq_map,qak];exact f_ ..
theorem Gz(tc:Nat->Nat->Int){os:List r_}{N:Nat}(h:0<N)(hs:∀o∈os,o.cps.size=N):kN tc (cols os N)=(os.map λo=>cc tc o.cps.toList).sum:=by
 unfold kN;rw[CQ h,bE,←GR (λo=>cc tc o.cps.toList) os ⟨#[]⟩];refine dF λk hk=>?_;rw[FW hs (e_ hk),bz (e_ hk)];unfold cc;rw[o_,hs _ (x_ hk)]
theorem LQ{os:List r_}{N:Nat}{r:r_}{x:Nat}(hs:∀o∈os,o.cps.size=N)(hr:r∈cols os N)(hx:x∈r.cps.toList):∃o∈os,x∈o.cps.toList:=by
 unfold cols at hr;obtain⟨j,hj,rfl⟩:=G_.mp hr;obtain⟨o,ho,rfl⟩:=G_.mp (show x∈os.map λr=>r.cps.toList.getD j 0 from hx);have hj':j<o.cps.toList.length:=by rw[o_,hs o ho];exact qag.mp hj
 refine⟨o,ho,?_⟩;rw[bz (e_ hj')];exact x_ hj'
theorem sJ{kn:List Nat}{os:List r_}{N:Nat}(hN:0<N)(h:oK kn os N):cR (cols os N)=true/\∀r∈cols os N,∀x∈r.cps.toList,x∈kn:=by
 have hw:=CQ (os:=os) hN;have hl:mR (cols os N)=true:=by
  refine bG.mpr ⟨λz=>?_,λr hr=>?_⟩
  ·have:=bE (rs:=os) (n:=N);rw[z]at this;have:0=N:=this;omega
  ·rw[hw];unfold cols at hr;obtain⟨j,hj,rfl⟩:=G_.mp hr;exact f_ ..
 refine⟨?_,λr hr x hx=>?_⟩
 ·unfold cR;rw[hl,qck,R_];refine⟨v_.mpr λr hr=>sL.mpr λc hc hn=>?_,?_⟩
  ·obtain⟨o,ho,hx⟩:=LQ h.size hr hc;exact(h.ok o ho c hx).resolve_left hn
  ·unfold Aa;rw[hw,v_];intro c hc;obtain⟨k,hk,rfl⟩:=G_.mp (show c∈(E_ os.length).map (iK (cols os N)) from hc);have hk':=qag.mp hk;have e:=FW h.size (e_ hk');have:=h.full _ (x_ hk');unfold c6 at this ⊢;rw[show(iK (cols os N) k).cps.toList=ff (cols os N) k from rfl,e,this];rfl
 ·obtain⟨o,ho,hx⟩:=LQ h.size hr hx;exact h.of o ho x hx
theorem Rz{a b:r_}:c6 (a++b)=(c6 a&&c6 b):=by
 unfold c6;rw[rD,List.all_append]
section
variable{kn:List Nat}{A B:List r_}{n1 n2:Nat}
theorem getD_mem{i:Nat}(h:i<A.length):A.getD i ⟨#[]⟩∈A:=by
 rw[bz (e_ h)];exact x_ h
theorem Ur(hA:oK kn A n1)(hB:oK kn B n2)(hk:45∈kn){i j c i' j':Nat}(h:uA A.length B.length i j c i' j'):
  (x9 A B (aV n1) (aV n2) i j c).cps.size=n1+n2/\(∀x∈(x9 A B (aV n1) (aV n2) i j c).cps.toList,PC x/\x∈kn)/\c6 (x9 A B (aV n1) (aV n2) i j c)=false:=by
 have ga:∀n x,x∈(aV n).cps.toList->PC x/\x∈kn:=λn x hx=>by
  rw[qax hx];exact⟨.inl Y,hk⟩
 have mk:∀{a b:r_},a.cps.size=n1->b.cps.size=n2->(∀x∈a.cps.toList,PC x/\x∈kn)->(∀x∈b.cps.toList,PC x/\x∈kn)->(c6 a=false\/c6 b=false) →
   (a++b).cps.size=n1+n2/\(∀x∈(a++b).cps.toList,PC x/\x∈kn)/\c6 (a++b)=false:=λ{a b} h1 h2 h3 h4 h5=>by
  refine⟨by rw[uZ,h1,h2],λx hx=>?_,?_⟩
  ·rw[rD]at hx;exact(qab.mp hx).elim (h3 x) (h4 x)
  ·rw[Rz];rcases h5 with h5|h5<;>rw[h5]
   ·rfl
   ·rw[qb_]
 unfold x9
 cases h with
 |p hi hj =>
  rw[if_neg (by decide),if_neg (by decide)];exact mk (hA.size _ (getD_mem hi)) (hB.size _ (getD_mem hj)) (λx hx=>⟨hA.ok _ (getD_mem hi) x hx,hA.of _ (getD_mem hi) x hx⟩) (λx hx=>⟨hB.ok _ (getD_mem hj) x hx,hB.of _ (getD_mem hj) x hx⟩) (.inl (hA.full _ (getD_mem hi)))
 |a hi =>
  rw[if_neg (by decide),if_pos rfl];exact mk (hA.size _ (getD_mem hi)) (iO _) (λx hx=>⟨hA.ok _ (getD_mem hi) x hx,hA.of _ (getD_mem hi) x hx⟩) (ga n2) (.inl (hA.full _ (getD_mem hi)))
 |b hj =>
  rw[if_pos rfl,if_neg (by decide)];exact mk (iO _) (hB.size _ (getD_mem hj)) (ga n1) (λx hx=>⟨hB.ok _ (getD_mem hj) x hx,hB.of _ (getD_mem hj) x hx⟩) (.inr (hB.full _ (getD_mem hj)))
theorem Path.cols(hA:oK kn A n1)(hB:oK kn B n2)(hk:45∈kn){cs:List Nat}{i j:Nat}(h:Path A.length B.length cs i j):oK kn (wc A B (aV n1) (aV n2) cs cs.length) (n1+n2):=by
 have key:∀o∈wc A B (aV n1) (aV n2) cs cs.length,o.cps.size=n1+n2/\(∀x∈o.cps.toList,PC x/\x∈kn)/\c6 o=false:=λo ho=>by
  unfold wc at ho;obtain⟨k,hk',rfl⟩:=G_.mp ho;obtain⟨c,hc,s⟩:=h.at_.2.2 k (qag.mp hk');rw[bz hc];exact Ur hA hB hk s
 exact⟨λo ho=>(key o ho).1,λo ho x hx=>((key o ho).2.1 x hx).1,λo ho x hx=>((key o ho).2.1 x hx).2,λo ho=>(key o ho).2.2⟩
end
end
end GP
namespace L2
open PySem PySem.Spec PyProof.Rows
section
noncomputable def ItR(K:PySem.W.Frag)(a:g_)(n:Nat):It :=
 ⟨λi H=>fD λxs x=>bY K H a xs/\i<n/\xs[n-1-i]? =some x,λi H x H'=>H'=H/\∀xs,bY K H a xs->xs[n-1-i]? =some x,λi _=>n<=i⟩
theorem P9{P:I_}{w:W_}{K:PySem.W.Frag}{tg:Expr}(a it:g_)(n:Nat):Turn P w K tg (ItR K a n) [it] it (λi h=>i<=n/\h.IsRevIter it a ((n:Int)-1-(i:Int))) where
 mem:=by simp
 obj:=λi h st b hb=>by
  have e:b=it:=by simpa using hb
  subst e;obtain⟨o,e,c,d⟩:=st.2;exact⟨o,e,λv z=>by rw[d]at z;cases z⟩
 keep:=λi h h' st k=>⟨st.1,st.2.at λo e=>k it (by simp) o e⟩
 item:=by
  intro X hP hw hK hc i pins s σ H E I hf st hg;subst hP hw hK;obtain⟨xs,x,hq,hi,hx⟩:=hg;obtain⟨its,rv,p,hz⟩:=I.list hq;obtain⟨u,hu,ru⟩:=rv.get hx;obtain⟨f0,f1,f2,f3,f4,f5⟩:=hf it (by simp);have st':s.heap.IsRevIter it a ((n-1-i:Nat):Int):=by
   rw[show((n-1-i:Nat):Int)=(n:Int)-1-(i:Int) by omega];exact st.2
  refine wpAny_pyNext_rev_item st' p.isList (x:=u) (by simpa using hu) λh' st' sb=>?_;have I1:Inv X pins σ H { s with heap:=h' }:=I.turned (t':=s.toks) (λb o hb e=>(sb.2 b hb).trans e) f0 f1 f3 f4 f5;obtain⟨o,e,c,d⟩:=id st';refine⟨u,Y,Gn (s:={ s with heap:=h' }) e c d (by decide) ⟨x,H,I1,ru,⟨Y,λys hy=>by rw[I.DU hy hq];exact hx⟩,⟨by omega,?_⟩,λb hb=>(hf b hb).1⟩⟩;rw[show(n:Int)-1-((i+1:Nat):Int)=((n-1-i:Nat):Int)-1 by omega];exact st'
 done:=by
  intro X hP hw hK hc i pins s σ H E I hf st hg;subst hP hw hK;obtain⟨f0,f1,f2,f3,f4,f5⟩:=hf it (by simp);have hg':n<=i:=hg;have st':s.heap.IsRevIter it a (-1):=by
   rw[show(-1:Int)=(n:Int)-1-(i:Int) by have:=st.1;omega];exact st.2
  exact wpAny_pyNext_rev_end (I.ok.hd hc) st' λh' eb=>⟨Y,I.turned (t':=s.toks) (λb o hb e=>eb b o hb e) f0 f1 f3 f4 f5⟩
 self:=λ_ _ _ _ _ st h=>wpAny_pyIter_revIter st.2 h
def afT(K:PySem.W.Frag)(ta:TA):TI:=λσ H R=>ta σ H λvs H1=>fD λa xs=>vs=[.ref a]/\bY K H1 a xs/\R (ItR K a xs.length) H1
theorem boot_reversed:bootBuiltins "reversed" =some (.type "reversed"):=by decide +kernel
theorem Yp {X:Cx}{tg a:Expr}{ta:TA}{p pos:qcd}(hg:Gl X "reversed")(hm:X.mg "reversed" =none)(ha:PA X [a] ta)(hs:Z_ [a] X.env=[(false,eval a X.env)]:=by rfl):PI X tg (.Call (.Name "reversed" p) [a] [] pos) (afT X.K ta):=by
 intro pins s σ H R I h;refine Call_ (vv I hg hm boot_reversed (qaG (iB (ha pos pins s σ H _ I h) λus s1 ⟨vs,H1,I1,r1,q1⟩=>?_) hs Y));obtain⟨l,xs,rfl,hq,q⟩:=q1;obtain⟨u,rfl,ru⟩:=vals1 r1;cases ru;obtain⟨its,rv,pl,hz⟩:=I1.list hq;have hl:s1.heap.IsList l its.toArray:=pl.isList;have hlen:=rv.length;refine call_reversed_list hl ?_;have e0:({ s1 with heap:=s1.heap.push (revObj l ((its.toArray.size:Int)-1)) }:p_).heap.IsRevIter s1.heap.objs.size l ((xs.length:Int)-1-((0:Nat):Int)) :=
  ⟨_,H_ _ rfl,rfl,by rw[show(xs.length:Int)-1-((0:Nat):Int)=(its.toArray.size:Int)-1 by rw[u_];omega];rfl⟩
 refine wpAny_pyIter_revIter e0 ?_;refine⟨s1.heap.objs.size,[s1.heap.objs.size],_,_,H1,Y,I1.kept (t':=s1.toks) λb o e=>k_ _ e,P9 l _ xs.length,⟨X_ _,e0⟩,λb hb=>?_,q⟩;have e:b=s1.heap.objs.size:=by simpa using hb
 subst e;exact I1.D5 (j_ _) (I1.hok.fresh (j_ _))
end
section
theorem L7{X:Cx}(hu:X.A.units+1<cLine):uz X (compareOp .NotIn) (λx y H Q=>fD λa o=>y= .ref a/\BC H a x o/\Q (.bl (!o.isSome)) H):=by
 intro pins s σ H x y u v Q I rx ry h;obtain⟨a,o,rfl,g,q⟩:=h;cases (show v=Value.ref a from ry);exact Ul hu I g rx λs3 I3=>⟨.bl (!o.isSome),H,I3,Y,q⟩
theorem Uh{K:PySem.W.Frag}{a:g_}{xs:List V}{g:TG}{tb:TS}{D:Ends}{σ:St}{H:Hp}(Pv:Nat->St->Hp->Prop)(h0:Pv 0 σ H)(hl:∀i σ H,i<xs.length->Pv i σ H->bY K H a xs)
  (hs:∀i x σ H,i<xs.length->xs[xs.length-1-i]? =some x->Pv i σ H->g x σ H λσ2 H2=>tb { D with nx:=Pv (i+1),ct:=Pv (i+1),bk:=D.nx } σ2 H2) (hd:∀ σ H,Pv xs.length σ H->D.nx σ H) :
  ∃W:Nat->Nat->St->Hp->Prop,(∃m,W 0 m σ H)/\∀i m σ H,W i m σ H →
   ((ItR K a xs.length).stop i H/\D.nx σ H)\/((ItR K a xs.length).go i H/\∃N:St->Hp->Prop,(∀ σ' H',N σ' H'->∃m',m'<m/\W (i+1) m' σ' H')/\∀x H',(ItR K a xs.length).IX i H x H'->g x σ H' λσ2 H2=>tb { D with nx:=N,ct:=N,bk:=D.nx } σ2 H2):=by
 refine⟨λi m σ H=>m=xs.length-i/\i<=xs.length/\Pv i σ H,⟨xs.length,by simp,X_ _,h0⟩,?_⟩;rintro i m σ H ⟨rfl,hi,p⟩;by_cases hlt:i<xs.length
 ·have hx:xs[xs.length-1-i]? =some xs[xs.length-1-i]:=e_ (by omega);refine .inr ⟨⟨xs,_,hl i σ H hlt p,hlt,hx⟩,Pv (i+1),λσ' H' p'=>⟨xs.length-(i+1),by omega,Y,hlt,p'⟩,λx H' y=>?_⟩;obtain⟨e,y⟩:=y;subst e;exact hs i x σ _ hlt (y xs (hl i σ _ hlt p)) p
 ·have e:i=xs.length:=by omega
  subst e;exact .inl ⟨j_ _,hd σ H p⟩
end
end L2
namespace GP
open PySem L2 pR
theorem eL{α β:Type}{d:α}(l:List α)(F:α->β):(E_ l.length).map (λj=>F (l.getD j d))=l.map F:=by
 refine qaZ (by simp) λi h1 h2=>?_;have hi:i<l.length:=by simpa using h2
 rw[qaJ,qaJ,qa9,bz (e_ hi)]
theorem Nt{P:Nat->g_->Prop}{f:Nat->V}:∀{m:Nat},(∀j,j<m->∃r,f j= .ref r/\P j r)->∃rs:List g_,rs.length=m/\(E_ m).map f=rs.map V.ref/\∀i r,rs[i]? =some r->P i r
 | 0,_=>⟨[],rfl,rfl,λi r h=>by simp at h⟩
 |m+1,h=>by
  obtain⟨rs,h1,h2,h3⟩:=Nt (m:=m) λj hj=>h j (by omega);obtain⟨r,e,hr⟩:=h m (qbo _);refine⟨rs++[r],by rw[A_,h1];rfl,by rw[qbi,P_,h2,P_,List.map_singleton,e];rfl,λi q hq=>?_⟩;by_cases z:i<rs.length
  ·rw[qar z]at hq;exact h3 i q hq
  ·rw[qal (by omega)]at hq;have ei:i=m:=by
    have:=(q_.mp hq).1;have:i-rs.length<1:=this;omega
   subst ei;rw[h1,qbZ]at hq;cases hq;exact hr
theorem Ol{α:Type}(F:Nat->α)(n:Nat):((E_ (n+1)).map F).reverse=(E_ (n+1)).map λj=>F (n-j):=by
 refine qaZ (by simp) λi h1 h2=>?_;rw[List.getElem_reverse,qaJ,qaJ,qa9,qa9];have e:((E_ (n+1)).map F).length-1-i=n-i:=by simp
 rw[e]
theorem kU{α:Type}{F:Nat->α}{n j:Nat}(h:j<n):((E_ n).map F)[j]? =some (F j):=by
 rw[n_,List.getElem?_range h];rfl
theorem yy{α:Type}{F:Nat->α}{n:Nat}:(E_ (n+1)).map F=(E_ n).map F++[F n]:=by
 rw[qbi,P_];rfl
noncomputable def sS(rows:List (List cC))(fo fm:cC):Int:=fm.1*(aO fo.2 fm.2 rows / fm.2)
noncomputable def I8(mo:Int)(c:r_)(n:Nat):Int:=((ya c.cps.toList).length:Int)*(n:Int)*mo
def xu(H:Hp)(l:g_)(m n:Nat)(f:Nat->Nat->Int):Prop :=
 ∃rs:List g_,rs.length=m/\H l=some (.lst (rs.map V.ref))/\∀i r,rs[i]? =some r->H r=some (.lst ((E_ n).map λj=>V.int (f i j)))
theorem xu.same{H H':Hp}{l:g_}{m n:Nat}{f:Nat->Nat->Int}(h:xu H l m n f)(e:aj H H'):xu H' l m n f:=by
 obtain⟨rs,h1,h2,h3⟩:=h;exact⟨rs,h1,e _ _ h2,λi r hr=>e _ _ (h3 i r hr)⟩
noncomputable def z7(pc:Nat->Nat->Int)(mo:Int)(A B:List r_)(i j:Nat):Int:=NO pc mo (ya (A.getD i ⟨#[]⟩).cps.toList) (ya (B.getD j ⟨#[]⟩).cps.toList)
noncomputable abbrev y1(l1:g_):List (r_×V):=aX "ones" (.ref l1) []
noncomputable abbrev y2(l1 l2:g_):=aX "others" (.ref l2) (y1 l1)
noncomputable abbrev y3(l1 l2:g_)(g1:r_):=aX "one_gaps" (.str g1) (y2 l1 l2)
noncomputable abbrev y4(l1 l2:g_)(g1 g2:r_):=aX "other_gaps" (.str g2) (y3 l1 l2 g1)
noncomputable abbrev y5(l1 l2:g_)(g1 g2:r_)(a:g_):=aX "by_a" (.ref a) (y4 l1 l2 g1 g2)
noncomputable abbrev y6(l1 l2:g_)(g1 g2:r_)(a b:g_):=aX "by_b" (.ref b) (y5 l1 l2 g1 g2 a)
noncomputable abbrev y7(l1 l2:g_)(g1 g2:r_)(a b e:g_):=aX "extras" (.ref e) (y6 l1 l2 g1 g2 a b)
noncomputable def jF(l1 l2:g_)(g1 g2:r_)(a b e r:g_):List (r_×V):=aX "rests" (.ref r) (y7 l1 l2 g1 g2 a b e)
def Sz(C:g_)(H:Hp)(jn:g_)(A B:List r_)(n1 n2:Nat)(pc:Nat->Nat->Int)(mo:Int):Prop :=
 Po λdx l1 l2 a b e r=>H jn=some (.ins C dx (jF l1 l2 (aV n1) (aV n2) a b e r))/\H l1=some (.lst (A.map V.str))/\H l2=some (.lst (B.map V.str)) ∧
  H a=some (.lst (A.map λc=>V.int (I8 mo c n2)))/\H b=some (.lst (B.map λc=>V.int (I8 mo c n1)))/\xu H e A.length B.length (z7 pc mo A B)/\xu H r (A.length+1) (B.length+1) (jE (z7 pc mo A B) A.length B.length)
theorem Sz.same{C:g_}{H H':Hp}{jn:g_}{A B:List r_}{n1 n2:Nat}{pc:Nat->Nat->Int}{mo:Int}(h:Sz C H jn A B n1 n2 pc mo)(s:aj H H'):Sz C H' jn A B n1 n2 pc mo:=by
 obtain⟨dx,l1,l2,a,b,e,r,h1,h2,h3,h4,h5,h6,h7⟩:=h;exact⟨dx,l1,l2,a,b,e,r,s _ _ h1,s _ _ h2,s _ _ h3,s _ _ h4,s _ _ h5,h6.same s,h7.same s⟩
theorem Mu{f:r_}{v:V}{fs:List (r_×V)}:(aX f v fs).lookup f=some v:=by rw[aC,if_pos rfl]
theorem sD{f g:r_}{u:V}{r:Option V}{fs:List (r_×V)}(h:fs.lookup f=r)(n:¬f=g):(aX g u fs).lookup f=r:=by rw[aC,if_neg n];exact h
section
variable{l1 l2 a b e r:g_}{g1 g2:r_}
theorem DX:(jF l1 l2 g1 g2 a b e r).lookup ("rests" :r_)=some (.ref r):=Mu
theorem OW:(jF l1 l2 g1 g2 a b e r).lookup ("extras" :r_)=some (.ref e):=sD (Mu) (by decide +kernel)
theorem TR:(jF l1 l2 g1 g2 a b e r).lookup ("by_b" :r_)=some (.ref b):=sD (sD (Mu) (by decide +kernel)) (by decide +kernel)
theorem TU:(jF l1 l2 g1 g2 a b e r).lookup ("by_a" :r_)=some (.ref a):=sD (sD (sD (Mu) (by decide +kernel)) (by decide +kernel)) (by decide +kernel)
theorem yg:(jF l1 l2 g1 g2 a b e r).lookup ("other_gaps" :r_)=some (.str g2):=sD (sD (sD (sD (Mu) (by decide +kernel)) (by decide +kernel)) (by decide +kernel)) (by decide +kernel)
theorem BO:(jF l1 l2 g1 g2 a b e r).lookup ("one_gaps" :r_)=some (.str g1):=sD (sD (sD (sD (sD (Mu) (by decide +kernel)) (by decide +kernel)) (by decide +kernel)) (by decide +kernel)) (by decide +kernel)
theorem Bh:(jF l1 l2 g1 g2 a b e r).lookup ("others" :r_)=some (.ref l2):=sD (sD (sD (sD (sD (sD (Mu) (by decide +kernel)) (by decide +kernel)) (by decide +kernel)) (by decide +kernel)) (by decide +kernel)) (by decide +kernel)
theorem HP:(jF l1 l2 g1 g2 a b e r).lookup ("ones" :r_)=some (.ref l1):=sD (sD (sD (sD (sD (sD (sD (Mu) (by decide +kernel)) (by decide +kernel)) (by decide +kernel)) (by decide +kernel)) (by decide +kernel)) (by decide +kernel)) (by decide +kernel)
end
theorem xu.congr{H:Hp}{l:g_}{m n:Nat}{f g:Nat->Nat->Int}(h:xu H l m n f)(e:∀i j,i<m->j<n->f i j=g i j):xu H l m n g:=by
 obtain⟨rs,h1,h2,h3⟩:=h;refine⟨rs,h1,h2,λi r hr=>?_⟩;have hi:i<m:=by rw[←h1];exact(q_.mp hr).1
 rw[h3 i r hr];congr 2;exact qbk λj hj=>by rw[e i j hi (qag.mp hj)]
theorem jA.Vj{K:PySem.W.Frag}{C CJ jn dj:g_}{H:Hp}{x:g_}{sg:r_}{rows:List (List cC)}{fo fm:cC}(hj:H jn=some (.ins CJ dj []))(h:jA K C H x sg rows fo fm):jA K C (Wo jn H) x sg rows fo fm:=by
 have D:Dat H (Wo jn H):=λb u n e=>Wo.in (λz=>by rw[z,hj]at e;exact n _ _ _ (V_ e).symm) e;obtain⟨a,b,c,d,f,g,i,dx,P,o,m,dd,kvs,h1,h2,h3,h4,h5,h6,fs,h7,h8,h9⟩:=h;refine⟨a,b,c,d,f,g,i,dx,P,o,m,dd,kvs,Wo.in (λz=>?_) h1,h2.dat D,h3.dat D,h4.dat D,D _ _ (λ_ _ _ z=>by cases z) h5,h6,fs,h7,h8,D _ _ (λ_ _ _ z=>by cases z) h9⟩;rw[z,hj]at h1;have e:=HO.ins.inj (V_ h1);have e2:=congrArg (λl=>qbT ("factors" :r_) l) e.2.2;rw[sr]at e2;cases e2
theorem vV.Vj{K:PySem.W.Frag}{C CJ jn dj:g_}{H:Hp}{b:g_}{rs:List r_}(hj:H jn=some (.ins CJ dj []))(h:vV K C H b rs):vV K C (Wo jn H) b rs:=by
 have D:Dat H (Wo jn H):=λb u n e=>Wo.in (λz=>by rw[z,hj]at e;exact n _ _ _ (V_ e).symm) e;obtain⟨dx,q,h1,h2⟩:=h;refine⟨dx,q,Wo.in (λz=>?_) h1,Dat.tup D h2⟩;rw[z,hj]at h1;have e:=HO.ins.inj (V_ h1);have e2:=congrArg (λl=>qbT ("rows" :r_) l) e.2.2;rw[Mu]at e2;cases e2
theorem F0{sg c:r_}(h:∀x∈c.cps.toList,x∈(qL sg).cps.toList):Of sg (aY 45 c):=λx hx=>by
 obtain⟨h1,h2⟩:=qaC.mp (show x∈c.cps.toList.filter (· != 45) from hx);exact(lX.mp (h x h1)).resolve_left (by simpa using h2)
theorem CZ{c:r_}{n:Nat}(h:c.cps.size<=n):(aY 45 c).cps.size<=n:=m_ (qaI _ _) (by rw[o_];exact h)
theorem BE{cs:List r_}{i:Nat}(h:i<cs.length):(cs.map (aY 45)).getD i ⟨#[]⟩=aY 45 (cs.getD i ⟨#[]⟩):=by
 rw[bz (e_ h),bz (by rw[n_,e_ h];rfl)]
theorem xu.Vj{C jn dj:g_}{fs:List (r_×V)}{H:Hp}{l:g_}{m n:Nat}{f:Nat->Nat->Int}(hj:H jn=some (.ins C dj fs))(h:xu H l m n f):xu (Wo jn H) l m n f:=by
 have ni:∀{l:g_} {xs:List V},H l=some (.lst xs)->l≠jn:=λh2 z=>by rw[z,hj]at h2;cases h2
 obtain⟨rs,h1,h2,h3⟩:=h;exact⟨rs,h1,Wo.in (ni h2) h2,λi r hr=>Wo.in (ni (h3 i r hr)) (h3 i r hr)⟩
theorem xu.at_{H:Hp}{l:g_}{m n:Nat}{f:Nat->Nat->Int}(h:xu H l m n f):∃L:List V,H l=some (.lst L)/\L.length=m/\∀i,i<m->∃r,L[i]? =some (.ref r)/\H r=some (.lst ((E_ n).map λj=>V.int (f i j))):=by
 obtain⟨rs,h1,h2,h3⟩:=h;refine⟨_,h2,by rw[f_,h1],λi hi=>?_⟩;have hi':i<rs.length:=by omega
 exact⟨rs[i],by rw[n_,e_ hi'];rfl,h3 i _ (e_ hi')⟩
theorem Uk{i j:Int}[Decidable (V.int i=V.int j)]:decide (V.int i=V.int j)=decide (i=j):=by
 by_cases h:i=j
 ·rw[decide_eq_true h,decide_eq_true (by rw[h])]
 ·rw[decide_eq_false h,decide_eq_false λz=>h (V.int.inj z)]
theorem Qa{a b c d:Int}:i7 [V.int a,V.int b] [V.int c,V.int d]=decide (a=c/\b=d):=by
 by_cases h:a=c/\b=d
 ·rw[decide_eq_true h,h.1,h.2];exact SJ c d
 ·rw[decide_eq_false h];by_cases h1:a=c
  ·have h2:¬b=d:=λz=>h ⟨h1,z⟩;simp[i7,E_,qcq,Lm,h1,h2]
  ·simp[i7,E_,qcq,Lm,h1]
def Sb(rs:List r_):Prop:=rs.length<=40/\∀r∈rs,r.cps.size<=50
theorem Sb.sm{rs:List r_}(h:Sb rs):Iq rs:=⟨m_ h.1 (by decide),λy hy=>m_ (h.2 y hy) (by decide)⟩
theorem Sb.ck{rs:List r_}(h:Sb rs)(hl:mR rs=true):ck rs<=50:=by
 obtain⟨hne,hw⟩:=bG.mp hl;obtain⟨r0,hr0⟩:=List.exists_mem_of_ne_nil rs hne;rw[←hw r0 hr0];exact h.2 r0 hr0
def ab3(K:PySem.W.Frag)(C:g_)(x:g_)(sg:r_)(rows:List (List cC))(fo fm:cC)(c:r_)(n:Nat)(H:Hp)(Q:VK):Prop:=jA K C H x sg rows fo fm/\c.cps.size<=1000/\n<=1000/\Q (.int (I8 (sS rows fo fm) c n)) H
def Qp(K:PySem.W.Frag)(C:g_):Sp:=λvs H Q _=>Po λ(x:g_) (sg:r_) (rows:List (List cC)) (fo fm:cC) (c:r_) (n:Nat)=>vs=[.ref x,.str c,.int n]/\ab3 K C x sg rows fo fm c n H Q
def Zl(K:PySem.W.Frag)(C:g_)(x l:g_)(sg:r_)(rows:List (List cC))(fo fm:cC)(cs:List r_)(n:Nat)(H:Hp)(Q:VK):Prop:=jA K C H x sg rows fo fm/\H l=some (.lst (cs.map V.str))/\cs.length<=1000/\(∀c∈cs,c.cps.size<=1000)/\n<=1000 ∧
 ∀l' H',aj H H'->H l'=none->H' l'=some (.lst (cs.map λc=>V.int (I8 (sS rows fo fm) c n)))->Q (.ref l') H'
def Ng(K:PySem.W.Frag)(C:g_):Sp:=λvs H Q _=>Vd λ(x l:g_) (sg:r_) (rows:List (List cC)) (fo fm:cC) (cs:List r_) (n:Nat)=>vs=[.ref x,.ref l,.int n]/\Zl K C x l sg rows fo fm cs n H Q
def ab0(K:PySem.W.Frag)(C:g_)(x:g_)(sg:r_)(rows:List (List cC))(fo fm:cC)(S:r_)(H:Hp)(Q:VK):Prop:=jA K C H x sg rows fo fm/\Of sg S/\S.cps.size<=1000 ∧
 ∀(d:g_) H' (kvs:List (Key×V)),aj H H'->H d=none->H' d=some (.dK kvs)->(∀o∈sg.cps.toList,mq kvs (.inr ⟨#[o]⟩)=some (.int (lZ (λs=>sj sg rows (aO fo.2 fm.2 rows) s o-2*sS rows fo fm) S.cps.toList)))->Q (.ref d) H'
def Ql(K:PySem.W.Frag)(C:g_):Sp:=λvs H Q _=>PR λ(x:g_) (sg:r_) (rows:List (List cC)) (fo fm:cC) (S:r_)=>vs=[.ref x,.str S]/\ab0 K C x sg rows fo fm S H Q
def ag4(K:PySem.W.Frag)(C:g_)(x l:g_)(sg:r_)(rows:List (List cC))(fo fm:cC)(S:r_)(os:List r_)(H:Hp)(Q:VK):Prop:=jA K C H x sg rows fo fm/\Of sg S/\S.cps.size<=1000/\H l=some (.lst (os.map V.str))/\os.length<=1000/\(∀o∈os,Of sg o/\o.cps.size<=1000) ∧
 ∀l' H',aj H H'->H l'=none->H' l'=some (.lst (os.map λo=>V.int (NO (sj sg rows (aO fo.2 fm.2 rows)) (sS rows fo fm) S.cps.toList o.cps.toList)))->Q (.ref l') H'
def UN(K:PySem.W.Frag)(C:g_):Sp:=λvs H Q _=>Vd λ(x l:g_) (sg:r_) (rows:List (List cC)) (fo fm:cC) (S:r_) (os:List r_)=>vs=[.ref x,.str S,.ref l]/\ag4 K C x l sg rows fo fm S os H Q
def ag5(K:PySem.W.Frag)(C:g_)(x l1 l2:g_)(sg:r_)(rows:List (List cC))(fo fm:cC)(ss os:List r_)(H:Hp)(Q:VK):Prop:=jA K C H x sg rows fo fm/\H l1=some (.lst (ss.map V.str))/\ss.length<=1000/\(∀o∈ss,Of sg o/\o.cps.size<=1000)/\H l2=some (.lst (os.map V.str))/\os.length<=1000/\(∀o∈os,Of sg o/\o.cps.size<=1000) ∧
 ∀l' H',aj H H'->H l'=none->xu H' l' ss.length os.length (λi j=>NO (sj sg rows (aO fo.2 fm.2 rows)) (sS rows fo fm) (ss.getD i ⟨#[]⟩).cps.toList (os.getD j ⟨#[]⟩).cps.toList)->Q (.ref l') H'
def UO(K:PySem.W.Frag)(C:g_):Sp:=λvs H Q _=>ZP λ(x l1 l2:g_) (sg:r_) (rows:List (List cC)) (fo fm:cC) (ss os:List r_)=>vs=[.ref x,.ref l1,.ref l2]/\ag5 K C x l1 l2 sg rows fo fm ss os H Q
def Zn(l b:g_)(n:Nat)(f g:Nat->Int)(H:Hp)(Q:VK):Prop:=H l=some (.lst ((E_ n).map λj=>V.int (f j)))/\H b=some (.lst ((E_ (n+1)).map λj=>V.int (g j)))/\n<=1000 ∧
 ∀l' H',aj H H'->H l'=none->H' l'=some (.lst ((E_ (n+1)).map λj=>V.int (xW f g n (n-j))))->Q (.ref l') H'
def Nm:Sp:=λvs H Q _=>GF λ(l b:g_) (n:Nat) (f g:Nat->Int)=>vs=[.ref l,.ref b]/\Zn l b n f g H Q
def Zj(l:g_)(m n:Nat)(E:Nat->Nat->Int)(H:Hp)(Q:VK):Prop:=xu H l m n E/\m<=1000/\n<=1000 ∧
 ∀l' H',aj H H'->H l'=none->xu H' l' (m+1) (n+1) (jE E m n)->Q (.ref l') H'
def Nb:Sp:=λvs H Q _=>yj λ(l:g_) (m n:Nat) (E:Nat->Nat->Int)=>vs=[.ref l,.int n]/\Zj l m n E H Q
def Zk(K:PySem.W.Frag)(C CB CJ X:g_)(jn dx x o1 o2:g_)(sg:r_)(rows:List (List cC))(fo fm:cC)(r1 r2:List r_)(H:Hp)(Q:VK)(E:XK):Prop:=H jn=some (.ins CJ dx [])/\jA K C H x sg rows fo fm/\vV K CB H o1 r1/\vV K CB H o2 r2/\Sb r1/\Sb r2/\cR r1=true/\cR r2=true ∧
 ((∀r∈r1++r2,Of (qL sg) r)->∀H',(∀a u,H a=some u->a≠jn->H' a=some u)->Sz CJ H' jn (cols r1 (ck r1)) (cols r2 (ck r2)) r1.length r2.length (sj sg rows (aO fo.2 fm.2 rows)) (sS rows fo fm)->Q .lV H') ∧
 (∀i j,zj (qL sg) (r1++r2) i j->∀dx H',(∀a u,H a=some u->a≠jn->H' a=some u)->H' dx=some (CN dx (Fe i j))->E (.ref X) (some dx) H')
def Nc(K:PySem.W.Frag)(C CB CJ X:g_):Sp:=λvs H Q E=>ab9 λ(jn dx x o1 o2:g_) (sg:r_) (rows:List (List cC)) (fo fm:cC) (r1 r2:List r_)=>vs=[.ref jn,.ref x,.ref o1,.ref o2]/\Zk K C CB CJ X jn dx x o1 o2 sg rows fo fm r1 r2 H Q E
def ab4(K:PySem.W.Frag)(CJ:g_)(jn:g_)(A B:List r_)(n1 n2:Nat)(pc:Nat->Nat->Int)(mo:Int)(i j:Nat)(H:Hp)(Q:VK):Prop:=Sz CJ H jn A B n1 n2 pc mo/\A.length<=400/\B.length<=400/\i<=A.length/\j<=B.length ∧
 Q (.str ⟨#[Lj (z7 pc mo A B) A.length B.length i j]⟩) H
def Qs(K:PySem.W.Frag)(CJ:g_):Sp:=λvs H Q _=>ZP λ(jn:g_) (A B:List r_) (n1 n2:Nat) (pc:Nat->Nat->Int) (mo:Int) (i j:Nat)=>vs=[.ref jn,.int i,.int j]/\ab4 K CJ jn A B n1 n2 pc mo i j H Q
def Zm(K:PySem.W.Frag)(CJ:g_)(jn:g_)(A B:List r_)(n1 n2:Nat)(pc:Nat->Nat->Int)(mo:Int)(H:Hp)(Q:VK):Prop:=Sz CJ H jn A B n1 n2 pc mo/\A.length<=400/\B.length<=400 ∧
 ∀l H' cs,aj H H'->H l=none->H' l=some (.lst (cs.map sg))->xC (z7 pc mo A B) A.length B.length cs A.length B.length->Q (.ref l) H'
def Nh(K:PySem.W.Frag)(CJ:g_):Sp:=λvs H Q _=>Po λ(jn:g_) (A B:List r_) (n1 n2:Nat) (pc:Nat->Nat->Int) (mo:Int)=>vs=[.ref jn]/\Zm K CJ jn A B n1 n2 pc mo H Q
def Zi(K:PySem.W.Frag)(l1 l2 lm:g_)(A B:List r_)(g1 g2:r_)(cs:List Nat)(i j:Nat)(H:Hp)(Q:VK):Prop:=H l1=some (.lst (A.map V.str))/\H l2=some (.lst (B.map V.str))/\H lm=some (.lst (cs.map sg))/\A.length<=400/\B.length<=400/\(∀c∈A,c.cps.size<=1000)/\(∀c∈B,c.cps.size<=1000)/\g1.cps.size<=1000/\g2.cps.size<=1000/\Path A.length B.length cs i j ∧
 ∀l H',aj H H'->H l=none->H' l=some (.lst ((wc A B g1 g2 cs cs.length).map V.str))->Q (.ref l) H'
def Na(K:PySem.W.Frag):Sp:=λvs H Q _=>Uw λ(l1 l2 lm:g_) (A B:List r_) (g1 g2:r_) (cs:List Nat) (i j:Nat)=>vs=[.ref l1,.ref l2,.str g1,.str g2,.ref lm]/\Zi K l1 l2 lm A B g1 g2 cs i j H Q
structure JOk(kn:List Nat)(A B:List r_)(n1 n2:Nat):Prop where
 a:oK kn A n1
 b:oK kn B n2
 la:A.length<=50
 lb:B.length<=50
 s1:n1<=40
 s2:n2<=40
 p1:0<n1
 kn:45∈kn
def Nd(K:PySem.W.Frag)(CB CJ:g_):Sp:=λvs H Q _=>Vd λ(jn:g_) (A B:List r_) (n1 n2:Nat) (pc:Nat->Nat->Int) (mo:Int) (kn:List Nat)=>vs=[.ref jn]/\Sz CJ H jn A B n1 n2 pc mo/\JOk kn A B n1 n2 ∧
 ∀b H' cs,aj H H'->H b=none->xC (z7 pc mo A B) A.length B.length cs A.length B.length->vV K CB H' b (cols (wc A B (aV n1) (aV n2) cs cs.length) (n1+n2))->Q (.ref b) H'
end GP
namespace L2
open PySem PySem.Spec PyProof.Rows
end L2
namespace GP
open PySem L2 pR
section
theorem Kp.two{r:L2.St}{a b:Option V}:Kp (none::none::r) (a::b::r):=λi v e=>by
 match i with
 | 0=>cases e
 | 1=>cases e
 |i+2=>exact e
section
variable{sg:r_}{rows:List (List cC)}{fo fm:cC}{r1 r2:List r_}
end
end
section
section
variable{K:PySem.W.Frag}{CP CB:g_}{H H' Ao:Hp}{t x a1 a2 o1 o2:g_}{k k2:Int}{sg:r_}{rows:List (List cC)}{fo fm:cC}{r1 r2:List r_}
end
def Ju(K:PySem.W.Frag):Sp:=λvs H Q _=>yj λ(s t:g_) (ns:List Int) (k:Int)=>vs=[.ref s,.ref t]/\Au K H s t ns k/\k<=70000 ∧
 ∀(k':Int) (H':Hp),aj (Wo t H) (Wo t H')->H' t=some (.lst [.int k'])->k<=k'->k'<=k+3000->Q (.bl true) H'
theorem zj.mk1{kn:r_}{rs:List r_}{r k c:Nat}{row o:r_}(hO:∀r∈rs,Of kn r)(hr:rs[r]? =some row)(hk:k<row.cps.size)(ho:o.cps.toList=row.cps.toList.set k c)(hc:c∉kn.cps.toList):zj kn (rs.set r o) r k:=by
 have hrl:=(q_.mp hr).1;have T7:k<row.cps.toList.length:=by rw[o_];exact hk
 refine⟨⟨o,c,qa1 hrl,by rw[←U_,ho,qa1 T7],hc,λi d hi hd=>?_⟩,λm q hm hq=>?_⟩
 ·rw[←U_,ho,qaX (by omega)]at hd;exact hO row (l_ hr) d (l_ hd)
 ·rw[qaX (by omega)]at hq;exact hO q (l_ hq)
end
section
noncomputable def stI(c:Nat):Nat:=if c=98 then 0 else 1
noncomputable def C5(c:Nat):Nat:=if c=97 then 0 else 1
noncomputable def Jw(m n:Nat):Nat->Nat->List Nat->Prop
 |i,j,[]=>i=m/\j=n
 |i,j,c::cs=>uA m n i j c (i+stI c) (j+C5 c)/\Jw m n (i+stI c) (j+C5 c) cs
noncomputable def N4(E:Nat->Nat->Int)(m n:Nat):Nat->Nat->List Nat->Prop
 |i,j,[]=>i=m/\j=n
 |i,j,c::cs=>c=Lj E m n i j/\jE E m n i j=(if c=112 then E i j else 0)+jE E m n (i+stI c) (j+C5 c)/\uA m n i j c (i+stI c) (j+C5 c)/\N4 E m n (i+stI c) (j+C5 c) cs
noncomputable def exW(E:Nat->Nat->Int):Nat->Nat->List Nat->Int
 |_,_,[]=>0
 |i,j,c::cs=>(if c=112 then E i j else 0)+exW E (i+stI c) (j+C5 c) cs
noncomputable def Bq(A B:List r_)(g1 g2:r_):Nat->Nat->List Nat->List r_
 |_,_,[]=>[]
 |i,j,c::cs=>x9 A B g1 g2 i j c::Bq A B g1 g2 (i+stI c) (j+C5 c) cs
theorem uA.st{m n i j c i' j':Nat}(h:uA m n i j c i' j'):i'=i+stI c/\j'=j+C5 c:=by
 cases h<;>exact⟨Y,Y⟩
theorem Path.wk{m n:Nat}{cs:List Nat}{i j:Nat}(h:Path m n cs i j):∀{ds:List Nat},Jw m n i j ds->Jw m n 0 0 (cs++ds):=by
 induction h with
 |nil=>exact λh=>h
 | @snoc cs i j c i' j' hp s ih =>
  intro ds hd;rw[qa3];obtain⟨e1,e2⟩:=s.st;subst e1 e2;exact ih ⟨s,hd⟩
theorem Jw.path{m n:Nat}:∀{ds:List Nat} {cs:List Nat} {i j:Nat},Path m n cs i j->Jw m n i j ds->Path m n (cs++ds) m n
 |[],cs,i,j,hp,h=>by
  obtain⟨rfl,rfl⟩:=h;rw[qaR];exact hp
 |c::ds,cs,i,j,hp,h=>by
  have:=Jw.path (hp.snoc h.1) h.2;rw[qa3]at this;exact this
theorem xC.fwk{E:Nat->Nat->Int}{m n:Nat}{cs:List Nat}{i j:Nat}(h:xC E m n cs i j):∀{ds:List Nat},N4 E m n i j ds->N4 E m n 0 0 (cs++ds):=by
 induction h with
 |nil=>exact λh=>h
 | @snoc cs i j i' j' hp s e ih =>
  intro ds hd;rw[qa3];obtain⟨e1,e2⟩:=s.st;subst e1 e2;exact ih ⟨Y,e,s,hd⟩
theorem N4.wk{E:Nat->Nat->Int}{m n:Nat}:∀{cs:List Nat} {i j:Nat},N4 E m n i j cs->Jw m n i j cs
 |[],_,_,h=>h
 |_::_,_,_,h=>⟨h.2.2.1,N4.wk h.2.2.2⟩
theorem N4.ex{E:Nat->Nat->Int}{m n:Nat}:∀{cs:List Nat} {i j:Nat},N4 E m n i j cs->exW E i j cs=jE E m n i j
 |[],_,_,h=>by rw[h.1,zF];rfl
 |c::cs,i,j,h=>by
  rw[h.2.1,←N4.ex h.2.2.2];rfl
theorem NW{A B:List r_}{g1 g2:r_}:∀{cs:List Nat} {i j:Nat},(E_ cs.length).map (λk=>x9 A B g1 g2 (i+pI cs k) (j+pJ cs k) (cs.getD k 0))=Bq A B g1 g2 i j cs
 |[],_,_=>rfl
 |c::cs,i,j=>by
  rw[qac,List.range_succ_eq_map,qak,qaf];show _::_=x9 A B g1 g2 i j c::Bq A B g1 g2 (i+stI c) (j+C5 c) cs;rw[←NW];congr 1;refine qbk λk _=>?_;have e1:pI (c::cs) (k+1)=stI c+pI cs k:=by
   unfold pI stI;rw[List.take_succ_cons,List.filter_cons];by_cases h:c=98
   ·rw[if_pos h,if_neg (by simp[h]),Nat.zero_add]
   ·rw[if_neg h,if_pos (by simpa using h),qac,Nat.add_comm]
  have e2:pJ (c::cs) (k+1)=C5 c+pJ cs k:=by
   unfold pJ C5;rw[List.take_succ_cons,List.filter_cons];by_cases h:c=97
   ·rw[if_pos h,if_neg (by simp[h]),Nat.zero_add]
   ·rw[if_neg h,if_pos (by simpa using h),qac,Nat.add_comm]
  show x9 A B g1 g2 (i+pI (c::cs) (k+1)) (j+pJ (c::cs) (k+1)) ((c::cs).getD (k+1) 0)=_;rw[e1,e2,←Nat.add_assoc,←Nat.add_assoc];rfl
theorem JT{A B:List r_}{g1 g2:r_}{cs:List Nat}:wc A B g1 g2 cs cs.length=Bq A B g1 g2 0 0 cs:=by
 rw[←NW];unfold wc;refine qbk λk _=>?_;rw[Nat.zero_add,Nat.zero_add]
section
variable{A B:List r_}{n1 n2:Nat}
theorem Pe(hA:∀c∈A,c.cps.size=n1)(hB:∀c∈B,c.cps.size=n2){tc pc:Nat->Nat->Int}{mo:Int}(h0:∀a b,a=45->b=45->tc a b=0)(h1:∀a b,¬(a=45/\b=45)->(a=45\/b=45)->tc a b=mo)(h2:∀a b,a≠45->b≠45->tc a b=pc a b)
  {E:Nat->Nat->Int} (hE:∀i j,i<A.length->j<B.length->E i j=NO pc mo (ya (A.getD i ⟨#[]⟩).cps.toList) (ya (B.getD j ⟨#[]⟩).cps.toList)) {i j c i' j':Nat} (s:uA A.length B.length i j c i' j') :
  cc tc (x9 A B (aV n1) (aV n2) i j c).cps.toList+sm (λi=>cc tc (A.getD i ⟨#[]⟩).cps.toList+((ya (A.getD i ⟨#[]⟩).cps.toList).length:Int)*(n2:Int)*mo) i+sm (λj=>cc tc (B.getD j ⟨#[]⟩).cps.toList+((ya (B.getD j ⟨#[]⟩).cps.toList).length:Int)*(n1:Int)*mo) j
   = sm (λi=>cc tc (A.getD i ⟨#[]⟩).cps.toList+((ya (A.getD i ⟨#[]⟩).cps.toList).length:Int)*(n2:Int)*mo) i'+sm (λj=>cc tc (B.getD j ⟨#[]⟩).cps.toList+((ya (B.getD j ⟨#[]⟩).cps.toList).length:Int)*(n1:Int)*mo) j'+(if c=112 then E i j else 0):=by
 have hl:∀{i},i<A.length->(A.getD i ⟨#[]⟩).cps.toList.length=n1:=λ{i} hi=>by rw[o_];exact hA _ (getD_mem hi)
 have hr:∀{j},j<B.length->(B.getD j ⟨#[]⟩).cps.toList.length=n2:=λ{j} hj=>by rw[o_];exact hB _ (getD_mem hj)
 unfold x9
 cases s with
 |p hi hj =>
  rw[if_neg (by decide),if_neg (by decide),rD,xh,MM h0 h1 h2,hl hi,hr hj,←hE i j hi hj,if_pos rfl];show _=sm _ i+(_+_)+(sm _ j+(_+_))+_;omega
 |a hi =>
  rw[if_neg (by decide),if_pos rfl,if_neg (by decide),rD,xh,MM h0 h1 h2,hl hi,sE,JE,CK h0,qau];show _=sm _ i+(_+_)+sm _ j+_;rw[show NO pc mo (ya (A.getD i ⟨#[]⟩).cps.toList) []=0 from rfl,List.length_nil,show((0:Nat):Int)*(n1:Int)*mo=0 by simp];omega
 |b hj =>
  rw[if_pos rfl,if_neg (by decide),if_neg (by decide),rD,xh,MM h0 h1 h2,hr hj,sE,JE,CK h0,qau];show _=sm _ i+(sm _ j+(_+_))+_;rw[show NO pc mo [] (ya (B.getD j ⟨#[]⟩).cps.toList)=0 from(kF λ_ _=>uD _).trans ((uY 0 _).trans (Int.mul_zero _)),List.length_nil,show((0:Nat):Int)*(n2:Int)*mo=0 by simp];omega
theorem Jw.cost(hA:∀c∈A,c.cps.size=n1)(hB:∀c∈B,c.cps.size=n2){tc pc:Nat->Nat->Int}{mo:Int}(h0:∀a b,a=45->b=45->tc a b=0)(h1:∀a b,¬(a=45/\b=45)->(a=45\/b=45)->tc a b=mo)(h2:∀a b,a≠45->b≠45->tc a b=pc a b)
  {E:Nat->Nat->Int} (hE:∀i j,i<A.length->j<B.length->E i j=NO pc mo (ya (A.getD i ⟨#[]⟩).cps.toList) (ya (B.getD j ⟨#[]⟩).cps.toList)):∀{cs:List Nat} {i j:Nat},Jw A.length B.length i j cs →
  ((Bq A B (aV n1) (aV n2) i j cs).map λo=>cc tc o.cps.toList).sum+sm (λi=>cc tc (A.getD i ⟨#[]⟩).cps.toList+((ya (A.getD i ⟨#[]⟩).cps.toList).length:Int)*(n2:Int)*mo) i+sm (λj=>cc tc (B.getD j ⟨#[]⟩).cps.toList+((ya (B.getD j ⟨#[]⟩).cps.toList).length:Int)*(n1:Int)*mo) j
   = sm (λi=>cc tc (A.getD i ⟨#[]⟩).cps.toList+((ya (A.getD i ⟨#[]⟩).cps.toList).length:Int)*(n2:Int)*mo) A.length+sm (λj=>cc tc (B.getD j ⟨#[]⟩).cps.toList+((ya (B.getD j ⟨#[]⟩).cps.toList).length:Int)*(n1:Int)*mo) B.length+exW E i j cs
 |[],i,j,h=>by
  obtain⟨rfl,rfl⟩:=h;show(0:Int)+_+_=_+_+0;omega
 |c::cs,i,j,h=>by
  have e1:=Pe hA hB h0 h1 h2 hE h.1;have e2:=Jw.cost hA hB h0 h1 h2 hE h.2
  show(cc tc (x9 A B (aV n1) (aV n2) i j c).cps.toList::((Bq A B (aV n1) (aV n2) (i+stI c) (j+C5 c) cs).map λo=>cc tc o.cps.toList)).sum+_+_=_+_+((if c=112 then E i j else 0)+exW E (i+stI c) (j+C5 c) cs)
  rw[qbn];omega
end
end
end GP
namespace L2
open PySem PySem.Spec PyProof.Rows
section
open PySem.SeqAt
open PySem.AutoSeq1 (wpAny_loadPart')
open PySem.MeetsSeq PySem.MeetsSeq2 PySem.MeetsSeq3
end
end L2
namespace GP
open PySem L2 pR
section
noncomputable def Ji(A:List r_)(g:r_):Nat->List Nat->List r_
 |_,[]=>[]
 |i,c::cs=>(if c=98 then g else A.getD i ⟨#[]⟩)::Ji A g (i+stI c) cs
noncomputable def Ik(B:List r_)(g:r_):Nat->List Nat->List r_
 |_,[]=>[]
 |j,c::cs=>(if c=97 then g else B.getD j ⟨#[]⟩)::Ik B g (j+C5 c) cs
theorem BJ{T:List r_}{N:Nat}(hN:0<N)(hs:∀o∈T,o.cps.size=N):packed (cols T N)=cols (T.filter λc=>!c6 c) N:=by
 unfold packed;rw[CQ hN,xS hs,bE]
section
variable{A B:List r_}{n1 n2:Nat}{kn:List Nat}
theorem aaC{m n i j c i' j':Nat}(h:uA m n i j c i' j'):c≠98->i<m:=λz=>by
 cases h with
 |p a b=>exact a
 |a a=>exact a
 |b b=>exact absurd Y z
theorem aaB{m n i j c i' j':Nat}(h:uA m n i j c i' j'):c≠97->j<n:=λz=>by
 cases h with
 |p a b=>exact b
 |a a=>exact absurd Y z
 |b b=>exact b
theorem xF(hA:∀c∈A,c.cps.size=n1){n:Nat}:∀{cs:List Nat} {i j:Nat},Jw A.length n i j cs->∀o∈Ji A (aV n1) i cs,o.cps.size=n1
 |[],_,_,_,o,ho=>absurd ho qaD
 |c::cs,i,j,h,o,ho=>by
  rcases S_.mp (show o∈_::Ji A (aV n1) (i+stI c) cs from ho)with rfl|ho
  ·by_cases z:c=98
   ·rw[if_pos z,iO]
   ·rw[if_neg z];exact hA _ (getD_mem (aaC h.1 z))
  ·exact xF hA h.2 o ho
theorem Gx(hB:∀c∈B,c.cps.size=n2){n:Nat}:∀{cs:List Nat} {i j:Nat},Jw n B.length i j cs->∀o∈Ik B (aV n2) j cs,o.cps.size=n2
 |[],_,_,_,o,ho=>absurd ho qaD
 |c::cs,i,j,h,o,ho=>by
  rcases S_.mp (show o∈_::Ik B (aV n2) (j+C5 c) cs from ho)with rfl|ho
  ·by_cases z:c=97
   ·rw[if_pos z,iO]
   ·rw[if_neg z];exact hB _ (getD_mem (aaB h.1 z))
  ·exact Gx hB h.2 o ho
theorem Gp(n:Nat):c6 (aV n)=true:=by
 unfold c6;rw[sE,v_];exact λx hx=>by rw[qax hx];rfl
theorem BD{n1:Nat}(hA:∀c∈A,c6 c=false){n:Nat}:∀{cs:List Nat} {i j:Nat},Jw A.length n i j cs->(Ji A (aV n1) i cs).filter (λc=>!c6 c)=A.drop i
 |[],i,_,h=>by rw[h.1,List.drop_length];rfl
 |c::cs,i,j,h=>by
  show(_::Ji A (aV n1) (i+stI c) cs).filter (λc=>!c6 c)=_;have ih:=BD (n1:=n1) hA h.2;by_cases z:c=98
  ·rw[if_pos z,qbf (by rw[Gp];decide),ih];unfold stI;rw[if_pos z,Nat.add_zero]
  ·have hi:=aaC h.1 z;rw[if_neg z,qbe (by rw[hA _ (getD_mem hi)];rfl),ih,qby hi,bz (e_ hi)];unfold stI;rw[if_neg z]
theorem BS{n2:Nat}(hB:∀c∈B,c6 c=false){n:Nat}:∀{cs:List Nat} {i j:Nat},Jw n B.length i j cs->(Ik B (aV n2) j cs).filter (λc=>!c6 c)=B.drop j
 |[],_,j,h=>by rw[h.2,List.drop_length];rfl
 |c::cs,i,j,h=>by
  show(_::Ik B (aV n2) (j+C5 c) cs).filter (λc=>!c6 c)=_;have ih:=BS (n2:=n2) hB h.2;by_cases z:c=97
  ·rw[if_pos z,qbf (by rw[Gp];decide),ih];unfold C5;rw[if_pos z,Nat.add_zero]
  ·have hj:=aaB h.1 z;rw[if_neg z,qbe (by rw[hB _ (getD_mem hj)];rfl),ih,qby hj,bz (e_ hj)];unfold C5;rw[if_neg z]
theorem KR(hA:∀c∈A,c.cps.size=n1){n r:Nat}(hr:r<n1):∀{cs:List Nat} {i j:Nat},Jw A.length n i j cs->ff (Bq A B (aV n1) (aV n2) i j cs) r=ff (Ji A (aV n1) i cs) r
 |[],_,_,_=>rfl
 |c::cs,i,j,h=>by
  show(x9 A B (aV n1) (aV n2) i j c).cps.toList.getD r 0::ff (Bq A B (aV n1) (aV n2) (i+stI c) (j+C5 c) cs) r=(if c=98 then aV n1 else A.getD i ⟨#[]⟩).cps.toList.getD r 0::ff (Ji A (aV n1) (i+stI c) cs) r
  rw[KR hA hr h.2];congr 1;have hz:=xF hA (cs:=c::cs) h _ (D_ ..)
  have hz':(if c=98 then aV n1 else A.getD i ⟨#[]⟩).cps.toList.length=n1:=by rw[o_];exact hz
  unfold x9
  generalize (if c=98 then aV n1 else A.getD i ⟨#[]⟩)=U at hz'
  rw[rD];simp only[L_];rw[qar (by omega)]
theorem KS(hA:∀c∈A,c.cps.size=n1){r:Nat}:∀{cs:List Nat} {i j:Nat},Jw A.length B.length i j cs->ff (Bq A B (aV n1) (aV n2) i j cs) (n1+r)=ff (Ik B (aV n2) j cs) r
 |[],_,_,_=>rfl
 |c::cs,i,j,h=>by
  show(x9 A B (aV n1) (aV n2) i j c).cps.toList.getD (n1+r) 0::ff (Bq A B (aV n1) (aV n2) (i+stI c) (j+C5 c) cs) (n1+r)=(if c=97 then aV n2 else B.getD j ⟨#[]⟩).cps.toList.getD r 0::ff (Ik B (aV n2) (j+C5 c) cs) r
  rw[KS hA h.2];congr 1;have hz:=xF hA (cs:=c::cs) h _ (D_ ..)
  have hz':(if c=98 then aV n1 else A.getD i ⟨#[]⟩).cps.toList.length=n1:=by rw[o_];exact hz
  unfold x9
  generalize (if c=98 then aV n1 else A.getD i ⟨#[]⟩)=U at hz'
  generalize (if c=97 then aV n2 else B.getD j ⟨#[]⟩)=U2
  rw[rD];simp only[L_];rw[qal (by omega),hz',Nat.add_sub_cancel_left]
theorem RV(hA:∀c∈A,c.cps.size=n1){cs:List Nat}(h:Jw A.length B.length 0 0 cs):(cols (Bq A B (aV n1) (aV n2) 0 0 cs) (n1+n2)).take n1=cols (Ji A (aV n1) 0 cs) n1:=by
 unfold cols;rw[←qcD,List.take_range,qbA (qaM _ _)];refine qbk λr hr=>?_;unfold iK;rw[KR hA (qag.mp hr) h]
theorem RW(hA:∀c∈A,c.cps.size=n1){cs:List Nat}(h:Jw A.length B.length 0 0 cs):(cols (Bq A B (aV n1) (aV n2) 0 0 cs) (n1+n2)).drop n1=cols (Ik B (aV n2) 0 cs) n2:=by
 refine List.ext_getElem? λr=>?_;rw[List.getElem?_drop];by_cases hr:r<n2
 ·rw[show(cols (Bq A B (aV n1) (aV n2) 0 0 cs) (n1+n2))[n1+r]? =some (iK _ (n1+r)) from kU (by omega),show(cols (Ik B (aV n2) 0 cs) n2)[r]? =some (iK _ r) from kU hr];unfold iK;rw[KS hA h]
 ·rw[qaN (by rw[bE];omega),qaN (by rw[bE];omega)]
end
theorem HN{kn:List Nat}{r1 r2:List r_}{cs:List Nat}(h1:oK kn (cols r1 (ck r1)) r1.length)(h2:oK kn (cols r2 (ck r2)) r2.length)(l1:mR r1=true)(l2:mR r2=true)(h:Jw (ck r1) (ck r2) 0 0 cs):
  packed ((cols (wc (cols r1 (ck r1)) (cols r2 (ck r2)) (aV r1.length) (aV r2.length) cs cs.length) (r1.length+r2.length)).take r1.length)=r1 ∧
  packed ((cols (wc (cols r1 (ck r1)) (cols r2 (ck r2)) (aV r1.length) (aV r2.length) cs cs.length) (r1.length+r2.length)).drop r1.length)=r2:=by
 have h':Jw (cols r1 (ck r1)).length (cols r2 (ck r2)).length 0 0 cs:=by rw[bE,bE];exact h
 rw[JT,RV h1.size h',RW h1.size h',BJ (qbK.mpr (bG.mp l1).1) (xF h1.size h'),BJ (qbK.mpr (bG.mp l2).1) (Gx h2.size h'),BD h1.full h',BS h2.full h',qbS,qbS];exact⟨xS (bG.mp l1).2,xS (bG.mp l2).2⟩
end
section
noncomputable abbrev jnC(r1 r2:List r_)(ms:List Nat):List r_:=wc (cols r1 (ck r1)) (cols r2 (ck r2)) (aV r1.length) (aV r2.length) ms ms.length
noncomputable abbrev jnR(r1 r2:List r_)(ms:List Nat):List r_:=cols (jnC r1 r2 ms) (r1.length+r2.length)
end
end GP
namespace L2
open PySem PySem.Spec PyProof.Rows
end L2
namespace GP
open PySem L2 pR
section
def Kb(k a c:Int):Prop:=k<=a/\a<=k+c
theorem N4.uniq{E:Nat->Nat->Int}{m n:Nat}:∀{cs ds:List Nat} {i j:Nat},N4 E m n i j cs->N4 E m n i j ds->cs=ds
 |[],[],_,_,_,_=>rfl
 |c::cs,d::ds,i,j,h,h'=>by
  have e:c=d:=h.1.trans h'.1.symm;subst e;rw[N4.uniq h.2.2.2 h'.2.2.2]
 |[],d::ds,i,j,h,h'=>by
  obtain⟨rfl,rfl⟩:=h;have s:=h'.2.2.1;exfalso;generalize i+stI d=i' at s;generalize j+C5 d=j' at s
  cases s with
  |p a b=>omega
  |a a=>omega
  |b b=>omega
 |d::ds,[],i,j,h',h=>by
  obtain⟨rfl,rfl⟩:=h;have s:=h'.2.2.1;exfalso;generalize i+stI d=i' at s;generalize j+C5 d=j' at s
  cases s with
  |p a b=>omega
  |a a=>omega
  |b b=>omega
theorem xC.uniq{E:Nat->Nat->Int}{m n:Nat}{cs ds:List Nat}(h:xC E m n cs m n)(h':xC E m n ds m n):cs=ds:=by
 have a:=h.fwk (ds:=[]) ⟨rfl,rfl⟩;have b:=h'.fwk (ds:=[]) ⟨rfl,rfl⟩;rw[qaR]at a b;exact a.uniq b
end
section
noncomputable def mh(r:Nat)(x:r_)(os:List r_):List r_:=os.take r++[x]++os.drop r
theorem sR{r:Nat}{x:r_}{os:List r_}:(mh r x os).length=os.length+1:=by
 unfold mh;rw[A_,A_,qai,qa8,qbw];omega
theorem qX{r:Nat}{x y:r_}{os:List r_}(h:y∈mh r x os):y=x\/y∈os:=by
 unfold mh at h;rcases qab.mp h with h|h
 ·rcases qab.mp h with h|h
  ·exact .inr (List.mem_of_mem_take h)
  ·exact .inl (F_.mp h)
 ·exact .inr (List.mem_of_mem_drop h)
theorem Ga{rs:List r_}{r:Nat}{x:r_}(h:rs[r]? =some x):mh r x (rs.eraseIdx r)=rs:=by
 obtain⟨hr,e⟩:=q_.mp h;unfold mh;rw[List.eraseIdx_eq_take_drop_succ,List.take_append_of_le_length (by rw[qai];omega),List.take_take,Nat.min_self,List.drop_append_of_le_length (by rw[qai];omega),List.drop_eq_nil_of_le (by rw[qai];omega),List.nil_append,qa3,List.singleton_append,←e,←qby hr,List.take_append_drop]
theorem Zb{tc:Nat->Nat->Int}(hs:∀a b,tc a b=tc b a)(x:Nat)(A B:List Nat):cc tc (A++[x]++B)=cc tc (x::(A++B)):=by
 have e:∀L:List Nat,MN tc L [x]=MN tc [x] L:=λL=>by
  unfold MN;rw[iL,uD,qb0];refine kF λa _=>?_;rw[iL,uD,qb0];exact hs a x
 have c1:cc tc [x]=0:=rfl;have b1:∀L M N:List Nat,MN tc (L++M) N=MN tc L N+MN tc M N:=λL M N=>by
  unfold MN;rw[←uE];exact kF λb _=>zp _ _ _
 have b2:∀L M N:List Nat,MN tc L (M++N)=MN tc L M+MN tc L N:=λL M N=>zp _ _ _;rw[xh,xh,b1,e A,show x::(A++B)=[x]++(A++B) from rfl,xh,xh,b2,c1];omega
theorem Gv{r k:Nat}{x:r_}{os:List r_}:ff (mh r x os) k=(ff os k).take r++[x.cps.toList.getD k 0]++(ff os k).drop r:=by
 unfold ff mh;rw[P_,P_,qcD,List.map_drop];rfl
theorem Pj{tc:Nat->Nat->Int}(hs:∀a b,tc a b=tc b a){r w:Nat}{x:r_}{os:List r_}(hx:x.cps.size=w)(ho:∀o∈os,o.cps.size=w):kN tc (mh r x os)=kN tc (x::os):=by
 have w1:ck (mh r x os)=w:=by
  cases h:mh r x os with
  |nil =>
   have:=sR (r:=r) (x:=x) (os:=os);rw[h]at this;cases this
  |cons a l =>
   rcases qX (y:=a) (by rw[h];exact D_ ..)with e|e
   ·show a.cps.size=w;rw[e];exact hx
   ·exact ho a e
 have w2:ck (x::os)=w:=hx;unfold kN;rw[w1,w2,sR];refine dF λk _=>?_;have e1:vY tc (ff (mh r x os) k) (os.length+1)=cc tc (ff (mh r x os) k):=by
  unfold cc;rw[show(ff (mh r x os) k).length=os.length+1 from(f_ ..).trans sR]
 have e2:vY tc (ff (x::os) k) (x::os).length=cc tc (ff (x::os) k):=by
  unfold cc;rw[show(ff (x::os) k).length=(x::os).length from f_ ..]
 rw[e1,e2,Gv,Zb hs,List.take_append_drop];rfl
theorem uc{rs:List r_}{r:Nat}{x:r_}(hl:mR rs=true)(h:rs[r]? =some x):∃y,(packed rs)[r]? =some y/\aY 45 y=aY 45 x:=by
 obtain⟨hr,ex⟩:=q_.mp h;have hw:=(bG.mp hl).2 x (l_ h);refine⟨_,kU hr,?_⟩;have e:∀k,(iK rs k).cps.toList.getD r 0=x.cps.toList.getD k 0:=λk=>by
  show(rs.map λr=>r.cps.toList.getD k 0).getD r 0=_;rw[bz (x:=x.cps.toList.getD k 0) (by rw[n_,h];rfl)]
 have hF:(cols rs (ck rs)).filter (λc=>!c6 c)=((E_ (ck rs)).filter λi=>!c6 (iK rs i)).map (iK rs):=by
  unfold cols;rw[qcp];rfl
 have ex2:x.cps.toList=(E_ (ck rs)).map λk=>x.cps.toList.getD k 0:=by
  have:=eL (d:=0) x.cps.toList λc=>c;rw[o_,hw,List.map_id']at this;exact this.symm
 have key:(iK ((cols rs (ck rs)).filter λc=>!c6 c) r).cps.toList.filter (· != 45)=x.cps.toList.filter (· != 45):=by
  show(((cols rs (ck rs)).filter λc=>!c6 c).map λc=>c.cps.toList.getD r 0).filter (· != 45)=_;rw[hF,qaf,ex2];have e3:((λc:r_=>c.cps.toList.getD r 0) ∘ iK rs)=λk=>x.cps.toList.getD k 0:=funext e;rw[e3,qcp,qcp,List.filter_filter];congr 1;refine List.filter_congr λk _=>?_;show(x.cps.toList.getD k 0 != 45&& !c6 (iK rs k))=(x.cps.toList.getD k 0 != 45)
  cases hc:(x.cps.toList.getD k 0 != 45)with
  |false=>rfl
  |true =>
   rw[qck,qbd]
   cases hg:c6 (iK rs k)with
   |false=>rfl
   |true =>
    exfalso;have hm:x.cps.toList.getD k 0∈(iK rs k).cps.toList:=G_.mpr ⟨x,l_ h,rfl⟩;have:=v_.mp hg _ hm;rw[beq_iff_eq]at this;rw[this]at hc;cases hc
 show(⟨((iK _ r).cps.toList.filter (· != 45)).toArray⟩:r_)=⟨(x.cps.toList.filter (· != 45)).toArray⟩;rw[key]
theorem Ue{o:r_}{n:Nat}(hs:o.cps.size=n)(h:c6 o=true):o=aV n:=by
 have e:o.cps.toList=(aV n).cps.toList:=by
  rw[sE];refine List.eq_replicate_iff.mpr ⟨by rw[o_];exact hs,λb hb=>?_⟩;have:=v_.mp h b hb;simpa using this
 cases o with
 |mk a =>
  have:=Array.toList_inj.mp e;exact congrArg Str.mk this
end
section
theorem Uo{xs:List V}{a b:Nat}(h:a<=b)(hb:b<=xs.length):vX xs (some (a:Int)) (some (b:Int))=(xs.drop a).take (b-a):=by
 unfold vX;rw[HT.se,HT.se,qbA hb,qbA (m_ h hb)]
theorem KW{K:PySem.W.Frag}{H:Hp}{a b:g_}{xs ys:List V}{Q:VK}(ha:eK K H a xs)(hb:eK K H b ys)(hz:xs.length+ys.length<=z_)(k:∀p H',aj H H'->eK K H' p (xs++ys)->Q (.ref p) H'):
  QG K (.ref a) (.ref b) H Q\/rG λa' b' ys'=>V.ref a= .ref a'/\V.ref b= .ref b'/\eK K H a' []/\eK K H b' ys'/\Q (.ref b') H:=by
 by_cases h:xs=[]
 ·subst h;exact .inr ⟨a,b,ys,Y,Y,ha,hb,k b H (aj.refl _) hb⟩
 ·refine .inl ⟨a,b,xs,ys,Y,Y,ha,hb,h,hz,λz=>?_,λ_ p hp=>k p _ (aj.upd hp) (eK.of ai)⟩;subst z;exact k a H (aj.refl _) (by rw[qaR];exact ha)
theorem O4{r k:Nat}{x:r_}{os:List r_}:c6 (iK (mh r x os) k)=c6 (iK (x::os) k):=by
 show(ff (mh r x os) k).all (·==45)=(x.cps.toList.getD k 0::ff os k).all (·==45);have e:(ff os k).all (·==45)=((ff os k).take r++(ff os k).drop r).all (·==45):=by rw[List.take_append_drop]
 rw[Gv,List.all_append,List.all_append,List.all_cons,List.all_nil,Bool.and_true,List.all_cons,e,List.all_append];cases ((ff os k).take r).all (·==45)<;>cases (x.cps.toList.getD k 0==45)<;>rfl
theorem Jd{r w:Nat}{x:r_}{os:List r_}(hx:x.cps.size=w)(ho:∀o∈os,o.cps.size=w):ck (mh r x os)=w:=by
 cases h:mh r x os with
 |nil =>
  have:=sR (r:=r) (x:=x) (os:=os);rw[h]at this;cases this
 |cons a l =>
  rcases qX (y:=a) (by rw[h];exact D_ ..)with e|e
  ·show a.cps.size=w;rw[e];exact hx
  ·exact ho a e
theorem BU{r:Nat}{x:r_}{os:List r_}(h:cR (x::os)=true):cR (mh r x os)=true:=by
 unfold cR at h ⊢;rw[R_,R_]at h ⊢;obtain⟨h1,h2,h3⟩:=h;obtain⟨_,hw⟩:=bG.mp h1;have hx:x.cps.size=ck (x::os):=hw x (D_ ..);have ho:∀o∈os,o.cps.size=ck (x::os):=λo hm=>hw o (C_ _ hm);have hwp:=Jd (r:=r) hx ho;refine⟨bG.mpr ⟨λz=>?_,λy hy=>?_⟩,v_.mpr λy hy=>?_,v_.mpr λc hc=>?_⟩
 ·have:=sR (r:=r) (x:=x) (os:=os);rw[z]at this;cases this
 ·rw[hwp];rcases qX hy with rfl|hy
  ·exact hx
  ·exact ho y hy
 ·rcases qX hy with rfl|hy
  ·exact v_.mp h2 _ (D_ ..)
  ·exact v_.mp h2 _ (C_ _ hy)
 ·rw[hwp]at hc;obtain⟨k,hk,rfl⟩:=G_.mp (show c∈(E_ (ck (x::os))).map (iK (mh r x os)) from hc);rw[O4];exact v_.mp h3 _ (G_.mpr ⟨k,hk,Y⟩)
theorem vt{rs:List r_}{i:Nat}(hl:mR rs=true)(hi:i<rs.length)(h1:rs.length≠1):mR (rs.eraseIdx i)=true/\ck (rs.eraseIdx i)=ck rs/\(rs.eraseIdx i).length+1=rs.length:=by
 obtain⟨hne,hw⟩:=bG.mp hl;have hlen:(rs.eraseIdx i).length+1=rs.length:=by rw[qbu hi];omega
 have hm:∀r∈rs.eraseIdx i,r.cps.size=ck rs:=λr hr=>hw r (T_ hr);have T3:ck (rs.eraseIdx i)=ck rs:=by
  cases h:rs.eraseIdx i with
  |nil=>rw[h]at hlen;have:0+1=rs.length:=hlen;omega
  |cons a l=>exact hm a (by rw[h];exact D_ ..)
 exact⟨bG.mpr ⟨λz=>by rw[z]at hlen;have:0+1=rs.length:=hlen;omega,λr hr=>by rw[T3];exact hm r hr⟩,T3,hlen⟩
theorem xK{kn:r_}{rs:List r_}(hl:mR rs=true)(ho:∀r∈rs,Of kn r):∀r∈packed rs,Of kn r:=λr hr x hx=>by
 have hF:∀c∈(cols rs (ck rs)).filter (λc=>!c6 c),c.cps.size=rs.length:=λc hc=>by
  obtain⟨k,_,rfl⟩:=G_.mp (show c∈(E_ (ck rs)).map (iK rs) from(qaC.mp hc).1);exact f_ ..
 obtain⟨o,hoF,hxo⟩:=LQ hF hr hx;obtain⟨k,hk,rfl⟩:=G_.mp (show o∈(E_ (ck rs)).map (iK rs) from(qaC.mp hoF).1);obtain⟨q,hq,rfl⟩:=G_.mp (show x∈rs.map λr=>r.cps.toList.getD k 0 from hxo);have hk':k<q.cps.toList.length:=by rw[o_,(bG.mp hl).2 q hq];exact qag.mp hk
 rw[bz (e_ hk')];exact ho q hq _ (x_ hk')
theorem AN{rs:List r_}(hl:mR rs=true)(hn:rs.length<=40)(hw:ck rs<=50):Sb (packed rs):=by
 refine⟨by unfold packed;rw[bE];exact hn,λr hr=>?_⟩;obtain⟨j,_,rfl⟩:=G_.mp (show r∈(E_ rs.length).map (iK ((cols rs (ck rs)).filter λc=>!c6 c)) from hr);rw[lQ];exact m_ (qaI _ _) (by rw[bE];exact hw)
theorem mT{rs:List r_}(h:cR rs=true):rs.all jB=true:=by
 unfold cR at h;rw[R_,R_]at h;exact h.2.1
noncomputable abbrev aA(y:r_):List r_:=cols [aY 45 y] (ck [aY 45 y])
noncomputable abbrev aB(rs:List r_)(r:Nat):List r_:=cols (packed (rs.eraseIdx r)) (ck (packed (rs.eraseIdx r)))
abbrev aF(sg:r_)(rows:List (List cC))(fo fm:cC)(rs:List r_)(r:Nat)(y:r_)(cs:List Nat):Prop:=xC (z7 (sj sg rows (aO fo.2 fm.2 rows)) (sS rows fo fm) (aA y) (aB rs r)) (ck [aY 45 y]) (ck (packed (rs.eraseIdx r))) cs (ck [aY 45 y]) (ck (packed (rs.eraseIdx r)))
noncomputable abbrev ZO(rs:List r_)(r:Nat)(x:r_)(cs:List Nat):List r_:=jnR [aY 45 x] (packed (rs.eraseIdx r)) cs
noncomputable def MQ(rs:List r_)(r:Nat)(x:r_)(cs:List Nat):List r_:=mh r ((ZO rs r x cs).headD ⟨#[]⟩) ((ZO rs r x cs).tail)
def ab1(K:PySem.W.Frag)(C CB CJ X:g_)(x b:g_)(i:Int)(sg:r_)(rows:List (List cC))(fo fm:cC)(rs:List r_)(H:Hp)(Q:VK)(E:XK):Prop:=jA K C H x sg rows fo fm/\vV K CB H b rs/\Sb rs/\cR rs=true/\(∀r∈rs,Of (qL sg) r) ∧
 (∀y,0<=i->rs[i.toNat]? =some y->rs.length≠1->∀jn H',aj H H'->Sz CJ H' jn (aA y) (aB rs i.toNat) 1 (packed (rs.eraseIdx i.toNat)).length (sj sg rows (aO fo.2 fm.2 rows)) (sS rows fo fm)->Q (.ref jn) H') ∧
 (inR i rs.length=false\/rs.length=1->∀H',aj H H'->E (.ref X) none H')
def LI(K:PySem.W.Frag)(C CB CJ X:g_):Sp:=λvs H Q E=>Vd λ(x b:g_) (i:Int) (sg:r_) (rows:List (List cC)) (fo fm:cC) (rs:List r_)=>vs=[.ref x,.ref b,.int i]/\ab1 K C CB CJ X x b i sg rows fo fm rs H Q E
def ab2(K:PySem.W.Frag)(CB CJ:g_)(jn:g_)(r n2:Nat)(A B:List r_)(pc:Nat->Nat->Int)(mo:Int)(kn:List Nat)(H:Hp)(Q:VK):Prop:=Sz CJ H jn A B 1 n2 pc mo/\JOk kn A B 1 n2/\r<=n2/\0<n2 ∧
 ∀b H' cs,aj H H'->H b=none->xC (z7 pc mo A B) A.length B.length cs A.length B.length->vV K CB H' b (mh r ((cols (wc A B (aV 1) (aV n2) cs cs.length) (1+n2)).headD ⟨#[]⟩) (cols (wc A B (aV 1) (aV n2) cs cs.length) (1+n2)).tail)->Q (.ref b) H'
def LK(K:PySem.W.Frag)(CB CJ:g_):Sp:=λvs H Q _=>Vd λ(jn:g_) (r n2:Nat) (A B:List r_) (pc:Nat->Nat->Int) (mo:Int) (kn:List Nat)=>vs=[.ref jn,.int (r:Int)]/\ab2 K CB CJ jn r n2 A B pc mo kn H Q
def ab5(K:PySem.W.Frag)(C CB X aae:g_)(x b:g_)(i:Int)(sg:r_)(rows:List (List cC))(fo fm:cC)(rs:List r_)(H:Hp)(Q:VK)(E:XK):Prop:=jA K C H x sg rows fo fm/\vV K CB H b rs/\Sb rs/\cR rs=true ∧
 ((∀r∈rs,Of (qL sg) r)->∀y,0<=i->rs[i.toNat]? =some y->rs.length≠1->∀b' H' cs,aj H H'->H b'=none->aF sg rows fo fm rs i.toNat y cs->vV K CB H' b' (MQ rs i.toNat y cs)->Q (.ref b') H') ∧
 ((∀r∈rs,Of (qL sg) r)->inR i rs.length=false\/rs.length=1->∀H',aj H H'->E (.ref aae) none H') ∧
 (∀a c,zj (qL sg) rs a c->∀dx H',aj H H'->H' dx=some (CN dx (Fe a c))->E (.ref X) (some dx) H')
def Qy(K:PySem.W.Frag)(C CB X aae:g_):Sp:=λvs H Q E=>Vd λ(x b:g_) (i:Int) (sg:r_) (rows:List (List cC)) (fo fm:cC) (rs:List r_)=>vs=[.ref x,.ref b,.int i]/\ab5 K C CB X aae x b i sg rows fo fm rs H Q E
end
section
theorem Eg{tc UI:Nat->Nat->Int}{kn:List Nat}{rs:List r_}(hl:mR rs=true)(ho:∀r∈rs,∀x∈r.cps.toList,x∈kn)(h:∀a∈kn,∀b∈kn,tc a b=UI a b):kN tc rs=kN UI rs:=by
 unfold kN;refine dF λk hk=>?_;have mem:∀i,i<rs.length->(ff rs k).getD i 0∈kn:=λi hi=>by
  rw[Ie hi];unfold ym;rw[bz (e_ hi)];have hk':k<rs[i].cps.toList.length:=by rw[o_,(bG.mp hl).2 _ (x_ hi)];exact hk
  rw[bz (e_ hk')];exact ho _ (x_ hi) _ (x_ hk')
 unfold vY;exact dF λr hr=>dF λi hi=>h _ (mem i (qcu hi hr)) _ (mem r hr)
theorem KZ{tc:Nat->Nat->Int}{kn:List Nat}(hs:∀a∈kn,∀b∈kn,tc a b=tc b a){r:Nat}{x:r_}{os:List r_}(hl:mR (x::os)=true)(ho:∀y∈x::os,∀c∈y.cps.toList,c∈kn):kN tc (mh r x os)=kN tc (x::os):=by
 obtain⟨_,hw⟩:=bG.mp hl;have hx:x.cps.size=ck (x::os):=hw x (D_ ..);have hos:∀o∈os,o.cps.size=ck (x::os):=λo hm=>hw o (C_ _ hm);have hlp:mR (mh r x os)=true:=by
  refine bG.mpr ⟨λz=>?_,λy hy=>?_⟩
  ·have:=sR (r:=r) (x:=x) (os:=os);rw[z]at this;cases this
  ·rw[Jd hx hos];rcases qX hy with rfl|hy
   ·exact hx
   ·exact hos y hy
 have hop:∀y∈mh r x os,∀c∈y.cps.toList,c∈kn:=λy hy=>by
  rcases qX hy with rfl|hy
  ·exact ho _ (D_ ..)
  ·exact ho y (C_ _ hy)
 obtain⟨UI,ht⟩:∃UI:Nat->Nat->Int,∀a b,UI a b=if a∈kn/\b∈kn then tc a b else 0:=⟨_,λ_ _=>rfl⟩
 have e:∀a∈kn,∀b∈kn,tc a b=UI a b:=λa ha b hb=>by rw[ht,if_pos ⟨ha,hb⟩]
 have hs':∀a b,UI a b=UI b a:=λa b=>by
  rw[ht,ht];by_cases h:a∈kn/\b∈kn
  ·rw[if_pos h,if_pos ⟨h.2,h.1⟩,hs a h.1 b h.2]
  ·rw[if_neg h,if_neg λz=>h ⟨z.2,z.1⟩]
 rw[Eg hlp hop e,Eg hl ho e];exact Pj hs' hx hos
theorem GN{x:r_}:aY 45 (aY 45 x)=aY 45 x:=by
 show(⟨((x.cps.toList.filter (· != 45)).filter (· != 45)).toArray⟩:r_)=⟨(x.cps.toList.filter (· != 45)).toArray⟩;rw[List.filter_filter];congr 2;exact List.filter_congr λa _=>by cases (a != 45)<;>rfl
theorem JP{r:Nat}{x:r_}{os:List r_}(f:r_->r_):(mh r x os).map f=mh r (f x) (os.map f):=by
 unfold mh;rw[P_,P_,qcD,List.map_drop];rfl
structure vN(kn:List Nat)(rs:List r_)(r:Nat)(y:r_)(cs:List Nat):Prop where
 at_:rs[r]? =some y
 bk:cR rs=true
 more:rs.length≠1
 of:∀q∈rs,∀x∈q.cps.toList,x∈kn
 gap:45∈kn
 way:Jw (ck [aY 45 y]) (ck (packed (rs.eraseIdx r))) 0 0 cs
section
variable{kn:List Nat}{rs:List r_}{r:Nat}{y:r_}{cs:List Nat}
theorem vN.lt(h:vN kn rs r y cs):r<rs.length:=(q_.mp h.at_).1
theorem vN.alone(h:vN kn rs r y cs):cR [aY 45 y]=true :=
 Ae (x:=y) λc hc=>wj (v_.mp (mT h.bk) y (l_ h.at_)) hc
theorem vN.rest(h:vN kn rs r y cs):mR (rs.eraseIdx r)=true/\ck (rs.eraseIdx r)=ck rs/\(rs.eraseIdx r).length+1=rs.length:=vt (bZ h.bk) h.lt h.more
theorem vN.pk(h:vN kn rs r y cs):cR (packed (rs.eraseIdx r))=true :=
 uO h.rest.1 (v_.mpr λq hq=>v_.mp (mT h.bk) q (T_ hq))
theorem vN.split(h:vN kn rs r y cs):fD λz zs=>ZO rs r y cs=z::zs/\zs.length+1=rs.length/\MQ rs r y cs=mh r z zs:=by
 have hl:(ZO rs r y cs).length=1+(packed (rs.eraseIdx r)).length:=bE;have hp:(packed (rs.eraseIdx r)).length=(rs.eraseIdx r).length:=bE;have:=h.rest.2.2
 cases hc:ZO rs r y cs with
 |nil=>rw[hc]at hl;have:0=1+(packed (rs.eraseIdx r)).length:=hl;omega
 |cons z zs =>
  rw[hc]at hl;refine⟨z,zs,Y,by have:zs.length+1=1+(packed (rs.eraseIdx r)).length:=hl;omega,?_⟩;unfold MQ;rw[hc];rfl
theorem vN.cA(h:vN kn rs r y cs){sg:r_}(hk:kn=(qL sg).cps.toList):oK kn (aA y) 1/\oK kn (aB rs r) (packed (rs.eraseIdx r)).length:=by
 subst hk;have ho:∀q∈rs,Of (qL sg) q:=h.of;refine⟨tU h.alone λq hq=>?_,tU h.pk (xK h.rest.1 λq hq=>ho q (T_ hq))⟩;rw[F_.mp hq];exact λc hc=>ho y (l_ h.at_) c (pY hc).1
theorem vN.signs(h:vN kn rs r y cs){sg:r_}(hk:kn=(qL sg).cps.toList):(MQ rs r y cs).map (aY 45)=rs.map (aY 45):=by
 obtain⟨z,zs,hc,hzl,hR⟩:=h.split;obtain⟨cA,cB⟩:=h.cA hk;obtain⟨p1,p2⟩:=HN (r1:=[aY 45 y]) cA cB (bZ h.alone) (bZ h.pk) h.way;have hc':cols (wc (aA y) (aB rs r) (aV [aY 45 y].length) (aV (packed (rs.eraseIdx r)).length) cs cs.length) ([aY 45 y].length+(packed (rs.eraseIdx r)).length)=z::zs:=hc;rw[hc']at p1 p2;have hJ':Jw (aA y).length (aB rs r).length 0 0 cs:=by rw[bE,bE];exact h.way
 obtain⟨bk,_⟩:=sJ (by omega) ((show Path (aA y).length (aB rs r).length cs _ _ from Jw.path (cs:=[]) .nil hJ').cols cA cB (by rw[hk];exact lX.mpr (.inl Y)));have hl:mR (z::zs)=true:=by rw[←hc];exact bZ bk
 obtain⟨_,hw⟩:=bG.mp hl;have sub:∀{ws:List r_},ws≠[]->(∀q∈ws,q∈z::zs)->mR ws=true:=λ{ws} h0 hq=>by
  have hww:ck ws=ck (z::zs):=by
   cases ws with
   |nil=>exact absurd Y h0
   |cons a l=>exact hw a (hq a (D_ ..))
  exact bG.mpr ⟨h0,λq h=>by rw[hww];exact hw q (hq q h)⟩
 have e1:aY 45 z=aY 45 y:=by
  obtain⟨u,hu,e⟩:=uc (rs:=[z]) (r:=0) (x:=z) (sub (by intro z;cases z) λq hq=>by rw[F_.mp hq];exact D_ ..) rfl;have p1':packed [z]=[aY 45 y]:=p1;rw[p1']at hu;cases hu;rw[←e,GN]
 have e2:zs.map (aY 45)=(rs.eraseIdx r).map (aY 45):=by
  have hpl:(packed (rs.eraseIdx r)).length=(rs.eraseIdx r).length:=bE;have hrl:=h.rest.2.2;refine qaZ (by rw[f_,f_];omega) λj h1 h2=>?_;rw[f_]at h1 h2;rw[qaJ,qaJ];have hz0:zs≠[]:=λe=>by rw[e]at h1;cases h1
  obtain⟨u,hu,e⟩:=uc (rs:=zs) (r:=j) (sub hz0 λq hq=>C_ _ hq) (e_ h1);have p2':packed zs=packed (rs.eraseIdx r):=p2;obtain⟨v,hv,e'⟩:=uc h.rest.1 (e_ h2);rw[p2']at hu;rw[hu]at hv;cases hv;rw[←e,e']
 rw[hR,JP,e1,e2,←JP,Ga h.at_]
end
end
section
def Nl:Sp:=λvs H Q _=>∃x:r_,vs=[.str x]/\x.cps.size<=1000/\∀H',aj H H'->Q (.str (aY 45 x)) H'
theorem Rw.ixe{K:PySem.W.Frag}{H:Hp}{v:V}{rs:List r_}{i:Nat}{z:Int}{r:r_}{Q:VK}(h:Rw K H v rs)(e:rs[i]? =some r)(he:z=(i:Int))(q:Q (.str r) H):rIx K v (.int z) H Q:=by
 subst he;exact h.ix e q
def GQ(K:PySem.W.Frag)(C:g_):Sp:=λvs H Q _=>Po λ(x:g_) (v:V) (sg:r_) (rows:List (List cC)) (fo fm:cC) (rs:List r_)=>vs=[.ref x,v]/\jA K C H x sg rows fo fm/\Rw K H v rs/\Iq rs/\mR rs=true/\(∀r∈rs,Of (qL sg) r) ∧
 ∀H',aj H H'->Q (.int (kN (pX sg rows fo fm) rs)) H'
theorem vN.good{kn:List Nat}{rs:List r_}{r:Nat}{y:r_}{cs:List Nat}(h:vN kn rs r y cs){sg:r_}(hk:kn=(qL sg).cps.toList):cR (MQ rs r y cs)=true/\(∀q∈MQ rs r y cs,∀c∈q.cps.toList,c∈kn)/\∀q∈MQ rs r y cs,q.cps.size=cs.length:=by
 obtain⟨z,zs,hc,hzl,hR⟩:=h.split;obtain⟨cA,cB⟩:=h.cA hk;have hJ':Jw (aA y).length (aB rs r).length 0 0 cs:=by rw[bE,bE];exact h.way
 obtain⟨bk,bo⟩:=sJ (by omega) ((show Path (aA y).length (aB rs r).length cs _ _ from Jw.path (cs:=[]) .nil hJ').cols cA cB h.gap);have hc2:cols (wc (aA y) (aB rs r) (aV 1) (aV (packed (rs.eraseIdx r)).length) cs cs.length) (1+(packed (rs.eraseIdx r)).length)=z::zs:=hc;have sz:∀q∈z::zs,q.cps.size=cs.length:=λq hq=>by
  rw[←hc2]at hq;obtain⟨j,_,rfl⟩:=G_.mp (show q∈(E_ (1+(packed (rs.eraseIdx r)).length)).map (iK (wc (aA y) (aB rs r) (aV 1) (aV (packed (rs.eraseIdx r)).length) cs cs.length)) from hq);rw[lQ];unfold wc;rw[f_,qan]
 rw[hc2]at bk bo;rw[hR];have mm:∀{q:r_},q∈mh r z zs->q∈z::zs:=λ{q} hq=>by
  rcases qX hq with rfl|hq
  ·exact D_ ..
  ·exact C_ _ hq
 exact⟨BU bk,λq hq=>bo q (mm hq),λq hq=>sz q (mm hq)⟩
theorem XY{sg:r_}{rows:List (List cC)}{fo fm:cC}(h:∀a∈sg.cps.toList,∀c∈sg.cps.toList,sj sg rows (aO fo.2 fm.2 rows) a c=sj sg rows (aO fo.2 fm.2 rows) c a):∀a∈(qL sg).cps.toList,∀b∈(qL sg).cps.toList,pX sg rows fo fm a b=pX sg rows fo fm b a:=λa ha b hb=>by
 by_cases ea:a=45
 ·by_cases eb:b=45
  ·rw[Ay ea eb,Ay eb ea]
  ·rw[zm (λz=>eb z.2) (.inl ea),zm (λz=>eb z.1) (.inr ea)]
 ·by_cases eb:b=45
  ·rw[zm (λz=>ea z.1) (.inr eb),zm (λz=>ea z.2) (.inl eb)]
  ·rw[Jj ea eb,Jj eb ea];exact h a ((lX.mp ha).resolve_left ea) b ((lX.mp hb).resolve_left eb)
end
section
noncomputable def Bt(tc:Nat->Nat->Int)(y:r_)(os:List r_):Int:=(os.map λo=>sm (λk=>tc (y.cps.toList.getD k 0) (o.cps.toList.getD k 0)) y.cps.size).sum
theorem GS{α:Type}(f:Nat->α->Int)(n:Nat):∀l:List α,sm (λk=>(l.map (f k)).sum) n=(l.map λo=>sm (λk=>f k o) n).sum
 |[]=>zC n
 |o::l=>by
  rw[qak,qbn,←GS f n l,←AF];rfl
theorem RX(tc:Nat->Nat->Int)(x:Nat):cc tc [x]=0:=rfl
theorem Pk(tc:Nat->Nat->Int){y:r_}{os:List r_}(hl:mR os=true)(hw:ck os=y.cps.size):kN tc (y::os)=kN tc os+Bt tc y os:=by
 unfold kN Bt;have e0:=GS (λk (o:r_)=>tc (y.cps.toList.getD k 0) (o.cps.toList.getD k 0)) y.cps.size os;rw[hw,show ck (y::os)=y.cps.size from rfl,←e0,←AF];refine dF λk hk=>?_;have e1:ff (y::os) k=[y.cps.toList.getD k 0]++ff os k:=rfl;have e2:vY tc (ff (y::os) k) (y::os).length=cc tc (ff (y::os) k):=by unfold cc;rw[Ef]
 have e3:vY tc (ff os k) os.length=cc tc (ff os k):=by unfold cc;rw[Ef]
 rw[e2,e3,e1,xh,RX,qaW];congr 1;unfold MN ff;show((os.map _).map _).sum=_;rw[qaf];congr 1;refine qbk λo _=>?_;show lZ (λa=>tc a (o.cps.toList.getD k 0)) [y.cps.toList.getD k 0]=_;rw[iL,uD,qb0]
theorem sum_filter{α:Type}(f:α->Int)(p:α->Bool):∀l:List α,(∀x∈l,p x=false->f x=0)->((l.filter p).map f).sum=(l.map f).sum
 |[],_=>rfl
 |x::l,h=>by
  have ih:=sum_filter f p l λy hy=>h y (C_ _ hy)
  cases e:p x with
  |true=>rw[qbe e,qak,qak,qbn,qbn,ih]
  |false=>rw[qbf (by rw[e];exact O_),qak,qbn,h x D_ e,qaW,ih]
theorem KQ{rs:List r_}{c:r_}{n:Nat}(h:c∈cols rs n):c.cps.size=rs.length:=by
 obtain⟨j,_,rfl⟩:=G_.mp (show c∈(E_ n).map (iK rs) from h);exact lQ
theorem K0(tc:Nat->Nat->Int)(h0:∀a b,a=45->b=45->tc a b=0){os:List r_}(hl:mR os=true):kN tc (packed os)=kN tc os:=by
 have hp:0<os.length:=qbK.mpr (bG.mp hl).1;unfold packed;rw[Gz tc hp λo ho=>KQ (qaC.mp ho).1,Br tc os];have e:=GR (λc:r_=>cc tc c.cps.toList) (cols os (ck os)) ⟨#[]⟩;rw[bE]at e;rw[e];refine sum_filter _ _ _ λc hc hg=>?_;have hg':c6 c=true:=by simpa using hg
 rw[Ue (KQ hc) hg'];show cc tc (aV os.length).cps.toList=0;have e2:(aV os.length).cps.toList=y_ os.length 45:=by unfold aV;simp
 rw[e2];exact CK h0 _
noncomputable def E7(pc:Nat->Nat->Int)(mo:Int)(A B:List r_)(n1 n2:Nat):Int:=(A.map λc=>I8 mo c n2).sum+(B.map λc=>I8 mo c n1).sum+jE (z7 pc mo A B) A.length B.length 0 0
theorem TQ{sg:r_}{rows:List (List cC)}{fo fm:cC}{r1 r2:List r_}{kn:List Nat}{cs:List Nat}(h1:oK kn (cols r1 (ck r1)) r1.length)(h2:oK kn (cols r2 (ck r2)) r2.length)(hk:45∈kn)(hp:0<r1.length)
  (hf:xC (z7 (sj sg rows (aO fo.2 fm.2 rows)) (sS rows fo fm) (cols r1 (ck r1)) (cols r2 (ck r2))) (ck r1) (ck r2) cs (ck r1) (ck r2)) :
  kN (pX sg rows fo fm) (jnR r1 r2 cs)=kN (pX sg rows fo fm) r1+kN (pX sg rows fo fm) r2+E7 (sj sg rows (aO fo.2 fm.2 rows)) (sS rows fo fm) (cols r1 (ck r1)) (cols r2 (ck r2)) r1.length r2.length:=by
 have l1:(cols r1 (ck r1)).length=ck r1:=bE;have l2:(cols r2 (ck r2)).length=ck r2:=bE;have hw:N4 (z7 (sj sg rows (aO fo.2 fm.2 rows)) (sS rows fo fm) (cols r1 (ck r1)) (cols r2 (ck r2))) (ck r1) (ck r2) 0 0 (cs++[]):=hf.fwk ⟨rfl,rfl⟩;rw[qaR]at hw;have h':Jw (cols r1 (ck r1)).length (cols r2 (ck r2)).length 0 0 cs:=by rw[l1,l2];exact hw.wk
 have hC:=(show Path (cols r1 (ck r1)).length (cols r2 (ck r2)).length cs _ _ from Jw.path (cs:=[]) .nil h').cols h1 h2 hk;have e:=Jw.cost h1.size h2.size (tc:=pX sg rows fo fm) (pc:=sj sg rows (aO fo.2 fm.2 rows)) (mo:=sS rows fo fm) (E:=z7 (sj sg rows (aO fo.2 fm.2 rows)) (sS rows fo fm) (cols r1 (ck r1)) (cols r2 (ck r2))) (λ_ _ a b=>Ay a b) (λ_ _ a b=>zm a b) (λ_ _ a b=>Jj a b) (λ_ _ _ _=>rfl) h';have z:∀f:Nat->Int,sm f 0=0:=λ_=>rfl;rw[z,z,qb0,qb0]at e;have e0:kN (pX sg rows fo fm) (jnR r1 r2 cs)=((wc (cols r1 (ck r1)) (cols r2 (ck r2)) (aV r1.length) (aV r2.length) cs cs.length).map λo=>cc (pX sg rows fo fm) o.cps.toList).sum:=Gz _ (by omega) hC.size;rw[JT]at e0;rw[e0,e,hw.ex,AF,AF,Br _ r1,Br _ r2];unfold E7;have g1:=GR (λc:r_=>I8 (sS rows fo fm) c r2.length) (cols r1 (ck r1)) ⟨#[]⟩;have g2:=GR (λc:r_=>I8 (sS rows fo fm) c r1.length) (cols r2 (ck r2)) ⟨#[]⟩;unfold I8 at g1 g2 ⊢;rw[←g1,←g2,l1,l2];omega
end
section
theorem R5(tc:Nat->Nat->Int)(y:r_):kN tc [y]=0:=by
 unfold kN;refine(dF λk _=>?_).trans (zC _);exact RX tc _
section
variable{kn:List Nat}{rs:List r_}{r:Nat}{y:r_}{cs:List Nat}
theorem vN.less(h:vN kn rs r y cs){sg:r_}{rows:List (List cC)}{fo fm:cC}(hk:kn=(qL sg).cps.toList)(hF:aF sg rows fo fm rs r y cs)
  (hs:∀a∈kn,∀b∈kn,pX sg rows fo fm a b=pX sg rows fo fm b a) :
  kN (pX sg rows fo fm) (MQ rs r y cs)+Bt (pX sg rows fo fm) y (rs.eraseIdx r)=kN (pX sg rows fo fm) rs+E7 (sj sg rows (aO fo.2 fm.2 rows)) (sS rows fo fm) (aA y) (aB rs r) 1 (packed (rs.eraseIdx r)).length:=by
 obtain⟨z,zs,hc,hzl,hR⟩:=h.split;obtain⟨cA,cB⟩:=h.cA hk;obtain⟨l1,l2,l3⟩:=h.rest;have hl:=bZ h.bk;obtain⟨_,hw⟩:=bG.mp hl;have hy:=hw y (l_ h.at_);have hos:∀o∈rs.eraseIdx r,o.cps.size=ck rs:=λo ho=>hw o (T_ ho);have g45:45∈kn:=h.gap;have hJ':Jw (aA y).length (aB rs r).length 0 0 cs:=by rw[bE,bE];exact h.way
 obtain⟨bk,bo⟩:=sJ (by omega) ((show Path (aA y).length (aB rs r).length cs _ _ from Jw.path (cs:=[]) .nil hJ').cols cA cB g45);have hc2:cols (wc (aA y) (aB rs r) (aV 1) (aV (packed (rs.eraseIdx r)).length) cs cs.length) (1+(packed (rs.eraseIdx r)).length)=z::zs:=hc;rw[hc2]at bk bo;have ez:kN (pX sg rows fo fm) (mh r z zs)=kN (pX sg rows fo fm) (z::zs):=KZ hs (bZ bk) bo;have hly:mR (y::rs.eraseIdx r)=true:=by
  refine bG.mpr ⟨List.cons_ne_nil _ _,λq hq=>?_⟩;rw[show ck (y::rs.eraseIdx r)=y.cps.size from rfl,hy];rcases S_.mp hq with rfl|hq
  ·exact hy
  ·exact hos q hq
 have ey:kN (pX sg rows fo fm) (mh r y (rs.eraseIdx r))=kN (pX sg rows fo fm) (y::rs.eraseIdx r):=KZ hs hly λq hq=>by
  rcases S_.mp hq with rfl|hq
  ·exact h.of _ (l_ h.at_)
  ·exact h.of q (T_ hq)
 rw[Ga h.at_,Pk _ l1 (by rw[l2,hy])]at ey;have ej:=TQ (r1:=[aY 45 y]) (sg:=sg) (rows:=rows) (fo:=fo) (fm:=fm) cA cB g45 (Nat.succ_pos _) hF;rw[R5,K0 _ (λ_ _ a b=>Ay a b) l1]at ej;have ec:kN (pX sg rows fo fm) (ZO rs r y cs)=kN (pX sg rows fo fm) (z::zs):=by rw[hc]
 rw[hR,ez,ey];have ej':kN (pX sg rows fo fm) (z::zs)=0+kN (pX sg rows fo fm) (rs.eraseIdx r)+E7 (sj sg rows (aO fo.2 fm.2 rows)) (sS rows fo fm) (aA y) (aB rs r) 1 (packed (rs.eraseIdx r)).length:=ec.symm.trans ej;rw[ej'];omega
end
noncomputable abbrev Ax:=r_×List (List cC)×cC×cC
noncomputable def Bs(T:Ax)(R:List r_):Int:=kN (pX T.1 T.2.1 T.2.2.1 T.2.2.2) R
def An(T:Ax)(R:List r_)(r:Nat)(R':List r_):Prop:=fD λy cs=>R[r]? =some y/\aF T.1 T.2.1 T.2.2.1 T.2.2.2 R r y cs/\R'=MQ R r y cs
theorem An.uniq{T:Ax}{R R1 R2:List r_}{r:Nat}(h:An T R r R1)(h':An T R r R2):R1=R2:=by
 obtain⟨y,cs,e,f,rfl⟩:=h;obtain⟨z,ds,e',f',rfl⟩:=h';rw[e]at e';cases e';rw[f.uniq f']
def NoB(T:Ax)(R:List r_)(r:Nat):Prop:=∀q R',q<r->An T R q R'->Bs T R<=Bs T R'
def IV(T:Ax)(R:List r_)(r:Nat)(R':List r_):Prop:=1<R.length/\An T R r R'/\Bs T R'<Bs T R/\NoB T R r
def Sf(T:Ax)(R:List r_):Prop:=1<R.length->NoB T R R.length
theorem IV.uniq{T:Ax}{R R1 R2:List r_}{r q:Nat}(h:IV T R r R1)(h':IV T R q R2):r=q/\R1=R2:=by
 obtain⟨_,a,b,c⟩:=h;obtain⟨_,a',b',c'⟩:=h';have e:r=q:=by
  rcases Nat.lt_trichotomy r q with z|z|z
  ·exact absurd (c' r R1 z a) (by omega)
  ·exact z
  ·exact absurd (c q R2 z a') (by omega)
 subst e;exact⟨Y,a.uniq a'⟩
theorem IV.no{T:Ax}{R R1:List r_}{r:Nat}(h:IV T R r R1)(hn:Sf T R):False:=by
 obtain⟨l,⟨y,cs,e,f,e'⟩,b,_⟩:=h;have:=hn l r R1 (q_.mp e).1 ⟨y,cs,e,f,e'⟩;omega
inductive vZ(T:Ax):List r_->List (Nat×Int)->List r_->Prop
 |nil {R:List r_}:vZ T R [] R
 |cons {R R1 R2:List r_} {r:Nat} {ss:List (Nat×Int)} (h:IV T R r R1) (m:vZ T R1 ss R2):vZ T R ((r,Bs T R1)::ss) R2
theorem vZ.snoc{T:Ax}{R R1 R2:List r_}{r:Nat}{ss:List (Nat×Int)}(m:vZ T R ss R1)(h:IV T R1 r R2):vZ T R (ss++[(r,Bs T R2)]) R2:=by
 induction m with
 |nil=>exact .cons h .nil
 |cons a _ ih=>exact .cons a (ih h)
theorem vZ.same{T:Ax}{n:Nat}:∀{R R1 R2:List r_} {ss ts:List (Nat×Int)},vZ T R ss R1->vZ T R ts R2->ss.length<=n->ts.length<=n->(ss.length<n->Sf T R1)->(ts.length<n->Sf T R2)->ss=ts/\R1=R2:=by
 induction n with
 |zero =>
  intro R R1 R2 ss ts m m' h1 h2 _ _
  cases m with
  |nil =>
   cases m' with
   |nil=>exact⟨Y,Y⟩
   |cons=>exact absurd h2 (by simp)
  |cons=>exact absurd h1 (by simp)
 |succ n ih =>
  intro R R1 R2 ss ts m m' h1 h2 n1 n2
  cases m with
  |nil =>
   cases m' with
   |nil=>exact⟨Y,Y⟩
   |cons a _=>exact(a.no (n1 (Nat.succ_pos _))).elim
  |cons a b =>
   cases m' with
   |nil=>exact(a.no (n2 (Nat.succ_pos _))).elim
   |cons a' b' =>
    obtain⟨rfl,rfl⟩:=a.uniq a';obtain⟨rfl,rfl⟩:=ih b b' (Nat.le_of_succ_le_succ h1) (Nat.le_of_succ_le_succ h2) (λz=>n1 (Nat.succ_lt_succ z)) (λz=>n2 (Nat.succ_lt_succ z));exact⟨Y,Y⟩
end
section
theorem N9{R:List r_}(h:cR R=true):(ck R:Int)<=(R.map λr=>((aY 45 r).cps.size:Int)).sum:=by
 have hl:=bZ h;obtain⟨_,hw⟩:=bG.mp hl
 have e1:∀r∈R,((aY 45 r).cps.size:Int)=sm (λk=>if r.cps.toList.getD k 0=45 then 0 else 1) (ck R):=λr hr=>by
  have a:((aY 45 r).cps.size:Int)=lZ (λ_=>1) (ya r.cps.toList):=by
   rw[uY,Int.mul_one];rfl
  rw[a,←uC,←Np (λa=>if a=45 then 0 else 1) r.cps.toList,o_,hw r hr]
 have e2:(R.map λr=>((aY 45 r).cps.size:Int)).sum=sm (λk=>(R.map λr=>if r.cps.toList.getD k 0=45 then(0:Int)else 1).sum) (ck R):=by
  rw[GS (λk (r:r_)=>if r.cps.toList.getD k 0=45 then(0:Int)else 1)]
  congr 1;exact qbk e1
 rw[e2]
 have pos:∀(k:Nat) (L:List r_),0<=(L.map λr=>if r.cps.toList.getD k 0=45 then(0:Int)else 1).sum:=λk L=>by
  induction L with
  |nil=>exact Int.le_refl _
  |cons r L ih=>rw[qak,qbn];split<;>omega
 have one:∀(k:Nat) (L:List r_),(∃r∈L,r.cps.toList.getD k 0≠45)->1<=(L.map λr=>if r.cps.toList.getD k 0=45 then(0:Int)else 1).sum:=λk L=>by
  induction L with
  |nil=>rintro⟨r,hr,_⟩;cases hr
  |cons r L ih =>
   rintro⟨q,hq,hn⟩;rw[qak,qbn];have:=pos k L;rcases S_.mp hq with rfl|hq
   ·rw[if_neg hn];omega
   ·have:=ih ⟨q,hq,hn⟩;split<;>omega
 have col:∀k,k<ck R->∃r∈R,r.cps.toList.getD k 0≠45:=λk hk=>by
  unfold cR at h;rw[R_,R_]at h;have h3:=h.2.2;unfold Aa cols at h3;have:=v_.mp h3 _ (G_.mpr ⟨k,qag.mpr hk,rfl⟩);have hg:c6 (iK R k)=false:=by simpa using this
  by_cases z:∃r∈R,r.cps.toList.getD k 0≠45
  ·exact z
  ·have:c6 (iK R k)=true:=Ky.mpr λr hr=>by
    by_cases q:r.cps.toList.getD k 0=45
    ·exact q
    ·exact absurd ⟨r,hr,q⟩ z
   rw[hg]at this;cases this
 have le:∀(n:Nat) (f:Nat->Int),(∀k,k<n->1<=f k)->(n:Int)<=sm f n:=λn f=>by
  induction n with
  |zero=>intro _;exact Int.le_refl _
  |succ n ih =>
   intro hf;have a:=ih λk hk=>hf k (by omega);have b:=hf n (by omega);show((n+1:Nat):Int)<=sm f n+f n;omega
 exact le _ _ λk hk=>one k R (col k hk)
structure BY(T:Ax)(R:List r_):Prop where
 bk:cR R=true
 kn:∀r∈R,Of (qL T.1) r
 len:R.length<=6
 few:(R.map λr=>((aY 45 r).cps.size:Int)).sum<=40
section
variable{T:Ax}{R R':List r_}{r:Nat}
theorem BY.ck(h:BY T R):GP.ck R<=40:=by
 have:=N9 h.bk;have:=h.few;omega
theorem BY.sm(h:BY T R):Sb R:=by
 obtain⟨_,hw⟩:=bG.mp (bZ h.bk);exact⟨m_ h.len (by decide),λr hr=>by rw[hw r hr];exact m_ h.ck (by decide)⟩
theorem An.ok(h:BY T R)(h1:1<R.length){y:r_}{cs:List Nat}(hy:R[r]? =some y)(hF:aF T.1 T.2.1 T.2.2.1 T.2.2.2 R r y cs):vN (qL T.1).cps.toList R r y cs:=by
 have hJ:Jw (GP.ck [aY 45 y]) (GP.ck (packed (R.eraseIdx r))) 0 0 cs:=by
  have:=hF.path.wk (ds:=[]) ⟨rfl,rfl⟩;rw[qaR]at this;exact this
 exact⟨hy,h.bk,by omega,h.kn,lX.mpr (.inl Y),hJ⟩
theorem An.gd(h:BY T R)(h1:1<R.length)(a:An T R r R'):BY T R'/\R'.map (aY 45)=R.map (aY 45):=by
 obtain⟨y,cs,hy,hF,rfl⟩:=a;have ok:=An.ok h h1 hy hF;obtain⟨gb,go,gz⟩:=ok.good rfl;have sg:=ok.signs rfl;have hl:(MQ R r y cs).length=R.length:=by
  have:=congrArg List.length sg
  rwa [f_,f_]at this
 refine⟨⟨gb,go,by rw[hl];exact h.len,?_⟩,sg⟩;have e:∀S:List r_,(S.map λr=>((aY 45 r).cps.size:Int))=(S.map (aY 45)).map λc=>(c.cps.size:Int):=λS=>by rw[qaf];rfl
 rw[e,sg,←e];exact h.few
theorem An.len(h:BY T R)(h1:1<R.length)(a:An T R r R'):R'.length=R.length:=by
 have:=congrArg List.length (An.gd h h1 a).2
 rwa [f_,f_]at this
end
def Sym(T:Ax):Prop:=∀a∈(qL T.1).cps.toList,∀b∈(qL T.1).cps.toList,pX T.1 T.2.1 T.2.2.1 T.2.2.2 a b=pX T.1 T.2.1 T.2.2.1 T.2.2.2 b a
def M7(CJ:g_):Sp:=λvs H Q _=>Po λ(jn:g_) (A B:List r_) (n1 n2:Nat) (pc:Nat->Nat->Int) (mo:Int)=>vs=[.ref jn]/\Sz CJ H jn A B n1 n2 pc mo/\A.length<=400/\B.length<=400/\∀H',aj H H'->Q (.int (E7 pc mo A B n1 n2)) H'
def Nn(K:PySem.W.Frag)(C CB:g_):Sp:=λvs H Q _=>PR λ(x b:g_) (r:Nat) (T:Ax) (R:List r_) (y:r_)=>vs=[.ref x,.ref b,.int r]/\jA K C H x T.1 T.2.1 T.2.2.1 T.2.2.2/\vV K CB H b R/\BY T R/\R[r]? =some y ∧
 ∀H',aj H H'->Q (.int (Bt (pX T.1 T.2.1 T.2.2.1 T.2.2.2) y (R.eraseIdx r))) H'
def Qq(K:PySem.W.Frag)(C CB:g_):Sp:=λvs H Q _=>yj λ(x b:g_) (T:Ax) (R:List r_)=>vs=[.ref x,.ref b]/\jA K C H x T.1 T.2.1 T.2.2.1 T.2.2.2/\vV K CB H b R/\BY T R/\1<R.length/\Sym T ∧
 (∀(r:Nat) (R':List r_) (q bb:g_) (H':Hp),aj H H'->IV T R r R'->H' q=some (.tup [.int r,.ref bb,.int (Bs T R-Bs T R')])->vV K CB H' bb R'->Q (.ref q) H')/\(Sf T R->∀H',aj H H'->Q .lV H')
def U8(T:Ax)(CS CP CM:g_)(R:List r_)(m:Int)(H:Hp)(E:XK):Prop:=(∀a c,zj (qL T.1) R a c->∀dx H',aj H H'->H' dx=some (CN dx (Fe a c))->E (.ref CS) (some dx) H') ∧
 ((∀r∈R,Of (qL T.1) r)->¬gH T.2.1->∀H',aj H H'->E (.ref CP) none H')/\((∀r∈R,Of (qL T.1) r)->gH T.2.1->m<0->∀H',aj H H'->E (.ref CM) none H')
def Qv(K:PySem.W.Frag)(C CB CS CP CM:g_):Sp:=λvs H Q E=>GF λ(x b:g_) (m:Int) (T:Ax) (R:List r_)=>vs=[.ref x,.ref b,.int m]/\jA K C H x T.1 T.2.1 T.2.2.1 T.2.2.2/\vV K CB H b R/\Iq R ∧
 ((∀r∈R,Of (qL T.1) r)->gH T.2.1->0<=m->∀H',aj H H'->Q .lV H')/\U8 T CS CP CM R m H E
def xm(T:Ax)(H:Hp)(v:V)(s:Nat×Int):Prop:=fD λa c=>v= .ref a/\H a=some (.tup [.int s.1,.ref c])/\H c=some (.tup [.int (jI (s.2,aO T.2.2.1.2 T.2.2.2.2 T.2.1)).1,.int (jI (s.2,aO T.2.2.1.2 T.2.2.2.2 T.2.1)).2])
theorem xm.same{T:Ax}{H H':Hp}{v:V}{s:Nat×Int}(h:xm T H v s)(e:aj H H'):xm T H' v s:=by
 obtain⟨a,c,h1,h2,h3⟩:=h;exact⟨a,c,h1,e _ _ h2,e _ _ h3⟩
def zv(K:PySem.W.Frag)(C CB CS CP CM:g_):Sp:=λvs H Q E=>GF λ(x b:g_) (m:Int) (T:Ax) (R:List r_)=>vs=[.ref x,.ref b,.int m]/\jA K C H x T.1 T.2.1 T.2.2.1 T.2.2.2/\vV K CB H b R/\cR R=true/\Iq R/\m<=1000 ∧
 (BY T R->gH T.2.1->0<=m->Sym T/\∀(q bb l:g_) (R':List r_) (ss:List (Nat×Int)) (vs:List V) (H':Hp),aj H H'->vZ T R ss R'->(ss.length:Int)<=m->((ss.length:Int)<m->Sf T R')->BY T R' →
  H' q=some (.tup [.ref bb,.ref l])->vV K CB H' bb R'->H l=none->H' l=some (.lst vs)->Paired (xm T (Wo l H')) vs ss->Q (.ref q) H')/\((∀r∈R,Of (qL T.1) r)->BY T R)/\U8 T CS CP CM R m H E
end
section
theorem YM{sg:r_}{rs:List r_}{i:Nat}{y:r_}(hb:cR rs=true)(hS:Sb rs)(hO:∀r∈rs,Of (qL sg) r)(hy:rs[i]? =some y)(h1:rs.length≠1):
  JOk (qL sg).cps.toList (aA y) (aB rs i) 1 (packed (rs.eraseIdx i)).length/\i<=(packed (rs.eraseIdx i)).length/\0<(packed (rs.eraseIdx i)).length/\(aA y).length<=400/\(aB rs i).length<=400:=by
 have hl:=bZ hb;have hil:i<rs.length:=(q_.mp hy).1;have hy':=l_ hy;obtain⟨l1,l2,l3⟩:=vt hl hil h1;have hal:=Ae (x:=y) λc hc=>wj (v_.mp (mT hb) y hy') hc;have Mw:=uO l1 (v_.mpr λr hr=>v_.mp (mT hb) r (T_ hr));have hw:=hS.ck hl;have hz:=hS.1;have hpl:(packed (rs.eraseIdx i)).length=(rs.eraseIdx i).length:=bE;have sm2:=AN l1 (by omega) (by omega);have w1:(aA y).length<=50:=by rw[bE];exact m_ tE (hS.2 y hy')
 have w2:(aB rs i).length<=50:=by rw[bE];exact sm2.ck (bZ Mw)
 refine⟨⟨tU hal λr hr=>?_,tU Mw (xK l1 λr hr=>hO r (T_ hr)),w1,w2,by decide,by omega,by decide,lX.mpr (.inl Y)⟩,by omega,by omega,by omega,by omega⟩;rw[F_.mp hr];exact λc hc=>hO y hy' c (pY hc).1
end
end GP
namespace L2
open PySem PySem.Spec PyProof.Rows
theorem YQ{A:qam}{k:Nat}(hr:pW k A):A.units+2<cLine:=s_ (Nat.add_le_add_left (by decide:2<=64) _) hr.units
section
variable{X:Cx}
def S2:V->List V->Hp->VK->Prop:=λx vs H Q=>rG λ(l:g_) (bs:List Bool) (j:Nat)=>x= .ref l/\vs=[.bl true]/\H l=some (.lst (bs.map V.bl))/\bs[j]? =some true/\(∀m,m<j->bs[m]? ≠some true)/\Q (.int j) H
theorem OH:MtM X "list.index" S2:=by
 intro pins s σ H x vs v us Q I rx rv h;obtain⟨l,bs,j,rfl,rfl,hH,hj,hno,q⟩:=h;cases rx;obtain⟨u,rfl,ru⟩:=rv.one;cases (show u=Value.bool true from ru);obtain⟨z,its,n,r,hl,e⟩:=I.OR hH;have hs:z_=16777216:=qcE;have hjl:=(q_.mp hj).1;rw[f_]at hl z;have at_:∀(i:Nat) (hi:i<its.toArray.size),its.toArray[i]= .bool (bs.getD i false):=λi hi=>by
  have hi':i<bs.length:=by rw[u_]at hi;omega
  obtain⟨u,hu,ru⟩:=r.get (show(bs.map V.bl)[i]? =some (.bl (bs.getD i false)) by rw[n_,e_ hi',L_,e_ hi'];rfl);cases (show u=Value.bool _ from ru);rw[e_ (by rw[u_]at hi;exact hi)]at hu;simpa using hu
 have hD:bs.getD j false=true:=by rw[L_,hj];rfl
 refine call_meets F.slot_list_index ⟨_,e,Y⟩ F.entry_list_index (F.args_list_index_2 _ _)
  (SeqAt.list_indexAt l its.toArray n none #[] (.bool true) (λy=>match y with| .bool a=>a==true|_=>false) j (by rw[u_];omega) (by omega) ?_ ?_) ⟨e,λy hy=>?_,⟨.int j,H,I.tok _,⟨_,rfl⟩,q⟩⟩
 ·rw[at_ j (by rw[u_];omega),hD];rfl
 ·intro m hm hlt;rw[at_ m hm];refine beq_eq_false_iff_ne.mpr λz=>hno m hlt ?_;have hm':m<bs.length:=by rw[u_]at hm;omega
  rw[L_,e_ hm']at z;rw[e_ hm'];exact congrArg some z
 ·obtain⟨i,hi,rfl⟩:=Array.getElem_of_mem hy;rw[at_ i hi];exact SeqAt.EqAt.bool_bool _ _
def SmP(H:Hp)(x y:V):Prop:=Po λ(a b c d:g_) (r i j:Int)=>x= .ref a/\y= .ref b/\H a=some (.tup [.int r,.ref c])/\H b=some (.tup [.int r,.ref d])/\H c=some (.tup [.int i,.int j])/\H d=some (.tup [.int i,.int j])
theorem NP{A:qam}{pins:List (g_×qa0)}{σ:St}{H:Hp}{s:p_}(I:Inv X pins σ H s)(hu:A.units<cLine){a b:g_}{xs ys:List V}(ha:H a=some (.tup xs))(hb:H b=some (.tup ys))(hl:xs.length=ys.length)
  (he:∀(i:Nat) (x y:V) (u v:i_),xs[i]? =some x->ys[i]? =some y->RelV x u->RelV y v->SeqAt.EqAt A.in1 s u v true):SeqAt.EqAt A s (.ref a) (.ref b) true:=by
 by_cases e:a=b
 ·subst e;exact SeqAt.EqAt.same _
 obtain⟨us,r1,t1,_⟩:=I.tuple (eK.of (K:=X.K) ha);obtain⟨vs,r2,t2,_⟩:=I.tuple (eK.of (K:=X.K) hb);have z:=SeqAt.RcAt.tuples (A:=A) (s:=s) (e:=λ_=>true) t1 t2 hu λj h1 h2=>by
  have vA:j<us.length:=by simpa using h1
  have h2':j<vs.length:=by simpa using h2
  obtain⟨u,e1,ru⟩:=r1.get (e_ (show j<xs.length by rw[r1.length];exact vA));obtain⟨v,e2,rv⟩:=r2.get (e_ (show j<ys.length by rw[r2.length];exact h2'));have g1:us.toArray[j]=u:=by rw[e_ vA]at e1;simpa using e1
  have g2:vs.toArray[j]=v:=by rw[e_ h2']at e2;simpa using e2
  rw[g1,g2];exact he j _ _ u v (e_ (show j<xs.length by rw[r1.length];exact vA)) (e_ (show j<ys.length by rw[r2.length];exact h2')) ru rv
 rw[show((E_ (min us.toArray.size vs.toArray.size)).all (λ_=>true)&&us.toArray.size==vs.toArray.size)=true by
  rw[u_,u_,←r1.length,←r2.length,hl];simp]at z
 exact SeqAt.EqAt.of_refs e z
theorem S9{X:Cx}(hu:X.A.units+2<cLine):uz X (compareOp .NotEq) (λx y H Q=>yj λp q xs ys=>x= .ref p/\y= .ref q/\bY X.K H p xs/\bY X.K H q ys/\Paired (SmP H) xs ys/\Q (.bl false) H):=by
 intro pins s σ H x y v u Q I rx ry h;obtain⟨p,q,xs,ys,rfl,rfl,hp,hq,hP,k⟩:=h;cases rx;cases ry;obtain⟨us,r1,t1,_⟩:=I.list hp;obtain⟨vs,r2,t2,_⟩:=I.list hq;have hxy:xs.length=ys.length:=Paired.length hP;have hsz:us.toArray.size=vs.toArray.size:=by rw[u_,u_,←r1.length,←r2.length,hxy]
 have ii:∀(A:qam) (i:Int) (t t':Tok),SeqAt.EqAt A s (.int i t) (.int i t') true:=λA i t t'=>by
  have z:=SeqAt.EqAt.int_int (A:=A) (s:=s) i t i t'
  rwa [beq_self_eq_true]at z
 refine SeqAt.RcNeAt.lists (A:=X.A) (s:=s) (e:=λ_=>true) t1.isList t2.isList hsz (by omega) (λj h1 h2=>?_) X.prog X.w X.xe _ ⟨.bl false,H,I,?_,k⟩
 ·have vA:j<us.length:=by simpa using h1
  have h2':j<vs.length:=by simpa using h2
  have h3:j<xs.length:=by rw[r1.length];exact vA
  obtain⟨z,e3,a,b,c,d,r,i1,j1,hx,hy,ha,hb,hc,hd⟩:=GP.Paired.at hP (e_ h3);obtain⟨u,e1,ru⟩:=r1.get (e_ h3);obtain⟨v,e2,rv⟩:=r2.get e3;have g1:us.toArray[j]=u:=by rw[e_ vA]at e1;simpa using e1
  have g2:vs.toArray[j]=v:=by rw[e_ h2']at e2;simpa using e2
  rw[g1,g2];rw[hx]at ru;rw[hy]at rv;cases (show u=Value.ref a from ru);cases (show v=Value.ref b from rv);refine NP I (by show X.A.units+1<cLine;omega) ha hb Y λi x y u v ex ey ru rv=>?_
  match i,ex,ey with
  | 0,ex,ey =>
   cases ex;cases ey;obtain⟨t,rfl⟩:=ru;obtain⟨t',rfl⟩:=rv;exact ii _ _ _ _
  | 1,ex,ey =>
   cases ex;cases ey;cases (show u=Value.ref c from ru);cases (show v=Value.ref d from rv);refine NP I (by show X.A.units+1+1<cLine;omega) hc hd Y λi x y u v ex ey ru rv=>?_
   match i,ex,ey with
   | 0,ex,ey =>
    cases ex;cases ey;obtain⟨t,rfl⟩:=ru;obtain⟨t',rfl⟩:=rv;exact ii _ _ _ _
   | 1,ex,ey =>
    cases ex;cases ey;obtain⟨t,rfl⟩:=ru;obtain⟨t',rfl⟩:=rv;exact ii _ _ _ _
   |i+2,ex,ey=>cases ex
  |i+2,ex,ey=>cases ex
 ·show RelV (.bl false) (.bool (!(E_ us.toArray.size).all λ_=>true));rw[show((E_ us.toArray.size).all λ_=>true)=true by simp];rfl
end
end L2
namespace GP
open PySem L2 pR
section
def Zt(rows:List (List cC)):Prop:=∃rows0,rows=Aw rows0/\∀r∈rows0,∀f∈r,0<f.2
def Zp(sg:r_)(rows:List (List cC))(u:Int):Prop:=∀a∈sg.cps.toList,∀c∈sg.cps.toList,sj sg rows u a c=sj sg rows u c a
theorem Sa{rows:List (List cC)}{i j:Nat}{f:cC}(h:Av rows i j f):Av (Aw rows) i j (jI f):=by
 obtain⟨r,h1,h2⟩:=h;exact⟨r.map jI,by unfold Aw;rw[n_,h1];rfl,by rw[n_,h2];rfl⟩
theorem R9{rows:List (List cC)}{i j:Nat}{f g:cC}(h:Av rows i j f)(h':Av rows i j g):f=g:=by
 obtain⟨r,h1,h2⟩:=h;obtain⟨r',vA,h2'⟩:=h';rw[h1]at vA;cases vA;rw[h2]at h2';exact V_ h2'
theorem QU{sg:r_}{rows:List (List cC)}{u:Int}{a b i j:Nat}{f:cC}(hs:GH sg)(sq:Sy sg.cps.size rows)(hi:sg.cps[i]? =some a)(hj:sg.cps[j]? =some b)(h:Av rows i j f):sj sg rows u a b=f.1*(u / f.2):=by
 obtain⟨i',j',f',e1,e2,e3,e4⟩:=wD (u:=u) sq (l_ (nZ hi)) (l_ (nZ hj));have ei:i=i':=by
  by_cases z:i=i'
  ·exact z
  ·exact absurd Y (mw hs.2.2.2 hi e1 z)
 have ej:j=j':=by
  by_cases z:j=j'
  ·exact z
  ·exact absurd Y (mw hs.2.2.2 hj e2 z)
 subst ei ej;rw[e4,R9 h e3]
theorem SR{K:PySem.W.Frag}{C:g_}{H:Hp}{x:g_}{sg:r_}{rows:List (List cC)}{fo fm:cC}(hP:jA K C H x sg rows fo fm)(hL:Zt rows):Zp sg rows (aO fo.2 fm.2 rows)↔gH rows:=by
 obtain⟨rows0,e0,pos⟩:=hL;have hs:=hP.sig;have sq:=hP.UL;have okp:∀r∈rows,∀f∈r,0<f.2:=λr hr f hf=>by have:=(hP.ok r hr f hf).1.1;omega
 have dv:=(P5 (o:=fo.2) (m:=fm.2) (rows:=rows) (by have:=hP.Sk.1.1;omega) (by have:=hP.Sl.1.1;omega) okp).2.2;have u0:=hP.pos;constructor
 ·intro h;rw[e0,R3 pos];intro i j f g hf hg;have hf':=Sa hf;have hg':=Sa hg;rw[←e0]at hf' hg';obtain⟨rf,f1,f2⟩:=id hf';obtain⟨rg,g1,g2⟩:=id hg';have li:i<sg.cps.size:=by rw[←sq.1];exact(q_.mp f1).1
  have lj:j<sg.cps.size:=by rw[←sq.1];exact(q_.mp g1).1
  obtain⟨a,ha⟩:=RQ li;obtain⟨c,hc⟩:=RQ lj;have e:=h a (l_ (nZ ha)) c (l_ (nZ hc));rw[QU hs sq ha hc hf',QU hs sq hc ha hg']at e;have cf:=CV (f:=f) (dv rf (l_ f1) _ (l_ f2));have cg:=CV (f:=g) (dv rg (l_ g1) _ (l_ g2));rw[←e]at cg;generalize (jI f).1*(aO fo.2 fm.2 rows / (jI f).2)=v at cf cg;generalize aO fo.2 fm.2 rows=uu at cf cg u0;have key:f.1*g.2*uu=g.1*f.2*uu:=by
   rw[qbX f.1,←cf,qbX g.1,←cg];exact qbX _ _ _
  exact qa5 (by omega) key
 ·intro h a ha c hc;obtain⟨i,j,f,e1,e2,e3,e4⟩:=wD (u:=aO fo.2 fm.2 rows) sq ha hc;obtain⟨i2,j2,g,d1,d2,d3,d4⟩:=wD (u:=aO fo.2 fm.2 rows) sq hc ha;have d5:=QU (u:=aO fo.2 fm.2 rows) hs sq e1 e2 e3;have e5:i2=j:=by
   by_cases z:i2=j
   ·exact z
   ·exact absurd Y (mw hs.2.2.2 d1 e2 z)
  have e6:j2=i:=by
   by_cases z:j2=i
   ·exact z
   ·exact absurd Y (mw hs.2.2.2 d2 e1 z)
  subst e5 e6;rw[e4,d4,h _ _ f g e3 d3]
def F2(K:PySem.W.Frag)(C:g_):Sp:=λvs H Q _=>PR λ(s t:g_) (ns:List Int) (k:Int) (sg:r_) (b:Bool)=>vs=[.ref s,.ref t,.str sg,.bl b]/\Au K H s t ns k/\k<=80000/\GH sg/\sg.cps.size<=12 ∧
 ∀x H' k' rows fo fm,Zt rows->jA K C (Wo t H') x sg rows fo fm->H x=none->aj (Wo t H) (Wo t H')->H' t=some (.lst [.int k'])->k<=k'->k'<=k+200->Q (.ref x) H'
def M5(K:PySem.W.Frag)(C:g_):Sp:=λvs H Q _=>GF λ(x:g_) (sg:r_) (rows:List (List cC)) (fo fm:cC)=>vs=[.ref x]/\jA K C H x sg rows fo fm/\sg.cps.size<=100/\∀b H',aj H H'->(b=true↔Zp sg rows (aO fo.2 fm.2 rows))->Q (.bl b) H'
theorem YN{p:Prop}[Decidable p]{A B:Prop}(h:¬p)(x:B):if(decide p)=true then A else B:=gw (λz=>absurd z h) λ_=>x
theorem vZ.gd{T:Ax}{R R':List r_}{ss:List (Nat×Int)}(h:vZ T R ss R')(hG:BY T R):BY T R'/\R'.map (aY 45)=R.map (aY 45):=by
 induction h with
 |nil=>exact⟨hG,Y⟩
 |cons a _ ih =>
  obtain⟨g,e⟩:=An.gd hG a.1 a.2.1;obtain⟨g',e'⟩:=ih g;exact⟨g',e'.trans e⟩
theorem Qh{T:Ax}{H:Hp}:∀{ws us:List V} {ss:List (Nat×Int)},Paired (xm T H) ws ss->Paired (xm T H) us ss->Paired (SmP H) ws us
 |_,_,_,.nil,.nil=>.nil
 |_,_,_,.cons ⟨a,c,h1,h2,h3⟩ r,.cons ⟨b,d,g1,g2,g3⟩ q=>.cons ⟨a,b,c,d,_,_,_,h1,g1,h2,g2,h3,g3⟩ (Qh r q)
def Qm(K:PySem.W.Frag)(C:g_):Sp:=λvs H Q _=>GF λ(x l:g_) (m:Int) (T:Ax) (R:List r_)=>vs=[.ref x,.ref l,.int m]/\jA K C H x T.1 T.2.1 T.2.2.1 T.2.2.2/\H l=some (.lst (R.map V.str))/\cR R=true/\Iq R/\m<=1000/\((∀r∈R,Of (qL T.1) r)->BY T R)/\(gH T.2.1->Sym T) ∧
 (((∀r∈R,Of (qL T.1) r)/\¬gH T.2.1/\∀q H',aj H H'->H' q=some (.tup [.str "prices",.int 0,.int 0])->Q (.ref q) H') ∨
  ((∀r∈R,Of (qL T.1) r)/\gH T.2.1/\m<0/\∀q H',aj H H'->H' q=some (.tup [.str "most",.int 0,.int 0])->Q (.ref q) H') ∨
  fD λi j:Nat=>zj (qL T.1) R i j/\∀q H',aj H H'->H' q=some (.tup [.str "sign",.int i,.int j])->Q (.ref q) H')
def JA(K:PySem.W.Frag)(C:g_):Sp:=λvs H Q _=>yj λ(x l:g_) (T:Ax) (R:List r_)=>vs=[.ref x,.ref l]/\jA K C H x T.1 T.2.1 T.2.2.1 T.2.2.2/\H l=some (.lst (R.map V.str))/\BY T R ∧
 (∀(r:Nat) (R':List r_) (q l':g_) (H':Hp),aj H H'->IV T R r R'->H' q=some (.tup [.int r,.ref l'])->H' l'=some (.lst (R'.map V.str))->Q (.ref q) H')/\(Sf T R->∀q H',aj H H'->H' q=some (.tup [.int (-1),.ref l])->Q (.ref q) H')
def M4(K:PySem.W.Frag)(C:g_):Sp:=λvs H Q _=>ZP λ(x l ls:g_) (m:Int) (T:Ax) (R R':List r_) (ss:List (Nat×Int)) (ws:List V)=>vs=[.ref x,.ref l,.ref ls,.int m]/\jA K C H x T.1 T.2.1 T.2.2.1 T.2.2.2/\H l=some (.lst (R.map V.str))/\BY T R/\H ls=some (.lst ws)/\Paired (xm T H) ws ss ∧
 vZ T R ss R'/\(ss.length:Int)<=m/\((ss.length:Int)<m->Sf T R')/\∀l' H',aj H H'->H' l'=some (.lst (R'.map V.str))->Q (.ref l') H'
def Ni(K:PySem.W.Frag)(C:g_):Sp:=λvs H Q _=>GF λ(x l:g_) (m:Int) (T:Ax) (R:List r_)=>vs=[.ref x,.ref l,.int m]/\jA K C H x T.1 T.2.1 T.2.2.1 T.2.2.2/\H l=some (.lst (R.map V.str))/\BY T R/\gH T.2.1/\Sym T/\0<=m/\m<=100/\∀H',aj H H'->Q (.bl true) H'
end
section
theorem CY(a:r_)(b c:Int):i7 [V.str a,V.int b,V.int c] [V.str a,V.int b,V.int c]=true:=by simp[i7,E_,qcq,Lm]
theorem RC{w:Nat}:∀{R:List r_},(∀r∈R,r.cps.size=w)->(R.map λr=>((aY 45 r).cps.size:Int)).sum<=((R.length*w:Nat):Int)
 |[],_=>by simp
 |r::R,h=>by
  have a:=RC λq hq=>h q (C_ r hq);have b:(aY 45 r).cps.size<=w:=by rw[←h r D_];exact tE
  rw[qak,qbn,qac,Nat.add_mul,Nat.one_mul];omega
end
end GP
set_option Elab.async false
set_option linter.all false
set_option maxRecDepth 100000
set_option maxHeartbeats 4000000
seal PySem.wpAny
namespace G51
open PySem L2 pR GP
noncomputable def top(i:Nat):qaq:=PySem.Challenge.pw_gapweave_k51_mended.main.body.getD i (.Pass ⟨0,0,0,0⟩)
theorem kh{N P:List r_}{sc:qbJ}(a:sc.kind=.function:=by rfl)(b:sc.isCoroutine=false:=by rfl)(c:sc.isGenerator=false:=by rfl)(d:N.Nodup:=by decide +kernel)(e:N.take P.length=P:=by rfl)(f:∀x∈P,sc.names.lookup x=some .local\/sc.names.lookup x=some .cell:=by decide +kernel)(g:∀y∈sc.names,y.2≠.free:=by decide +kernel):aK N P sc:=⟨a,b,c,d,e,f,g⟩
noncomputable abbrev d8:qaq:=inClass (top 10) 0
theorem yx:aK ["self","row","place"] ["self","row","place"] (ay d8):=kh
noncomputable abbrev fP:qaq:=top 14
theorem jC:aK ["one","other","rest"] ["one","other"] (ay fP):=kh
noncomputable abbrev zE:qaq:=top 15
theorem F7:aK ["fraction","divisor"] ["fraction"] (ay zE):=kh
noncomputable abbrev xH:qaq:=top 20
theorem Dr:aK ["sign","number"] ["sign"] (ay xH):=kh
noncomputable abbrev qU:qaq:=top 21
theorem G4:aK ["text"] ["text"] (ay qU):=kh
noncomputable abbrev qF:qaq:=top 22
theorem Ds:aK ["signs"] ["signs"] (ay qF):=kh
noncomputable abbrev gI:qaq:=top 23
theorem oN:aK ["signs","pairs","row"] ["signs","pairs"] (ay gI):=kh
noncomputable abbrev mO:qaq:=top 25
theorem B0:aK ["price"] ["price"] (ay mO):=kh
noncomputable abbrev n9:qaq:=top 26
theorem AI:aK ["row"] ["row"] (ay n9):=kh
noncomputable abbrev rZ:qaq:=top 27
theorem uf:aK ["pairs","opening","more","unders","row"] ["pairs","opening","more"] (ay rZ):=kh
noncomputable abbrev pA:qaq:=top 28
theorem iM:aK ["unders","factors","unit","under","factor"] ["unders"] (ay pA):=kh
noncomputable abbrev rP:qaq:=top 29
theorem qo:aK ["factors","product","factor"] ["factors"] (ay rP):=kh
noncomputable abbrev uN:qaq:=top 30
theorem LP:aK ["price","unit"] ["price","unit"] (ay uN):=kh
noncomputable abbrev m5:qaq:=top 31
theorem gr:aK ["signs","pairs","unit","costs","one","row","other","price"] ["signs","pairs","unit"] (ay m5):=kh
noncomputable abbrev dZ:qaq:=inClass (top 32) 0
theorem yw:aK ["self","signs","pairs","opening","more"] ["self","signs","pairs","opening","more"] (ay dZ):=kh
noncomputable abbrev mK:qaq:=top 33
theorem GY:aK ["prices","one","other"] ["prices","one","other"] (ay mK):=kh
noncomputable abbrev mL:qaq:=top 34
theorem GZ:aK ["prices"] ["prices"] (ay mL):=kh
noncomputable abbrev sP:qaq:=top 35
theorem mE:aK ["prices","number","over","under","factor","divisor"] ["prices","number"] (ay sP):=kh
noncomputable abbrev mZ:qaq:=top 36
theorem i8:aK ["prices","i","row","j","price"] ["prices"] (ay mZ):=kh
noncomputable abbrev qG:qaq:=top 39
theorem mH:aK ["known","rows","number","row","place","sign"] ["known","rows"] (ay qG):=kh
noncomputable abbrev mJ:qaq:=top 40
theorem vO:aK ["place","move","step"] ["place","move"] (ay mJ):=kh
noncomputable abbrev tK:qaq:=top 43
theorem GX:aK ["texts","place"] ["texts","place"] (ay tK):=kh
noncomputable abbrev uL:qaq:=top 44
theorem Oj:aK ["texts","many"] ["texts","many"] (ay uL):=kh
noncomputable abbrev kH:qaq:=top 45
theorem EM:aK ["rows"] ["rows"] (ay kH):=kh
noncomputable abbrev pF:qaq:=top 46
theorem fJ:aK ["ones","others","one_gaps","other_gaps","moves","columns","place","move","step","left","right"] ["ones","others","one_gaps","other_gaps","moves"] (ay pF):=kh
noncomputable abbrev uM:qaq:=top 47
theorem LO:aK ["column"] ["column"] (ay uM):=kh
noncomputable abbrev oA:qaq:=top 48
theorem JF:aK ["things"] ["things"] (ay oA):=kh
noncomputable abbrev gJ:qaq:=top 49
theorem oO:aK ["rows","row"] ["rows"] (ay gJ):=kh
noncomputable abbrev rY:qaq:=top 51
theorem EN:aK ["row"] ["row"] (ay rY):=kh
noncomputable abbrev pK:qaq:=top 52
theorem vP:aK ["rows","row"] ["rows"] (ay pK):=kh
noncomputable abbrev om:qaq:=top 53
theorem uK:aK ["rows","column"] ["rows"] (ay om):=kh
noncomputable abbrev bR:qaq:=inClass (top 54) 0
theorem zD:aK ["self","rows"] ["self","rows"] (ay bR):=kh
noncomputable abbrev qT:qaq:=top 55
theorem G3:aK ["block","row"] ["block","row"] (ay qT):=kh
noncomputable abbrev G5:qaq:=top 56
theorem SX:aK ["block","row"] ["block","row"] (ay G5):=kh
noncomputable abbrev CC:qaq:=top 57
theorem QC:aK ["text"] ["text"] (ay CC):=kh
noncomputable abbrev pC:qaq:=top 58
theorem EL:aK ["block","row"] ["block","row"] (ay pC):=kh
noncomputable abbrev xG:qaq:=top 59
theorem yt:aK ["block","row","others","columns"] ["block","row"] (ay xG):=kh
noncomputable abbrev fQ:qaq:=top 60
theorem xV:aK ["prices","rows"] ["prices","rows"] (ay fQ):=kh
noncomputable abbrev pB:qaq:=top 61
theorem EK:aK ["prices","one","other"] ["prices","one","other"] (ay pB):=kh
noncomputable abbrev qD:qaq:=top 62
theorem mG:aK ["prices","column","cost","row","other"] ["prices","column"] (ay qD):=kh
noncomputable abbrev qH:qaq:=top 63
theorem Dt:aK ["prices","block"] ["prices","block"] (ay qH):=kh
noncomputable abbrev pH:qaq:=top 65
theorem B4:aK ["prices","column","many"] ["prices","column","many"] (ay pH):=kh
noncomputable abbrev oi:qaq:=top 66
theorem AJ:aK ["prices","columns","many"] ["prices","columns","many"] (ay oi):=kh
noncomputable abbrev qv:qaq:=top 67
theorem sN:aK ["prices","signs","extras","other"] ["prices","signs"] (ay qv):=kh
noncomputable abbrev oh:qaq:=top 68
theorem uJ:aK ["prices","signs","others","extras"] ["prices","signs","others"] (ay oh):=kh
noncomputable abbrev r9:qaq:=top 69
theorem ug:aK ["prices","ones","others","known","signs"] ["prices","ones","others"] (ay r9):=kh
noncomputable abbrev qw:qaq:=top 70
theorem mz:aK ["extras","below","rests","j","least"] ["extras","below"] (ay qw):=kh
noncomputable abbrev rV:qaq:=top 71
theorem ud:aK ["extras","many","rests","row"] ["extras","many"] (ay rV):=kh
noncomputable abbrev dG:qaq:=inClass (top 72) 0
theorem nT:aK ["self","prices","one","other","ones","others"] ["self","prices","one","other"] (ay dG):=kh
noncomputable abbrev qz:qaq:=top 73
theorem Dp:aK ["joining"] ["joining"] (ay qz):=kh
noncomputable abbrev rX:qaq:=top 74
theorem ue:aK ["joining","i","j","rest","below"] ["joining","i","j"] (ay rX):=kh
noncomputable abbrev qC:qaq:=top 75
theorem mF:aK ["joining","place","moves","move"] ["joining"] (ay qC):=kh
noncomputable abbrev pG:qaq:=top 76
theorem rE:aK ["joining","moves","columns"] ["joining"] (ay pG):=kh
noncomputable abbrev i9:qaq:=top 78
theorem yu:aK ["prices","block","row"] ["prices","block","row"] (ay i9):=kh
noncomputable abbrev gE:qaq:=top 79
theorem qQ:aK ["joining","row","rows"] ["joining","row"] (ay gE):=kh
noncomputable abbrev tQ:qaq:=top 80
theorem G2:aK ["prices","block","row"] ["prices","block","row"] (ay tQ):=kh
noncomputable abbrev pL:qaq:=top 81
theorem n8:aK ["prices","block","row","cost","other"] ["prices","block","row"] (ay pL):=kh
noncomputable abbrev rW:qaq:=top 82
theorem qu:aK ["prices","block","row","joining","less"] ["prices","block"] (ay rW):=kh
noncomputable abbrev oj:qaq:=top 83
theorem AK:aK ["prices","block","most"] ["prices","block","most"] (ay oj):=kh
noncomputable abbrev wu:qaq:=top 84
theorem sC:aK ["prices","block","most","steps","cost","step"] ["prices","block","most"] (ay wu):=kh
noncomputable abbrev oB:qaq:=top 86
theorem tH:aK ["_law_script","_law_at","_law_cell","_law_m"] ["_law_script","_law_at"] (ay oB):=kh
noncomputable abbrev tM:qaq:=top 87
theorem o9:aK ["_law_script","_law_at","_law_many","_law_some","_law_m","_law_turn"] ["_law_script","_law_at","_law_many"] (ay tM):=kh
noncomputable abbrev tO:qaq:=top 88
theorem pq:aK ["_law_script","_law_at","_law_m","_law_cell","_law_under"] ["_law_script","_law_at"] (ay tO):=kh
noncomputable abbrev rR:qaq:=top 89
theorem qp:aK ["_law_script","_law_at","_law_signs_here","_law_same","_law_pairs","_law_i","_law_j"] ["_law_script","_law_at","_law_signs_here","_law_same"] (ay rR):=kh
noncomputable abbrev rT:qaq:=top 90
theorem nY:aK ["_law_script","_law_at","_law_signs_here","_law_many","_law_column_here","_law_k","_law_m"] ["_law_script","_law_at","_law_signs_here","_law_many"] (ay rT):=kh
noncomputable abbrev vg:qaq:=top 91
theorem qR:aK ["_law_script","_law_at","_law_signs_here","_law_many","_law_columns","_law_rows_here","_law_k","_law_column_here"] ["_law_script","_law_at","_law_signs_here","_law_many","_law_columns"] (ay vg):=kh
noncomputable abbrev tL:qaq:=top 92
theorem G1:aK ["_law_prices_here","_law_one","_law_other"] ["_law_prices_here","_law_one","_law_other"] (ay tL):=kh
noncomputable abbrev sO:qaq:=top 93
theorem oM:aK ["_law_prices_here","_law_rows_here","_law_total","_law_i","_law_j","_law_k"] ["_law_prices_here","_law_rows_here"] (ay sO):=kh
noncomputable abbrev qS:qaq:=top 94
theorem G0:aK ["_law_found"] ["_law_found"] (ay qS):=kh
noncomputable abbrev qB:qaq:=top 95
theorem Dq:aK ["_law_prices_here","_law_found","_law_units"] ["_law_prices_here","_law_found","_law_units"] (ay qB):=kh
noncomputable abbrev pD:qaq:=top 96
theorem B3:aK ["_law_block","_law_rows_here"] ["_law_block","_law_rows_here"] (ay pD):=kh
noncomputable abbrev vj:qaq:=top 97
theorem JH:aK ["_law_row"] ["_law_row"] (ay vj):=kh
noncomputable abbrev lU:qaq:=top 98
theorem ow:aK ["_law_prices_here","_law_one","_law_other"] ["_law_prices_here"] (ay lU):=kh
noncomputable abbrev vf:qaq:=top 99
theorem JG:aK ["_law_row","_law_k","_law_thing_here"] ["_law_row","_law_k","_law_thing_here"] (ay vf):=kh
noncomputable abbrev qA:qaq:=top 100
theorem iD:aK ["_law_prices_here","_law_rows_here","_law_most","_law_caught","_law_found","_law_others","e"] ["_law_prices_here","_law_rows_here","_law_most"] (ay qA):=kh
noncomputable abbrev tP:qaq:=top 101
theorem ve:aK ["_law_prices_here","_law_rows_here","_law_r","_law_made"] ["_law_prices_here","_law_rows_here"] (ay tP):=kh
noncomputable abbrev rQ:qaq:=top 102
theorem nX:aK ["_law_prices_here","_law_rows_here","_law_steps","_law_most","_law_step","_law_r","_law_made"] ["_law_prices_here","_law_rows_here","_law_steps","_law_most"] (ay rQ):=kh
noncomputable abbrev vh:qaq:=top 103
theorem mD:aK ["_law_prices_here","_law_rows_here","_law_most","_law_block","_law_found","_law_due","_law_last","_law_more","_law_kept"] ["_law_prices_here","_law_rows_here","_law_most"] (ay vh):=kh
noncomputable abbrev tN:qaq:=top 104
theorem dO:aK ["_law_script","_law_at","_law_m","_law_many","_law_signs_here","_law_prices_here","_law_rows_here","_law_most","_law_below_nought","_law_n","_law_r","_law_k"] ["_law_script","_law_at"] (ay tN):=kh
noncomputable abbrev yb:qaq:=top 105
theorem LN:aK ["_law_script","_law_at","_law_k"] ["_law_script"] (ay yb):=kh
noncomputable abbrev BN:List r_:=["rows"]
noncomputable abbrev CH:List r_:=["block","row"]
noncomputable abbrev E8:List r_:=["_law_script","_law_at"]
noncomputable abbrev IZ:List r_:=["prices","one","other"]
noncomputable abbrev IY:List r_:=["self","rows"]
noncomputable abbrev Ks:List r_:=["prices","block","row"]
noncomputable abbrev Lk:List r_:=["prices"]
noncomputable abbrev Mv:List r_:=["joining"]
noncomputable abbrev OS:List r_:=["column"]
noncomputable abbrev PL:List r_:=["row"]
noncomputable abbrev PK:List r_:=["text"]
noncomputable abbrev PF:List r_:=["_law_prices_here","_law_rows_here"]
noncomputable abbrev PD:List r_:=["prices","block","most"]
noncomputable abbrev Rb:List r_:=["price"]
noncomputable abbrev Ra:List r_:=["things"]
noncomputable abbrev So:List r_:=["prices","block"]
noncomputable abbrev Sn:List r_:=["_law_prices_here","_law_rows_here","_law_most"]
noncomputable abbrev TM:List r_:=["one","other"]
noncomputable abbrev TL:List r_:=["texts","many"]
noncomputable abbrev TF:List r_:=["prices","rows"]
noncomputable abbrev Tz:List r_:=["_law_row"]
noncomputable abbrev YH:List r_:=["price","unit"]
noncomputable abbrev YG:List r_:=["prices","number"]
noncomputable abbrev YF:List r_:=["place","move"]
noncomputable abbrev YE:List r_:=["_law_found"]
noncomputable abbrev YD:List r_:=["joining","row"]
noncomputable abbrev ZG:List r_:=["self","signs","pairs","opening","more"]
noncomputable abbrev ZF:List r_:=["self","row","place"]
noncomputable abbrev ZE:List r_:=["self","prices","one","other"]
noncomputable abbrev ZD:List r_:=["_law_script"]
noncomputable abbrev l40:List r_:=["fraction"]
noncomputable abbrev l41:List r_:=["pairs","opening","more"]
noncomputable abbrev l42:List r_:=["signs","pairs"]
noncomputable abbrev l43:List r_:=["signs","pairs","unit"]
noncomputable abbrev l44:List r_:=["texts","place"]
noncomputable abbrev l45:List r_:=["_law_row","_law_k","_law_thing_here"]
noncomputable abbrev l46:List r_:=["known","rows"]
noncomputable abbrev l47:List r_:=["_law_prices_here","_law_one","_law_other"]
noncomputable abbrev l48:List r_:=["prices","column"]
noncomputable abbrev l49:List r_:=["_law_script","_law_at","_law_many"]
noncomputable abbrev l50:List r_:=["_law_script","_law_at","_law_signs_here","_law_same"]
noncomputable abbrev l51:List r_:=["_law_prices_here","_law_found","_law_units"]
noncomputable abbrev l52:List r_:=["_law_script","_law_at","_law_signs_here","_law_many"]
noncomputable abbrev l53:List r_:=["_law_script","_law_at","_law_signs_here","_law_many","_law_columns"]
noncomputable abbrev l54:List r_:=["prices","column","many"]
noncomputable abbrev l55:List r_:=["prices","columns","many"]
noncomputable abbrev l56:List r_:=["prices","signs"]
noncomputable abbrev l57:List r_:=["prices","signs","others"]
noncomputable abbrev l58:List r_:=["prices","ones","others"]
noncomputable abbrev l59:List r_:=["extras","below"]
noncomputable abbrev l60:List r_:=["extras","many"]
noncomputable abbrev l61:List r_:=["joining","i","j"]
noncomputable abbrev l62:List r_:=["ones","others","one_gaps","other_gaps","moves"]
noncomputable abbrev l63:List r_:=["_law_block","_law_rows_here"]
noncomputable abbrev l64:List r_:=["_law_prices_here"]
noncomputable abbrev l65:List r_:=["_law_prices_here","_law_rows_here","_law_steps","_law_most"]
noncomputable abbrev l66:List r_:=["one","prices","other"]
noncomputable abbrev l67:List r_:=["one","thing","prices"]
noncomputable abbrev l68:List r_:=["_law_k","_law_some","_law_m","_law_turn"]
noncomputable abbrev l69:List r_:=["_law_one","_law_script","_law_at","_law_signs_here"]
noncomputable abbrev l70:List r_:=["_law_other","_law_script","_law_at"]
noncomputable abbrev l71:List r_:=["_law_r","_law_rows_here","_law_column_here"]
structure Pm where
 rN:Tok
 tD:Tok
 oG:g_
 nR:g_
 kT:g_
 kR:g_
 kQ:g_
 M1:Tok
 au:g_
 aJ:g_
 az:g_
 cH:g_
 bK:g_
 dX:g_
 aL:g_
 aZ:g_
 aE:g_
 fX:g_
 fW:g_
 kg:g_
 iA:g_
 kc:g_
 j9:g_
structure Txt(K:PySem.W.Frag)(mg:r_->Option i_)(p:Pm)(w:W_):Prop where
 ZW:mg "abs" =none
 cV:mg "len" =none
 z_ord:mg "ord" =none
 ZT:mg "set" =none
 tw:mg "tuple" =none
 PV:mg "zip" =none
 qO:mg "enumerate" =none
 lT:mg "range" =none
 dN:mg "isinstance" =none
 ZU:mg "int" =none
 Vi:mg "bool" =none
 ZV:mg "all" =none
 ahi:mg "any" =none
 CL:mg "sum" =none
 Lq:mg "list" =none
 UE:mg "min" =none
 Lp:mg "reversed" =none
 HX:mg "FIRST_SIGN" =some (.int 32 p.rN)
 Kz:mg "LAST_SIGN" =some (.int 126 p.tD)
 Mz:mg "NO_SIGNS" =some (.ref p.oG)
 LV:∀H:Hp,eK K H p.oG [.int 34,.int 37,.int 45]
 HW:mg "STEPS" =some (.ref p.nR)
 DW:∀P:I_,KDict P w K p.nR [(.inr (w_ "p"),.ref p.kT),(.inr (w_ "a"),.ref p.kR),(.inr (w_ "b"),.ref p.kQ)]
 JO:∀H:Hp,eK K H p.kT [.int 1,.int 1]
 JN:∀H:Hp,eK K H p.kR [.int 1,.int 0]
 JM:∀H:Hp,eK K H p.kQ [.int 0,.int 1]
 z5:mg "GAP" =some (.str (w_ "-") p.M1)
 OL:mg "Prices" =some (.ref p.au)
 bT:SD K p.au
 jG:cD K p.au "signs"
 mP:cD K p.au "pairs"
 p6:cD K p.au "opening"
 uq:cD K p.au "more"
 p7:cD K p.au "factors"
 qJ:cD K p.au "unit"
 wH:cD K p.au "costs"
 vq:cD K p.au "opening_units"
 rK:cD K p.au "more_units"
 qZ:mg "Block" =some (.ref p.aJ)
 cW:SD K p.aJ
 bx:cD K p.aJ "rows"
 Rh:PySem.W.isIn K (.ref p.aJ) p.aJ=true
 Mp:mg "Joining" =some (.ref p.az)
 bD:SD K p.az
 jH:cD K p.az "ones"
 fR:cD K p.az "others"
 oF:cD K p.az "one_gaps"
 mQ:cD K p.az "other_gaps"
 wK:cD K p.az "by_a"
 wJ:cD K p.az "by_b"
 p8:cD K p.az "extras"
 oq:cD K p.az "rests"
 yd:mg "WeaveError" =some (.ref p.cH)
 EH:XB K p.cH
 sU:mg "NoBlock" =some (.ref p.bK)
 uX:GG K p.bK
 DP:mg "NoRow" =some (.ref p.dX)
 Jb:GG K p.dX
 BL:mg "NoPrices" =some (.ref p.aL)
 Jc:GG K p.aL
 I9:Sx K p.aL
 Ge:mg "NoMost" =some (.ref p.aZ)
 N8:GG K p.aZ
 N6:Sx K p.aZ
 Gd:mg "NoSign" =some (.ref p.aE)
 N5:Sx K p.aE
 Kl:mg "NoLaying" =some (.ref p.fX)
 Kh:mg "NoManner" =some (.ref p.fW)
 OO:mg "NoNote" =some (.ref p.kg)
 Mn:mg "NoPlace" =some (.ref p.iA)
 ON:mg "NoText" =some (.ref p.kc)
 OM:mg "NoTree" =some (.ref p.j9)
 FO:XSt K p.aE
 N7:∃f,N3 K p.aE f
 zO:cD K p.aE "row"
 wI:cD K p.aE "place"
 EG:XBase K p.cH
 wQ:PySem.W.subIn K (.ref p.aE) (.ref p.cH)=some true
 vz:PySem.W.subIn K (.ref p.aL) (.ref p.cH)=some true
 wR:PySem.W.subIn K (.ref p.aZ) (.ref p.cH)=some true
 AZ:PySem.W.kitOne K (.ref p.aE) (.ref p.aE)=some true
 yI:PySem.W.kitOne K (.ref p.aE) (.ref p.aL)=some false
 Ba:PySem.W.kitOne K (.ref p.aE) (.ref p.aZ)=some false
 yN:PySem.W.kitOne K (.ref p.aL) (.ref p.aE)=some false
 wU:PySem.W.kitOne K (.ref p.aL) (.ref p.aL)=some true
 yP:PySem.W.kitOne K (.ref p.aL) (.ref p.aZ)=some false
 Bd:PySem.W.kitOne K (.ref p.aZ) (.ref p.aE)=some false
 yQ:PySem.W.kitOne K (.ref p.aZ) (.ref p.aL)=some false
 Bf:PySem.W.kitOne K (.ref p.aZ) (.ref p.aZ)=some true
 zU:PySem.W.kitOne K (.ref p.aE) (.ref p.bK)=some false
 yK:PySem.W.kitOne K (.ref p.aE) (.ref p.fX)=some false
 yJ:PySem.W.kitOne K (.ref p.aE) (.ref p.fW)=some false
 A0:PySem.W.kitOne K (.ref p.aE) (.ref p.kg)=some false
 zT:PySem.W.kitOne K (.ref p.aE) (.ref p.iA)=some false
 Ci:PySem.W.kitOne K (.ref p.aE) (.ref p.dX)=some false
 AY:PySem.W.kitOne K (.ref p.aE) (.ref p.kc)=some false
 AX:PySem.W.kitOne K (.ref p.aE) (.ref p.j9)=some false
 x8:PySem.W.kitOne K (.ref p.aL) (.ref p.bK)=some false
 wW:PySem.W.kitOne K (.ref p.aL) (.ref p.fX)=some false
 wV:PySem.W.kitOne K (.ref p.aL) (.ref p.fW)=some false
 yO:PySem.W.kitOne K (.ref p.aL) (.ref p.kg)=some false
 x6:PySem.W.kitOne K (.ref p.aL) (.ref p.iA)=some false
 zV:PySem.W.kitOne K (.ref p.aL) (.ref p.dX)=some false
 yM:PySem.W.kitOne K (.ref p.aL) (.ref p.kc)=some false
 yL:PySem.W.kitOne K (.ref p.aL) (.ref p.j9)=some false
 zX:PySem.W.kitOne K (.ref p.aZ) (.ref p.bK)=some false
 yS:PySem.W.kitOne K (.ref p.aZ) (.ref p.fX)=some false
 yR:PySem.W.kitOne K (.ref p.aZ) (.ref p.fW)=some false
 Be:PySem.W.kitOne K (.ref p.aZ) (.ref p.kg)=some false
 zW:PySem.W.kitOne K (.ref p.aZ) (.ref p.iA)=some false
 Cj:PySem.W.kitOne K (.ref p.aZ) (.ref p.dX)=some false
 Bc:PySem.W.kitOne K (.ref p.aZ) (.ref p.kc)=some false
 Bb:PySem.W.kitOne K (.ref p.aZ) (.ref p.j9)=some false
theorem Zg:bootBuiltins "abs" =some (.builtin "abs"):=by decide +kernel
theorem bO:bootBuiltins "len" =some (.builtin "len"):=by decide +kernel
theorem Zd:bootBuiltins "ord" =some (.builtin "ord"):=by decide +kernel
theorem Zc:bootBuiltins "set" =some (.type "set"):=by decide +kernel
theorem rq:bootBuiltins "tuple" =some (.type "tuple"):=by decide +kernel
theorem c9:bootBuiltins "isinstance" =some (.builtin "isinstance"):=by decide +kernel
theorem Ze:bootBuiltins "int" =some (.type "int"):=by decide +kernel
theorem Uu:bootBuiltins "bool" =some (.type "bool"):=by decide +kernel
theorem Zf:bootBuiltins "all" =some (.builtin "all"):=by decide +kernel
theorem y9:bootBuiltins "sum" =some (.builtin "sum"):=by decide +kernel
theorem Il:bootBuiltins "list" =some (.type "list"):=by decide +kernel
theorem R4:bootBuiltins "min" =some (.builtin "min"):=by decide +kernel
section
variable{P:I_}{w:W_}{K:PySem.W.Frag}{mg:r_->Option i_}{base:qad}
theorem xX {bV:g_}{bM:B_}{p:Pm}(T:Txt K mg p w)(bh:Dn K mg "greatest_divisor" fP TM bV bM)  :aI P w K mg base cO 1 bV bM TM Nf:=by
 refine bh.fn.ok jC (λvs H Q E h=>?_) (λcdv A outer s H vs Q E hr h=>?_)
 ·obtain⟨a,b,rfl,_⟩:=h;rfl
 ·obtain⟨a,b,rfl,hb,k⟩:=h;refine⟨_,(ao (Dy Q_ (bf vR (pv 1) aq (bC _)) (ao (Z9X 2 jC.nd (aQ eV (pv 0) (pv 1)))
   (ao (Z9X 0 jC.nd (pv 1))
   (ak (Z9X 1 jC.nd (pv 2))))))
   (ak (aP (aG (RZ) rfl T.ZW Zg (aa (pv 0) ah))))),?_⟩
  refine⟨λm σ H'=>H'=H/\rG λ(x y:Int) (r:Option V)=>σ=[some (.int x),some (.int y),r]/\0<=y/\qaj x y=qaj a b/\m=y.toNat,⟨b.toNat,Y,a,b,none,Y,hb,Y,Y⟩,?_⟩;rintro m σ H' ⟨rfl,x,y,r,rfl,hy,hg,rfl⟩;refine⟨_,Y,Y,_,Y,?_⟩;refine ur (λh0=>?_) (λh0=>?_)
  ·have l1:=qao x h0;have l2:=qah x (show 0<y by omega);refine⟨λσ' Ao=>Ao=H'/\∃r,σ'=[some (.int y),some (.int (x % y)),r],?_,?_⟩
   ·rintro σ' Ao ⟨rfl,r,rfl⟩;exact⟨(x % y).toNat,by omega,Y,y,x % y,r,Y,l1,(Ry x y).trans hg,Y⟩
   ·exact⟨_,Y,_,Y,_,_,Y,Y,(by show 0<y;omega),_,Y,_,Y,Y,_,Y⟩
  ·subst h0;refine⟨_,Y,_,Y,?_⟩;rw[Uc,hg];exact k
theorem OB {uU bV:g_}{sG bM:B_}{p:Pm}(T:Txt K mg p w)(rB:Dn K mg "lowest" zE l40 uU sG)(bh:Dn K mg "greatest_divisor" fP TM bV bM)(iG:aI P w K mg base cO 1 bV bM TM Nf):aI P w K mg base cO 2 uU sG l40 (UM K):=by
 refine rB.fn.ok F7 (λvs H Q E h=>?_) (λcdv A outer s H vs Q E hr h=>?_)
 ·obtain⟨p,f,rfl,_⟩:=h;rfl
 ·obtain⟨p,⟨a,b⟩,rfl,hS,hb,hb2,k⟩:=h;have hb0:0<b:=hb;have g1:=qM a hb0;have g2:=My a hb0;have hb':b<1073741824:=hb2;refine⟨_,(ao (Z9X 1 F7.nd (gc iG hr bh (aa (bu cQ (pv 0) aq (λ_ _=>rfl)) (aa (bu cQ (pv 0) aq (λ_ _=>rfl)) ah))))
   (ak (aP (gK (aa (aQ eO (bu cQ (pv 0) aq (λ_ _=>rfl)) (pv 1)) (aa (aQ eO (bu cQ (pv 0) aq (λ_ _=>rfl)) (pv 1)) ah)))))),?_⟩
  refine⟨_,Y,_,_,_,_,Y,Y,hS,Y,_,Y,_,_,_,_,Y,Y,hS,Y,a,b,Y,qa4 hb,?_⟩;refine⟨_,Y,_,_,_,_,Y,Y,hS,Y,_,Y,_,_,Y,Y,⟨g1,by omega⟩,_,Y,_,_,_,_,Y,Y,hS,Y,_,Y,_,_,Y,Y,⟨g1,by omega⟩,?_⟩;exact⟨c_,λq hq=>k q hq⟩
theorem B8 {fF uU:g_}{eT sG:B_}{p:Pm}(T:Txt K mg p w)(b4:Dn K mg "lowest_price" mO Rb fF eT)(rB:Dn K mg "lowest" zE l40 uU sG)(Sh:aI P w K mg base cO 2 uU sG l40 (UM K)):aI P w K mg base cO 3 fF eT Rb (yq K):=by
 refine b4.fn.ok B0 (λvs H Q E h=>?_) (λcdv A outer s H vs Q E hr h=>?_)
 ·obtain⟨p,f,rfl,_⟩:=h;rfl
 ·obtain⟨p,f,rfl,hS,⟨h1,h2⟩,k⟩:=h;refine⟨_,(ao (cN (bf zI (bu cQ (pv 0) aq (λ_ _=>rfl)) aq (bC _)) pZ br)
   (ak (aP (gc Sh hr rB (aa (pv 0) ah))))),?_⟩
  refine⟨_,Y,_,_,_,_,Y,Y,hS,Y,_,_,Y,Y,_,Y,?_⟩;refine gw (λz=>absurd z (by omega)) λ_=>?_;exact⟨_,Y,p,f,Y,hS,by omega,h2,k⟩
theorem AO {iX fF:g_}{ia eT:B_}{p:Pm}(T:Txt K mg p w)(fK:Dn K mg "lowest_prices" n9 PL iX ia)(b4:Dn K mg "lowest_price" mO Rb fF eT)(pU:aI P w K mg base cO 3 fF eT Rb (yq K)):aI P w K mg base cO 4 iX ia PL (BF K):=by
 refine fK.fn.ok AI (λvs H Q E h=>?_) (λcdv A outer s H vs Q E hr h=>?_)
 ·obtain⟨c,fs,rfl,_⟩:=h;rfl
 ·obtain⟨c,fs,rfl,⟨ps,hc,hp⟩,ho,hz,k⟩:=h;have hl:=Paired.len hp;refine⟨_,(ak (aP (p5 (qN) Y T.tw rq (aa (gM (N:=Rb) Y (λ_=>⟨[],cT.plain (by decide +kernel) Y (by decide +kernel) (by decide +kernel)⟩) (zH (pv 0)) (λ_ _ _ _ _ _ _=>(aS (i:=0) (show(Rb:List r_).Nodup by decide +kernel) Y (Or.inl Y))) (λ_ _ _ _ _ _ _=>(gc pU hr b4 (aa (pv 0) ah)))) ah)))),?_⟩;refine⟨_,Y,c,_,Y,hc,λl O0=>?_⟩;refine⟨λi m ys H2=>m=fs.length-i/\i<=fs.length/\aj H H2/\H2 l=some (.lst ys)/\∃qs:List g_,ys=qs.map V.ref/\qs.length=i/\Paired (λq f=>H2 q=some (.tup [.int f.1,.int f.2])) qs ((fs.map jI).take i),⟨fs.length,Y,X_ _,aj.upd O0,ai,[],Y,Y,.nil⟩,?_⟩;rintro i m ys H2 ⟨rfl,hi,s2,hl2,qs,rfl,hq,hP⟩;have zc:c.at K H2 (ps.map V.ref):=aj.cp s2 hc;by_cases hlt:i<fs.length
  ·have hpi:i<ps.length:=by omega
   have e1:(ps.map V.ref)[i]? =some (.ref ps[i]):=by rw[n_,e_ hpi];rfl
   refine .inr ⟨⟨_,_,zc,e1⟩,?_⟩;rintro x H3 ⟨rfl,hx⟩;have ex:=hx _ zc;rw[e1]at ex;cases ex;obtain⟨f,ef,hf⟩:=Paired.at hp (e_ hpi);refine⟨Kp.rep _ _,?_⟩;refine⟨_,Y,ps[i],f,Y,hf.same s2,ho f (l_ ef),λq hqn=>?_⟩;have nql:q≠l:=λz=>by rw[z,hl2]at hqn;cases hqn
   refine⟨by rw[aH (Ne.symm nql)];exact hl2,?_,fs.length-(i+1),by omega,Y,hlt,aj.at (s2.trans (aj.upd hqn)) O0,ai,qs++[q],by rw[P_];rfl,by rw[A_,hq];rfl,?_⟩
   ·rw[f_,hq];exact K_ hlt (m_ hz (by decide))
   ·rw[yf ef];refine GP.Paired.snoc (Paired.qa hP λa b z=>?_) ?_
    ·have n1:a≠q:=b9 z hqn;have n2:a≠l:=rJ z hl2 (by intro z;cases z);rw[aH n2,aH n1];exact z
    ·rw[aH nql];exact ai
  ·have ei:i=fs.length:=by omega
   subst ei;refine .inl ⟨⟨_,zc,by rw[f_];omega⟩,?_⟩;refine⟨l,_,Y,.inl ⟨bY.of hl2,λq hqn=>?_⟩⟩;refine k q _ (s2.trans (aj.upd hqn)) (aj.free s2 hqn) ⟨qs,eK.of ai,?_⟩;rw[qaa (by rw[f_];exact j_ _)]at hP;exact Paired.qa hP λa b z=>eK.of (by rw[aH (b9 z hqn)];exact z)
theorem E4 {nP:g_}{lD:B_}{p:Pm}(T:Txt K mg p w)(jw:Dn K mg "all_unders" rZ l41 nP lD)  :aI P w K mg base cO 1 nP lD l41 (Js K):=by
 refine jw.fn.ok uf (λvs H Q E h=>?_) (λcdv A outer s H vs Q E hr h=>?_)
 ·obtain⟨Pp,o,m,rows,fo,fm,rfl,_⟩:=h;rfl
 ·obtain⟨Pp,o,m,rows,fo,fm,rfl,⟨cs,hc,hp⟩,hfo,hfm,ajQ,YT,k⟩:=h;refine⟨_,(ao (Z9X 3 uf.nd (jz (aa (bu cQ (pv 1) aq (λ_ _=>rfl)) (aa (bu cQ (pv 2) aq (λ_ _=>rfl)) ah))))
   (ao (dP Q_ rfl (zH (pv 0)) (Z9Y 4 uf.nd) (ak (ee (tS PySem.F.plainAttrs_list PySem.F.slot_list_extend PySem.F.type_list_extend OI (pv 3) (aa (gM (N:=Rb) rfl (λ_=>⟨[],cT.plain (by decide +kernel) rfl (by decide +kernel) (by decide +kernel)⟩) (zH (pv 4)) (λ_ _ _ _ _ _ _=>(aS (i:=0) (show(Rb:List r_).Nodup by decide +kernel) rfl (Or.inl rfl))) (λ_ _ _ _ _ _ _=>(bu (TV (K':=K) rfl) (pv 0) aq (λ_ _=>rfl)))) ah)))))
   (ak (aP (pv 3))))),?_⟩
  refine⟨_,Y,_,_,_,_,Y,Y,hfo,Y,_,Y,_,_,_,_,Y,Y,hfm,Y,c_,λl hl=>?_⟩;have agR:∀i,((rows.take i).flatten.map (·.2)).length<=12*12:=λi=>by
   have:∀(q:List (List cC)),(∀r∈q,r.length<=12)->q.flatten.length<=12*q.length:=λq=>by
    induction q with
    |nil=>intro _;simp
    |cons r q ih =>
     intro h;have a:=h r D_;have b:=ih λr' hr=>h r' (C_ _ hr);rw[qaO,A_,qac];omega
   have a:=this (rows.take i) λr hr=>YT r (List.mem_of_mem_take hr);have b:(rows.take i).length<=12:=by rw[qai];omega
   rw[f_];omega
  refine⟨_,Y,.tup Pp,_,Y,aj.cp (aj.upd hl) (c:=.tup Pp) hc,D6 (K:=K) (c:=.tup Pp) (xs:=cs.map Cp.val) (λi σ H2=>∃v4,σ=[some (.ref Pp),some (.ref o),some (.ref m),some (.ref l),v4]/\aj H H2/\H2 l=some (.lst ((fo.2::fm.2::(rows.take i).flatten.map (·.2)).map V.int)))
   ⟨_,rfl,aj.upd hl,ai⟩ (λi σ H2 _ ⟨_,_,s2,_⟩=>aj.cp s2 hc) ?_ ?_⟩
  ·rintro i x σ H2 hx ⟨v4,rfl,s2,hl2⟩;obtain⟨c,ec,rfl⟩:=pN hx;obtain⟨row,er,⟨ps,hc2,hp2⟩⟩:=Paired.at hp ec;have abE:=aj.cp s2 hc2;refine⟨_,Y,.inl ⟨Y,_,bY.of hl2⟩,?_⟩;refine⟨_,Y,c,_,Y,abE,λlx hlx=>?_⟩;refine⟨λj m' ys H3=>m'=row.length-j/\j<=row.length/\aj H2 H3/\H3 lx=some (.lst ys)/\ys=((row.take j).map (·.2)).map V.int,⟨row.length,Y,X_ _,aj.upd hlx,ai,Y⟩,?_⟩;rintro j m' ys H3 ⟨rfl,hj,s3,YX,rfl⟩;have zr:=aj.cp s3 abE;by_cases hjt:j<row.length
   ·have hpj:j<ps.length:=by rw[Paired.len hp2];exact hjt
    have e1:(ps.map V.ref)[j]? =some (.ref ps[j]):=by rw[n_,e_ hpj];rfl
    refine .inr ⟨⟨_,_,zr,e1⟩,?_⟩;rintro y H4 ⟨rfl,hy2⟩;have ey:=hy2 _ zr;rw[e1]at ey;cases ey;refine⟨Kp.rep _ _,?_⟩;obtain⟨f,ef,hf⟩:=Paired.at hp2 (e_ hpj);have hf':=hf.same (s2.trans s3);refine⟨_,Y,_,_,_,_,Y,Y,hf',Y,?_⟩;refine⟨YX,?_,row.length-(j+1),by omega,Y,hjt,aj.at s3 hlx,ai,?_⟩
    ·rw[f_,f_,qai];have:=YT row (l_ er);exact K_ (show min j row.length<100 by omega) (by decide)
    ·rw[take_snoc ef,P_,P_];rfl
   ·have ej:j=row.length:=by omega
    subst ej;rw[qaa (j_ _)]at YX;refine .inl ⟨⟨_,zr,by rw[f_,Paired.len hp2];exact j_ _⟩,?_⟩;have hl3:=s3 _ _ hl2;refine⟨l,lx,_,_,Y,Y,hl3,YX,?_,?_⟩
    ·have a:=agR i;have a2:=YT row (l_ er);have a3:((fo.2::fm.2::(rows.take i).flatten.map (·.2)).map V.int).length+((row.map (·.2)).map V.int).length<=200:=by
      rw[f_,qac,qac,f_,f_,f_];rw[f_]at a;omega
     exact m_ a3 (by decide)
    refine⟨_,Y,aj.at (s2.trans s3) hl,?_⟩;rw[ai,take_snoc er,List.flatten_append,P_];simp
  ·rintro σ H2 ⟨v4,rfl,s2,hl2⟩;refine⟨_,Y,?_⟩;rw[f_,Paired.len hp,qaa (j_ _)]at hl2;exact k l H2 s2 hl hl2
theorem B5 {jT bV:g_}{iP bM:B_}{p:Pm}(T:Txt K mg p w)(gh:Dn K mg "unit_factors" pA ["unders"] jT iP)(bh:Dn K mg "greatest_divisor" fP TM bV bM)(iG:aI P w K mg base cO 1 bV bM TM Nf):aI P w K mg base cO 2 jT iP ["unders"] (F3 K):=by
 refine gh.fn.ok iM (λvs H Q E h=>?_) (λcdv A outer s H vs Q E hr h=>?_)
 ·obtain⟨l,ns,rfl,_⟩:=h;rfl
 ·obtain⟨l,ns,rfl,hl,hn,hs,k⟩:=h;refine⟨_,(ao (Z9X 1 iM.nd (jz ah))
   (ao (Z9X 2 iM.nd aq)
   (ao (dP Q_ rfl (ja (pv 0)) (Z9Y 3 iM.nd) (ao (Z9X 4 iM.nd (aQ eO (pv 3) (gc iG hr bh (aa (pv 2) (aa (pv 3) ah)))))
   (ak (cN (bf DA (pv 4) aq (bC _)) (ao (ee (tS PySem.F.plainAttrs_list PySem.F.slot_list_append PySem.F.type_list_append k8 (pv 1) (aa (pv 4) ah)))
   (ak (Z9X 2 iM.nd (aQ rF (pv 2) (pv 4))))) br))))
   (ak (aP (pv 1)))))),?_⟩
  refine⟨a_,λq hq=>?_⟩;refine⟨_,Y,l,Y,⟨_,aj.seq (aj.upd hq) hl⟩,sV (K:=K) (a:=l) (xs:=ns.map V.int) (λi σ H2=>fD λv3 v4=>σ=[some (.ref l),some (.ref q),some (.int (uT (ns.take i)).2),v3,v4]/\aj H H2/\H2 q=some (.lst ((uT (ns.take i)).1.map V.int)))
   ⟨_,_,rfl,aj.upd hq,ai⟩ (λi σ H2 _ ⟨_,_,_,s2,_⟩=>aj.seq s2 hl) ?_ ?_⟩
  ·rintro i x σ H2 hx ⟨v3,v4,rfl,s2,hq2⟩;obtain⟨b,eb,rfl⟩:=pN hx;have hi:i<ns.length:=(q_.mp eb).1;have hb:=hs b (l_ eb);have F:=Bl hs i (qbU hi);have es:uT (ns.take (i+1))=xP (uT (ns.take i)) b:=by rw[take_snoc eb,Eb]
   have fl:=F.len;rw[qai]at fl;rw[es];unfold xP;generalize hp:uT (ns.take i)=pr at *;obtain⟨fs,u⟩:=pr;obtain⟨b1,b2⟩:=hb;have g1:=qM u b1;have g2:=My u b1;obtain⟨d1,d2⟩:=NN (u:=u) ⟨b1,b2⟩;refine⟨_,Y,_,Y,_,Y,u,b,Y,qa4 b1,_,_,Y,Y,⟨g1,by omega⟩,_,Y,_,_,Y,Y,_,Y,?_⟩;refine gw (λh1=>?_) (λh1=>?_)
   ·rw[if_pos h1];refine⟨_,Y,.inl ⟨Y,_,bY.of hq2⟩,_,Y,q,_,_,Y,Y,hq2,?_,?_⟩
    ·rw[f_];exact s_ (show fs.length<=1000 by dsimp only at fl;omega) (by decide)
    refine⟨_,Y,_,Y,_,_,Y,Y,.inr ⟨by omega,by omega⟩,?_⟩;exact⟨_,_,Y,aj.at s2 hq,by rw[ai,P_];rfl⟩
   ·rw[if_neg h1];exact⟨_,_,Y,s2,hq2⟩
  ·rintro σ H2 ⟨v3,v4,rfl,s2,hq2⟩;refine⟨_,Y,?_⟩;rw[f_,qaa (j_ _)]at hq2;exact k q H2 s2 hq hq2
theorem ER {nF:g_}{lg:B_}{p:Pm}(T:Txt K mg p w)(jl:Dn K mg "product_of" rP ["factors"] nF lg)  :aI P w K mg base cO 1 nF lg ["factors"] (Qn K):=by
 refine jl.fn.ok qo (λvs H Q E h=>?_) (λcdv A outer s H vs Q E hr h=>?_)
 ·obtain⟨l,fs,rfl,_⟩:=h;rfl
 ·obtain⟨l,fs,rfl,hl,hs,k⟩:=h;refine⟨_,(ao (Z9X 1 qo.nd aq)
   (ao (dP Q_ rfl (ja (pv 0)) (Z9Y 2 qo.nd) (ak (Z9X 1 qo.nd (aQ rF (pv 1) (pv 2)))))
   (ak (aP (pv 1))))),?_⟩
  refine⟨_,Y,l,Y,⟨_,hl⟩,sV (K:=K) (a:=l) (xs:=fs.map V.int) (λi σ H2=>H2=H/\∃v2,σ=[some (.ref l),some (.int (yc (fs.take i))),v2])
   ⟨rfl,_,rfl⟩ (λi σ H2 _ ⟨e,_⟩=>by subst e;exact hl) ?_ ?_⟩
  ·rintro i x σ H2 hx ⟨rfl,v2,rfl⟩;obtain⟨b,eb,rfl⟩:=pN hx;obtain⟨b1,b2⟩:=hs b (l_ eb);refine⟨_,Y,_,Y,_,_,Y,Y,.inr ⟨by omega,by omega⟩,Y,some (.int b),?_⟩;rw[take_snoc eb,yC];rfl
  ·rintro σ H2 ⟨rfl,v2,rfl⟩;refine⟨_,Y,?_⟩;rw[f_,qaa (j_ _)];exact k
theorem Me {nN:g_}{kJ:B_}{p:Pm}(T:Txt K mg p w)(fH:Dn K mg "by_unit" uN YH nN kJ)  :aI P w K mg base cO 1 nN kJ YH (Dg K):=by
 refine fH.fn.ok LP (λvs H Q E h=>?_) (λcdv A outer s H vs Q E hr h=>?_)
 ·obtain⟨p,f,u,rfl,_⟩:=h;rfl
 ·obtain⟨p,f,u,rfl,hS,⟨h1,h2⟩,b1,b2,k⟩:=h;refine⟨_,(ak (aP (aQ Tc (bu cQ (pv 0) aq (λ_ _=>rfl)) (aQ eO (pv 1) (bu cQ (pv 0) aq (λ_ _=>rfl)))))),?_⟩;exact⟨_,Y,_,_,_,_,Y,Y,hS,Y,_,Y,_,Y,_,_,_,_,Y,Y,hS,Y,_,_,Y,Y,⟨by omega,h2⟩,_,_,Y,Y,⟨b1,b2⟩,k⟩
end
section
variable{P:I_}{w:W_}{K:PySem.W.Frag}{mg:r_->Option i_}{base:qad}
theorem Mb {sI:g_}{qd:B_}{p:Pm}(T:Txt K mg p w)(o8:Dn K mg "is_sign" xH ["sign"] sI qd)  :aI P w K mg base cO 1 sI qd ["sign"] Jy:=by
 refine o8.fn.ok Dr (λvs H Q E h=>?_) (λcdv A outer s H vs Q E hr h=>?_)
 ·obtain⟨c,rfl,_⟩:=h;rfl
 ·obtain⟨c,rfl,k⟩:=h;refine⟨_,(ao (Z9X 1 Dr.nd (aG (RY) Y T.z_ord Zd (aa (pv 0) ah)))
   (ak (aP (QT (QN Nz Nz (eE (v:=.int 32) rfl T.HX ⟨_,rfl⟩) (pv 1) (eE (v:=.int 126) rfl T.Kz ⟨_,rfl⟩)) (LZ (vo Hl (pv 1) (eE (v:=.ref p.oG) rfl T.Mz rfl) (by with_unfolding_all rfl))))))),?_⟩
  refine⟨_,Y,_,Y,Y,?_⟩;have k':Q (.bl ((decide ((32:Int)<=(c:Int))&&decide ((c:Int)<=126))&& !inV (.int c) [.int 34,.int 37,.int 45])) H:=k;refine⟨_,Y,_,_,Y,Y,_,Y,?_⟩;refine gw (λh1=>?_) (λh1=>?_)
  ·refine⟨_,_,Y,Y,_,Y,?_⟩;have vA:(32:Int)<=(c:Int):=h1;rw[decide_eq_true vA,qck]at k';refine gw (λh2=>?_) (λh2=>?_)
   ·have h2':(c:Int)<=126:=h2;rw[decide_eq_true h2',qck]at k';exact⟨_,Y,_,_,Y,.inr (T.LV _),Y,Y,k'⟩
   ·have h2':¬(c:Int)<=126:=h2;rw[decide_eq_false h2',qcs]at k';exact k'
  ·have vA:¬(32:Int)<=(c:Int):=h1;rw[decide_eq_false vA,qcs,qcs]at k';exact⟨_,Y,mj k'⟩
theorem HB {jh sI:g_}{gR qd:B_}{p:Pm}(T:Txt K mg p w)(fu:Dn K mg "are_signs" qU PK jh gR)(o8:Dn K mg "is_sign" xH ["sign"] sI qd)(Py:aI P w K mg base cO 1 sI qd ["sign"] Jy):aI P w K mg base cO 2 jh gR PK yr:=by
 refine fu.fn.ok G4 (λvs H Q E h=>?_) (λcdv A outer s H vs Q E hr h=>?_)
 ·obtain⟨x,rfl,_⟩:=h;rfl
 ·obtain⟨x,rfl,hx,k⟩:=h;refine⟨_,(ak (aP (aG (KY Y) Y T.ZV Zf (aa (gM (N:=["sign"]) Y (λ_=>⟨[],cT.plain (by decide +kernel) Y (by decide +kernel) (by decide +kernel)⟩) (uh (pv 0)) (λ_ _ _ _ _ _ _=>(aS (i:=0) (show(["sign"]:List r_).Nodup by decide +kernel) Y (Or.inl Y))) (λ_ _ _ _ _ _ _=>(gc Py hr o8 (aa (pv 0) ah)))) ah)))),?_⟩;refine⟨_,Y,x,Y,λl hl=>?_⟩;refine⟨λi m ys H2=>m=x.cps.size-i/\i<=x.cps.size/\aj H H2/\H2 l=some (.lst ys)/\ys=((x.cps.toList.take i).map gO).map V.bl,⟨x.cps.size,Y,X_ _,aj.upd hl,ai,Y⟩,?_⟩;rintro i m ys H2 ⟨rfl,hi,s2,hl2,rfl⟩;by_cases hlt:i<x.cps.size
  ·refine .inr ⟨hlt,?_⟩;rintro y H3 ⟨rfl,c,ec,rfl⟩;refine⟨Kp.rep _ _,?_⟩;refine⟨_,Y,c,Y,?_⟩;refine⟨hl2,?_,x.cps.size-(i+1),by omega,Y,hlt,aj.at s2 hl,ai,?_⟩
   ·rw[f_,f_,qai];exact s_ (show min i x.cps.toList.length<=1000 by omega) (by decide)
   ·rw[take_snoc (x:=c) (by rw[U_];exact ec),P_,P_];rfl
  ·have ei:i=x.cps.size:=by omega
   subst ei;refine .inl ⟨j_ _,?_⟩;rw[qaa (by rw[o_];exact j_ _)]at hl2;refine⟨l,_,Y,bY.of hl2,?_⟩;have e:(x.cps.toList.map gO).all id=x.cps.toList.all gO:=by rw[List.all_map];rfl
   rw[e];exact k H2 s2
theorem DK {lN jh:g_}{jQ gR:B_}{p:Pm}(T:Txt K mg p w)(g7:Dn K mg "check_signs" qF ["signs"] lN jQ)(fu:Dn K mg "are_signs" qU PK jh gR)(xB:aI P w K mg base cO 2 jh gR PK yr):aI P w K mg base cO 3 lN jQ ["signs"] zw:=by
 refine g7.fn.ok Ds (λvs H Q E h=>?_) (λcdv A outer s H vs Q E hr h=>?_)
 ·obtain⟨x,rfl,_⟩:=h;rfl
 ·obtain⟨x,rfl,⟨h1,h2,h3,h4⟩,k⟩:=h;refine⟨_,(ao (cN (bf nS (aG (aW) Y T.cV bO (aa (pv 0) ah)) aq (bC _)) pZ br)
   (ao (cN (jy (gD (gc xB hr fu (aa (pv 0) ah)))) pZ br)
   (ak (cN (bf vR (aG (Ff) rfl T.cV bO (aa (p5 (Pg rfl) rfl T.ZT Zc (aa (pv 0) ah)) ah)) (aG (aW) rfl T.cV bO (aa (pv 0) ah)) (bC _)) pZ br)))),?_⟩
  have hz:x.length<=z_:=m_ h2 (by decide);refine⟨_,Y,_,_,Y,⟨hz,Y⟩,Y,_,Y,?_⟩;refine DZ (λz=>absurd z (by show ¬((x.cps.size:Nat):Int)=0;omega)) λ_=>?_;refine⟨_,Y,x,Y,m_ h2 (by decide),λH2 s2=>?_⟩;refine⟨_,Y,?_⟩;rw[v_.mpr h3];refine kY ?_;refine⟨_,Y,x,Y,s_ (Nat.succ_le_succ h2) (by decide),λp hp=>?_⟩;refine⟨p,_,Y,ai,_,Y,_,_,Y,⟨hz,Y⟩,Y,_,Y,?_⟩;refine ur (λz=>absurd (by rw[OP h4];rfl) z) λ_=>?_;exact k _ (s2.trans (aj.upd hp))
theorem uP {dR:g_}{dw:B_}{p:Pm}(T:Txt K mg p w)(cK:Da K mg "check_lengths_prices" "check_lengths" gI l42 dR dw)  :aI P w K mg base cO 1 dR dw l42 (wm K):=by
 refine cK.fn.ok oN (λvs H Q E h=>?_) (λcdv A outer s H vs Q E hr h=>?_)
 ·obtain⟨x,c,rows,rfl,_⟩:=h;rfl
 ·obtain⟨x,c,rows,rfl,⟨nc,cs,ncs,hc,hp⟩,hx,⟨hq1,hq2⟩,k⟩:=h;refine⟨_,(ao (cN (bf vR (aG (aW) Y T.cV bO (aa (pv 1) ah)) (aG (aW) Y T.cV bO (aa (pv 0) ah)) (bC _)) pZ br)
   (ak (dP Q_ rfl (zH (pv 1)) (Z9Y 2 oN.nd) (ak (cN (bf vR (aG (aW) rfl T.cV bO (aa (pv 2) ah)) (aG (aW) rfl T.cV bO (aa (pv 0) ah)) (bC _)) pZ br))))),?_⟩
  have hz:x.length<=z_:=m_ hx (by decide);have hl:(cs.map Cp.val).length=x.cps.size:=by rw[f_,Paired.len hp,hq1]
  refine⟨_,Y,_,_,Y,RS hc nc,_,Y,_,_,Y,⟨hz,Y⟩,Y,_,Y,?_⟩;refine ur (λz=>absurd (by rw[hl];rfl) z) λ_=>?_;refine⟨_,Y,c,_,Y,hc,D6 (K:=K) (c:=c) (xs:=cs.map Cp.val) (λi σ H2=>H2=H/\∃v,σ=[some (.str x),some c.val,v]) ⟨Y,_,Y⟩ (λi σ H2 _ ⟨e,_⟩=>by subst e;exact hc) ?_ ?_⟩
  ·rintro i y σ H2 hy ⟨rfl,v,rfl⟩;obtain⟨d,ed,rfl⟩:∃d,cs[i]? =some d/\y=d.val:=by
    rw[n_]at hy
    cases e:cs[i]? with
    |none=>rw[e]at hy;cases hy
    |some d=>rw[e]at hy;exact⟨d,Y,(V_ hy).symm⟩
   obtain⟨row,er,hr2⟩:=Paired.at hp ed;refine⟨_,Y,_,_,Y,hr2.len (ncs d (l_ ed)),_,Y,_,_,Y,⟨hz,Y⟩,Y,_,Y,?_⟩;refine ur (λz=>absurd (by rw[hq2 row (l_ er)];rfl) z) λ_=>?_;exact⟨Y,_,Y⟩
  ·rintro σ H2 ⟨rfl,v,rfl⟩;exact k
end
section
variable{P:I_}{w:W_}{K:PySem.W.Frag}{mg:r_->Option i_}{base:qad}
theorem zK {iy nN:g_}{gy kJ:B_}{p:Pm}(T:Txt K mg p w)(fk:Dn K mg "costs_by_signs" m5 l43 iy gy)(fH:Dn K mg "by_unit" uN YH nN kJ)(xU:aI P w K mg base cO 1 nN kJ YH (Dg K)):aI P w K mg base cO 2 iy gy l43 (Nj K):=by
 refine fk.fn.ok gr (λvs H Q E h=>?_) (λcdv A outer s H vs Q E hr h=>?_)
 ·obtain⟨x,Pp,u,rows,rfl,_⟩:=h;rfl
 ·obtain⟨x,Pp,u,rows,rfl,hM,hx,nd,⟨hq1,hq2⟩,ho,k⟩:=h;refine⟨_,(ao (Z9X 3 gr.nd QM)
   (ao (dP Q_ rfl (LY rfl rfl T.PV (aa (pv 0) (aa (pv 1) ah))) (um (n:=2) rfl (fh (Z9Y 4 gr.nd) (fh (Z9Y 5 gr.nd) qI))) (ak (dP Q_ rfl (LY rfl rfl T.PV (aa (pv 0) (aa (pv 5) ah))) (um (n:=2) rfl (fh (Z9Y 6 gr.nd) (fh (Z9Y 7 gr.nd) qI))) (ak (G7 (rj hr) (pv 3) (gK (aa (pv 4) (aa (pv 6) ah))) (gc xU hr fH (aa (pv 7) (aa (pv 2) ah))) rfl)))))
   (ak (aP (pv 3))))),?_⟩
  intro d hd;obtain⟨qs,Ro,hp⟩:=hM;have hlen:qs.length=x.cps.size:=by rw[Paired.len hp,hq1]
  have hmin:min (iC x).length (qs.map V.ref).length=x.cps.size:=by rw[signs_length,f_,hlen,Nat.min_self]
  refine⟨_,Y,_,Y,.txt x,.tup Pp,_,_,Y,Y,Dat.tup (Dat.of (aj.upd hd)) Ro,NL (K:=K) (c:=.txt x) (d:=.tup Pp) (xs:=iC x) (ys:=qs.map V.ref) (λi σ H2=>GF λkvs v4 v5 v6 v7=>σ=[some (.str x),some (.ref Pp),some (.int u),some (.ref d),v4,v5,v6,v7]/\aj H H2/\H2 d=some (.dT kvs)/\kvs.length<=i*x.cps.size/\qk kvs x rows u i 0)
   ⟨[],_,_,_,_,rfl,aj.upd hd,ai,X_ _,qk.nil x rows u⟩ (λi σ H2 _ ⟨kvs,v4,v5,v6,v7,_,s2,_⟩=>⟨rfl,Dat.tup (Dat.of s2) Ro⟩) ?_ ?_⟩
  ·rintro i y z p1 σ H2 hy hz hp1 ⟨kvs,v4,v5,v6,v7,rfl,s2,hd2,hk,hc⟩;obtain⟨a,ha,rfl⟩:=signs_get hy;obtain⟨q,hq,rfl⟩:=pN hz;obtain⟨row,er,Kv⟩:=Paired.at hp hq;have hi:i<x.cps.size:=by rw[←hlen];exact(q_.mp hq).1
   obtain⟨ps,hps,hpp⟩:=Kv;have hpl:ps.length=x.cps.size:=by rw[Paired.len hpp,hq2 row (l_ er)]
   have abt:min (iC x).length (ps.map V.ref).length=x.cps.size:=by rw[signs_length,f_,hpl,Nat.min_self]
   refine⟨p1,_,Y,eK.of ai,Y,_,_,Y,_,_,Y,Y,?_⟩;have nd1:d≠p1:=b9 hd2 hp1;refine⟨_,Y,_,Y,.txt x,.tup q,_,_,Y,Y,Dat.tup (Dat.of (s2.trans (aj.upd hp1))) hps,NL (K:=K) (c:=.txt x) (d:=.tup q) (xs:=iC x) (ys:=ps.map V.ref)
    (λj σ H3=>rG λkvs v6 v7=>σ=[some (.str x),some (.ref Pp),some (.int u),some (.ref d),some (.str ⟨#[a]⟩),some (.ref q),v6,v7]/\aj H H3/\H3 d=some (.dT kvs)/\kvs.length<=i*x.cps.size+j/\qk kvs x rows u i j)
    ⟨kvs,v6,v7,rfl,s2.trans (aj.upd hp1),by rw[aH nd1];exact hd2,hk,hc⟩ (λj σ H3 _ ⟨kvs,v6,v7,_,s3,_⟩=>⟨rfl,Dat.tup (Dat.of s3) hps⟩) ?_ ?_⟩
   ·rintro j y z p2 σ H3 hy hz hp2 ⟨kvs,v6,v7,rfl,s3,YZ,hk,hc⟩;obtain⟨b,hb,rfl⟩:=signs_get hy;obtain⟨pr,hpr,rfl⟩:=pN hz;obtain⟨f,ef,hf⟩:=Paired.at hpp hpr;have hj:j<x.cps.size:=by rw[←hpl];exact(q_.mp hpr).1
    obtain⟨o1,o2,o3⟩:=ho row (l_ er) f (l_ ef);refine⟨p2,_,Y,eK.of ai,Y,_,_,Y,_,_,Y,Y,?_⟩;have s4:=s3.trans (aj.upd (o:=.tup [.str ⟨#[b]⟩,.ref pr]) hp2);have hd4:upd H3 p2 (.tup [.str ⟨#[b]⟩,.ref pr]) d=some (.dT kvs):=by rw[aH (b9 YZ hp2)];exact YZ
    refine⟨_,Y,_,Y,pr,f,u,Y,hf.same s4,o1,o2.bg,o3.bg,?_⟩;refine⟨_,Y,_,Y,_,Y,c_,λt ht=>?_⟩;have hd5:upd (upd H3 p2 (.tup [.str ⟨#[b]⟩,.ref pr])) t (.tup [.str ⟨#[a]⟩,.str ⟨#[b]⟩]) d=some (.dT kvs):=by rw[aH (b9 hd4 ht)];exact hd4
    have hsz:kvs.length<z_:=by
     have:i*x.cps.size<=100*100:=qbb (by omega) hx;have:kvs.length<20000:=by omega
     exact K_ this (by decide)
    refine⟨d,_,Y,IW.t (k:=keyOf a b) hd5 ai hsz,?_⟩;refine⟨putK kvs (keyOf a b) (.int (f.1*(u / f.2))),_,_,Y,aj.at (s4.trans (aj.upd ht)) hd,ai,?_,hc.put nd ha hb ⟨row,er,ef⟩⟩;have:=q9 kvs (keyOf a b) (.int (f.1*(u / f.2)));omega
   ·rintro σ H3 ⟨kvs,v6,v7,rfl,s3,YZ,hk,hc⟩;rw[abt]at hk hc;refine⟨kvs,_,_,_,_,Y,s3,YZ,?_,hc.row (j_ _)⟩;rw[Nat.succ_mul];exact hk
  ·rintro σ H2 ⟨kvs,v4,v5,v6,v7,rfl,s2,hd2,hk,hc⟩;rw[hmin]at hc;exact⟨_,Y,k d H2 kvs s2 hd hd2 (hc.all (j_ _))⟩
theorem Hr {dJ:g_}{cY:B_}{p:Pm}(T:Txt K mg p w)(bF:Dn K mg "pair_cost" mK IZ dJ cY)  :aI P w K mg base cO 1 dJ cY IZ (sM K p.au):=by
 refine bF.fn.ok GY (λvs H Q E h=>?_) (λcdv A outer s H vs Q E hr h=>?_)
 ·obtain⟨x,sg,rows,fo,fm,i,j,a,b,f,rfl,_⟩:=h;rfl
 ·obtain⟨x,sg,rows,fo,fm,i,j,a,b,f,rfl,⟨_,_,_,_,_,_,_,dx,Pp,o,m,d,kvs,h1,h2,h3,h4,h5,h6⟩,ha,hb,hf,k⟩:=h;refine⟨_,(ak (aP (Hg (rj hr) (bB (pv 0) Y) (gK (aa (pv 1) (aa (pv 2) ah))) (λ_ _=>rfl)))),?_⟩;refine⟨_,Y,x,_,_,_,_,Y,h1,T.bT,T.wH,MB,?_⟩;refine⟨_,Y,_,Y,c_,λt ht=>?_⟩;have hd5:upd H t (.tup [.str ⟨#[a]⟩,.str ⟨#[b]⟩]) d.1=some (.dT kvs):=by rw[aH (b9 h5 ht)];exact h5
  have z:=BC.t (k:=keyOf a b) hd5 ai;rw[h6.1 i j a b f ha hb hf]at z;exact⟨d.1,_,Y,z,k _ (aj.upd ht)⟩
theorem Hs {dM:g_}{cZ:B_}{p:Pm}(T:Txt K mg p w)(bQ:Dn K mg "more_cost" mL Lk dM cZ)  :aI P w K mg base cO 2 dM cZ Lk (De K p.au):=by
 refine bQ.fn.ok GZ (λvs H Q E h=>?_) (λcdv A outer s H vs Q E hr h=>?_)
 ·obtain⟨x,sg,rows,fo,fm,rfl,_⟩:=h;rfl
 ·obtain⟨x,sg,rows,fo,fm,rfl,⟨_,_,_,_,_,_,_,dx,Pp,o,m,d,kvs,h1,h2,h3,h4,h5,h6⟩,k⟩:=h;refine⟨_,(ak (aP (bB (pv 0) Y))),?_⟩;exact⟨_,Y,x,_,_,_,_,Y,h1,T.bT,T.rK,Cm,k⟩
theorem Kc {kL bV:g_}{jd bM:B_}{p:Pm}(T:Txt K mg p w)(fU:Dn K mg "in_units" sP YG kL jd)(bh:Dn K mg "greatest_divisor" fP TM bV bM)(iG:aI P w K mg base cO 1 bV bM TM Nf):aI P w K mg base cO 2 kL jd YG (AE K p.au):=by
 refine fU.fn.ok mE (λvs H Q E h=>?_) (λcdv A outer s H vs Q E hr h=>?_)
 ·obtain⟨x,n,sg,rows,fo,fm,rfl,_⟩:=h;rfl
 ·obtain⟨x,n,sg,rows,fo,fm,rfl,⟨_,_,_,_,_,u1,u2,dx,Pp,o,m,d,kvs,h1,h2,h3,h4,h5,h6,fs,h7,h8,h9⟩,k⟩:=h;refine⟨_,(ao (Z9X 2 mE.nd (pv 1))
   (ao (Z9X 3 mE.nd aq)
   (ao (dP Q_ rfl (ja (bB (pv 0) rfl)) (Z9Y 4 mE.nd) (ao (Z9X 5 mE.nd (gc iG hr bh (aa (pv 2) (aa (pv 4) ah))))
   (ao (Z9X 2 mE.nd (aQ eO (pv 2) (pv 5)))
   (ak (Z9X 3 mE.nd (aQ rF (pv 3) (aQ eO (pv 4) (pv 5))))))))
   (ak (aP (gK (aa (pv 2) (aa (pv 3) ah)))))))),?_⟩
  refine⟨_,Y,_,Y,x,_,_,_,_,Y,h1,T.bT,T.p7,sr,d.2,Y,⟨_,bY.of h9⟩,sV (K:=K) (a:=d.2) (xs:=fs.map V.int) (λi σ H2=>H2=H/\yj λ(ov un:Int) (v4 v5:Option V)=>σ=[some (.ref x),some (.int n),some (.int ov),some (.int un),v4,v5]/\0<un/\qaj ov un=1/\ov*yc (fs.take i)=n*un)
   ⟨rfl,n,1,_,_,rfl,by decide,Int.gcd_one_right n,by show n*yc []=n*1;rfl⟩ (λi σ H2 _ ⟨e,_⟩=>by subst e;exact bY.of h9) ?_ ?_⟩
  ·rintro i y σ H2 hy ⟨rfl,ov,un,v4,v5,rfl,hun,hg,he⟩;obtain⟨b,eb,rfl⟩:=pN hy;obtain⟨b1,b2⟩:=h7 b (l_ eb);have g1:=qM ov b1;have g2:=My ov b1;have d1:0<b / (qaj ov b:Int):=qbt b1 (qa4 g1) (qbc ov b);have d2:b / (qaj ov b:Int)<=b:=Int.ediv_le_self _ (qa4 b1);refine⟨_,Y,_,Y,ov,b,Y,qa4 b1,_,Y,_,Y,_,_,Y,Y,⟨g1,by omega⟩,_,Y,_,Y,_,Y,_,_,Y,Y,⟨g1,by omega⟩,_,_,Y,Y,.inr ⟨by omega,by omega⟩,?_⟩;refine⟨Y,_,_,_,_,Y,Int.mul_pos hun d1,RT b1 hg,?_⟩;rw[take_snoc eb,yC];exact MG he
  ·rintro σ H2 ⟨rfl,ov,un,v4,v5,rfl,hun,hg,he⟩;rw[f_,qaa (j_ _),h8]at he;have el:=aaD u1 hun hg he;refine⟨_,Y,_,Y,c_,λq hq=>k q _ (aj.upd hq) hq ?_⟩;rw[ai,el]
end
section
variable{P:I_}{w:W_}{K:PySem.W.Frag}{mg:r_->Option i_}{base:qad}
theorem yG {cF lN dR iX fF nP jT nF iy nN:g_}{iE jQ dw ia eT lD iP lg gy kJ:B_}{p:Pm}(T:Txt K mg p w)(gB:Dm K "__init__" "Prices.__init__" dZ ZG cF iE)(g7:Dn K mg "check_signs" qF ["signs"] lN jQ)(FG:aI P w K mg base cO 3 lN jQ ["signs"] zw)(cK:Da K mg "check_lengths_prices" "check_lengths" gI l42 dR dw)(vL:aI P w K mg base cO 1 dR dw l42 (wm K))(fK:Dn K mg "lowest_prices" n9 PL iX ia)(Cu:aI P w K mg base cO 4 iX ia PL (BF K))(b4:Dn K mg "lowest_price" mO Rb fF eT)(pU:aI P w K mg base cO 3 fF eT Rb (yq K))(jw:Dn K mg "all_unders" rZ l41 nP lD)(IT:aI P w K mg base cO 1 nP lD l41 (Js K))(gh:Dn K mg "unit_factors" pA ["unders"] jT iP)(Ew:aI P w K mg base cO 2 jT iP ["unders"] (F3 K))(jl:Dn K mg "product_of" rP ["factors"] nF lg)(II:aI P w K mg base cO 1 nF lg ["factors"] (Qn K))(fk:Dn K mg "costs_by_signs" m5 l43 iy gy)(BB:aI P w K mg base cO 2 iy gy l43 (Nj K))(fH:Dn K mg "by_unit" uN YH nN kJ)(xU:aI P w K mg base cO 1 nN kJ YH (Dg K)):aI P w K mg base cO 5 cF iE ZG (Qo K p.au):=by
 refine gB.fn.ok yw (λvs H Q E h=>?_) (λcdv A outer s H vs Q E hr h=>?_)
 ·obtain⟨x,dx,o,m,sg,c,rows,fo,fm,rfl,_⟩:=h;rfl
 ·obtain⟨x,dx,o,m,sg,c,rows,fo,fm,rfl,hx,hS,h12,hM,T4,hok,hfo,Sk,hfm,Sl,k⟩:=h;have S:=hS;obtain⟨q1,q2,q3,q4⟩:=S;refine⟨_,(ao (ee (gc FG hr g7 (aa (pv 1) ah)))
   (ao (ee (av vL (hr.mono (by decide)) rfl cK.m cK.fn.kp cK.b .nil aR (aa (pv 1) (aa (pv 2) ah))))
   (ao (lS (pv 0) (pv 1) rfl)
   (ao (lS (pv 0) (p5 (qN) rfl T.tw rq (aa (gM (N:=PL) rfl (λ_=>⟨[],cT.plain (by decide +kernel) rfl (by decide +kernel) (by decide +kernel)⟩) (zH (pv 2)) (λ_ _ _ _ _ _ _=>(aS (i:=0) (show(PL:List r_).Nodup by decide +kernel) rfl (Or.inl rfl))) (λ_ _ _ _ _ _ _=>(gc Cu hr fK (aa (pv 0) ah)))) ah)) rfl)
   (ao (lS (pv 0) (gc pU hr b4 (aa (pv 3) ah)) rfl)
   (ao (lS (pv 0) (gc pU hr b4 (aa (pv 4) ah)) rfl)
   (ao (lS (pv 0) (gc Ew hr gh (aa (gc IT hr jw (aa (bB (pv 0) rfl) (aa (bB (pv 0) rfl) (aa (bB (pv 0) rfl) ah)))) ah)) rfl)
   (ao (lS (pv 0) (gc II hr jl (aa (bB (pv 0) rfl) ah)) rfl)
   (ao (lS (pv 0) (gc BB hr fk (aa (bB (pv 0) rfl) (aa (bB (pv 0) rfl) (aa (bB (pv 0) rfl) ah)))) rfl)
   (ao (lS (pv 0) (gc xU hr fH (aa (bB (pv 0) rfl) (aa (bB (pv 0) rfl) ah))) rfl)
   (ak (lS (pv 0) (gc xU hr fH (aa (bB (pv 0) rfl) (aa (bB (pv 0) rfl) ah))) rfl)))))))))))),?_⟩
  refine⟨_,Y,sg,Y,hS,λH1 s1=>?_⟩;refine⟨_,Y,_,Y,sg,c,rows,Y,hM.dat (Dat.of s1),by omega,T4,?_⟩;have hx1:H1 x=some (.ins p.au dx []):=s1 _ _ hx;refine⟨_,Y,_,Y,x,_,dx,_,Y,hx1,T.bT,T.jG,by decide,?_⟩;generalize hH2:upd H1 x (.ins p.au dx (aX "signs" (.str sg) []))=H2;have hx2:H2 x=some (.ins p.au dx (aX "signs" (.str sg) [])):=by rw[←hH2];exact ai
  have f2:Off x H H2:=by rw[←hH2];exact(Off.of s1).trans Off.set
  obtain⟨nc,cs,ncs,hcs,hp⟩:=hM.dat (f2.dat hx);refine⟨_,Y,c,_,Y,hcs,λl O0=>?_⟩;refine⟨λi n ys H3=>n=rows.length-i/\i<=rows.length/\aj H2 H3/\H3 l=some (.lst ys)/\∃qs:List g_,ys=qs.map V.ref/\qs.length=i/\Paired (λq r=>rz K H3 (.tup q) r) qs ((Aw rows).take i),⟨rows.length,Y,X_ _,aj.upd O0,ai,[],Y,Y,.nil⟩,?_⟩;rintro i n ys H3 ⟨rfl,hi,s3,hl3,qs,rfl,hq,hP⟩;have zc:c.at K H3 (cs.map Cp.val):=aj.cp s3 hcs;have hcl:=Paired.len hp;by_cases hlt:i<rows.length
  ·have hci:i<cs.length:=by omega
   have e1:(cs.map Cp.val)[i]? =some cs[i].val:=by rw[n_,e_ hci];rfl
   refine .inr ⟨⟨_,_,zc,e1⟩,?_⟩;rintro y H4 ⟨rfl,hy⟩;have ey:=hy _ zc;rw[e1]at ey;cases ey;obtain⟨r,er,hr2⟩:=Paired.at hp (e_ hci);have hrm:=l_ er;refine⟨Kp.rep _ _,?_⟩;refine⟨_,Y,cs[i],r,Y,hr2.same s3,λf hf=>(hok r hrm f hf).1,by rw[T4.2 r hrm];omega,λq H5 s5 hqn hR=>?_⟩;have PM:H5 l=some (.lst (qs.map V.ref)):=s5 _ _ hl3;refine⟨PM,?_,rows.length-(i+1),by omega,Y,hlt,aj.at (s3.trans s5) O0,ai,qs++[q],by rw[P_];rfl,by rw[A_,hq];rfl,?_⟩
   ·rw[f_,hq];have:i<100:=by rw[T4.1]at hlt;omega
    exact K_ this (by decide)
   ·rw[show(Aw rows).take (i+1)=(Aw rows).take i++[r.map jI] from yf er];refine GP.Paired.snoc (Paired.qa hP λa b z=>?_) ?_
    ·exact(z.same s5).off PM
    ·exact hR.off PM
  ·have ei:i=rows.length:=by omega
   subst ei;refine .inl ⟨⟨_,zc,by rw[f_];omega⟩,?_⟩;refine⟨l,_,Y,.inl ⟨bY.of hl3,λPp hPn=>?_⟩⟩;generalize hH4:upd H3 Pp (.tup (qs.map V.ref))=H4;have s4:aj H2 H4:=by rw[←hH4];exact s3.trans (aj.upd hPn)
   have m4:Ip K H4 Pp (Aw rows):=by
    rw[←hH4];refine⟨qs,eK.of ai,?_⟩;rw[qaa (by unfold Aw;rw[f_];exact j_ _)]at hP;exact Paired.qa hP λa b z=>z.same (aj.upd hPn)
   have hx4:=s4 _ _ hx2;refine⟨_,Y,x,_,dx,_,Y,hx4,T.bT,T.mP,pl1,?_⟩;generalize hH5:upd H4 x (.ins p.au dx (aX "pairs" (.ref Pp) (aX "signs" (.str sg) [])))=H5;have hx5:H5 x=some (.ins p.au dx (aX "pairs" (.ref Pp) (aX "signs" (.str sg) []))):=by rw[←hH5];exact ai
   have f5:Off x H H5:=by rw[←hH5];exact(f2.trans (Off.of s4)).trans Off.set
   have d5:Dat H4 H5:=by rw[←hH5];exact Dat.set hx4
   refine⟨_,Y,o,fo,Y,hfo.dat (f5.dat hx),Sk.1,λo' ho'=>?_⟩;generalize hH6:upd H5 o' (.tup [.int (jI fo).1,.int (jI fo).2])=H6;have s6:aj H5 H6:=by rw[←hH6];exact aj.upd ho'
   have ho6:pV K H6 o' (jI fo):=by rw[←hH6];exact eK.of ai
   have hx6:=s6 _ _ hx5;refine⟨_,Y,x,_,dx,_,Y,hx6,T.bT,T.p6,pl2,?_⟩;generalize hH7:upd H6 x (.ins p.au dx (aX "opening" (.ref o') (aX "pairs" (.ref Pp) (aX "signs" (.str sg) []))))=H7;have hx7:H7 x=some (.ins p.au dx (aX "opening" (.ref o') (aX "pairs" (.ref Pp) (aX "signs" (.str sg) [])))):=by rw[←hH7];exact ai
   have f7:Off x H H7:=by rw[←hH7];exact(f5.trans (Off.of s6)).trans Off.set
   have d7:Dat H6 H7:=by rw[←hH7];exact Dat.set hx6
   refine⟨_,Y,m,fm,Y,hfm.dat (f7.dat hx),Sl.1,λm' hm'=>?_⟩;generalize hH8:upd H7 m' (.tup [.int (jI fm).1,.int (jI fm).2])=H8;have s8:aj H7 H8:=by rw[←hH8];exact aj.upd hm'
   have hm8:pV K H8 m' (jI fm):=by rw[←hH8];exact eK.of ai
   have hx8:=s8 _ _ hx7;refine⟨_,Y,x,_,dx,_,Y,hx8,T.bT,T.uq,pl3,?_⟩;generalize hH9:upd H8 x (.ins p.au dx (aX "more" (.ref m') (aX "opening" (.ref o') (aX "pairs" (.ref Pp) (aX "signs" (.str sg) [])))))=H9;have hx9:H9 x=some (.ins p.au dx (aX "more" (.ref m') (aX "opening" (.ref o') (aX "pairs" (.ref Pp) (aX "signs" (.str sg) []))))):=by rw[←hH9];exact ai
   have f9:Off x H H9:=by rw[←hH9];exact(f7.trans (Off.of s8)).trans Off.set
   have d9:Dat H8 H9:=by rw[←hH9];exact Dat.set hx8
   have e69:Dat H6 H9:=d7.trans ((Dat.of s8).trans d9);have e49:Dat H4 H9:=d5.trans ((Dat.of s6).trans e69);have M9:Ip K H9 Pp (Aw rows):=m4.dat e49;have O9:pV K H9 o' (jI fo):=ho6.dat e69;have m9:pV K H9 m' (jI fm):=hm8.dat d9;have ZA:∀r∈Aw rows,∀f∈r,Lc f:=HJ λr hr f hf=>wN (hok r hr f hf).1;have Yc:=Tp T4;refine⟨_,Y,x,_,_,_,_,Y,hx9,T.bT,T.mP,Q6,_,Y,x,_,_,_,_,Y,hx9,T.bT,T.p6,Ml,_,Y,x,_,_,_,_,Y,hx9,T.bT,T.uq,To,?_⟩;refine⟨Pp,o',m',Aw rows,jI fo,jI fm,Y,M9.mat,O9,m9,by rw[Yc.1];exact h12,λr hr=>by rw[Yc.2 r hr];exact h12,λl1 Ha sa hl1 hla=>?_⟩;have okU:∀n∈qP (jI fo) (jI fm) (Aw rows),ux n:=λn hn=>by
    have z:∀{f:cC},Lc f->ux f.2:=λq=>⟨by have:=q.1;omega,q.2⟩;rcases S_.mp hn with e|hn
    ·rw[e];exact z (wN Sk.1)
    rcases S_.mp hn with e|hn
    ·rw[e];exact z (wN Sl.1)
    obtain⟨f,hf,rfl⟩:=G_.mp hn;obtain⟨r,hr,hfr⟩:=qcg.mp hf;exact z (ZA r hr f hfr)
   have afK:(qP (jI fo) (jI fm) (Aw rows)).length<=1000:=by
    unfold qP;rw[qac,qac,f_,Ea Yc.2,Yc.1];have:sg.cps.size*sg.cps.size<=12*12:=qbb h12 h12;omega
   refine⟨l1,_,Y,bY.of hla,afK,okU,λfl Hb sb hfl hlb=>?_⟩;have FI:=Ui okU;have eU:yc (uT (qP (jI fo) (jI fm) (Aw rows))).1=aO (jI fo).2 (jI fm).2 (Aw rows):=by rw[FI.prod,FI.unit,Jf]
   have hsm:=FI.small;generalize (uT (qP (jI fo) (jI fm) (Aw rows))).1=fcs at hlb eU hsm;clear FI;have hxb:=sb _ _ (sa _ _ hx9);refine⟨_,Y,x,_,dx,_,Y,hxb,T.bT,T.p7,pl4,?_⟩;generalize hHc:upd Hb x (.ins p.au dx (aX "factors" (.ref fl) (aX "more" (.ref m') (aX "opening" (.ref o') (aX "pairs" (.ref Pp) (aX "signs" (.str sg) []))))))=Hc;have hxc:Hc x=some (.ins p.au dx (aX "factors" (.ref fl) (aX "more" (.ref m') (aX "opening" (.ref o') (aX "pairs" (.ref Pp) (aX "signs" (.str sg) [])))))):=by rw[←hHc];exact ai
   have fc:Off x H Hc:=by rw[←hHc];exact((f9.trans (Off.of sa)).trans (Off.of sb)).trans Off.set
   have dc:Dat H9 Hc:=by rw[←hHc];exact((Dat.of sa).trans (Dat.of sb)).trans (Dat.set hxb)
   have abA:Hc fl=some (.lst (fcs.map V.int)):=by rw[←hHc];exact Dat.set hxb fl _ (λ_ _ _ z=>by cases z) hlb
   refine⟨_,Y,x,_,_,_,_,Y,hxc,T.bT,T.p7,Mm,fl,fcs,Y,bY.of abA,hsm,?_⟩;have up:=P1 (wN Sk.1) (wN Sl.1) ZA;have ub:=P6 h12 Yc (wN Sk.1) (wN Sl.1) ZA;have ZC:∀{f:cC},OkH f->OkB (aO (jI fo).2 (jI fm).2 (Aw rows)) (jI f):=λz=>⟨wN z.1,Tq z.2,Bu.div ub _⟩;rw[eU];generalize hu:aO (jI fo).2 (jI fm).2 (Aw rows)=u at *;refine⟨_,Y,x,_,dx,_,Y,hxc,T.bT,T.qJ,pl5,?_⟩;generalize Y4:upd Hc x (.ins p.au dx (aX "unit" (.int u) (aX "factors" (.ref fl) (aX "more" (.ref m') (aX "opening" (.ref o') (aX "pairs" (.ref Pp) (aX "signs" (.str sg) [])))))))=Ct;have TZ:Ct x=some (.ins p.au dx (aX "unit" (.int u) (aX "factors" (.ref fl) (aX "more" (.ref m') (aX "opening" (.ref o') (aX "pairs" (.ref Pp) (aX "signs" (.str sg) []))))))):=by rw[←Y4];exact ai
   have f10:Off x H Ct:=by rw[←Y4];exact fc.trans Off.set
   have abU:Dat Hc Ct:=by rw[←Y4];exact Dat.set hxc
   have ZN:Dat H9 Ct:=dc.trans abU;have abB:Ct fl=some (.lst (fcs.map V.int)):=abU fl _ (λ_ _ _ z=>by cases z) abA;refine⟨_,Y,x,_,_,_,_,Y,TZ,T.bT,T.jG,Q5,_,Y,x,_,_,_,_,Y,TZ,T.bT,T.mP,OJ,_,Y,x,_,_,_,_,Y,TZ,T.bT,T.qJ,Tn,?_⟩;refine⟨sg,Pp,u,Aw rows,Y,M9.dat ZN,q2,q4,Yc,HJ λr hr f hf=>ZC (hok r hr f hf),λd UC kvs s11 hdn agq hc=>?_⟩;have YO:=s11 _ _ TZ;refine⟨_,Y,x,_,dx,_,Y,YO,T.bT,T.wH,pl6,?_⟩;generalize Ua:upd UC x (.ins p.au dx (aX "costs" (.ref d) (aX "unit" (.int u) (aX "factors" (.ref fl) (aX "more" (.ref m') (aX "opening" (.ref o') (aX "pairs" (.ref Pp) (aX "signs" (.str sg) []))))))))=UB;have TY:UB x=some (.ins p.au dx (mS sg Pp o' m' u (d,fl))):=by rw[←Ua];exact ai
   have d12:Dat Ct UB:=by rw[←Ua];exact(Dat.of s11).trans (Dat.set YO)
   have f12:Off x H UB:=by rw[←Ua];exact(f10.trans (Off.of s11)).trans Off.set
   have agp:UB d=some (.dT kvs):=by rw[←Ua];exact Dat.set YO d _ (λ_ _ _ z=>by cases z) agq
   obtain⟨w1,w2,w3⟩:=ZC Sk;obtain⟨y1,y2,y3⟩:=ZC Sl;refine⟨_,Y,x,_,_,_,_,Y,TY,T.bT,T.p6,Fc,_,Y,x,_,_,_,_,Y,TY,T.bT,T.qJ,D8,o',jI fo,u,Y,(O9.dat ZN).dat d12,w1,w2.bg,w3.bg,?_⟩;refine⟨_,Y,x,_,dx,_,Y,TY,T.bT,T.vq,pl7,?_⟩;generalize Y3:upd UB x (.ins p.au dx (aX "opening_units" (.int ((jI fo).1*(u / (jI fo).2))) (mS sg Pp o' m' u (d,fl))))=Zv;have Rk:Zv x=some (.ins p.au dx (aX "opening_units" (.int ((jI fo).1*(u / (jI fo).2))) (mS sg Pp o' m' u (d,fl)))):=by rw[←Y3];exact ai
   have d13:Dat UB Zv:=by rw[←Y3];exact Dat.set TY
   have f13:Off x H Zv:=by rw[←Y3];exact f12.trans Off.set
   refine⟨_,Y,x,_,_,_,_,Y,Rk,T.bT,T.uq,(yh (by decide +kernel)).trans MC,_,Y,x,_,_,_,_,Y,Rk,T.bT,T.qJ,(yh (by decide +kernel)).trans D8,m',jI fm,u,Y,((m9.dat ZN).dat d12).dat d13,y1,y2.bg,y3.bg,?_⟩;refine⟨_,Y,x,_,dx,_,Y,Rk,T.bT,T.rK,pl8,?_⟩;have d14:Dat Ct (upd Zv x (.ins p.au dx (D9 sg Pp o' m' u (d,fl) ((jI fo).1*(u / (jI fo).2)) ((jI fm).1*(u / (jI fm).2))))):=d12.trans (d13.trans (Dat.set Rk));have f14:Off x H (upd Zv x (.ins p.au dx (D9 sg Pp o' m' u (d,fl) ((jI fo).1*(u / (jI fo).2)) ((jI fm).1*(u / (jI fm).2))))):=f13.trans Off.set;refine k _ ⟨hS,Yc,?_,?_,?_,?_,?_,dx,Pp,o',m',(d,fl),kvs,?_,(M9.dat ZN).dat d14,(O9.dat ZN).dat d14,(m9.dat ZN).dat d14,?_,?_,fcs,hsm,?_,?_⟩ f14 (λc0 hc0 C' RK fs' hx' hl'=>?_)
   ·rw[hu];exact HJ λr hr f hf=>ZC (hok r hr f hf)
   ·rw[hu];exact ZC Sk
   ·rw[hu];exact ZC Sl
   ·rw[hu];exact up
   ·rw[hu];exact ub
   ·rw[hu];exact ai
   ·exact(d13.trans (Dat.set Rk)) d _ (λ_ _ _ z=>by cases z) agp
   ·rw[hu];exact hc
   ·rw[hu];exact eU
   ·exact d14 fl _ (λ_ _ _ z=>by cases z) abB
   ·rw[ai]at hx';cases hx';have e:fl=c0:=V.ref.inj (V_ ((sr (x:=sg) (P:=Pp) (o:=o') (m:=m') (u:=u) (d:=(d,fl))).symm.trans hl'));subst e
    cases q:H fl with
    |none=>exact hc0 q
    |some u0 =>
     by_cases ex:fl=x
     ·rw[ex,sa _ _ hx9]at hfl;cases hfl
     ·rw[(f9.trans (Off.of sa)) fl u0 q ex]at hfl;cases hfl
end
section
variable{P:I_}{w:W_}{K:PySem.W.Frag}{mg:r_->Option i_}{base:qad}
theorem JY {eZ:g_}{dI:B_}{p:Pm}(T:Txt K mg p w)(bH:Dn K mg "_law_next" oB E8 eZ dI)  :aI P w K mg base cO 1 eZ dI E8 (Dd K):=by
 refine bH.fn.ok tH (λvs H Q E h=>?_) (λcdv A outer s H vs Q E hr h=>?_)
 ·obtain⟨s,t,ns,k,rfl,_⟩:=h;rfl
 ·obtain⟨s,t,ns,k,rfl,hC,hk2,kk⟩:=h;have hS:=hC.scr;have I0:=hC.aah;have ht:=hC.at_;have hk:=hC.k0;refine⟨_,(ao (AM (aQ fC (bu cj (pv 1) aq (λ_ _=>rfl)) aq) (Hf (pv 1) aq set_list))
   (ao (Z9X 2 tH.nd aq)
   (ao (cN (bf DA (aG (aW) rfl T.cV bO (aa (pv 0) ah)) aq (bC _)) (ak (Z9X 2 tH.nd (bu cj (pv 0) (aQ eV (bu cj (pv 1) aq (λ_ _=>rfl)) (aG (aW) rfl T.cV bO (aa (pv 0) ah))) (λ_ _=>rfl)))) br)
   (ao (Z9X 3 tH.nd (aQ eV (aQ rF (aQ fC (aQ fC (aQ eV (pv 2) aq) (aQ rF (aQ rF (bu cj (pv 1) aq (λ_ _=>rfl)) (bu cj (pv 1) aq (λ_ _=>rfl))) aq)) aq) aq) aq))
   (ak (aP (aQ eV (aQ rF (pv 3) (pv 3)) aq))))))),?_⟩
  refine⟨_,Y,t,_,_,_,Y,Y,bY.of ht,Y,_,_,Y,Y,_,Y,t,_,_,0,Y,Y,ht,Y,?_⟩;have hq:bY K (upd H t (.lst [.int (k+1)])) s (ns.map V.int):=I0 _;refine⟨_,Y,_,_,Y,.inl ⟨_,hq,Y⟩,_,_,Y,Y,_,Y,?_⟩;have fin:∀c:Int,∀m1:Int,m1=(c % 2147483647+(k+1)*(k+1)*7919+11)*48271 % 2147483647->Q (.int (m1*m1 % 1999999973)) (upd H t (.lst [.int (k+1)])):=λc m1 _ =>
   kk _ (qao _ (by decide)) (qah _ (by decide))
  have rest:∀c:Int,Q (.int (((c % 2147483647+(k+1)*(k+1)*7919+11)*48271 % 2147483647)*((c % 2147483647+(k+1)*(k+1)*7919+11)*48271 % 2147483647) % 1999999973)) (upd H t (.lst [.int (k+1)])):=λc=>fin c _ rfl;have Y6:bY K (upd H t (.lst [.int (k+1)])) t [.int (k+1)]:=bY.of ai;refine gw (λh0=>?_) (λh0=>?_)
  ·have hn:0<ns.length:=by rw[f_]at h0;omega
   have i1:=qao (k+1) (show((ns.length:Nat):Int)≠0 by omega);have i2:=qah (k+1) (show(0:Int)<((ns.length:Nat):Int) by omega);obtain⟨j,hj⟩:∃j:Nat,(k+1) % ((ns.length:Nat):Int)=(j:Int):=⟨_,(qaB i1).symm⟩;have hjl:j<ns.length:=by omega
   refine⟨_,Y,_,Y,t,_,_,_,Y,Y,Y6,Y,_,Y,_,_,Y,.inl ⟨_,hq,Y⟩,_,_,Y,Y,(by show(0:Int)<(((ns.map V.int).length:Nat):Int);rw[f_];omega),?_⟩;refine⟨s,_,_,.int ns[j],Y,Y,hq,?_,?_⟩
   ·rw[f_,hj];exact cG (by rw[n_,e_ hjl];rfl)
   ·refine⟨_,Y,_,_,Y,Y,(by show(0:Int)<_;decide),?_⟩;refine⟨_,Y,t,_,_,_,Y,Y,Y6,Y,_,Y,t,_,_,_,Y,Y,Y6,Y,_,_,Y,Y,.inl ⟨by omega,by omega⟩,_,_,Y,Y,.inr ⟨by decide,by decide⟩,_,_,Y,Y,_,_,Y,Y,_,_,Y,Y,.inr ⟨by decide,by decide⟩,_,_,Y,Y,(by show(0:Int)<_;decide),?_⟩;have m0:=qao ((ns[j] % 2147483647+(k+1)*(k+1)*7919+11)*48271) (show(2147483647:Int)≠0 by decide);have m1:=qah ((ns[j] % 2147483647+(k+1)*(k+1)*7919+11)*48271) (show(0:Int)<2147483647 by decide);exact⟨_,Y,_,Y,_,_,Y,Y,.inl ⟨by omega,by omega⟩,_,_,Y,Y,(by show(0:Int)<_;decide),rest _⟩
  ·refine⟨_,Y,_,_,Y,Y,(by show(0:Int)<_;decide),?_⟩;refine⟨_,Y,t,_,_,_,Y,Y,Y6,Y,_,Y,t,_,_,_,Y,Y,Y6,Y,_,_,Y,Y,.inl ⟨by omega,by omega⟩,_,_,Y,Y,.inr ⟨by decide,by decide⟩,_,_,Y,Y,_,_,Y,Y,_,_,Y,Y,.inr ⟨by decide,by decide⟩,_,_,Y,Y,(by show(0:Int)<_;decide),?_⟩;have m0:=qao (((0:Int) % 2147483647+(k+1)*(k+1)*7919+11)*48271) (show(2147483647:Int)≠0 by decide);have m1:=qah (((0:Int) % 2147483647+(k+1)*(k+1)*7919+11)*48271) (show(0:Int)<2147483647 by decide);exact⟨_,Y,_,Y,_,_,Y,Y,.inl ⟨by omega,by omega⟩,_,_,Y,Y,(by show(0:Int)<_;decide),rest _⟩
end
section
variable{P:I_}{w:W_}{K:PySem.W.Frag}{mg:r_->Option i_}{base:qad}
end
def IF(K:PySem.W.Frag)(H:Hp)(t l:g_)(n:Nat)(k:Int)(H2:Hp):Prop:=fD λrs rows=>Am K (Wo t H2) l rs rows/\Sy n rows/\(∀r∈rows,∀f∈r,ZQ f)/\(∀r∈rs,H r=none)/\aj (Wo t H) (Wo t H2)/\H2 t=some (.lst [.int k])
section
variable{P:I_}{w:W_}{K:PySem.W.Frag}{mg:r_->Option i_}{base:qad}
end
section
variable{P:I_}{w:W_}{K:PySem.W.Frag}{mg:r_->Option i_}{base:qad}
end
section
variable{P:I_}{w:W_}{K:PySem.W.Frag}{mg:r_->Option i_}{base:qad}
theorem Hq {oV:g_}{m8:B_}{p:Pm}(T:Txt K mg p w)(ko:Dn K mg "things_at" tK l44 oV m8)  :aI P w K mg base cO 1 oV m8 l44 (C9 K):=by
 refine ko.fn.ok GX (λvs H Q E h=>?_) (λcdv A outer s H vs Q E hr h=>?_)
 ·obtain⟨v,rs,n,rfl,_⟩:=h;rfl
 ·obtain⟨v,rs,n,rfl,hR,hS,hn,k⟩:=h;obtain⟨c,rfl,hc⟩:=hR.cp;have hz:rs.length<z_:=s_ hS.len (by decide);refine⟨_,(ak (aP (tS PySem.F.plainAttrs_str PySem.F.slot_str_join PySem.F.type_str_join HE dQ (aa (gM (N:=["text","place"]) Y (cT.rL (nt:=1) (ix:=[1]) Y (by decide +kernel) (by decide +kernel) (by kernel_rfl) Y (by kernel_rfl)) (zH (pv 0)) (λ_ _ _ _ _ _ _=>(aS (i:=0) (show(["text","place"]:List r_).Nodup by decide +kernel) Y (Or.inl Y))) (λ_ _ _ _ _ _ _=>(bu wX (pv 0) (pv 1) (λ_ _=>rfl)))) ah)))),?_⟩;refine⟨Y,_,Y,c,_,Y,hc _ (aj.refl _),λl hl=>?_⟩;refine nV rs.length (λi=>sg ((rs.getD i ⟨#[]⟩).cps.toList.getD n 0)) hl hz (λi H2 s2 hi=>?_) (λH2 s2=>?_) (λi x H2 H3 R s2 hi y hR=>?_) λH2 s2 hl2=>?_
  ·exact⟨_,_,hc _ s2,by rw[n_,e_ hi];rfl⟩
  ·exact⟨_,hc _ s2,by rw[f_];exact j_ _⟩
  ·obtain⟨rfl,y⟩:=y;have e:=y _ (hc _ s2);rw[n_,e_ hi]at e;cases e;have hm:=x_ hi;have hn':n<rs[i].cps.toList.length:=by rw[o_];exact hn _ hm
   refine⟨Kp.vd,?_⟩;refine⟨_,Y,_,Y,_,_,rs[i].cps.toList[n],Y,Y,m_ (hS.row _ hm) (by decide),cG (e_ hn'),?_⟩;have e2:rs[i].cps.toList[n]=(rs.getD i ⟨#[]⟩).cps.toList.getD n 0:=by
    have e3:rs.getD i ⟨#[]⟩=rs[i]:=by rw[L_,e_ hi,qaS]
    rw[e3,L_,e_ hn',qaS]
   rw[e2];exact hR _ (aj.refl _)
  ·refine⟨l,ff rs n,Y,Y,?_,?_,k H2 s2⟩
   ·have e:(E_ rs.length).map (λi=>sg ((rs.getD i ⟨#[]⟩).cps.toList.getD n 0))=(ff rs n).map sg:=by
     unfold ff;rw[qaf];refine qaZ (by simp) λi h1 h2=>?_;have hi:i<rs.length:=by simpa using h1
     simp[L_,e_ hi]
    rw[e]at hl2;exact bY.of hl2
   ·unfold ff;rw[f_];exact m_ hS.len (by decide)
theorem Oz {kZ oV:g_}{iQ m8:B_}{p:Pm}(T:Txt K mg p w)(fO:Dn K mg "turned" uL TL kZ iQ)(ko:Dn K mg "things_at" tK l44 oV m8)(Ld:aI P w K mg base cO 1 oV m8 l44 (C9 K)):aI P w K mg base cO 2 kZ iQ TL (zq K):=by
 refine fO.fn.ok Oj (λvs H Q E h=>?_) (λcdv A outer s H vs Q E hr h=>?_)
 ·obtain⟨v,rs,n,rfl,_⟩:=h;rfl
 ·obtain⟨v,rs,n,rfl,hR,hS,hn,hw,k⟩:=h;refine⟨_,(ak (aP (gM (N:=["place","texts"]) Y (cT.rL (nt:=1) (ix:=[0]) Y (by decide +kernel) (by decide +kernel) (by kernel_rfl) Y (by kernel_rfl)) (iN Y T.lT (aa (pv 1) ah)) (λ_ _ _ _ _ _ _=>(aS (i:=0) (show(["place","texts"]:List r_).Nodup by decide +kernel) Y (Or.inl Y))) (λ_ _ _ _ _ _ _=>(gc Ld hr ko (aa (pv 1) (aa (pv 0) ah))))))),?_⟩;refine⟨_,Y,n,Y,by omega,by omega,λl hl=>?_⟩;refine nV n (λi=>V.str (iK rs i)) hl (s_ hn (by decide)) (λi H2 s2 hi=>?_) (λH2 s2=>?_) (λi x H2 H3 R s2 hi y hR'=>?_) λH2 s2 hl2=>?_
  ·show i<((n:Nat):Int).toNat;omega
  ·show((n:Nat):Int).toNat<=n;omega
  ·obtain⟨rfl,rfl⟩:=y;refine⟨Kp.vd,?_⟩;refine⟨_,Y,_,Y,v,rs,i,?_,hR.same s2,hS,λr hr=>K_ hi (hw r hr),λH5 s5=>hR' H5 s5⟩;rw[qaW];rfl
  ·refine k l H2 s2 hl ?_;rw[hl2];unfold cols;rw[qaf];rfl
theorem E2 {c5 kZ:g_}{cM iQ:B_}{p:Pm}(T:Txt K mg p w)(bA:Dn K mg "columns_of" kH BN c5 cM)(fO:Dn K mg "turned" uL TL kZ iQ)(xw:aI P w K mg base cO 2 kZ iQ TL (zq K)):aI P w K mg base cO 3 c5 cM BN (uH K):=by
 refine bA.fn.ok EM (λvs H Q E h=>?_) (λcdv A outer s H vs Q E hr h=>?_)
 ·obtain⟨v,rs,rfl,_⟩:=h;rfl
 ·obtain⟨v,rs,rfl,hR,hS,hl,k⟩:=h;obtain⟨hne,hw⟩:=bG.mp hl;refine⟨_,(ak (aP (gc xw hr fO (aa (pv 0) (aa (aG (aW) Y T.cV bO (aa (bu DY (pv 0) aq (λ_ _=>rfl)) ah)) ah))))),?_⟩
  cases rs with
  |nil=>exact absurd Y hne
  |cons r0 rs =>
   have h0:=hS.row r0 (D_ ..);refine⟨_,Y,_,Y,hR.ix (i:=0) Y ?_⟩;refine⟨_,_,Y,⟨m_ h0 (by decide),Y⟩,v,_,r0.cps.size,Y,hR,hS,h0,λr hr=>by rw[hw r hr];exact j_ _,λl H' s' hn hl'=>k l H' s' hn hl'⟩
theorem Mc {nK:g_}{kI:B_}{p:Pm}(T:Txt K mg p w)(iz:Dn K mg "is_gaps" uM OS nK kI)  :aI P w K mg base cO 1 nK kI OS Df:=by
 refine iz.fn.ok LO (λvs H Q E h=>?_) (λcdv A outer s H vs Q E hr h=>?_)
 ·obtain⟨x,rfl,_⟩:=h;rfl
 ·obtain⟨x,rfl,hx,k⟩:=h;refine⟨_,(ak (aP (vo nS (pv 0) (aQ Hi (eE (v:=.str (w_ "-")) Y T.z5 ⟨_,Y⟩) (aG (aW) Y T.cV bO (aa (pv 0) ah))) (bC _)))),?_⟩;refine⟨_,Y,_,Y,_,_,Y,⟨m_ hx (by decide),Y⟩,_,_,Y,Y,by show(-1000000:Int)<=((x.cps.size:Nat):Int);omega,by show((x.cps.size:Nat):Int)<=1000000;omega,by decide,?_,Y,?_⟩
  ·show((x.cps.size:Nat):Int).toNat*1<=z_;exact m_ (show _<=1000 by omega) (by decide)
  ·rw[Ud];exact k
theorem JV {eY:g_}{dH:B_}{p:Pm}(T:Txt K mg p w)(bP:Dn K mg "signs_of" oA Ra eY dH)  :aI P w K mg base cO 1 eY dH Ra uG:=by
 refine bP.fn.ok JF (λvs H Q E h=>?_) (λcdv A outer s H vs Q E hr h=>?_)
 ·obtain⟨x,rfl,_⟩:=h;rfl
 ·obtain⟨x,rfl,hx,k⟩:=h;refine⟨_,(ak (aP (Ox (pv 0) Y T.z5))),?_⟩;exact⟨_,Y,x,Y,by omega,k⟩
theorem E3 {nO eY jh:g_}{lC dH gR:B_}{p:Pm}(T:Txt K mg p w)(jv:Dn K mg "are_things" rY PL nO lC)(bP:Dn K mg "signs_of" oA Ra eY dH)(mU:aI P w K mg base cO 1 eY dH Ra uG)(fu:Dn K mg "are_signs" qU PK jh gR)(xB:aI P w K mg base cO 2 jh gR PK yr):aI P w K mg base cO 3 nO lC PL BG:=by
 refine jv.fn.ok EN (λvs H Q E h=>?_) (λcdv A outer s H vs Q E hr h=>?_)
 ·obtain⟨x,rfl,_⟩:=h;rfl
 ·obtain⟨x,rfl,hx,k⟩:=h;refine⟨_,(ak (aP (gc xB hr fu (aa (gc mU hr bP (aa (pv 0) ah)) ah)))),?_⟩;refine⟨_,Y,x,Y,hx,_,Y,?_,k⟩;show(x.cps.toList.filter (· != 45)).length<=1000;exact m_ (qaI _ _) (by rw[o_];exact hx)
end
section
variable{P:I_}{w:W_}{K:PySem.W.Frag}{mg:r_->Option i_}{base:qad}
theorem uQ {dS:g_}{dB:B_}{p:Pm}(T:Txt K mg p w)(cL:Da K mg "check_lengths_blocks" "check_lengths" gJ BN dS dB)  :aI P w K mg base (sZ P w) 1 dS dB BN (F5 K p.bK (λ_=>true) mR):=by
 refine cL.fn.BK oO (λvs H Q E h=>?_) (λcdv A outer s H vs Q E hr h=>?_)
 ·obtain⟨v,rs,rfl,_⟩:=h;rfl
 ·obtain⟨v,rs,rfl,hR,hS,_,k,kX⟩:=h;obtain⟨c,rfl,hc⟩:=hR.cp;refine⟨_,(ao (cN (bf nS (aG (aW) Y T.cV bO (aa (pv 0) ah)) aq (bC _)) (ak (qY fB T.uX Y Y T.sU (aa dQ ah))) br)
   (ak (dP m7 rfl (zH (pv 0)) (Z9Y 1 oO.nd) (ak (cN (bf vR (aG (aW) rfl T.cV bO (aa (pv 1) ah)) (aG (aW) rfl T.cV bO (aa (bu DY (pv 0) aq (λ_ _=>rfl)) ah)) (bC _)) (ak (qY fB T.uX rfl rfl T.sU (aa dQ ah))) br))))),?_⟩
  refine⟨_,Y,_,_,Y,hR.len,Y,_,Y,?_⟩
  cases rs with
  |nil=>exact qb ⟨b_,kX Y H (aj.refl _)⟩
  |cons r0 rs =>
   refine mj ?_;have h0:=hS.row r0 (D_ ..);refine⟨_,Y,c,_,Y,hc _ (aj.refl _),D6 (K:=K) (xs:=(r0::rs).map V.str) (λi σ H2=>H2=H/\∃v1,σ=[some c.val,v1]/\∀r∈(r0::rs).take i,r.cps.size=r0.cps.size) ⟨Y,_,Y,λr hr=>(by cases hr)⟩ (λi σ H2 _ ⟨e,_⟩=>by rw[e];exact hc _ (aj.refl _)) ?_ ?_⟩
   ·rintro i x σ H2 hx ⟨rfl,v1,rfl,hw⟩;rw[n_]at hx;obtain⟨r,hr,rfl⟩:=qaL.mp hx;have hm:=l_ hr;have h1:=hS.row r hm;refine⟨_,Y,_,_,Y,⟨m_ h1 (by decide),Y⟩,_,Y,hR.ix (i:=0) Y ⟨_,_,Y,⟨m_ h0 (by decide),Y⟩,Y,_,Y,?_⟩⟩;by_cases z:r.cps.size=r0.cps.size
    ·rw[decide_eq_true (show V.int ((r.length:Nat):Int)=V.int ((r0.length:Nat):Int) by show V.int ((r.cps.size:Nat):Int)=_;rw[z];rfl)];refine mj ⟨Y,_,Y,λr' hr'=>?_⟩;rw[List.take_succ,hr]at hr';rcases qab.mp hr' with hr'|hr'
     ·exact hw r' hr'
     ·rw[F_.mp hr'];exact z
    ·rw[decide_eq_false (λe=>z (by injection e with e;have e':((r.cps.size:Nat):Int)=((r0.cps.size:Nat):Int):=e;omega))];refine qb ⟨b_,kX ?_ _ (aj.refl _)⟩;rw[qb6];exact λe=>z ((bG.mp e).2 r hm)
   ·rintro σ H2 ⟨rfl,v1,rfl,hw⟩;rw[f_,qbP]at hw;exact k (bG.mpr ⟨by simp,hw⟩) _ (aj.refl _)
theorem Cf {jY nO:g_}{iV lC:B_}{p:Pm}(T:Txt K mg p w)(gp:Dn K mg "check_things" pK BN jY iV)(jv:Dn K mg "are_things" rY PL nO lC)(IS:aI P w K mg base cO 3 nO lC PL BG):aI P w K mg base (sZ P w) 4 jY iV BN (F5 K p.bK (λ_=>true) (λrs=>rs.all jB)):=by
 refine gp.fn.BK vP (λvs H Q E h=>?_) (λcdv A outer s H vs Q E hr h=>?_)
 ·obtain⟨v,rs,rfl,_⟩:=h;rfl
 ·obtain⟨v,rs,rfl,hR,hS,_,k,kX⟩:=h;obtain⟨c,rfl,hc⟩:=hR.cp;refine⟨_,(ak (dP m7 Y (zH (pv 0)) (Z9Y 1 vP.nd) (ak (cN (jy (gD (gc IS hr jv (aa (pv 1) ah)))) (ak (qY fB T.uX Y Y T.sU (aa dQ ah))) br)))),?_⟩;refine⟨_,Y,c,_,Y,hc _ (aj.refl _),D6 (K:=K) (xs:=rs.map V.str) (λi σ H2=>aj H H2/\∃v1,σ=[some c.val,v1]/\∀r∈rs.take i,jB r=true) ⟨aj.refl _,_,Y,λr hr=>(by cases hr)⟩ (λi σ H2 _ ⟨e,_⟩=>hc _ e) ?_ ?_⟩
  ·rintro i x σ H2 hx ⟨s2,v1,rfl,hw⟩;rw[n_]at hx;obtain⟨r,hr,rfl⟩:=qaL.mp hx;have hm:=l_ hr;refine⟨_,Y,r,Y,hS.row r hm,λH3 s3=>⟨_,Y,?_⟩⟩
   cases z:jB r with
   |true =>
    refine kY ⟨s2.trans s3,_,Y,λr' hr'=>?_⟩;rw[List.take_succ,hr]at hr';rcases qab.mp hr' with hr'|hr'
    ·exact hw r' hr'
    ·rw[F_.mp hr'];exact z
   |false =>
    refine zY ⟨b_,kX ?_ _ (s2.trans s3)⟩;rw[qb6];exact λe=>by rw[v_]at e;rw[e r hm]at z;cases z
  ·rintro σ H2 ⟨s2,v1,rfl,hw⟩;rw[f_,qbP]at hw;exact k (v_.mpr hw) _ s2
theorem AU {i6 c5 nK:g_}{iu cM kI:B_}{p:Pm}(T:Txt K mg p w)(fN:Dn K mg "check_columns" om BN i6 iu)(bA:Dn K mg "columns_of" kH BN c5 cM)(jj:aI P w K mg base cO 3 c5 cM BN (uH K))(iz:Dn K mg "is_gaps" uM OS nK kI)(BA:aI P w K mg base cO 1 nK kI OS Df):aI P w K mg base (sZ P w) 4 i6 iu BN (F5 K p.bK mR Aa):=by
 refine fN.fn.BK uK (λvs H Q E h=>?_) (λcdv A outer s H vs Q E hr h=>?_)
 ·obtain⟨v,rs,rfl,_⟩:=h;rfl
 ·obtain⟨v,rs,rfl,hR,hS,hl,k,kX⟩:=h;refine⟨_,(ak (dP m7 Y (ja (gc jj hr bA (aa (pv 0) ah))) (Z9Y 1 uK.nd) (ak (cN (gD (gc BA hr iz (aa (pv 1) ah))) (ak (qY fB T.uX Y Y T.sU (aa dQ ah))) br)))),?_⟩;refine⟨_,Y,v,rs,Y,hR,hS,hl,λl H1 s1 hn hl1=>?_⟩;refine⟨l,Y,⟨_,bY.of hl1⟩,sV (K:=K) (xs:=(cols rs (ck rs)).map V.str) (λi σ H2=>aj H1 H2/\∃v1,σ=[some v,v1]/\∀r∈(cols rs (ck rs)).take i,(!c6 r)=true) ⟨aj.refl _,_,Y,λr hr=>(by cases hr)⟩ (λi σ H2 _ ⟨e,_⟩=>bY.of (e _ _ hl1)) ?_ ?_⟩
  ·rintro i x σ H2 hx ⟨s2,v1,rfl,hw⟩;rw[n_]at hx;obtain⟨r,hr,rfl⟩:=qaL.mp hx;have hm:=l_ hr;have hr1:r.cps.size<=1000:=by
    unfold cols at hm;obtain⟨j,_,rfl⟩:=G_.mp hm;show(ff rs j).length<=1000;unfold ff;rw[f_];exact m_ hS.len (by decide)
   refine⟨_,Y,r,Y,hr1,_,Y,?_⟩
   cases z:c6 r with
   |true =>
    refine qb ⟨b_,kX ?_ _ (s1.trans s2)⟩;rw[qb6];exact λe=>by
     unfold Aa at e;rw[v_]at e;have:=e r hm;rw[z]at this;cases this
   |false =>
    refine mj ⟨s2,_,Y,λr' hr'=>?_⟩;rw[List.take_succ,hr]at hr';rcases qab.mp hr' with hr'|hr'
    ·exact hw r' hr'
    ·rw[F_.mp hr',z];rfl
  ·rintro σ H2 ⟨s2,v1,rfl,hw⟩;rw[f_,qbP]at hw;exact k (v_.mpr hw) _ (s1.trans s2)
end
section
variable{P:I_}{w:W_}{K:PySem.W.Frag}{mg:r_->Option i_}{base:qad}
end
section
variable{P:I_}{w:W_}{K:PySem.W.Frag}{mg:r_->Option i_}{base:qad}
end
section
variable{P:I_}{w:W_}{K:PySem.W.Frag}{mg:r_->Option i_}{base:qad}
theorem B6 {fE:g_}{eS:B_}{p:Pm}(T:Txt K mg p w)(cS:Dn K mg "place_behind" mJ YF fE eS)  :aI P w K mg base cO 1 fE eS YF (Di K):=by
 refine cS.fn.ok vO (λvs H Q E h=>?_) (λcdv A outer s H vs Q E hr h=>?_)
 ·obtain⟨q,c,ij,rfl,_⟩:=h;rfl
 ·obtain⟨q,c,ij,rfl,hq,hc,k⟩:=h
  refine⟨_,(ao (cN (bf JU (pv 1) (eE (v:=.ref p.nR) Y T.HW Y) (by with_unfolding_all rfl)) pZ br)
   (ao (Z9X 2 vO.nd (Nv (eE (v:=.ref p.nR) rfl T.HW rfl) (pv 1) (λ_ _=>rfl)))
   (ak (aP (gK (aa (aQ fC (bu cQ (pv 0) aq (λ_ _=>rfl)) (bu cQ (pv 2) aq (λ_ _=>rfl))) (aa (aQ fC (bu cQ (pv 0) aq (λ_ _=>rfl)) (bu cQ (pv 2) aq (λ_ _=>rfl))) ah))))))),?_⟩
  obtain⟨v,f,hv,hf,e⟩:fD λ(v:g_) (f:cC)=>mq [(Sum.inr (w_ "p"),V.ref p.kT),(Sum.inr (w_ "a"),V.ref p.kR),(Sum.inr (w_ "b"),V.ref p.kQ)] (Sum.inr ⟨#[c]⟩:Key)=some (.ref v)/\(∀H:Hp,eK K H v [.int f.1,.int f.2])/\stp ij c=(ij.1+f.1,ij.2+f.2):=by
   rcases hc with rfl|rfl|rfl
   ·exact⟨p.kT,(1,1),gf (show(Sum.inr (w_ "p"):Key)=Sum.inr ⟨#[112]⟩ by decide +kernel),T.JO,Y⟩
   ·exact⟨p.kR,(1,0),(gg (show ¬(Sum.inr (w_ "p"):Key)=Sum.inr ⟨#[97]⟩ by decide +kernel)).trans (gf (show(Sum.inr (w_ "a"):Key)=Sum.inr ⟨#[97]⟩ by decide +kernel)),T.JN,Y⟩
   ·exact⟨p.kQ,(0,1),(gg (show ¬(Sum.inr (w_ "p"):Key)=Sum.inr ⟨#[98]⟩ by decide +kernel)).trans ((gg (show ¬(Sum.inr (w_ "a"):Key)=Sum.inr ⟨#[98]⟩ by decide +kernel)).trans (gf (show(Sum.inr (w_ "b"):Key)=Sum.inr ⟨#[98]⟩ by decide +kernel))),T.JM,Y⟩
  refine⟨_,Y,p.nR,_,.inr ⟨#[c]⟩,Y,Y,T.DW P,_,Y,?_⟩;rw[hv];refine kY ?_;refine⟨_,Y,p.nR,_,.inr ⟨#[c]⟩,_,Y,Y,T.DW P,hv,?_⟩;refine⟨_,Y,_,_,_,_,Y,Y,hq,Y,_,Y,_,_,_,_,Y,Y,hf _,Y,_,_,Y,Y,_,Y,_,_,_,_,Y,Y,hq,Y,_,Y,_,_,_,_,Y,Y,hf _,Y,_,_,Y,Y,c_,λr hr=>?_⟩;have z:=k r hr;rw[e]at z;exact z
end
section
variable{P:I_}{w:W_}{K:PySem.W.Frag}{mg:r_->Option i_}{base:qad}
theorem yH {bS:g_}{iF:B_}{p:Pm}(T:Txt K mg p w)(gC:Dm K "__init__" "NoSign.__init__" d8 ZF bS iF)  :aI P w K mg base (sZ P w) 1 bS iF ZF (Jv p.aE):=by
 refine gC.fn.BK yx (λvs H Q E h=>?_) (λcdv A outer s H vs Q E hr h=>?_)
 ·obtain⟨e,i,j,rfl,_⟩:=h;rfl
 ·obtain⟨e,i,j,rfl,he,hi,hj,k⟩:=h;obtain⟨fI,xc⟩:=T.N7;refine⟨_,(ao (ee (S7 T.EG Y T.yd (aa (pv 0) (aa (S6 (CG dQ (CG (QL (pv 1)) (CG dQ (CG (QL (pv 2)) Yo))))) ah))))
   (ao (Nu (pv 0) (pv 1) rfl)
   (ak (Nu (pv 0) (pv 2) rfl)))),?_⟩
  have li:=Gf hi;have lj:=Gf hj;have ti:=PyProof.Rows.int_text_len_1921 li;have tj:=PyProof.Rows.int_text_len_1921 lj;have l0:(qcF++w_ "no sign that may stand there: row ").length<=50:=by decide
  have l1:=Ia l0 ti;have l2:=Ia l1 (show(w_ ", place ").length<=20 by decide);have l3:=Ia l2 tj;refine⟨_,Y,_,Y,m_ l0 (by decide),_,Y,_,Y,li,_,Y,m_ l1 (by decide),_,Y,m_ l2 (by decide),_,Y,_,Y,lj,_,Y,m_ l3 (by decide),m_ l3 (by decide),?_⟩;refine⟨e,p.aE,fI,none,_,Y,he,xc,?_⟩;refine⟨_,Y,_,Y,e,p.aE,Y,T.FO,T.zO,.inl ⟨he,λdx hdx=>?_⟩⟩;have ne:dx≠e:=λz=>by rw[z,he]at hdx;cases hdx
  refine⟨_,Y,_,Y,e,p.aE,Y,T.FO,T.wI,.inr ⟨dx,_,by rw[aH (Ne.symm ne),ai],ai,pl1,?_⟩⟩;refine k dx _ (λb u hb O2=>?_) hdx (by rw[aH (Ne.symm ne),aH (Ne.symm ne),ai]) ai;have nb:b≠dx:=λz=>by rw[z,hdx]at hb;cases hb
  rw[aH nb,aH nb,aH O2,aH nb];exact hb
theorem zM {aD dS jY i6:g_}{aT dB iV iu:B_}{p:Pm}(T:Txt K mg p w)(aU:Dm K "__init__" "Block.__init__" bR IY aD aT)(cL:Da K mg "check_lengths_blocks" "check_lengths" gJ BN dS dB)(vM:aI P w K mg base (sZ P w) 1 dS dB BN (F5 K p.bK (λ_=>true) mR))(gp:Dn K mg "check_things" pK BN jY iV)(EC:aI P w K mg base (sZ P w) 4 jY iV BN (F5 K p.bK (λ_=>true) (λrs=>rs.all jB)))(fN:Dn K mg "check_columns" om BN i6 iu)(Cy:aI P w K mg base (sZ P w) 4 i6 iu BN (F5 K p.bK mR Aa)):aI P w K mg base (sZ P w) 5 aD aT IY (tG K p.aJ p.bK):=by
 refine aU.fn.BK zD (λvs H Q E h=>?_) (λcdv A outer s H vs Q E hr h=>?_)
 ·obtain⟨b,dx,v,rs,rfl,_⟩:=h;rfl
 ·obtain⟨b,dx,v,rs,rfl,hb,hR,hS,k,kX⟩:=h;refine⟨_,(ao (ee (av vM (hr.mono (by decide)) Y cL.m cL.fn.kp cL.b .nil (Lets.passes fB) (aa (pv 1) ah)))
   (ao (ee (av EC (hr.mono (by decide)) rfl gp.m gp.fn.kp gp.b .nil (Lets.passes fB) (aa (pv 1) ah)))
   (ao (ee (av Cy (hr.mono (by decide)) rfl fN.m fN.fn.kp fN.b .nil (Lets.passes fB) (aa (pv 1) ah)))
   (ak (lS (pv 0) (p5 (qN) rfl T.tw rq (aa (pv 1) ah)) rfl))))),?_⟩
  refine⟨_,Y,v,rs,Y,hR,hS,Y,λe1 H1 s1=>?_,λe1 H1 s1=>kX (by unfold cR;rw[e1];rfl) H1 s1⟩;refine⟨_,Y,v,rs,Y,hR.same s1,hS,Y,λe2 H2 s2=>?_,λe2 H2 s2=>kX (by have U9:rs.all jB=false:=e2;unfold cR;rw[U9,qcs,qb_]) H2 (s1.trans s2)⟩;refine⟨_,Y,v,rs,Y,(hR.same s1).same s2,hS,e1,λe3 H3 s3=>?_,λe3 H3 s3=>kX (by unfold cR;rw[e3,qb_,qb_]) H3 ((s1.trans s2).trans s3)⟩;have s03:=(s1.trans s2).trans s3;have Su:=s03 _ _ hb;have hall:cR rs=true:=by have U9:rs.all jB=true:=e2;unfold cR;rw[e1,U9,e3];rfl
  obtain⟨a,rfl,hq⟩:=hR.same s03;refine⟨_,Y,a,rs.map V.str,Y,?_⟩;rcases hq with hq|hq
  ·refine .inl ⟨hq,λq hqn=>⟨_,Y,b,_,dx,[],Y,?_,T.cW,T.bx,by show 0<1000;decide,?_⟩⟩
   ·exact aj.upd hqn _ _ Su
   ·have nb:q≠b:=λz=>by rw[z,Su]at hqn;cases hqn
    refine k hall _ (λa' u h1 h2=>?_) ⟨dx,q,ai,.inl (.inl (by rw[aH nb,ai]))⟩;rw[aH h2];exact aj.upd hqn _ _ (s03 _ _ h1)
  ·refine .inr ⟨hq,_,Y,b,_,dx,_,Y,Su,T.cW,T.bx,by show 0<1000;decide,?_⟩;refine k hall _ (λa' u h1 h2=>?_) ⟨dx,a,ai,eK.afv Su hq⟩;rw[aH h2];exact s03 _ _ h1
theorem JW {qe:g_}{oQ:B_}{p:Pm}(T:Txt K mg p w)(mW:Dn K mg "_law_with" vf l45 qe oQ)  :aI P w K mg base cO 1 qe oQ l45 Qk:=by
 refine mW.fn.ok JG (λvs H Q E h=>?_) (λcdv A outer s H vs Q E hr h=>?_)
 ·obtain⟨r,z,k,rfl,_⟩:=h;rfl
 ·obtain⟨r,z,k,rfl,hk,hr,hz,kk⟩:=h;have hz2:r.length<=z_:=m_ hr (by decide);have e1:=QA (x:=r) (k:=(k:Int)) (by omega) (by omega);have e2:=QB (x:=r) (k:=(k:Int)+1) (by omega) (by omega);rw[show((k:Int)+1).toNat=k+1 by omega]at e2;rw[qay]at e1;have l1:(Txt.slice r none (some (k:Int))).cps.size<=1000:=by rw[←o_,e1,qai,o_];omega
  have l2:(Txt.slice r (some ((k:Int)+1)) none).cps.size<=1000:=by rw[←o_,e2,qa8,o_];omega
  refine⟨_,(ak (aP (aQ oE (aQ oE (kW AH (pv 0) pM (m6 (pv 1))) (pv 2)) (kW AH (pv 0) (m6 (aQ fC (pv 1) aq)) pM)))),?_⟩;refine⟨_,Y,_,Y,_,Y,r,Y,hz2,_,Y,_,_,Y,Y,m_ (show _<=2000 from Nat.add_le_add l1 (show z.cps.size<=1000 by omega)) (by decide),?_⟩;refine⟨_,Y,_,Y,_,_,Y,Y,_,Y,r,Y,hz2,_,_,Y,Y,?_,kk _ ?_⟩
  ·show(Txt.slice r none (some (k:Int))++z).cps.size+(Txt.slice r (some ((k:Int)+1)) none).cps.size<=z_;rw[uZ];exact m_ (show _<=3000 by omega) (by decide)
  ·rw[rD,rD,e1,e2]
theorem DL {lO bS:g_}{jR iF:B_}{p:Pm}(T:Txt K mg p w)(g8:Dn K mg "check_known" qG l46 lO jR)(gC:Dm K "__init__" "NoSign.__init__" d8 ZF bS iF)(Eu:XMk K p.aE bS)(As:aI P w K mg base (sZ P w) 1 bS iF ZF (Jv p.aE)):aI P w K mg base (sZ P w) 3 lO jR l46 (Jx K p.aE):=by
 refine g8.fn.BK mH (λvs H Q E h=>?_) (λcdv A outer s H vs Q E hr h=>?_)
 ·obtain⟨sg,v,rs,rfl,_⟩:=h;rfl
 ·obtain⟨sg,v,rs,rfl,hR,hS,kq,k⟩:=h;obtain⟨c0,rfl,hc⟩:=hR.cp
  refine⟨_,(ak (dP m7 Y (zG Y T.qO (aa (pv 1) ah)) (um (n:=2) Y (fh (Z9Y 2 mH.nd) (fh (Z9Y 3 mH.nd) qI))) (ak (dP m7 Y (zG Y T.qO (aa (pv 3) ah)) (um (n:=2) Y (fh (Z9Y 4 mH.nd) (fh (Z9Y 5 mH.nd) qI))) (ak (cN (bf Hj (pv 5) (pv 0) (by with_unfolding_all rfl)) (ak (Ot fB Eu As (hr.mono (by decide)) gC.b Y Y T.Gd (aa (pv 2) (aa (pv 4) ah)))) br)))))),?_⟩
  refine⟨_,Y,c0,_,Y,hc _ (aj.refl _),wY (K:=K) (c:=c0) (xs:=rs.map V.str) (λi σ H2=>yj λv2 v3 v4 v5=>σ=[some (.str sg),some c0.val,v2,v3,v4,v5]/\aj H H2/\∀m r,m<i->rs[m]? =some r->Of sg r) ⟨_,_,_,_,Y,aj.refl _,λm r z=>absurd z (qa6 _)⟩ (λi σ H2 _ ⟨_,_,_,_,_,s2,_⟩=>hc _ s2) ?_ ?_⟩
  ·rintro i y p1 σ H2 hy hp1 ⟨v2,v3,v4,v5,rfl,s2,hb4⟩;obtain⟨z,hzr,rfl⟩:=pN hy;have hz:=hS.row z (l_ hzr);have hi:i<rs.length:=(q_.mp hzr).1;have hl:=hS.len;refine⟨p1,_,Y,eK.of ai,Y,_,_,Y,_,_,Y,Y,?_⟩;refine⟨_,Y,.txt z,_,Y,Y,wY (K:=K) (c:=.txt z) (xs:=iC z) (λj σ H3=>fD λv4 v5=>σ=[some (.str sg),some c0.val,some (.int (i:Int)),some (.str z),v4,v5]/\aj H H3/\∀k c,k<j->z.cps[k]? =some c->c∈sg.cps.toList) ⟨_,_,Y,s2.trans (aj.upd hp1),λk c z=>absurd z (qa6 _)⟩ (λj σ H3 _ _=>rfl) ?_ ?_⟩
   ·rintro j y p2 σ H3 hy hp2 ⟨v4,v5,rfl,s3,hp⟩;obtain⟨c,hc,rfl⟩:=signs_get hy;have hj:=MH hc;have s4:=s3.trans (aj.upd (o:=.tup [.int (j:Int),.str ⟨#[c]⟩]) hp2);refine⟨p2,_,Y,eK.of ai,Y,_,_,Y,_,_,Y,Y,?_⟩;refine⟨_,Y,_,Y,_,_,Y,Y,_,Y,?_⟩;rw[StrLaws.found_one];by_cases hm:c∈sg.cps.toList
    ·rw[decide_eq_true hm];refine kY ⟨_,_,Y,s4,λk d hk hd=>?_⟩;by_cases z:k=j
     ·subst z;rw[hc]at hd;cases hd;exact hm
     ·exact hp k d (by omega) hd
    ·rw[decide_eq_false hm];refine zY ⟨_,Y,_,Y,c_,λe hn=>?_⟩;have hne:H e=none:=aj.free s4 hn;refine⟨e,i,j,Y,ai,by omega,by omega,λdx H' hk hdx hx hd=>⟨Y,some dx,hx,k i j ⟨⟨z,c,hzr,hc,hm,hp⟩,hb4⟩ dx _ (λb u hb=>?_) ?_⟩⟩
     ·have nb:b≠e:=λz=>by rw[z,hne]at hb;cases hb
      rw[wZ nb];exact hk b u (by rw[aH nb];exact s4 b u hb) nb
     ·have ne:dx≠e:=λz=>by rw[z,ai]at hdx;cases hdx
      rw[wZ ne];exact hd
   ·rintro σ H3 ⟨v4,v5,rfl,s3,hp⟩;have oz:Of sg z:=λc hc=>by
     obtain⟨k,hk,e⟩:=qaA hc;have hk':k<z.cps.size:=by simpa using hk
     exact hp k c (by rw[signs_length];exact hk') (by rw[←U_,e_ hk,e])
    refine⟨_,_,_,_,Y,s3,λm r hm hr=>?_⟩;by_cases z:m=i
    ·subst z;rw[hzr]at hr;cases hr;exact oz
    ·exact hb4 m r (by omega) hr
  ·rintro σ H2 ⟨v2,v3,v4,v5,rfl,s2,hb4⟩;refine kq (λr hr=>?_) H2 s2;obtain⟨m,hm,e⟩:=qaA hr;exact hb4 m r (by rw[f_];exact hm) (by rw[e_ hm,e])
theorem xY {bW lO:g_}{bN jR:B_}{p:Pm}(T:Txt K mg p w)(bq:Dn K mg "check_block_rows" fQ TF bW bN)(g8:Dn K mg "check_known" qG l46 lO jR)(FH:aI P w K mg base (sZ P w) 3 lO jR l46 (Jx K p.aE)):aI P w K mg base (sZ P w) 4 bW bN TF (tF K p.au p.aE):=by
 refine bq.fn.BK xV (λvs H Q E h=>?_) (λcdv A outer s H vs Q E hr h=>?_)
 ·obtain⟨x,sg,rows,fo,fm,v,rs,rfl,_⟩:=h;rfl
 ·obtain⟨x,sg,rows,fo,fm,v,rs,rfl,⟨sig,_,_,_,_,_,_,dx,Pp,o,m,d,kvs,h1,h2,h3,h4,h5,h6⟩,hR,hS,kq,k⟩:=h;refine⟨_,(ak (ee (av FH (hr.mono (by decide)) Y g8.m g8.fn.kp g8.b .nil (Lets.passes fB) (aa (aQ oE (bB (pv 0) Y) (eE (v:=.str (w_ "-")) Y T.z5 ⟨_,Y⟩)) (aa (pv 1) ah))))),?_⟩;have hz:sg.cps.size+1<=z_:=m_ (Nat.add_le_add_right sig.2.1 1) (by decide);exact⟨_,Y,x,_,_,_,_,Y,h1,T.bT,T.jG,vB,_,_,Y,Y,hz,_,Y,qL sg,v,rs,Y,hR,hS,kq,k⟩
end
section
variable{P:I_}{w:W_}{K:PySem.W.Frag}{mg:r_->Option i_}{base:qad}
theorem EO {gS dM dJ:g_}{fY cZ cY:B_}{p:Pm}(T:Txt K mg p w)(dU:Dn K mg "thing_cost" pB IZ gS fY)(bQ:Dn K mg "more_cost" mL Lk dM cZ)(mV:aI P w K mg base cO 2 dM cZ Lk (De K p.au))(bF:Dn K mg "pair_cost" mK IZ dJ cY)(ki:aI P w K mg base cO 1 dJ cY IZ (sM K p.au)):aI P w K mg base cO 3 gS fY IZ (zu K p.au):=by
 refine dU.fn.ok EK (λvs H Q E h=>?_) (λcdv A outer s H vs Q E hr h=>?_)
 ·obtain⟨x,sg,rows,fo,fm,a,b,rfl,_⟩:=h;rfl
 ·obtain⟨x,sg,rows,fo,fm,a,b,rfl,hP,ha,hb,k⟩:=h;refine⟨_,(ao (cN (PW.pt (G6 (bf nS (pv 1) (eE (v:=.str (w_ "-")) Y T.z5 ⟨_,Y⟩) (bC _)) (CF (bf nS (pv 2) (eE (v:=.str (w_ "-")) Y T.z5 ⟨_,Y⟩) (bC _))))) (ak (aP aq)) br)
   (ao (cN (PW.pt (qW (bf nS (pv 1) (eE (v:=.str (w_ "-")) rfl T.z5 ⟨_,rfl⟩) (bC _)) (sQ (bf nS (pv 2) (eE (v:=.str (w_ "-")) rfl T.z5 ⟨_,rfl⟩) (bC _))))) (ak (aP (gc mV hr bQ (aa (pv 0) ah)))) br)
   (ak (aP (gc ki hr bF (aa (pv 0) (aa (pv 1) (aa (pv 2) ah)))))))),?_⟩
  refine⟨_,Y,Y,_,Y,?_⟩;rw[Fb];by_cases ea:a=45
  ·rw[decide_eq_true ea];refine qb ⟨_,Y,Y,_,Y,?_⟩;rw[Fb];by_cases eb:b=45
   ·rw[decide_eq_true eb];refine qb ?_;have z:=k H (aj.refl _);rw[Ay ea eb]at z;exact z
   ·rw[decide_eq_false eb];refine mj ⟨_,Y,Y,_,Y,?_⟩;rw[Fb,decide_eq_true ea];refine qb ⟨_,Y,x,sg,rows,fo,fm,Y,hP,?_⟩;have z:=k H (aj.refl _);rw[zm (λq=>eb q.2) (.inl ea)]at z;exact z
  ·rw[decide_eq_false ea];refine mj (mj ⟨_,Y,Y,_,Y,?_⟩);rw[Fb,decide_eq_false ea];refine mj ⟨_,Y,Y,_,Y,?_⟩;rw[Fb];by_cases eb:b=45
   ·rw[decide_eq_true eb];refine qb ⟨_,Y,x,sg,rows,fo,fm,Y,hP,?_⟩;have z:=k H (aj.refl _);rw[zm (λq=>ea q.1) (.inr eb)]at z;exact z
   ·rw[decide_eq_false eb];obtain⟨i,j,f,k1,k2,k3,k4⟩:=wD (u:=aO fo.2 fm.2 rows) hP.UL ((lX.mp ha).resolve_left ea) ((lX.mp hb).resolve_left eb);refine mj ⟨_,Y,_,Y,_,Y,x,sg,rows,fo,fm,i,j,a,b,f,Y,hP,k1,k2,k3,λH' s'=>?_⟩;have z:=k H' s';rw[Jj ea eb,k4]at z;exact z
theorem Hu {oW dM dJ:g_}{nj cZ cY:B_}{p:Pm}(T:Txt K mg p w)(ku:Dn K mg "_law_thing" tL l47 oW nj)(bQ:Dn K mg "more_cost" mL Lk dM cZ)(mV:aI P w K mg base cO 2 dM cZ Lk (De K p.au))(bF:Dn K mg "pair_cost" mK IZ dJ cY)(ki:aI P w K mg base cO 1 dJ cY IZ (sM K p.au)):aI P w K mg base cO 3 oW nj l47 (zu K p.au):=by
 refine ku.fn.ok G1 (λvs H Q E h=>?_) (λcdv A outer s H vs Q E hr h=>?_)
 ·obtain⟨x,sg,rows,fo,fm,a,b,rfl,_⟩:=h;rfl
 ·obtain⟨x,sg,rows,fo,fm,a,b,rfl,hP,ha,hb,k⟩:=h;refine⟨_,(ao (cN (PW.pt (G6 (bf nS (pv 1) dQ (bC _)) (CF (bf nS (pv 2) dQ (bC _))))) (ak (aP aq)) br)
   (ao (cN (PW.pt (qW (bf nS (pv 1) dQ (bC _)) (sQ (bf nS (pv 2) dQ (bC _))))) (ak (aP (gc mV hr bQ (aa (pv 0) ah)))) br)
   (ak (aP (gc ki hr bF (aa (pv 0) (aa (pv 1) (aa (pv 2) ah)))))))),?_⟩
  refine⟨_,Y,Y,_,Y,?_⟩;rw[Fb];by_cases ea:a=45
  ·rw[decide_eq_true ea];refine qb ⟨_,Y,Y,_,Y,?_⟩;rw[Fb];by_cases eb:b=45
   ·rw[decide_eq_true eb];refine qb ?_;have z:=k H (aj.refl _);rw[Ay ea eb]at z;exact z
   ·rw[decide_eq_false eb];refine mj ⟨_,Y,Y,_,Y,?_⟩;rw[Fb,decide_eq_true ea];refine qb ⟨_,Y,x,sg,rows,fo,fm,Y,hP,?_⟩;have z:=k H (aj.refl _);rw[zm (λq=>eb q.2) (.inl ea)]at z;exact z
  ·rw[decide_eq_false ea];refine mj (mj ⟨_,Y,Y,_,Y,?_⟩);rw[Fb,decide_eq_false ea];refine mj ⟨_,Y,Y,_,Y,?_⟩;rw[Fb];by_cases eb:b=45
   ·rw[decide_eq_true eb];refine qb ⟨_,Y,x,sg,rows,fo,fm,Y,hP,?_⟩;have z:=k H (aj.refl _);rw[zm (λq=>ea q.1) (.inr eb)]at z;exact z
   ·rw[decide_eq_false eb];obtain⟨i,j,f,k1,k2,k3,k4⟩:=wD (u:=aO fo.2 fm.2 rows) hP.UL ((lX.mp ha).resolve_left ea) ((lX.mp hb).resolve_left eb);refine mj ⟨_,Y,_,Y,_,Y,x,sg,rows,fo,fm,i,j,a,b,f,Y,hP,k1,k2,k3,λH' s'=>?_⟩;have z:=k H' s';rw[Jj ea eb,k4]at z;exact z
theorem DJ {lM gS:g_}{jP fY:B_}{p:Pm}(T:Txt K mg p w)(g6:Dn K mg "column_cost" qD l48 lM jP)(dU:Dn K mg "thing_cost" pB IZ gS fY)(vI:aI P w K mg base cO 3 gS fY IZ (zu K p.au)):aI P w K mg base cO 4 lM jP l48 (F4 K p.au):=by
 refine g6.fn.ok mG (λvs H Q E h=>?_) (λcdv A outer s H vs Q E hr h=>?_)
 ·obtain⟨x,sg,rows,fo,fm,c,rfl,_⟩:=h;rfl
 ·obtain⟨x,sg,rows,fo,fm,c,rfl,hP,hO,hc,k⟩:=h;have hz:c.length<=z_:=m_ hc (by decide);refine⟨_,(ao (Z9X 2 mG.nd aq)
   (ao (dP Q_ rfl (zG rfl T.qO (aa (pv 1) ah)) (um (n:=2) rfl (fh (Z9Y 3 mG.nd) (fh (aS (i:=4) mG.nd rfl (Or.inr rfl)) qI))) (ak (Z9X 2 mG.nd (aQ fC (pv 2) (aG (qi (K':=K) rfl rfl) rfl T.CL y9 (aa (gM (N:=l66) rfl (cT.rL (nt:=1) (ix:=[0,4]) rfl (by decide +kernel) (by decide +kernel) (by kernel_rfl) rfl (by kernel_rfl)) (uh (kW AH (pv 1) pM (m6 (pv 3)))) (λ_ _ _ _ _ _ _=>(aS (i:=0) (show(l66:List r_).Nodup by decide +kernel) rfl (Or.inl rfl))) (λ_ _ _ _ _ _ _=>(gc vI hr dU (aa (pv 1) (aa (pv 0) (aa (pv 2) ah)))))) ah))))))
   (ak (aP (pv 2))))),?_⟩
  refine⟨_,Y,.txt c,_,Y,Y,wY (K:=K) (c:=.txt c) (xs:=iC c) (λi σ H2=>fD λv3 v4=>σ=[some (.ref x),some (.str c),some (.int (vY (pX sg rows fo fm) c.cps.toList i)),v3,v4]/\aj H H2) ⟨_,_,Y,aj.refl _⟩ (λi σ H2 _ _=>rfl) ?_ ?_⟩
  ·rintro i y p1 σ H2 hy hp1 ⟨v3,v4,rfl,s2⟩;obtain⟨d,hd,rfl⟩:=signs_get hy;have hi:=MH hd;have hdl:c.cps.toList[i]? =some d:=by rw[U_];exact hd
   have s3:=s2.trans (aj.upd (o:=.tup [.int (i:Int),.str ⟨#[d]⟩]) hp1);have e1:=JC c i;have e2:(Txt.slice c none (some (i:Int))).cps.size=i:=by rw[←o_,e1,qai,o_];omega
   refine⟨p1,_,Y,eK.of ai,Y,_,_,Y,_,_,Y,Y,?_⟩;refine⟨_,Y,_,Y,_,Y,_,Y,c,Y,hz,_,Y,λl hl=>?_⟩;refine nV i (λj=>V.int (pX sg rows fo fm (c.cps.toList.getD j 0) d)) hl (s_ (show i<=100 by omega) (by decide)) (λj H4 s4 hj=>?_) (λH4 s4=>?_) (λj y H4 H5 R s4 hj hy hR=>?_) λH4 s4 Bj=>?_
   ·show j<(Txt.slice c none (some (i:Int))).cps.size;omega
   ·show(Txt.slice c none (some (i:Int))).cps.size<=i;omega
   ·obtain⟨rfl,e,he,rfl⟩:=hy;have he':c.cps.toList[j]? =some e:=by
     rw[←U_,e1,List.getElem?_take,if_pos hj]at he;exact he
    refine⟨Kp.vd,?_⟩;refine⟨_,Y,_,Y,_,Y,x,sg,rows,fo,fm,e,d,Y,hP.same (s3.trans s4),hO _ (l_ he'),hO _ (l_ hdl),λH6 s6=>?_⟩;have z:=hR H6 s6;rw[bz he']at z;exact z
   ·refine⟨l,(E_ i).map λj=>pX sg rows fo fm (c.cps.toList.getD j 0) d,Y,bY.of (by rw[Bj,qaf];rfl),_,_,Y,Y,some (.int (i:Int)),some (.str ⟨#[d]⟩),?_,s3.trans s4⟩;have e3:vY (pX sg rows fo fm) c.cps.toList (i+1)=vY (pX sg rows fo fm) c.cps.toList i+((E_ i).map λj=>pX sg rows fo fm (c.cps.toList.getD j 0) d).sum:=by
     rw[uI];show vY (pX sg rows fo fm) c.cps.toList i+sm (λj=>pX sg rows fo fm (c.cps.toList.getD j 0) (c.cps.toList.getD i 0)) i=_;rw[bz hdl]
    rw[e3];rfl
  ·rintro σ H2 ⟨v3,v4,rfl,s2⟩;rw[signs_length];exact⟨_,Y,k H2 s2⟩
theorem DM {lP lM c5:g_}{jS jP cM:B_}{p:Pm}(T:Txt K mg p w)(g9:Dn K mg "block_units" qH So lP jS)(g6:Dn K mg "column_cost" qD l48 lM jP)(FF:aI P w K mg base cO 4 lM jP l48 (F4 K p.au))(bA:Dn K mg "columns_of" kH BN c5 cM)(jj:aI P w K mg base cO 3 c5 cM BN (uH K)):aI P w K mg base cO 5 lP jS So (Dh K p.au p.aJ):=by
 refine g9.fn.ok Dt (λvs H Q E h=>?_) (λcdv A outer s H vs Q E hr h=>?_)
 ·obtain⟨x,b,sg,rows,fo,fm,rs,rfl,_⟩:=h;rfl
 ·obtain⟨x,b,sg,rows,fo,fm,rs,rfl,hP,⟨dx,q,hb,hq⟩,hS,hl,hO,k⟩:=h;obtain⟨hne,hw⟩:=bG.mp hl;refine⟨_,(ak (aP (aG (qi (K':=K) Y Y) Y T.CL y9 (aa (gM (N:=["column","prices"]) Y (cT.rL (nt:=1) (ix:=[0]) Y (by decide +kernel) (by decide +kernel) (by kernel_rfl) Y (by kernel_rfl)) (ja (gc jj hr bA (aa (bB (pv 1) Y) ah))) (λ_ _ _ _ _ _ _=>(aS (i:=0) (show(["column","prices"]:List r_).Nodup by decide +kernel) Y (Or.inl Y))) (λ_ _ _ _ _ _ _=>(gc FF hr g6 (aa (pv 1) (aa (pv 0) ah))))) ah)))),?_⟩;refine⟨_,Y,b,_,dx,_,_,Y,hb,T.cW,T.bx,fz,.ref q,rs,Y,⟨q,Y,.inr hq⟩,hS,hl,λl0 H1 s1 hn1 hl1=>?_⟩;have T3:ck rs<=1000:=by
   obtain⟨r0,hr0⟩:=List.exists_mem_of_ne_nil rs hne;rw[←hw r0 hr0];exact hS.row r0 hr0
  refine⟨l0,Y,⟨_,bY.of hl1⟩,λl hl2=>?_⟩;refine nV (ck rs) (λj=>V.int (vY (pX sg rows fo fm) (ff rs j) rs.length)) hl2 (s_ T3 (by decide)) (λj H4 s4 hj=>?_) (λH4 s4=>?_) (λj y H4 H5 R s4 hj hy hR=>?_) λH4 s4 Bj=>?_
  ·exact⟨_,_,bY.of (s4 _ _ hl1),by rw[n_,xT hj];rfl⟩
  ·exact⟨_,bY.of (s4 _ _ hl1),by rw[f_];unfold cols;rw[f_,qan];exact j_ _⟩
  ·obtain⟨rfl,hy⟩:=hy;have ey:=hy _ (bY.of (s4 _ _ hl1));rw[n_,xT hj]at ey;cases ey;have e1:(iK rs j).cps.toList=ff rs j:=rfl;have e2:(iK rs j).cps.size=rs.length:=f_ ..;refine⟨Kp.vd,?_⟩;refine⟨_,Y,_,Y,x,sg,rows,fo,fm,iK rs j,Y,hP.same (s1.trans s4),λc hc=>?_,by rw[e2];exact hS.len,λH6 s6=>?_⟩
   ·rw[e1]at hc;obtain⟨r,hr,rfl⟩:=G_.mp (show c∈rs.map λr=>r.cps.toList.getD j 0 from hc);have hj':j<r.cps.toList.length:=by rw[o_,hw r hr];exact hj
    rw[bz (e_ hj')];exact hO r hr _ (x_ hj')
   ·rw[e1,e2];exact hR H6 s6
  ·refine⟨l,(E_ (ck rs)).map λj=>vY (pX sg rows fo fm) (ff rs j) rs.length,Y,bY.of (by rw[Bj,qaf];rfl),?_⟩;have z:=k H4 (s1.trans s4);unfold kN at z;rw[←uI]at z;exact z
end
section
variable{P:I_}{w:W_}{K:PySem.W.Frag}{mg:r_->Option i_}{base:qad}
theorem Hv {oX eZ:g_}{nk dI:B_}{p:Pm}(T:Txt K mg p w)(kB:Dn K mg "_law_signs" tM l49 oX nk)(bH:Dn K mg "_law_next" oB E8 eZ dI)(kO:aI P w K mg base cO 1 eZ dI E8 (Dd K)):aI P w K mg base cO 2 oX nk l49 (Jt K):=by
 refine kB.fn.ok o9 (λvs H Q E h=>?_) (λcdv A outer s H vs Q E hr h=>?_)
 ·obtain⟨s,t,ns,k,n,rfl,_⟩:=h;rfl
 ·obtain⟨s,t,ns,k,n,rfl,hC,hk,hn,kk⟩:=h;refine⟨_,(ao (aN (i:=3) o9.nd Y (Or.inr Y) dQ)
   (ao (aN (i:=3) o9.nd rfl (Or.inr rfl) (aQ oE (pv 3) dQ))
   (ao (aN (i:=4) o9.nd rfl (Or.inr rfl) (gc kO hr bH (aa (pv 0) (aa (pv 1) ah))))
   (ao (aN (i:=5) o9.nd rfl (Or.inr rfl) (bu cj (jz (aa aq (aa aq (aa aq (aa aq (aa aq (aa aq ah))))))) (aQ eV (pv 4) aq) (λ_ _=>rfl)))
   (ak (aP (tS PySem.F.plainAttrs_str PySem.F.slot_str_join PySem.F.type_str_join HE dQ (aa (gM (N:=l68) rfl (cT.rL (nt:=1) (ix:=[3,4,5]) rfl (by decide +kernel) (by decide +kernel) (by kernel_rfl) rfl (by kernel_rfl)) (iN rfl T.lT (aa (pv 2) ah)) (λ_ _ _ _ _ _ _=>(aS (i:=0) (show(l68:List r_).Nodup by decide +kernel) rfl (Or.inl rfl))) (λ_ _ _ _ _ _ _=>(bu wX (pv 1) (aQ eV (aQ fC (aQ eO (pv 2) aq) (aQ rF (pv 0) (pv 3))) aq) (λ_ _=>rfl)))) ah)))))))),?_⟩
  refine⟨_,Y,_,_,Y,Y,(by decide +kernel),?_⟩;obtain⟨S,hS⟩:∃S:r_,S=w_ " !#$&'()*+,./0123456789:;<=>?@ABCDEFGHIJKLMNOPQRSTUVWXYZ" ++w_ "[\\]^_`abcdefghijklmnopqrstuvwxyz{|}~" :=⟨_,rfl⟩;have PN:S.cps.size=92:=by rw[hS];kernel_rfl
  have I0:S.cps.all gO=true:=by rw[hS];kernel_rfl
  have hS3:S.cps.toList.Nodup:=D3 (by rw[hS];kernel_rfl);rw[←hS];refine⟨_,Y,_,Y,s,t,ns,k,Y,hC,hk,λm hm hm2=>?_⟩;refine⟨by show 6<=z_;decide,λq hq=>?_⟩;have s1:aj (upd H t (.lst [.int (k+1)])) (upd (upd H t (.lst [.int (k+1)])) q (.lst [.int 1,.int 3,.int 5,.int 7,.int 9,.int 11])):=aj.upd hq;have hq1:upd (upd H t (.lst [.int (k+1)])) q (.lst [.int 1,.int 3,.int 5,.int 7,.int 9,.int 11]) q=some (.lst [.int 1,.int 3,.int 5,.int 7,.int 9,.int 11]):=ai;generalize upd (upd H t (.lst [.int (k+1)])) q (.lst [.int 1,.int 3,.int 5,.int 7,.int 9,.int 11])=H1 at s1 hq1 ⊢;obtain⟨tv,htv,⟨ht1,EF⟩,hat⟩:∃tv:Int,(tv=1\/tv=3\/tv=5\/tv=7\/tv=9\/tv=11)/\(0<=tv/\tv<=11)/\MP [V.int 1,.int 3,.int 5,.int 7,.int 9,.int 11] (m % 6)=some (.int tv):=by
   have h1:=qao m (show(6:Int)≠0 by decide);have h2:=qah m (show(0:Int)<6 by decide);have e:m % 6=0\/m % 6=1\/m % 6=2\/m % 6=3\/m % 6=4\/m % 6=5:=by omega
   rcases e with e|e|e|e|e|e<;>rw[e]
   ·exact⟨1,by decide,by decide,Y⟩
   ·exact⟨3,by decide,by decide,Y⟩
   ·exact⟨5,by decide,by decide,Y⟩
   ·exact⟨7,by decide,by decide,Y⟩
   ·exact⟨9,by decide,by decide,Y⟩
   ·exact⟨11,by decide,by decide,Y⟩
  refine⟨_,Y,_,_,Y,Y,(by show(0:Int)<6;decide),?_⟩;refine⟨q,_,_,.int tv,Y,Y,bY.of hq1,hat,?_⟩;refine⟨Y,_,Y,n,Y,by omega,by omega,λl hl=>?_⟩;refine nV n (λi=>sg (S.cps.toList.getD ((m / 6+(i:Int)*tv) % 92).toNat 0)) hl (s_ hn (by decide)) (λi H2 s2 hi=>?_) (λH2 s2=>?_) (λi x H2 H3 R s2 hi y hR=>?_) λH2 s2 hl2=>?_
  ·show i<((n:Nat):Int).toNat;omega
  ·show((n:Nat):Int).toNat<=n;omega
  ·obtain⟨rfl,rfl⟩:=y;refine⟨Kp.vd,?_⟩;have i1:=qao (m / 6+(i:Int)*tv) (show(92:Int)≠0 by decide);have i2:=qah (m / 6+(i:Int)*tv) (show(0:Int)<92 by decide);obtain⟨j,hj⟩:∃j:Nat,(m / 6+(i:Int)*tv) % 92=(j:Int):=⟨_,(qaB i1).symm⟩;have hjl:j<S.cps.toList.length:=by rw[o_];omega
   refine⟨_,Y,_,Y,_,_,Y,Y,⟨by decide,by decide⟩,_,Y,_,Y,_,_,Y,Y,.inl ⟨by omega,by omega⟩,_,_,Y,Y,_,_,Y,Y,(by show(0:Int)<92;decide),?_⟩;refine⟨S,_,S.cps.toList[j],Y,Y,(by show S.cps.size<=_;rw[PN];decide),(by rw[qaW,hj];exact cG (e_ hjl)),?_⟩;have e:S.cps.toList[j]=S.cps.toList.getD ((m / 6+(i:Int)*tv) % 92).toNat 0:=by
    rw[hj,qay,bz (e_ hjl)]
   rw[e];exact hR _ (aj.refl _)
  ·refine⟨l,(E_ n).map (λi:Nat=>S.cps.toList.getD ((m / 6+(i:Int)*tv) % 92).toNat 0),Y,Y,?_,?_,kk _ H2 ?_ (λc hc=>?_) (Mh hS3 n (λi _=>?_) λi j hij hj=>SI htv hij (by omega)) (s1.trans s2)⟩
   ·rw[qaf];exact bY.of hl2
   ·rw[f_,qan];omega
   ·show((E_ n).map _).length=n;rw[f_,qan]
   ·obtain⟨i,hi,rfl⟩:=G_.mp (show c∈(E_ n).map _ from hc);have i1:=qao (m / 6+(i:Int)*tv) (show(92:Int)≠0 by decide);have i2:=qah (m / 6+(i:Int)*tv) (show(0:Int)<92 by decide);obtain⟨j,hj⟩:∃j:Nat,(m / 6+(i:Int)*tv) % 92=(j:Int):=⟨_,(qaB i1).symm⟩;have hjl:j<S.cps.toList.length:=by rw[o_];omega
    rw[hj,qay,bz (e_ hjl)];exact Array.all_eq_true_iff_forall_mem.mp I0 _ (Array.mem_toList_iff.mp (x_ hjl))
   ·have i1:=qao (m / 6+(i:Int)*tv) (show(92:Int)≠0 by decide);have i2:=qah (m / 6+(i:Int)*tv) (show(0:Int)<92 by decide);rw[o_];omega
theorem Hx {oZ eZ:g_}{ny dI:B_}{p:Pm}(T:Txt K mg p w)(eG:Dn K mg "_law_price" tO E8 oZ ny)(bH:Dn K mg "_law_next" oB E8 eZ dI)(kO:aI P w K mg base cO 1 eZ dI E8 (Dd K)):aI P w K mg base cO 2 oZ ny E8 (Qt K):=by
 refine eG.fn.ok pq (λvs H Q E h=>?_) (λcdv A outer s H vs Q E hr h=>?_)
 ·obtain⟨s,t,ns,k,rfl,_⟩:=h;rfl
 ·obtain⟨s,t,ns,k,rfl,hC,hk2,kk⟩:=h;have I0:=hC.aah;have hk:=hC.k0;refine⟨_,(ao (Z9X 2 pq.nd (gc kO hr bH (aa (pv 0) (aa (pv 1) ah))))
   (ao (Z9X 3 pq.nd aq)
   (bJ (cN (bf DA (aG (aW) rfl T.cV bO (aa (pv 0) ah)) aq (bC _)) (ak (Z9X 3 pq.nd (bu cj (pv 0) (aQ eV (bu cj (pv 1) aq (λ_ _=>rfl)) (aG (aW) rfl T.cV bO (aa (pv 0) ah))) (λ_ _=>rfl)))) br)
   (ao (Z9X 4 pq.nd (bu cj (jz (aa aq (aa aq (aa aq (aa aq (aa aq (aa (aQ fC aq (aQ eV (aQ eO (pv 2) aq) aq)) ah))))))) (aQ eV (pv 2) aq) (λ_ _=>rfl)))
   (ao (cN (bf nS (aQ eV (aQ eO (pv 2) aq) aq) aq (bC _)) (ak (aP (gK (aa (aQ wF (aQ eV (pv 3) (aQ QV aq aq)) (aQ rF aq (aQ QV aq aq))) (aa (pv 4) ah))))) br)
   (ak (aP (gK (aa (aQ wF (aQ eV (aQ eO (pv 2) aq) aq) aq) (aa (pv 4) ah)))))))))),?_⟩
  refine⟨_,Y,_,Y,s,t,ns,k,Y,hC,hk2,λm hm hm2=>?_⟩;have hq:=I0 (.lst [.int (k+1)]);have Y6:bY K (upd H t (.lst [.int (k+1)])) t [.int (k+1)]:=bY.of ai;refine⟨λσ H2=>H2=upd H t (.lst [.int (k+1)])/\∃c:Int,σ=[some (.ref s),some (.ref t),some (.int m),some (.int c),none],?_,?_⟩
  ·refine⟨_,Y,_,_,Y,.inl ⟨_,hq,Y⟩,_,_,Y,Y,_,Y,?_⟩;refine gw (λh0=>?_) (λh0=>?_)
   ·have hn:0<ns.length:=by rw[f_]at h0;omega
    have i1:=qao (k+1) (show((ns.length:Nat):Int)≠0 by omega);have i2:=qah (k+1) (show(0:Int)<((ns.length:Nat):Int) by omega);obtain⟨j,hj⟩:∃j:Nat,(k+1) % ((ns.length:Nat):Int)=(j:Int):=⟨_,(qaB i1).symm⟩;have hjl:j<ns.length:=by omega
    refine⟨_,Y,_,Y,t,_,_,_,Y,Y,Y6,Y,_,Y,_,_,Y,.inl ⟨_,hq,Y⟩,_,_,Y,Y,(by show(0:Int)<(((ns.map V.int).length:Nat):Int);rw[f_];omega),?_⟩;refine⟨s,_,_,.int ns[j],Y,Y,hq,?_,?_⟩
    ·rw[f_,hj];exact cG (by rw[n_,e_ hjl];rfl)
    ·exact⟨Y,_,Y⟩
   ·exact⟨Y,_,Y⟩
  ·rintro σ H2 ⟨rfl,c,rfl⟩;obtain⟨v,hv,hv1,hv2⟩:∃v:Int,MP [V.int 1,V.int 1,V.int 2,V.int 3,V.int 4,V.int (1+m / 6 % 999)] (m % 6)=some (V.int v)/\1<=v/\v<=999:=by
    have h6:m % 6=0\/m % 6=1\/m % 6=2\/m % 6=3\/m % 6=4\/m % 6=5:=by omega
    rcases h6 with h|h|h|h|h|h
    ·rw[h];exact⟨1,Y,by omega,by omega⟩
    ·rw[h];exact⟨1,Y,by omega,by omega⟩
    ·rw[h];exact⟨2,Y,by omega,by omega⟩
    ·rw[h];exact⟨3,Y,by omega,by omega⟩
    ·rw[h];exact⟨4,Y,by omega,by omega⟩
    ·rw[h];exact⟨1+m / 6 % 999,Y,by omega,by omega⟩
   refine⟨_,Y,_,_,Y,Y,⟨by decide,by decide⟩,_,_,Y,Y,(by show(0:Int)<_;decide),_,_,Y,Y,(by show 6<=z_;decide),λl hl'=>?_⟩;have s1:aj (upd H t (.lst [.int (k+1)])) (upd (upd H t (.lst [.int (k+1)])) l (.lst [.int 1,.int 1,.int 2,.int 3,.int 4,.int (1+m / 6 % 999)])):=aj.upd hl';have fre:∀r,upd (upd H t (.lst [.int (k+1)])) l (.lst [.int 1,.int 1,.int 2,.int 3,.int 4,.int (1+m / 6 % 999)]) r=none->H r=none:=λr hr=>P0 (aj.free s1 hr);have last:∀c:Int,Sm c->∀r,upd (upd H t (.lst [.int (k+1)])) l (.lst [.int 1,.int 1,.int 2,.int 3,.int 4,.int (1+m / 6 % 999)]) r=none →
     Q (.ref r) (upd (upd (upd H t (.lst [.int (k+1)])) l (.lst [.int 1,.int 1,.int 2,.int 3,.int 4,.int (1+m / 6 % 999)])) r (.tup [.int c,.int v])):=λc hc r hr =>
    kk (c,v) r _ ⟨hv1,hv2,hc⟩ (s1.trans (aj.upd hr)) (fre r hr) ai
   refine⟨_,Y,_,_,Y,Y,(by show(0:Int)<_;decide),l,_,_,_,Y,Y,bY.of ai,hv,?_⟩;refine⟨_,Y,_,_,Y,Y,⟨by decide,by decide⟩,_,_,Y,Y,(by show(0:Int)<_;decide),Y,_,Y,?_⟩;refine DZ (λh4=>?_) (λh4=>?_)
   ·refine⟨_,Y,_,_,Y,Y,⟨by decide,by decide,by decide⟩,_,_,Y,Y,(by show(0:Int)<_;decide),_,_,Y,Y,⟨by decide,by decide,by decide⟩,_,_,Y,Y,.inl ⟨by decide,by decide⟩,_,_,Y,Y,_,Y,?_⟩;exact⟨c_,λr hr=>last _ (Pn _) r hr⟩
   ·refine⟨_,Y,_,_,Y,Y,⟨by decide,by decide⟩,_,_,Y,Y,(by show(0:Int)<_;decide),_,_,Y,Y,_,Y,?_⟩;exact⟨c_,λr hr=>last _ (K1 (by omega) (by omega)) r hr⟩
end
section
variable{P:I_}{w:W_}{K:PySem.W.Frag}{mg:r_->Option i_}{base:qad}
theorem EU {nH oZ cF:g_}{lu ny iE:B_}{p:Pm}(T:Txt K mg p w)(jo:Dn K mg "_law_prices" rR l50 nH lu)(eG:Dn K mg "_law_price" tO E8 oZ ny)(xy:aI P w K mg base cO 2 oZ ny E8 (Qt K))(gB:Dm K "__init__" "Prices.__init__" dZ ZG cF iE)(Et:Mk K p.au cF)(Ar:aI P w K mg base cO 5 cF iE ZG (Qo K p.au)):aI P w K mg base cO 7 nH lu l50 (F2 K p.au):=by
 refine jo.fn.ok qp (λvs H Q E h=>?_) (λcdv A outer s H vs Q E hr h=>?_)
 ·obtain⟨s,t,ns,k,sg,b,rfl,_⟩:=h;rfl
 ·obtain⟨s,t,ns,k,sg,b,rfl,hC,hk,hsg,h12,kk⟩:=h;obtain⟨N,hNe⟩:∃N,N=sg.cps.size:=⟨_,rfl⟩;have k0:=hC.k0;have hN2:N<=12:=by omega
  have hz:sg.length<=z_:=m_ (show sg.cps.size<=100 by omega) (by decide);refine⟨_,(ao (yz (i:=4) (N:=l69) qp.nd Y (Or.inl Y) Y (cT.rL (nt:=1) (ix:=[0,1,2]) Y (by decide +kernel) (by decide +kernel) (by kernel_rfl) Y (by kernel_rfl)) (uh (pv 2)) (λ_ _ _ _ _ _ _=>(aS (i:=0) (show(l69:List r_).Nodup by decide +kernel) Y (Or.inl Y))) (λ_ _ _ _ _ _ _=>(gM (N:=l70) Y (cT.rL (nt:=1) (ix:=[1,2]) Y (by decide +kernel) (by decide +kernel) (by kernel_rfl) Y (by kernel_rfl)) (uh (pv 3)) (λ_ _ _ _ _ _ _=>(aS (i:=0) (show(l70:List r_).Nodup by decide +kernel) Y (Or.inl Y))) (λ_ _ _ _ _ _ _=>(gc xy hr eG (aa (pv 1) (aa (pv 2) ah)))))))
   (ao (dP Q_ rfl (iN rfl T.lT (aa (aG (aW) rfl T.cV bO (aa (pv 2) ah)) ah)) (Z9Y 5 qp.nd) (ak (dP Q_ rfl (iN rfl T.lT (aa (pv 5) ah)) (Z9Y 6 qp.nd) (ak (cN (gD (pv 3)) (ak (AM (bu cj (bu cj (pv 4) (pv 6) (λ_ _=>rfl)) (pv 5) (λ_ _=>rfl)) (Hf (bu cj (pv 4) (pv 5) (λ_ _=>rfl)) (pv 6) set_list))) br)))))
   (ak (aP (tR Et Ar (hr.mono (by decide)) rfl T.OL gB.b .nil aR (aa (pv 2) (aa (pv 4) (aa (gc xy hr eG (aa (pv 0) (aa (pv 1) ah))) (aa (gc xy hr eG (aa (pv 0) (aa (pv 1) ah))) ah))))))))),?_⟩
  refine⟨_,Y,sg,Y,λl hl=>?_⟩;have E6:l≠t:=λz=>by rw[z,hC.at_]at hl;cases hl
  refine⟨λi m ys H2=>m=N-i/\i<=N/\fD λrs rows=>ys=rs.map V.ref/\rs.length=i/\Am K (Wo t H2) l rs rows/\(∀r∈rows,r.length=N)/\(∀r∈rows,∀f∈r,ZQ f)/\(∀r∈rs,H r=none)/\aj (Wo t H) (Wo t H2)/\H2 t=some (.lst [.int (k+((i*N:Nat):Int))]),⟨N,Y,X_ _,[],[],Y,Y,?_,?_,?_,?_,?_,?_⟩,?_⟩
  ·rw[Wo.aH E6];exact⟨Y,ai,List.nodup_nil,(by simp),λi r row h1=>by simp at h1⟩
  ·intro r hr;cases hr
  ·intro r hr;cases hr
  ·intro r hr;cases hr
  ·rw[Wo.aH E6];exact aj.upd (Wo.free hl)
  ·rw[aH E6.symm,hC.at_,Nat.zero_mul];simp
  rintro i m' ys H2 ⟨rfl,hi,rs,rows,rfl,hrs,L2',r1,r2,r3,s2,EF⟩;by_cases hlt:i<N
  ·refine .inr ⟨(by show i<sg.cps.size;omega),?_⟩;rintro x H3 ⟨rfl,cx,hcx,rfl⟩;refine⟨Kp.vd,?_⟩;refine⟨_,Y,sg,Y,λl2 hl2=>?_⟩;have Mi:l2≠t:=λz=>by rw[z,EF]at hl2;cases hl2
   have agi:H l2=none:=Wo.back s2 EF hl2;refine⟨λj m ys H4=>m=N-j/\j<=N/\H4 l2=some (.lst ys)/\fD λps row=>ys=ps.map V.ref/\ps.length=j/\Paired (pV K (Wo t H4)) ps row/\(∀f∈row,ZQ f)/\aj (Wo t H3) (Wo t H4)/\H4 t=some (.lst [.int (k+((i*N:Nat):Int)+(j:Int))]),
    ⟨N,rfl,X_ _,ai,[],[],rfl,rfl,.nil,λf hf=>(by cases hf),?_,?_⟩,?_⟩
   ·rw[Wo.aH Mi];exact aj.upd (Wo.free hl2)
   ·rw[aH Mi.symm,EF];simp
   rintro j m' ys H4 ⟨rfl,hj,Bj,ps,row,rfl,hps,hP,ok,s4,EE⟩;have s04:aj (Wo t H) (Wo t H4):=s2.trans s4;by_cases hjt:j<N
   ·refine .inr ⟨(by show j<sg.cps.size;omega),?_⟩;rintro x H5 ⟨rfl,cy,hcy,rfl⟩;refine⟨Kp.vd,?_⟩;have hiN:i*N<=144:=m_ (qbb (show i<=12 by omega) hN2) (by decide);refine⟨_,Y,_,Y,s,t,ns,_,Y,hC.off s04 EE (by omega),by omega,λf q H6 okf s6 hqn hq6=>?_⟩;have w6:=Wo.step s6;have YR:=s6 _ _ ai;have nq:q≠t:=rJ hq6 YR (by intro z;cases z);have hl6:Wo t H6 l2=some (.lst (ps.map V.ref)):=w6 _ _ (Wo.in Mi Bj);refine⟨Wo.sub _ _ hl6,?_,N-(j+1),by omega,Y,hjt,ai,ps++[q],row++[f],by rw[P_];rfl,by rw[A_,hps];rfl,?_,?_,?_,?_⟩
    ·rw[f_,hps];exact K_ (show j<100 by omega) (by decide)
    ·rw[Wo.aH Mi];refine GP.Paired.snoc (Paired.qa hP λa b z=>eK.off hl6 (z.same w6)) ?_;exact eK.off hl6 (eK.of (Wo.in nq hq6))
    ·intro g hg;rcases qab.mp hg with hg|hg
     ·exact ok g hg
     ·rw[F_.mp hg];exact okf
    ·rw[Wo.aH Mi];exact aj.at (s4.trans w6) (Wo.free hl2)
    ·rw[aH Mi.symm,YR];simp only[Int.natCast_add,Int.natCast_one,qcl]
   ·have ej:j=N:=by omega
    refine .inl ⟨(by show sg.cps.size<=j;omega),?_⟩;have hlo:Wo t H4 l=some (.lst (rs.map V.ref)):=s4 _ _ L2'.at_;refine⟨Wo.sub _ _ hlo,?_,N-(i+1),by omega,Y,hlt,rs++[l2],rows++[row],by rw[P_];rfl,by rw[A_,hrs];rfl,?_,?_,?_,?_,?_,?_⟩
    ·rw[f_,hrs];exact K_ (show i<100 by omega) (by decide)
    ·rw[Wo.aH E6];exact L2'.snoc s4 (Wo.free hl2) (Wo.in Mi Bj) hP
    ·intro r hr;rcases qab.mp hr with hr|hr
     ·exact r1 r hr
     ·rw[F_.mp hr,←Paired.len hP,hps,ej]
    ·intro r hr;rcases qab.mp hr with hr|hr
     ·exact r2 r hr
     ·rw[F_.mp hr];exact ok
    ·intro r hr;rcases qab.mp hr with hr|hr
     ·exact r3 r hr
     ·rw[F_.mp hr];exact agi
    ·rw[Wo.aH E6];exact aj.at s04 (Wo.free hl)
    ·rw[aH E6.symm,EE,Nat.succ_mul,ej];simp only[Int.natCast_add,qcl]
  ·have ei:i=N:=by omega
   subst ei;refine .inl ⟨(by show sg.cps.size<=i;omega),?_⟩;have hii:i*i<=144:=m_ (qbb hN2 hN2) (by decide);have P2:IF K H t l i (k+((i*i:Nat):Int)) H2:=⟨rs,rows,L2',⟨by rw[←L2'.len,hrs],r1⟩,r2,r3,s2,EF⟩;refine⟨_,Y,_,_,Y,⟨hz,Y⟩,((i:Nat):Int),(by rw[hNe];rfl),by omega,by omega,?_⟩;refine k9 (lo:=0) (n:=((i:Int)).toNat) (λa σ H3=>fD λv5 v6=>σ=[some (.ref s),some (.ref t),some (.str sg),some (.bl b),some (.ref l),v5,v6]/\IF K H t l i (k+((i*i:Nat):Int)) H3) ⟨_,_,Y,P2⟩ ?_ ?_
   ·rintro a σ H3 ha ⟨v5,v6,rfl,P3⟩;refine⟨_,Y,_,Y,by omega,by omega,?_⟩;refine k9 (lo:=0) (n:=(0+(a:Int)).toNat) (λc σ H4=>∃v6,σ=[some (.ref s),some (.ref t),some (.str sg),some (.bl b),some (.ref l),some (.int (0+(a:Int))),v6]/\IF K H t l i (k+((i*i:Nat):Int)) H4) ⟨_,Y,P3⟩ ?_ ?_
    ·rintro c σ H4 hc ⟨v6,rfl,rs,rows,LM,sq,ok,nw,s4,EE⟩;refine⟨_,Y,_,Y,?_⟩
     cases b with
     |false=>exact mj ⟨_,Y,rs,rows,LM,sq,ok,nw,s4,EE⟩
     |true =>
      refine qb ?_;have ha':a<rows.length:=by rw[sq.1];omega
      have hc':c<rows.length:=by rw[sq.1];omega
      have ha2:a<rs.length:=by rw[LM.len];exact ha'
      have hc2:c<rs.length:=by rw[LM.len];exact hc'
      obtain⟨psa,hra,hPa⟩:=LM.row a _ _ (e_ ha2) (e_ ha');obtain⟨psc,hrc,hPc⟩:=LM.row c _ _ (e_ hc2) (e_ hc');have la:=sq.2 rows[a] (x_ ha');have lc:=sq.2 rows[c] (x_ hc');have hac:a<psc.length:=by rw[Paired.len hPc,lc];omega
      have hca:c<psa.length:=by rw[Paired.len hPa,la];omega
      obtain⟨f,ef,hf⟩:=Paired.at hPc (e_ hac);have hll:=Wo.sub _ _ LM.at_;have af1:=Wo.sub _ _ hrc;have af2:=Wo.sub _ _ hra;refine⟨_,Y,_,Y,l,_,_,.ref rs[c],Y,Y,bY.of hll,(by rw[qaW];exact cG (by rw[n_,e_ hc2];rfl)),?_⟩;refine⟨_,Y,rs[c],_,_,.ref psc[a],Y,Y,bY.of af1,(by rw[qaW];exact cG (by rw[n_,e_ hac];rfl)),?_⟩;refine⟨_,Y,_,Y,l,_,_,.ref rs[a],Y,Y,bY.of hll,(by rw[qaW];exact cG (by rw[n_,e_ ha2];rfl)),?_⟩;refine⟨_,Y,rs[a],_,_,c,Y,Y,af2,?_,?_⟩
      ·rw[qaW];unfold Rc;rw[if_pos (by omega),if_pos (by rw[f_];omega)];simp
      have nra:rs[a]≠t:=Wo.ne hra;refine⟨_,Y,rs,rows.set a (rows[a].set c f),?_,⟨by rw[qbh];exact sq.1,λr hr=>?_⟩,λr hr g hg=>?_,nw,?_,?_⟩
      ·rw[Wo.aH nra];exact LM.put (e_ ha2) (e_ ha') hra hPa hf
      ·rcases qaK hr with hr|hr
       ·exact sq.2 r hr
       ·rw[hr,qbh];exact la
      ·rcases qaK hr with hr|hr
       ·exact ok r hr g hg
       ·rw[hr]at hg;rcases qaK hg with hg|hg
        ·exact ok _ (x_ ha') g hg
        ·rw[hg];exact ok _ (x_ hc') f (l_ ef)
      ·rw[Wo.aH nra];exact aj.at s4 (Wo.free (nw _ (x_ ha2)))
      ·rw[aH nra.symm];exact EE
    ·rintro σ H4 ⟨v6,rfl,P4⟩;exact⟨_,_,Y,P4⟩
   ·rintro σ H3 ⟨v5,v6,rfl,rs,rows,LM,sq,ZA,nw,s2,EF⟩;have C2:Au K H3 s t ns (k+((i*i:Nat):Int)):=hC.off s2 EF (by omega);refine⟨_,Y,_,Y,_,Y,_,Y,s,t,ns,_,Y,C2,by omega,λfo o H4 Sk s3 hon ho3=>?_⟩;have w3:=Wo.step s3;have Rl:=s3 _ _ ai;have C3:Au K H4 s t ns (k+((i*i:Nat):Int)+1):=C2.off w3 Rl (by omega);refine⟨_,Y,_,Y,s,t,ns,_,Y,C3,by omega,λfm m H5 Sl s4 hmn hm4=>?_⟩;have w4:=Wo.step s4;have EE:=s4 _ _ ai;have ho4:pV K H5 o fo:=eK.of (Wo.sub _ _ (w4 _ _ (Wo.in (rJ ho3 Rl (by intro z;cases z)) ho3)));have age:pV K H5 m fm:=eK.of hm4;have L4:Am K H5 l rs rows:=((LM.same w3).same w4).same Wo.sub;have aav:aj (Wo t H) (Wo t H5):=(s2.trans w3).trans w4;intro x dx hx hdx Ti;generalize hH6:upd (upd H5 dx (.own x)) x (.ins p.au dx [])=H6;have s6:aj H5 H6:=by
     rw[←hH6];exact(aj.upd hdx).trans (aj.upd (by rw[aH Ti.symm];exact hx))
    have hx6:H6 x=some (.ins p.au dx []):=by rw[←hH6];exact ai
    refine⟨x,dx,o,m,sg,.lst l,rows,fo,fm,Y,hx6,hsg,h12,(L4.same s6).afI,(by rw[←hNe];exact sq),λr hr f hf=>(ZA r hr f hf).h,ho4.same s6,Sk.h,age.same s6,Sl.h,λH7 P7 f7 nf7=>⟨Y,?_⟩⟩;have s7:aj H5 H7:=λb u e=>f7 b u (s6 b u e) λz=>by rw[z,hx]at e;cases e
    exact kk x H7 _ (Aw rows) (jI fo) (jI fm) ⟨rows,Y,λr hr f hf=>by have:=(ZA r hr f hf).1;omega⟩ (P7.wo (s7 _ _ EE) (nf7 t (by rw[s6 _ _ EE];exact λz=>nomatch z))) (Wo.back aav EE hx) (aav.trans (Wo.same s7)) (s7 _ _ EE) (by omega) (by omega)
end
section
variable{P:I_}{w:W_}{K:PySem.W.Frag}{mg:r_->Option i_}{base:qad}
theorem Ht {jf:g_}{gP:B_}{p:Pm}(T:Txt K mg p w)(dg:Dn K mg "_law_whole" qS YE jf gP)  :aI P w K mg base cO 1 jf gP YE C7:=by
 refine dg.fn.ok G0 (λvs H Q E h=>?_) (λcdv A outer s H vs Q E hr h=>?_)
 ·obtain⟨n,rfl,_⟩:=h;rfl
 ·obtain⟨n,rfl,k⟩:=h;refine⟨_,(ak (aP (QT (aG (xj) Y T.dN c9 (aa (pv 0) (aa (vp (v:=.ty "int") Y T.ZU Ze Y) ah))) (LZ (Ys (aG (xj) Y T.dN c9 (aa (pv 0) (aa (vp (v:=.ty "bool") Y T.Vi Uu Y) ah)))))))),?_⟩;refine⟨_,Y,_,_,_,_,Y,.int n,zS,_,Y,qb ?_⟩;exact⟨_,Y,_,_,_,_,Y,.int n,HL,_,Y,k⟩
theorem DH {lJ jf kL:g_}{jN gP jd:B_}{p:Pm}(T:Txt K mg p w)(gY:Dn K mg "_law_is_cost" qB l51 lJ jN)(dg:Dn K mg "_law_whole" qS YE jf gP)(tZ:aI P w K mg base cO 1 jf gP YE C7)(fU:Dn K mg "in_units" sP YG kL jd)(zd:aI P w K mg base cO 2 kL jd YG (AE K p.au)):aI P w K mg base cO 3 lJ jN l51 (Jz K p.au):=by
 refine gY.fn.ok Dq (λvs H Q E h=>?_) (λcdv A outer s H vs Q E hr h=>?_)
 ·obtain⟨x,q,sg,rows,fo,fm,n,rfl,_⟩:=h;rfl
 ·obtain⟨x,q,sg,rows,fo,fm,n,rfl,hP,hq,k⟩:=h;have hSq:eK K H q [.int (jI (n,aO fo.2 fm.2 rows)).1,.int (jI (n,aO fo.2 fm.2 rows)).2]:=eK.of hq;refine⟨_,(ao (cN (PW.pt (qW (jy (gD (aG (su) Y T.dN c9 (aa (pv 1) (aa (vp (v:=.ty "tuple") Y T.tw rq Y) ah))))) (qW (bf vR (aG (aW) Y T.cV bO (aa (pv 1) ah)) aq (bC _)) (qW (jy (gD (gc tZ hr dg (aa (bu cQ (pv 1) aq (λ_ _=>rfl)) ah)))) (sQ (jy (gD (gc tZ hr dg (aa (bu cQ (pv 1) aq (λ_ _=>rfl)) ah))))))))) (ak (aP rH)) br)
   (ak (aP (vo (L8 (qaP (rj hr))) (pv 1) (gc zd hr fU (aa (pv 0) (aa (pv 2) ah))) (bC _))))),?_⟩
  refine⟨_,Y,_,"tuple",.type "tuple",true,Y,.inr ⟨q,_,Y,hSq,Y⟩,(by kernel_rfl),_,Y,kY ?_⟩;refine⟨_,Y,_,_,Y,.inr ⟨_,hSq,Y⟩,Y,_,Y,?_⟩;refine ur (λz=>absurd Y z) λ_=>?_;refine⟨_,Y,q,_,_,_,Y,Y,hSq,Y,_,Y,_,Y,kY ?_⟩;refine⟨_,Y,q,_,_,_,Y,Y,hSq,Y,_,Y,_,Y,kY ?_⟩;refine⟨_,Y,_,Y,_,Y,x,n,sg,rows,fo,fm,Y,hP,λq2 H' s' hn2 hq2=>?_⟩;refine⟨q,q2,_,_,Y,Y,eK.of (s' _ _ hq),eK.of hq2,Y,Y,?_⟩;have e:∀a b:Int,i7 [V.int a,V.int b] [V.int a,V.int b]=true:=λa b=>by
   simp[i7,E_,qcq,Lm]
  show Q (.bl (i7 _ _)) _;rw[e];exact k H' s'
end
section
variable{P:I_}{w:W_}{K:PySem.W.Frag}{mg:r_->Option i_}{base:qad}
end
section
variable{P:I_}{w:W_}{K:PySem.W.Frag}{mg:r_->Option i_}{base:qad}
theorem EW {nI eZ:g_}{ly dI:B_}{p:Pm}(T:Txt K mg p w)(jq:Dn K mg "_law_column" rT l52 nI ly)(bH:Dn K mg "_law_next" oB E8 eZ dI)(kO:aI P w K mg base cO 1 eZ dI E8 (Dd K)):aI P w K mg base cO 2 nI ly l52 (Qu K):=by
 refine jq.fn.ok nY (λvs H Q E h=>?_) (λcdv A outer s H vs Q E hr h=>?_)
 ·obtain⟨s,t,ns,k,x,n,rfl,_⟩:=h;rfl
 ·obtain⟨s,t,ns,k,x,n,rfl,hC,hk,hn0,hn,hx0,hx,hxs,kk⟩:=h;have k0:=hC.k0;have hz:x.length<=z_:=m_ hx (by decide);have pick:∀i:Int,0<=i->∃c,MP x.cps.toList (i % ((x.cps.size:Nat):Int))=some c/\(gO c=true/\c∈x.cps.toList):=λi hi=>by
   have i1:=qao i (show((x.cps.size:Nat):Int)≠0 by omega);have i2:=qah i (show(0:Int)<((x.cps.size:Nat):Int) by omega);obtain⟨j,hj⟩:∃j:Nat,i % ((x.cps.size:Nat):Int)=(j:Int):=⟨_,(qaB i1).symm⟩;have hjl:j<x.cps.toList.length:=by rw[o_];omega
   exact⟨x.cps.toList[j],by rw[hj];exact cG (e_ hjl),⟨hxs _ (x_ hjl),x_ hjl⟩⟩
  refine⟨_,(ao (Z9X 4 nY.nd (jz ah))
   (ao (dP Q_ rfl (iN rfl T.lT (aa (pv 3) ah)) (Z9Y 5 nY.nd) (ao (Z9X 6 nY.nd (gc kO hr bH (aa (pv 0) (aa (pv 1) ah))))
   (ak (cN (bf nS (aQ eV (pv 6) aq) aq (bC _)) (ak (ee (tS PySem.F.plainAttrs_list PySem.F.slot_list_append PySem.F.type_list_append k8 (pv 4) (aa dQ ah)))) (ak (ee (tS PySem.F.plainAttrs_list PySem.F.slot_list_append PySem.F.type_list_append k8 (pv 4) (aa (bu wX (pv 2) (aQ eV (aQ eO (pv 6) aq) (aG (aW) rfl T.cV bO (aa (pv 2) ah))) (λ_ _=>rfl)) ah))))))))
   (ao (cN (bf (QX (qaP (rj hr))) (pv 4) (aQ L6 (jz (aa dQ ah)) (pv 3)) (bC _)) (ao (Z9X 6 nY.nd (gc kO hr bH (aa (pv 0) (aa (pv 1) ah))))
   (ak (AM (bu wX (pv 2) (aQ eV (aQ eO (pv 6) (pv 3)) (aG (aW) rfl T.cV bO (aa (pv 2) ah))) (λ_ _=>rfl)) (Hf (pv 4) (aQ eV (pv 6) (pv 3)) set_list)))) br)
   (ak (aP (pv 4)))))),?_⟩
  refine⟨a_,λl hl=>?_⟩;have E6:l≠t:=λz=>by rw[z,hC.at_]at hl;cases hl
  refine⟨_,Y,n,Y,by omega,by omega,?_⟩;rw[show((n:Nat):Int).toNat=n by omega];refine k9 (lo:=0) (n:=n) (λi σ H2=>rG λ(cs:List Nat) (v5 v6:Option V)=>σ=[some (.ref s),some (.ref t),some (.str x),some (.int n),some (.ref l),v5,v6]/\cs.length=i/\(∀c∈cs,BK x c)/\H2 l=some (.lst (cs.map sg))/\aj (Wo t H) (Wo t H2)/\H2 t=some (.lst [.int (k+(i:Int))])) ⟨[],_,_,Y,Y,λc hc=>(by cases hc),ai,by rw[Wo.aH E6];exact aj.upd (Wo.free hl),by rw[aH E6.symm,hC.at_];simp⟩ ?_ ?_
  ·rintro i σ H2 hi ⟨cs,v5,v6,rfl,hcl,hok,hl2,w2,EF⟩;have C2:Au K H2 s t ns (k+(i:Int)):=hC.off w2 EF (by omega);refine⟨_,Y,_,Y,s,t,ns,_,Y,C2,by omega,λm hm hm2=>?_⟩;have hl3:upd H2 t (.lst [.int (k+(i:Int)+1)]) l=some (.lst (cs.map sg)):=by rw[aH E6];exact hl2
   have w3:aj (Wo t H) (Wo t (upd H2 t (.lst [.int (k+(i:Int)+1)]))):=by rw[Wo.set];exact w2
   have Rl:upd H2 t (.lst [.int (k+(i:Int)+1)]) t=some (.lst [.int (k+(i:Int)+1)]):=ai;generalize upd H2 t (.lst [.int (k+(i:Int)+1)])=H3 at hl3 w3 Rl ⊢;have fin:∀c:Nat,BK x c->rG λ(cs':List Nat) (v5 v6:Option V)=>[some (V.ref s),some (.ref t),some (.str x),some (.int n),some (.ref l),some (.int (0+(i:Int))),some (.int m)]=[some (.ref s),some (.ref t),some (.str x),some (.int n),some (.ref l),v5,v6]/\cs'.length=i+1/\(∀c∈cs',BK x c)/\upd H3 l (.lst (cs.map sg++[sg c])) l=some (.lst (cs'.map sg))/\aj (Wo t H) (Wo t (upd H3 l (.lst (cs.map sg++[sg c]))))/\upd H3 l (.lst (cs.map sg++[sg c])) t=some (.lst [.int (k+((i+1:Nat):Int))]):=λc hc=>by
    refine⟨cs++[c],_,_,Y,by rw[A_,hcl];rfl,λd hd=>?_,by rw[ai,P_];rfl,?_,?_⟩
    ·rcases qab.mp hd with hd|hd
     ·exact hok d hd
     ·rw[F_.mp hd];exact hc
    ·rw[Wo.aH E6];exact aj.at w3 (Wo.free hl)
    ·rw[aH E6.symm,Rl];simp only[Int.natCast_add,Int.natCast_one,qcl]
   have hlen:(cs.map sg).length<z_:=by rw[f_,hcl];exact K_ (show i<100 by omega) (by decide)
   refine⟨_,Y,_,_,Y,Y,(by show(0:Int)<3;decide),Y,_,Y,?_⟩;by_cases z:V.int (m % 3)=V.int 0
   ·rw[decide_eq_true z];exact qb ⟨_,Y,.inl ⟨Y,_,bY.of hl3⟩,l,_,_,Y,Y,hl3,hlen,fin 45 BK.gap⟩
   ·rw[decide_eq_false z];obtain⟨c,hc,hs⟩:=pick (m / 3) (Int.ediv_nonneg hm (by decide));exact mj ⟨_,Y,.inl ⟨Y,_,bY.of hl3⟩,_,Y,_,Y,_,_,Y,Y,⟨by decide,by decide⟩,_,Y,_,_,Y,⟨hz,Y⟩,_,_,Y,Y,(by show(0:Int)<((x.cps.size:Nat):Int);omega),x,_,c,Y,Y,hz,hc,l,_,_,Y,Y,hl3,hlen,fin c (.of hs)⟩
  ·rintro σ H2 ⟨cs,v5,v6,rfl,hcl,hok,hl2,w2,EF⟩;refine⟨_,Y,b_,λq hq=>?_⟩;have s3:aj H2 (upd H2 q (.lst [sg 45])):=aj.upd hq;have ZI:upd H2 q (.lst [sg 45]) q=some (.lst [sg 45]):=ai;generalize hH3:upd H2 q (.lst [sg 45])=H3 at s3 ZI;have agC:upd H2 q (.lst [V.str (w_ "-")])=H3:=hH3;rw[agC];refine⟨_,Y,q,_,_,Y,Y,ZI,by show(-(2 ^ 63):Int)<=(n:Int);omega,by show(n:Int)<2 ^ 63;omega,?_,λq2 hq2=>?_⟩
   ·show 1*((n:Nat):Int).toNat<=z_;exact m_ (show _<=100 by omega) (by decide)
   rw[Dw,show((n:Nat):Int).toNat=n by omega];have s4:aj H3 (upd H3 q2 (.lst (y_ n (sg 45)))):=aj.upd hq2;have YU:upd H3 q2 (.lst (y_ n (sg 45))) q2=some (.lst (y_ n (sg 45))):=ai;generalize upd H3 q2 (.lst (y_ n (sg 45)))=H4 at s4 YU ⊢;have SY:=s3.trans s4;have Bj:=SY _ _ hl2;have EE:=SY _ _ EF;have w4:aj (Wo t H) (Wo t H4):=w2.trans (Wo.same SY);have fr:(y_ n (sg 45)).all rm=true:=v_.mpr λy hy=>by rw[qax hy];rfl
   refine⟨l,q2,_,_,Y,Y,bY.of Bj,bY.of YU,by rw[f_,qau,hcl],by rw[Nr];exact Bk,fr,_,Y,?_⟩
   cases z:i7 (cs.map sg) (y_ n (sg 45))with
   |false =>
    refine mj ⟨_,Y,kk l cs (k+(n:Int)) H4 hcl hok (Th hcl z) Bj hl w4 EE (by omega) (by omega)⟩
   |true =>
    have C4:Au K H4 s t ns (k+(n:Int)):=hC.off w4 EE (by omega);refine qb ⟨_,Y,_,Y,s,t,ns,_,Y,C4,by omega,λm hm hm2=>?_⟩;have PM:upd H4 t (.lst [.int (k+(n:Int)+1)]) l=some (.lst (cs.map sg)):=by rw[aH E6];exact Bj
    have w5:aj (Wo t H) (Wo t (upd H4 t (.lst [.int (k+(n:Int)+1)]))):=by rw[Wo.set];exact w4
    have ZH:upd H4 t (.lst [.int (k+(n:Int)+1)]) t=some (.lst [.int (k+(n:Int)+1)]):=ai;generalize upd H4 t (.lst [.int (k+(n:Int)+1)])=H5 at PM w5 ZH ⊢;obtain⟨c,hc,hs⟩:=pick (m / (n:Int)) (Int.ediv_nonneg hm (by omega));have i1:=qao m (show(n:Int)≠0 by omega);have i2:=qah m (show(0:Int)<(n:Int) by omega);obtain⟨j,hj⟩:∃j:Nat,m % (n:Int)=(j:Int):=⟨_,(qaB i1).symm⟩;have hjl:j<cs.length:=by omega
    refine⟨_,Y,_,Y,_,Y,_,_,Y,Y,?_,_,Y,_,_,Y,⟨hz,Y⟩,_,_,Y,Y,(by show(0:Int)<((x.cps.size:Nat):Int);omega),x,_,c,Y,Y,hz,hc,_,Y,_,Y,_,Y,_,_,Y,Y,(by show(0:Int)<(n:Int);omega),l,_,_,j,Y,Y,PM,?_,?_⟩
    ·exact⟨by omega,by omega⟩
    ·rw[hj,f_]
     show(if(0:Int)<=(j:Int)then(if(j:Int)<(cs.length:Int)then some (j:Int).toNat else none)else _)=some j
     rw[if_pos (by omega),if_pos (by omega),qay]
    ·have e:(cs.map sg).set j (sg c)=(cs.set j c).map sg:=by rw[List.map_set]
     rw[e];refine⟨_,Y,kk l (cs.set j c) (k+(n:Int)+1) _ (by rw[qbh];exact hcl) (λd hd=>?_) ⟨c,List.mem_set hjl c,GV hs.1⟩ ai hl ?_ ?_ (by omega) (by omega)⟩
     ·rcases qaK hd with hd|hd
      ·exact hok d hd
      ·rw[hd];exact .of hs
     ·rw[Wo.aH E6];exact aj.at w5 (Wo.free hl)
     ·rw[aH E6.symm];exact ZH
theorem JX {qf nI:g_}{oR ly:B_}{p:Pm}(T:Txt K mg p w)(iI:Dn K mg "_law_rows" vg l53 qf oR)(jq:Dn K mg "_law_column" rT l52 nI ly)(IL:aI P w K mg base cO 2 nI ly l52 (Qu K)):aI P w K mg base cO 3 qf oR l53 (M6 K):=by
 refine iI.fn.ok qR (λvs H Q E h=>?_) (λcdv A outer s H vs Q E hr h=>?_)
 ·obtain⟨s,t,ns,k,x,n,m,rfl,_⟩:=h;rfl
 ·obtain⟨s,t,ns,k,x,n,m,rfl,hC,hk,hn0,hn,hm,hx0,hx,hxs,kk⟩:=h;have k0:=hC.k0;refine⟨_,(ao (aN (i:=5) qR.nd Y (Or.inr Y) (aQ L6 (jz (aa dQ ah)) (pv 3)))
   (ao (dP Q_ rfl (iN rfl T.lT (aa (pv 4) ah)) (Z9Y 6 qR.nd) (ao (aN (i:=7) qR.nd rfl (Or.inr rfl) (gc IL hr jq (aa (pv 0) (aa (pv 1) (aa (pv 2) (aa (pv 3) ah))))))
   (ak (aN (i:=5) qR.nd rfl (Or.inr rfl) (gM (N:=l71) rfl (cT.rL (nt:=1) (ix:=[5,7]) rfl (by decide +kernel) (by decide +kernel) (by kernel_rfl) rfl (by kernel_rfl)) (iN rfl T.lT (aa (pv 3) ah)) (λ_ _ _ _ _ _ _=>(aS (i:=0) (show(l71:List r_).Nodup by decide +kernel) rfl (Or.inl rfl))) (λ_ _ _ _ _ _ _=>(aQ oE (bu (Ku (K':=K) rfl) (pv 1) (pv 0) (λ_ _=>rfl)) (bu (Ku (K':=K) rfl) (pv 2) (pv 0) (λ_ _=>rfl)))))))))
   (ak (aP (pv 5))))),?_⟩
  refine⟨b_,λq hq=>?_⟩;have s1:aj H (upd H q (.lst [.str ⟨#[]⟩])):=aj.upd hq;have hq1:upd H q (.lst [.str ⟨#[]⟩]) q=some (.lst [.str ⟨#[]⟩]):=ai;generalize hH1:upd H q (.lst [.str ⟨#[]⟩])=H1 at s1 hq1;have agD:upd H q (.lst [V.str (w_ "")])=H1:=hH1;rw[agD];refine⟨_,Y,q,_,_,Y,Y,hq1,by show(-(2 ^ 63):Int)<=(n:Int);omega,by show(n:Int)<2 ^ 63;omega,?_,λl0 O0=>?_⟩
  ·show 1*((n:Nat):Int).toNat<=z_;exact m_ (show _<=100 by omega) (by decide)
  rw[Dw,show((n:Nat):Int).toNat=n by omega];have s2:aj H1 (upd H1 l0 (.lst (y_ n (.str ⟨#[]⟩)))):=aj.upd O0;have hl2:upd H1 l0 (.lst (y_ n (.str ⟨#[]⟩))) l0=some (.lst (y_ n (.str ⟨#[]⟩))):=ai;generalize upd H1 l0 (.lst (y_ n (.str ⟨#[]⟩)))=H2 at s2 hl2 ⊢;have s02:=s1.trans s2;refine⟨_,Y,m,Y,by omega,by omega,?_⟩;rw[show((m:Nat):Int).toNat=m by omega];have r0:uy (y_ n (⟨#[]⟩:r_)) n 0:=⟨qau,λr hr=>(by rw[qax hr];rfl),λr hr c hc=>(by rw[qax hr]at hc;cases hc),λj hj=>(by omega)⟩;refine k9 (lo:=0) (n:=m) (λi σ H3=>GF λ(l:g_) (rs:List r_) (k':Int) (v6 v7:Option V)=>σ=[some (.ref s),some (.ref t),some (.str x),some (.int n),some (.int m),some (.ref l),v6,v7]/\uy rs n i/\(∀r∈rs,Of (qL x) r)/\H3 l=some (.lst (rs.map V.str))/\H l=none/\aj (Wo t H) (Wo t H3)/\H3 t=some (.lst [.int k'])/\k<=k'/\k'<=k+20*(i:Int)) ⟨l0,_,k,_,_,Y,r0,(λr hr c hc=>(by rw[qax hr]at hc;cases hc)),by rw[hl2,List.map_replicate],s1.free O0,Wo.same s02,s02 _ _ hC.at_,by omega,by omega⟩ ?_ ?_
  ·rintro i σ H3 hi ⟨l,rs,k',v6,v7,rfl,hR,hO,hl3,HR,w3,Rl,kb1,kb2⟩;have C3:Au K H3 s t ns k':=hC.off w3 Rl (by omega);refine⟨_,Y,_,Y,_,Y,_,Y,s,t,ns,k',x,n,Y,C3,by omega,hn0,hn,hx0,hx,hxs,λlc cs k2 H4 hcl hok hg hlc ajO w4 EE kb3 kb4=>?_⟩;have E6:l≠t:=λz=>by rw[z,hC.at_]at HR;cases HR
   have Bj:H4 l=some (.lst (rs.map V.str)):=Wo.sub _ _ (w4 _ _ (Wo.in E6 hl3));refine⟨_,Y,n,Y,by omega,by omega,λl2 T6=>?_⟩;refine nV n (λr=>V.str (rs.getD r ⟨#[]⟩++⟨#[cs.getD r 0]⟩)) T6 (s_ hn (by decide)) (λr H5 s5 hr=>?_) (λH5 s5=>?_) (λr y H5 H6 R s5 hr hy hRR=>?_) λH5 s5 PM=>?_
   ·show r<((n:Nat):Int).toNat;omega
   ·show((n:Nat):Int).toNat<=n;omega
   ·obtain⟨rfl,rfl⟩:=hy;have h1:r<rs.length:=by rw[hR.len];exact hr
    have h2:r<cs.length:=by rw[hcl];exact hr
    have e1:=e_ h1;have e2:=e_ h2;refine⟨Kp.vd,?_⟩;refine⟨_,Y,_,Y,l,_,_,.str rs[r],Y,Y,bY.of (s5 _ _ Bj),?_,_,Y,_,Y,lc,_,_,sg cs[r],Y,Y,bY.of (s5 _ _ hlc),?_,_,_,Y,Y,?_,?_⟩
    ·rw[qaW];exact cG (by rw[n_,e1];rfl)
    ·rw[qaW];exact cG (by rw[n_,e2];rfl)
    ·show rs[r].cps.size+1<=z_;rw[hR.ck _ (x_ h1)];exact m_ (show i+1<=100 by omega) (by decide)
    ·rw[bz e1,bz e2]at hRR;exact hRR _ (aj.refl _)
   ·refine⟨l2,grown rs cs n,k2,_,_,Y,hR.next hcl (λc hc=>(hok c hc).1) hg,Rx hR.len hcl hO (λc hc=>(hok c hc).2),?_,?_,(w3.trans w4).trans (Wo.same s5),s5 _ _ EE,by omega,by omega⟩
    ·rw[PM];unfold grown;rw[qaf];rfl
    ·exact Wo.back (w3.trans w4) EE T6
  ·rintro σ H3 ⟨l,rs,k',v6,v7,rfl,hR,hO,hl3,HR,w3,Rl,kb1,kb2⟩;exact⟨_,Y,kk l rs k' H3 hR hO hl3 HR w3 Rl kb1 (by omega)⟩
end
section
variable{P:I_}{w:W_}{K:PySem.W.Frag}{mg:r_->Option i_}{base:qad}
theorem Cd {jX eY dM:g_}{iU dH cZ:B_}{p:Pm}(T:Txt K mg p w)(gm:Dn K mg "cost_by_gaps" pH l54 jX iU)(bP:Dn K mg "signs_of" oA Ra eY dH)(mU:aI P w K mg base cO 1 eY dH Ra uG)(bQ:Dn K mg "more_cost" mL Lk dM cZ)(mV:aI P w K mg base cO 2 dM cZ Lk (De K p.au)):aI P w K mg base cO 3 jX iU l54 (Qp K p.au):=by
 refine gm.fn.ok B4 (λvs H Q E h=>?_) (λcdv A outer s H vs Q E hr h=>?_)
 ·obtain⟨x,sg,rows,fo,fm,c,n,rfl,_⟩:=h;rfl
 ·obtain⟨x,sg,rows,fo,fm,c,n,rfl,hP,hc,hn,k⟩:=h;have hl:(ya c.cps.toList).length<=1000:=m_ (qaI _ _) (by rw[o_];exact hc);have e:(aY 45 c).length=(ya c.cps.toList).length:=rfl;refine⟨_,(ak (aP (aQ rF (aQ rF (aG (aW) Y T.cV bO (aa (gc mU hr bP (aa (pv 1) ah)) ah)) (pv 2)) (gc mV hr bQ (aa (pv 0) ah))))),?_⟩;refine⟨_,Y,c,Y,hc,_,_,Y,⟨m_ (show(aY 45 c).length<=1000 from hl) (by decide),Y⟩,_,Y,_,_,Y,Y,.inl (by rw[e];omega),_,Y,x,sg,rows,fo,fm,Y,hP,_,_,Y,Y,.inl ?_,k⟩;have h1:(0:Int)<=(((aY 45 c).length:Nat):Int)*(n:Int):=Int.mul_nonneg (by omega) (by omega);have h2:(((aY 45 c).length:Nat):Int)*(n:Int)<=1000*1000:=Int.mul_le_mul (by rw[e];omega) (by omega) (by omega) (by omega);omega
theorem AR {iZ jX:g_}{ig iU:B_}{p:Pm}(T:Txt K mg p w)(c8:Dn K mg "costs_by_gaps" oi l55 iZ ig)(gm:Dn K mg "cost_by_gaps" pH l54 jX iU)(EB:aI P w K mg base cO 3 jX iU l54 (Qp K p.au)):aI P w K mg base cO 4 iZ ig l55 (Ng K p.au):=by
 refine c8.fn.ok AJ (λvs H Q E h=>?_) (λcdv A outer s H vs Q E hr h=>?_)
 ·obtain⟨x,l,sg,rows,fo,fm,cs,n,rfl,_⟩:=h;rfl
 ·obtain⟨x,l,sg,rows,fo,fm,cs,n,rfl,hP,hl,hc,hs,hn,k⟩:=h;refine⟨_,(ak (aP (gM (N:=["column","prices","many"]) Y (cT.rL (nt:=1) (ix:=[0,2]) Y (by decide +kernel) (by decide +kernel) (by kernel_rfl) Y (by kernel_rfl)) (ja (pv 1)) (λ_ _ _ _ _ _ _=>(aS (i:=0) (show(["column","prices","many"]:List r_).Nodup by decide +kernel) Y (Or.inl Y))) (λ_ _ _ _ _ _ _=>(gc EB hr gm (aa (pv 1) (aa (pv 0) (aa (pv 2) ah)))))))),?_⟩;refine⟨_,Y,l,Y,⟨_,bY.of hl⟩,λl' hl'=>?_⟩;refine nV cs.length (λj=>V.int (I8 (sS rows fo fm) (cs.getD j ⟨#[]⟩) n)) hl' (s_ hc (by decide)) (λj H4 s4 hj=>?_) (λH4 s4=>?_) (λj y H4 H5 R s4 hj hy hR=>?_) λH4 s4 Bj=>?_
  ·exact⟨_,_,bY.of (s4 _ _ hl),by rw[n_,e_ hj];rfl⟩
  ·exact⟨_,bY.of (s4 _ _ hl),by rw[f_];exact j_ _⟩
  ·obtain⟨rfl,hy⟩:=hy;have ey:=hy _ (bY.of (s4 _ _ hl));rw[n_,e_ hj]at ey;cases ey;refine⟨Kp.vd,?_⟩;refine⟨_,Y,_,Y,_,Y,x,sg,rows,fo,fm,cs[j],n,Y,hP.same s4,hs _ (x_ hj),hn,?_⟩;have z:=hR _ (aj.refl _);rw[bz (e_ hj)]at z;exact z
  ·exact k l' H4 s4 hl' (by rw[Bj,eL cs (λc=>V.int (I8 (sS rows fo fm) c n))])
theorem DC {lF dJ dM:g_}{jJ cY cZ:B_}{p:Pm}(T:Txt K mg p w)(gU:Dn K mg "sign_extras" qv l56 lF jJ)(bF:Dn K mg "pair_cost" mK IZ dJ cY)(ki:aI P w K mg base cO 1 dJ cY IZ (sM K p.au))(bQ:Dn K mg "more_cost" mL Lk dM cZ)(mV:aI P w K mg base cO 2 dM cZ Lk (De K p.au)):aI P w K mg base cO 3 lF jJ l56 (Ql K p.au):=by
 refine gU.fn.ok sN (λvs H Q E h=>?_) (λcdv A outer s H vs Q E hr h=>?_)
 ·obtain⟨x,sg,rows,fo,fm,S,rfl,_⟩:=h;rfl
 ·obtain⟨x,sg,rows,fo,fm,S,rfl,hP,hO,hS,k⟩:=h;obtain⟨sig,UL,_,_,_,_,_,dx,Pp,o,m,d,kvs,h1,h2,h3,h4,h5,h6⟩:=id hP;refine⟨_,(ao (Z9X 2 sN.nd JR)
   (ao (dP Q_ rfl (uh (bB (pv 0) rfl)) (aS (i:=3) sN.nd rfl (Or.inr rfl)) (ak (G7 (rj hr) (pv 2) (pv 3) (aG (qi (K':=K) rfl rfl) rfl T.CL y9 (aa (gM (N:=l66) rfl (cT.rL (nt:=1) (ix:=[0,3]) rfl (by decide +kernel) (by decide +kernel) (by kernel_rfl) rfl (by kernel_rfl)) (uh (pv 1)) (λ_ _ _ _ _ _ _=>(aS (i:=0) (show(l66:List r_).Nodup by decide +kernel) rfl (Or.inl rfl))) (λ_ _ _ _ _ _ _=>(aQ wF (gc ki hr bF (aa (pv 1) (aa (pv 0) (aa (pv 2) ah)))) (aQ rF aq (gc mV hr bQ (aa (pv 1) ah)))))) ah)) rfl)))
   (ak (aP (pv 2))))),?_⟩
  refine λq hq=>?_;have s0:aj H (upd H q (.dK [])):=aj.upd hq;refine⟨_,Y,x,_,_,_,_,Y,s0 _ _ h1,T.bT,T.jG,vB,_,Y,?_⟩;refine HY (x:=sg) (λi σ H2=>fD λ(v3:Option V) (kv:List (Key×V))=>σ=[some (.ref x),some (.str S),some (.ref q),v3]/\aj H H2/\H2 q=some (.dK kv)/\kv.length<=i/\∀j o,j<i->sg.cps.toList[j]? =some o->mq kv (.inr ⟨#[o]⟩)=some (.int (lZ (λs=>sj sg rows (aO fo.2 fm.2 rows) s o-2*sS rows fo fm) S.cps.toList))) ⟨_,[],Y,s0,ai,j_ _,λj o hj=>absurd hj (qa6 _)⟩ ?_ ?_
  ·rintro i c σ H2 hc ⟨v3,kv,rfl,s2,hd,T7,hkv⟩;have hcm:=Ic hc;have hi:=MH hc;refine⟨_,Y,_,Y,λl hl=>?_⟩;refine nV S.cps.size (λj=>V.int (sj sg rows (aO fo.2 fm.2 rows) (S.cps.toList.getD j 0) c-2*sS rows fo fm)) hl (s_ hS (by decide)) (λj H4 s4 hj=>hj) (λH4 s4=>j_ _) (λj y H4 H5 R s4 hj hy hR=>?_) λH4 s4 Bj=>?_
   ·obtain⟨rfl,e,he,rfl⟩:=hy;obtain⟨i',j',f,k1,k2,k3,k4⟩:=wD (u:=aO fo.2 fm.2 rows) UL (hO _ (Ic he)) hcm;refine⟨Kp.vd,?_⟩;refine⟨_,Y,_,Y,_,Y,x,sg,rows,fo,fm,i',j',e,c,f,Y,hP.same (s2.trans s4),k1,k2,k3,λH6 s6=>?_⟩;refine⟨_,Y,x,sg,rows,fo,fm,Y,hP.same ((s2.trans s4).trans s6),_,_,Y,Y,.inl (by omega),_,_,Y,Y,?_⟩;have z:=hR H6 s6;rw[bz (nZ he),k4]at z;exact z
   ·have e1:(E_ S.cps.size).map (λj=>V.int (sj sg rows (aO fo.2 fm.2 rows) (S.cps.toList.getD j 0) c-2*sS rows fo fm))=(S.cps.toList.map λs=>sj sg rows (aO fo.2 fm.2 rows) s c-2*sS rows fo fm).map V.int:=by
     rw[qaf,←o_];exact eL (d:=0) S.cps.toList λs=>V.int (sj sg rows (aO fo.2 fm.2 rows) s c-2*sS rows fo fm)
    refine⟨l,_,Y,bY.of (by rw[Bj,e1]),_,Y,_,Y,q,_,Y,IW.k (k:=.inr ⟨#[c]⟩) (s4 _ _ hd) ?_,?_⟩
    ·exact s_ (show kv.length<=1000 by have:=sig.2.1;omega) (by decide)
    ·refine⟨_,_,Y,aj.at (s2.trans s4) hq,ai,?_,λj o hj ho=>?_⟩
     ·have:=q9 kv (.inr ⟨#[c]⟩:Key) (V.int (lZ (λs=>sj sg rows (aO fo.2 fm.2 rows) s c-2*sS rows fo fm) S.cps.toList));exact m_ this (Nat.succ_le_succ T7)
     ·rw[zk];by_cases z:o=c
      ·rw[if_pos (by rw[z]),z];rfl
      ·rw[if_neg (λy=>z (by injection y with y;injection y with y;simpa using y))];refine hkv j o ?_ ho;have:j≠i:=λy=>by
        rw[y,nZ hc]at ho;exact z (V_ ho).symm
       omega
  ·rintro σ H2 ⟨v3,kv,rfl,s2,hd,T7,hkv⟩;refine⟨_,Y,k q H2 kv s2 hq hd λo ho=>?_⟩;obtain⟨j,hj,e⟩:=qaA ho;exact hkv j o (by simpa using hj) (by rw[e_ hj,e])
end
section
variable{P:I_}{w:W_}{K:PySem.W.Frag}{mg:r_->Option i_}{base:qad}
theorem AQ {iY lF:g_}{ic jJ:B_}{p:Pm}(T:Txt K mg p w)(fL:Dn K mg "extras_beside" oh l57 iY ic)(gU:Dn K mg "sign_extras" qv l56 lF jJ)(Fy:aI P w K mg base cO 3 lF jJ l56 (Ql K p.au)):aI P w K mg base cO 4 iY ic l57 (UN K p.au):=by
 refine fL.fn.ok uJ (λvs H Q E h=>?_) (λcdv A outer s H vs Q E hr h=>?_)
 ·obtain⟨x,l,sg,rows,fo,fm,S,os,rfl,_⟩:=h;rfl
 ·obtain⟨x,l,sg,rows,fo,fm,S,os,rfl,hP,hO,hS,hl,hn,hos,k⟩:=h;refine⟨_,(ao (aN (i:=3) uJ.nd Y (Or.inr Y) (gc Fy hr gU (aa (pv 0) (aa (pv 1) ah))))
   (ak (aP (gM (N:=["other","extras"]) rfl (cT.rL (nt:=1) (ix:=[3]) rfl (by decide +kernel) (by decide +kernel) (by kernel_rfl) rfl (by kernel_rfl)) (ja (pv 2)) (λ_ _ _ _ _ _ _=>(aS (i:=0) (show(["other","extras"]:List r_).Nodup by decide +kernel) rfl (Or.inl rfl))) (λ_ _ _ _ _ _ _=>(aG (qi (K':=K) rfl rfl) rfl T.CL y9 (aa (gM (N:=["sign","extras"]) rfl (cT.rL (nt:=1) (ix:=[1]) rfl (by decide +kernel) (by decide +kernel) (by kernel_rfl) rfl (by kernel_rfl)) (uh (pv 0)) (λ_ _ _ _ _ _ _=>(aS (i:=0) (show(["sign","extras"]:List r_).Nodup by decide +kernel) rfl (Or.inl rfl))) (λ_ _ _ _ _ _ _=>(Hg (rj hr) (pv 1) (pv 0) (λ_ _=>rfl)))) ah))))))),?_⟩
  refine⟨_,Y,_,Y,x,sg,rows,fo,fm,S,Y,hP,hO,hS,λd H1 kvs s1 hd hdd hkv=>?_⟩;have hl1:=s1 _ _ hl;refine⟨_,Y,l,Y,⟨_,bY.of hl1⟩,λl' hl'=>?_⟩;refine nV os.length (λj=>V.int (NO (sj sg rows (aO fo.2 fm.2 rows)) (sS rows fo fm) S.cps.toList (os.getD j ⟨#[]⟩).cps.toList)) hl' (s_ hn (by decide)) (λj H4 s4 hj=>?_) (λH4 s4=>?_) (λj y H4 H5 R s4 hj hy hR=>?_) λH4 s4 Bj=>?_
  ·exact⟨_,_,bY.of (s4 _ _ hl1),by rw[n_,e_ hj];rfl⟩
  ·exact⟨_,bY.of (s4 _ _ hl1),by rw[f_];exact j_ _⟩
  ·obtain⟨rfl,hy⟩:=hy;have ey:=hy _ (bY.of (s4 _ _ hl1));rw[n_,e_ hj]at ey;cases ey;rw[bz (e_ hj)]at hR;obtain⟨ho,hoz⟩:=hos _ (x_ hj);generalize os[j]=o at ho hoz hR;refine⟨Kp.vd,?_⟩;refine⟨_,Y,_,Y,λl2 hl2=>?_⟩;refine nV o.cps.size (λi=>V.int (lZ (λs=>sj sg rows (aO fo.2 fm.2 rows) s (o.cps.toList.getD i 0)-2*sS rows fo fm) S.cps.toList)) hl2 (s_ hoz (by decide)) (λi H6 s6 hi=>hi) (λH6 s6=>j_ _) (λi y H6 H7 R2 s6 hi hy hR2=>?_) λH6 s6 hl6=>?_
   ·obtain⟨rfl,c,hc,rfl⟩:=hy;refine⟨Kp.vd,?_⟩;refine⟨_,Y,_,Y,d,_,Y,?_,hR2 _ (aj.refl _)⟩;rw[bz (nZ hc),←hkv c (ho c (Ic hc))];exact BC.k (k:=.inr ⟨#[c]⟩) ((s4.trans s6) _ _ hdd)
   ·have e1:(E_ o.cps.size).map (λi=>V.int (lZ (λs=>sj sg rows (aO fo.2 fm.2 rows) s (o.cps.toList.getD i 0)-2*sS rows fo fm) S.cps.toList))=(o.cps.toList.map λc=>lZ (λs=>sj sg rows (aO fo.2 fm.2 rows) s c-2*sS rows fo fm) S.cps.toList).map V.int:=by
     rw[qaf,←o_];exact eL (d:=0) o.cps.toList λc=>V.int (lZ (λs=>sj sg rows (aO fo.2 fm.2 rows) s c-2*sS rows fo fm) S.cps.toList)
    exact⟨l2,_,Y,bY.of (by rw[hl6,e1]),hR _ s6⟩
  ·exact k l' H4 (s1.trans s4) (aj.free s1 hl') (by rw[Bj,eL os (λo=>V.int (NO (sj sg rows (aO fo.2 fm.2 rows)) (sS rows fo fm) S.cps.toList o.cps.toList))])
theorem E5 {nQ iY:g_}{lE ic:B_}{p:Pm}(T:Txt K mg p w)(jx:Dn K mg "all_extras" r9 l58 nQ lE)(fL:Dn K mg "extras_beside" oh l57 iY ic)(Cv:aI P w K mg base cO 4 iY ic l57 (UN K p.au)):aI P w K mg base cO 5 nQ lE l58 (UO K p.au):=by
 refine jx.fn.ok ug (λvs H Q E h=>?_) (λcdv A outer s H vs Q E hr h=>?_)
 ·obtain⟨x,l1,l2,sg,rows,fo,fm,ss,os,rfl,_⟩:=h;rfl
 ·obtain⟨x,l1,l2,sg,rows,fo,fm,ss,os,rfl,hP,h1,hn1,hss,h2,hn2,hos,k⟩:=h;refine⟨_,(ao (aN (i:=3) ug.nd Y (Or.inr Y) JR)
   (ao (dP Q_ rfl (ja (pv 1)) (Z9Y 4 ug.nd) (ak (cN (bf (L7 (rj hr)) (pv 4) (pv 3) (by with_unfolding_all rfl)) (ak (G7 (rj hr) (pv 3) (pv 4) (gc Cv hr fL (aa (pv 0) (aa (pv 4) (aa (pv 2) ah)))) rfl)) br)))
   (ak (aP (gM (N:=["signs","known"]) rfl (cT.rL (nt:=1) (ix:=[3]) rfl (by decide +kernel) (by decide +kernel) (by kernel_rfl) rfl (by kernel_rfl)) (ja (pv 1)) (λ_ _ _ _ _ _ _=>(aS (i:=0) (show(["signs","known"]:List r_).Nodup by decide +kernel) rfl (Or.inl rfl))) (λ_ _ _ _ _ _ _=>(Hg (rj hr) (pv 1) (pv 0) (λ_ _=>rfl)))))))),?_⟩
  refine λq hq=>?_;have s0:aj H (upd H q (.dK [])):=aj.upd hq;refine⟨_,Y,l1,Y,⟨_,bY.of (s0 _ _ h1)⟩,?_⟩;refine sV (K:=K) (a:=l1) (xs:=ss.map V.str) (λi σ H2=>fD λ(v4:Option V) (kv:List (Key×V))=>σ=[some (.ref x),some (.ref l1),some (.ref l2),some (.ref q),v4]/\aj H H2/\H2 q=some (.dK kv)/\kv.length<=i/\(∀j s,j<i->ss[j]? =some s->(mq kv (.inr s)).isSome=true) ∧
   ∀s v,mq kv (.inr s)=some v->∃r,v= .ref r/\H2 r=some (.lst (os.map λo=>V.int (NO (sj sg rows (aO fo.2 fm.2 rows)) (sS rows fo fm) s.cps.toList o.cps.toList)))) ⟨_,[],rfl,s0,ai,j_ _,λj s hj=>absurd hj (qa6 _),λs v z=>by cases z⟩ (λi σ H2 _ hh=>?_) ?_ ?_
  ·obtain⟨_,_,_,s2,_⟩:=hh;exact bY.of (s2 _ _ h1)
  ·rintro i y σ H2 hy ⟨v4,kv,rfl,s2,hd,T7,hks,hkv⟩;obtain⟨z,hz,rfl⟩:=pN hy;have hi:i<ss.length:=(q_.mp hz).1;refine⟨_,Y,_,Y,q,_,Y,BC.k (k:=.inr z) hd,_,Y,?_⟩
   cases hv:mq kv (.inr z)with
   |some v =>
    refine mj ⟨_,_,Y,s2,hd,by omega,λj s hj hs=>?_,hkv⟩;by_cases e:j=i
    ·subst e;rw[hz]at hs;cases hs;rw[hv];rfl
    ·exact hks j s (by omega) hs
   |none =>
    refine qb ⟨_,Y,_,Y,_,Y,x,l2,sg,rows,fo,fm,z,os,Y,hP.same s2,(hss z (l_ hz)).1,(hss z (l_ hz)).2,s2 _ _ h2,hn2,hos,λr H3 s3 hr hr3=>?_⟩;have YZ:=s3 _ _ hd;refine⟨_,Y,_,Y,q,_,Y,IW.k (k:=.inr z) YZ (s_ (show kv.length<=1000 by omega) (by decide)),?_⟩;have nq:∀{r:g_} {xs:List V},H3 r=some (.lst xs)->r≠q:=λ{r xs} h e=>by rw[e,YZ]at h;cases h
    refine⟨_,_,Y,aj.at (s2.trans s3) hq,ai,?_,λj s hj hs=>?_,λs v hsv=>?_⟩
    ·exact m_ (q9 _ _ _) (Nat.succ_le_succ T7)
    ·rw[zk];by_cases e:s=z
     ·rw[if_pos (by rw[e])];rfl
     ·rw[if_neg (λy=>e (by injection y))];refine hks j s ?_ hs;have:j≠i:=λy=>by
       rw[y,hz]at hs;exact e (V_ hs).symm
      omega
    ·rw[zk]at hsv;by_cases e:s=z
     ·rw[if_pos (by rw[e])]at hsv;cases hsv;subst e;exact⟨r,Y,by rw[aH (nq hr3)];exact hr3⟩
     ·rw[if_neg (λy=>e (by injection y))]at hsv;obtain⟨r',e1,e2⟩:=hkv s v hsv;have e3:=s3 _ _ e2;exact⟨r',e1,by rw[aH (nq e3)];exact e3⟩
  ·rintro σ H2 ⟨v4,kv,rfl,s2,hd,T7,hks,hkv⟩;rw[f_]at hks;have h12:=s2 _ _ h1;refine⟨_,Y,l1,Y,⟨_,bY.of h12⟩,λl' hl'=>?_⟩;have at_:∀j,j<ss.length->∃r,((mq kv (.inr (ss.getD j ⟨#[]⟩))).getD .lV)= .ref r/\mq kv (.inr (ss.getD j ⟨#[]⟩))=some (.ref r)/\H2 r=some (.lst (os.map λo=>V.int (NO (sj sg rows (aO fo.2 fm.2 rows)) (sS rows fo fm) (ss.getD j ⟨#[]⟩).cps.toList o.cps.toList))):=λj hj=>by
    have e:=hks j _ hj (e_ hj);rw[←bz (d:=(⟨#[]⟩:r_)) (e_ hj)]at e;obtain⟨v,hv⟩:=qbF.mp e;obtain⟨r,rfl,hr⟩:=hkv _ v hv;exact⟨r,by rw[hv];rfl,hv,hr⟩
   refine nV ss.length (λj=>(mq kv (.inr (ss.getD j ⟨#[]⟩))).getD .lV) hl' (s_ hn1 (by decide)) (λj H4 s4 hj=>?_) (λH4 s4=>?_) (λj y H4 H5 R s4 hj hy hR=>?_) λH4 s4 Bj=>?_
   ·exact⟨_,_,bY.of (s4 _ _ h12),by rw[n_,e_ hj];rfl⟩
   ·exact⟨_,bY.of (s4 _ _ h12),by rw[f_];exact j_ _⟩
   ·obtain⟨rfl,hy⟩:=hy;have ey:=hy _ (bY.of (s4 _ _ h12));rw[n_,e_ hj]at ey;cases ey;obtain⟨r,e1,e2,e3⟩:=at_ j hj;rw[e1]at hR;rw[bz (e_ hj)]at e2;refine⟨Kp.vd,?_⟩;refine⟨_,Y,_,Y,q,.ref r,Y,?_,hR _ (aj.refl _)⟩;rw[←e2];exact BC.k (k:=.inr ss[j]) (s4 _ _ hd)
   ·obtain⟨rs,g1,g2,g3⟩:=Nt (P:=λj r=>H2 r=some (.lst (os.map λo=>V.int (NO (sj sg rows (aO fo.2 fm.2 rows)) (sS rows fo fm) (ss.getD j ⟨#[]⟩).cps.toList o.cps.toList)))) λj hj=>by
     obtain⟨r,e1,_,e3⟩:=at_ j hj;exact⟨r,e1,e3⟩
    refine k l' H4 (s2.trans s4) (aj.free s2 hl') ⟨rs,g1,by rw[Bj,g2],λi r hr=>?_⟩;rw[s4 _ _ (g3 i r hr),←eL (d:=⟨#[]⟩) os]
theorem DE {lG:g_}{jK:B_}{p:Pm}(T:Txt K mg p w)(gW:Dn K mg "rests_ahead" qw l59 lG jK)  :aI P w K mg base cO 1 lG jK l59 Nm:=by
 refine gW.fn.ok mz (λvs H Q E h=>?_) (λcdv A outer s H vs Q E hr h=>?_)
 ·obtain⟨l,b,n,f,g,rfl,_⟩:=h;rfl
 ·obtain⟨l,b,n,f,g,rfl,hl,hb,hn,k⟩:=h;refine⟨_,(ao (Z9X 2 mz.nd (jz (aa aq ah)))
   (ao (dP Q_ rfl (Ov rfl T.lT (aa (aQ wF (aG (aW) rfl T.cV bO (aa (pv 0) ah)) aq) (aa (BI wg aq) (aa (BI wg aq) ah)))) (Z9Y 3 mz.nd) (ao (Z9X 4 mz.nd (aG (Gw rfl) rfl T.UE R4 (aa (bu cj (pv 1) (pv 3) (λ_ _=>rfl)) (aa (bu cj (pv 2) (BI wg aq) (λ_ _=>rfl)) ah))))
   (ao (cN (bf Nz (bu cj (pv 0) (pv 3) (λ_ _=>rfl)) aq (bC _)) (ak (Z9X 4 mz.nd (aG (Gw rfl) rfl T.UE R4 (aa (aQ fC (bu cj (pv 0) (pv 3) (λ_ _=>rfl)) (bu cj (pv 1) (aQ fC (pv 3) aq) (λ_ _=>rfl))) (aa (pv 4) ah))))) br)
   (ak (ee (tS PySem.F.plainAttrs_list PySem.F.slot_list_append PySem.F.type_list_append k8 (pv 2) (aa (pv 4) ah)))))))
   (ao (ee (QS PySem.F.plainAttrs_list PySem.F.slot_list_reverse PySem.F.type_list_reverse DO (pv 2)))
   (ak (aP (pv 2)))))),?_⟩
  refine⟨b_,λq hq=>?_⟩;have s0:aj H (upd H q (.lst [.int 0])):=aj.upd hq;have e0:((E_ n).map λj=>V.int (f j)).length=n:=by rw[f_,qan]
  refine⟨_,Y,_,_,Y,.inl ⟨_,bY.of (s0 _ _ hl),Y⟩,_,_,Y,Y,_,Y,_,Y,_,_,Y,⟨by omega,by omega,by omega,by omega⟩,?_⟩;rw[e0,show((n:Int)-1- -1).toNat=n by omega];refine RA (lo:=(n:Int)-1) (n:=n) (λi σ H2=>fD λ(v3 v4:Option V)=>σ=[some (.ref l),some (.ref b),some (.ref q),v3,v4]/\aj H H2/\H2 q=some (.lst ((E_ (i+1)).map λj=>V.int (xW f g n j)))) ⟨_,_,Y,s0,ai⟩ ?_ ?_
  ·rintro i σ H2 hi ⟨v3,v4,rfl,s2,h2⟩;have hl2:=bY.of (K:=K) (s2 _ _ hl);have hb2:=bY.of (K:=K) (s2 _ _ hb);have e1:(n:Int)-1-(i:Int)=((n-1-i:Nat):Int):=by omega
   rw[e1];have la:MP ((E_ (i+1)).map λj=>V.int (xW f g n j)) (-1)=some (.int (xW f g n i)):=by rw[yy];exact K2 _ _
   have fin:∀{σ':St} {ZZ:Int},ZZ=xW f g n (i+1)->σ'=[some (.ref l),some (.ref b),some (.ref q),some (.int ((n-1-i:Nat):Int)),some (.int ZZ)]->fD λ(v3 v4:Option V)=>σ'=[some (.ref l),some (.ref b),some (.ref q),v3,v4]/\aj H (upd H2 q (.lst ((E_ (i+1)).map (λj=>V.int (xW f g n j))++[V.int ZZ])))/\upd H2 q (.lst ((E_ (i+1)).map (λj=>V.int (xW f g n j))++[V.int ZZ])) q=some (.lst ((E_ (i+1+1)).map λj=>V.int (xW f g n j))):=λ{σ' ZZ} e1 e2=>by
    refine⟨_,_,e2,aj.at s2 hq,?_⟩;rw[ai,e1,yy (n:=i+1)]
   have lt:((E_ (i+1)).map λj=>V.int (xW f g n j)).length<z_:=by
    rw[f_,qan];exact s_ (show i+1<=1000 by omega) (by decide)
   have er:xW f g n (i+1)=uF (f (n-1-i)) (g (n-1-i)) (g (n-i)) (xW f g n i):=rfl;refine⟨_,Y,_,Y,b,_,_,.int (g (n-1-i)),Y,Y,hb2,cG (kU (by omega)),_,Y,_,Y,q,_,_,.int (xW f g n i),Y,Y,bY.of h2,la,_,_,Y,?_⟩;refine⟨_,Y,_,Y,l,_,_,.int (f (n-1-i)),Y,Y,hl2,cG (kU (by omega)),_,_,Y,Y,_,Y,?_⟩;refine gw (λh0=>?_) (λh0=>?_)
   ·refine⟨_,Y,_,Y,l,_,_,.int (f (n-1-i)),Y,Y,hl2,cG (kU (by omega)),_,Y,_,Y,_,_,Y,Y,b,_,_,.int (g (n-i)),Y,Y,hb2,(by rw[show((n-1-i:Nat):Int)+1=((n-i:Nat):Int) by omega];exact cG (kU (by omega))),_,_,Y,Y,_,Y,_,_,Y,?_⟩;refine⟨_,Y,.inl ⟨Y,_,bY.of h2⟩,_,Y,q,_,_,Y,Y,h2,lt,fin ?_ Y⟩;rw[er];unfold uF;rw[if_pos h0];omega
   ·refine⟨_,Y,.inl ⟨Y,_,bY.of h2⟩,_,Y,q,_,_,Y,Y,h2,lt,fin ?_ Y⟩;rw[er];unfold uF;rw[if_neg h0];omega
  ·rintro σ H2 ⟨v3,v4,rfl,s2,h2⟩;refine⟨_,Y,.inl ⟨Y,_,bY.of h2⟩,q,_,Y,Y,h2,?_⟩;refine⟨_,Y,k q _ (aj.at s2 hq) hq ?_⟩;rw[ai,Ol]
theorem EX {nJ lG:g_}{lz jK:B_}{p:Pm}(T:Txt K mg p w)(jr:Dn K mg "join_rests" rV l60 nJ lz)(gW:Dn K mg "rests_ahead" qw l59 lG jK)(Fz:aI P w K mg base cO 1 lG jK l59 Nm):aI P w K mg base cO 2 nJ lz l60 Nb:=by
 refine jr.fn.ok ud (λvs H Q E h=>?_) (λcdv A outer s H vs Q E hr h=>?_)
 ·obtain⟨l,m,n,E,rfl,_⟩:=h;rfl
 ·obtain⟨l,m,n,E,rfl,⟨rs,hrs,hl,Kv⟩,hm,hn,k⟩:=h;refine⟨_,(ao (Z9X 2 ud.nd (jz (aa (aQ L6 (jz (aa aq ah)) (aQ fC (pv 1) aq)) ah)))
   (ao (dP Q_ rfl (Yp rfl T.Lp (aa (pv 0) ah)) (Z9Y 3 ud.nd) (ak (ee (tS PySem.F.plainAttrs_list PySem.F.slot_list_append PySem.F.type_list_append k8 (pv 2) (aa (gc Fz hr gW (aa (pv 3) (aa (bu cj (pv 2) (BI wg aq) (λ_ _=>rfl)) ah))) ah)))))
   (ao (ee (QS PySem.F.plainAttrs_list PySem.F.slot_list_reverse PySem.F.type_list_reverse DO (pv 2)))
   (ak (aP (pv 2)))))),?_⟩
  refine⟨b_,λq0 E9=>?_⟩;have s0:aj H (upd H q0 (.lst [.int 0])):=aj.upd E9;refine⟨_,Y,_,_,Y,Y,q0,_,_,Y,Y,ai,by omega,by omega,(by show 1*_<=z_;rw[Nat.one_mul];exact m_ (show _<=1001 by omega) (by decide)),λp1 hp1=>⟨b_,λq hq=>?_⟩⟩;rw[show((n:Int)+1).toNat=n+1 by omega,Dw]at hq ⊢;have s1:aj H (upd (upd H q0 (.lst [.int 0])) p1 (.lst (y_ (n+1) (V.int 0)))):=s0.trans (aj.upd hp1);have hp2:upd (upd H q0 (.lst [.int 0])) p1 (.lst (y_ (n+1) (V.int 0))) p1=some (.lst ((E_ (n+1)).map λj=>V.int (Om E m n 0 j))):=by
   rw[ai];congr 2;exact(List.eq_replicate_iff.mpr ⟨by simp,λb hb=>by obtain⟨j,_,rfl⟩:=G_.mp hb;rfl⟩).symm
  generalize upd (upd H q0 (.lst [.int 0])) p1 (.lst (y_ (n+1) (V.int 0)))=H1 at s1 hp2 hq ⊢;have nq1:p1≠q:=λz=>by rw[z,hq]at hp2;cases hp2
  have s2:=s1.trans (aj.upd (o:=.lst [V.ref p1]) hq);refine⟨_,Y,l,_,Y,bY.of (s2 _ _ hl),?_⟩;refine Uh (K:=K) (a:=l) (xs:=rs.map V.ref) (λi σ H2=>fD λ(v3:Option V) (qs:List g_)=>σ=[some (.ref l),some (.int (n:Int)),some (.ref q),v3]/\aj H H2/\H2 q=some (.lst (qs.map V.ref))/\qs.length=i+1/\q∉qs/\∀j r,qs[j]? =some r->H2 r=some (.lst ((E_ (n+1)).map λa=>V.int (Om E m n j a)))) ⟨_,[p1],Y,s2,ai,Y,λz=>nq1 (F_.mp z).symm,λj r hr=>?_⟩ (λi σ H2 _ hh=>?_) ?_ ?_
  ·have ej:j=0:=by
    have:=(q_.mp hr).1;have:j<1:=this;omega
   subst ej;cases hr;rw[aH nq1];exact hp2
  ·obtain⟨_,_,_,s3,_⟩:=hh;exact bY.of (s3 _ _ hl)
  ·rintro i y σ H2 hi hy ⟨v3,qs,rfl,s3,h3,Ss,hnq,Ro⟩;rw[f_,hrs]at hi hy;rw[n_]at hy;obtain⟨r,hr,rfl⟩:=qaL.mp hy;obtain⟨Ym,ql,rfl⟩:fD λYm ql=>qs=Ym++[ql]:=by
    rcases List.eq_nil_or_concat qs with h|⟨a,b,h⟩
    ·rw[h]at Ss;cases Ss
    ·exact⟨a,b,by rw[h,List.concat_eq_append]⟩
   have hq':Ym.length=i:=by rw[A_]at Ss;exact Nat.succ.inj Ss
   have af5:=Ro i ql (by rw[qal (by omega),hq',qbZ];rfl);refine⟨_,Y,.inl ⟨Y,_,bY.of h3⟩,_,Y,_,Y,_,Y,q,_,_,.ref ql,Y,Y,bY.of h3,(by rw[P_];exact K2 _ _),r,ql,n,E (m-1-i),Om E m n i,Y,s3 _ _ (Kv _ _ hr),af5,hn,λl' H3 s4 hl' hl3=>?_⟩;have h4:=s4 _ _ h3;refine⟨q,_,_,Y,Y,h4,?_,?_⟩
   ·rw[f_,Ss];exact s_ (show i+1<=1000 by omega) (by decide)
   ·have nl:l'≠q:=λz=>by rw[z,h3]at hl';cases hl'
    refine⟨_,(Ym++[ql])++[l'],Y,aj.at (s3.trans s4) (aj.free s1 hq),?_,by rw[A_,Ss];rfl,λz=>?_,λj r' hr'=>?_⟩
    ·rw[ai,P_ (l₁:=Ym++[ql])];rfl
    ·rcases qab.mp z with z|z
     ·exact hnq z
     ·exact nl (F_.mp z).symm
    ·by_cases hj:j<(Ym++[ql]).length
     ·rw[qar hj]at hr';have nr:r'≠q:=λz=>hnq (z▸l_ hr');rw[aH nr];exact s4 _ _ (Ro j r' hr')
     ·rw[qal (by omega)]at hr';have ej:j=i+1:=by
       have:=(q_.mp hr').1;have:j-(Ym++[ql]).length<1:=this;omega
      subst ej;rw[Ss,qbZ]at hr';cases hr';rw[aH nl];exact hl3
  ·rintro σ H2 ⟨v3,qs,rfl,s3,h3,Ss,hnq,Ro⟩;rw[f_,hrs]at Ss;refine⟨_,Y,.inl ⟨Y,_,bY.of h3⟩,q,_,Y,Y,h3,?_⟩;refine⟨_,Y,k q _ (aj.at s3 (aj.free s1 hq)) (aj.free s1 hq) ⟨qs.reverse,by rw[List.length_reverse,Ss],by rw[ai,List.map_reverse],λi r hr=>?_⟩⟩;have hi:i<qs.length:=by have:=(q_.mp hr).1;rwa [List.length_reverse]at this
   rw[List.getElem?_reverse hi,show qs.length-1-i=m-i by omega]at hr;have nr:r≠q:=λz=>hnq (z▸l_ hr);rw[aH nr];exact Ro _ r hr
end
section
variable{P:I_}{w:W_}{K:PySem.W.Frag}{mg:r_->Option i_}{base:qad}
theorem xZ {bX bW c5 iZ eY nQ nJ:g_}{gG bN cM ig dH lE lz:B_}{p:Pm}(T:Txt K mg p w)(fV:Dm K "__init__" "Joining.__init__" dG ZE bX gG)(bq:Dn K mg "check_block_rows" fQ TF bW bN)(iH:aI P w K mg base (sZ P w) 4 bW bN TF (tF K p.au p.aE))(bA:Dn K mg "columns_of" kH BN c5 cM)(jj:aI P w K mg base cO 3 c5 cM BN (uH K))(c8:Dn K mg "costs_by_gaps" oi l55 iZ ig)(vU:aI P w K mg base cO 4 iZ ig l55 (Ng K p.au))(bP:Dn K mg "signs_of" oA Ra eY dH)(mU:aI P w K mg base cO 1 eY dH Ra uG)(jx:Dn K mg "all_extras" r9 l58 nQ lE)(IU:aI P w K mg base cO 5 nQ lE l58 (UO K p.au))(jr:Dn K mg "join_rests" rV l60 nJ lz)(IM:aI P w K mg base cO 2 nJ lz l60 Nb):aI P w K mg base (sZ P w) 6 bX gG ZE (Nc K p.au p.aJ p.az p.aE):=by
 refine fV.fn.BK nT (λvs H Q E h=>?_) (λcdv A outer s H vs Q E hr h=>?_)
 ·obtain⟨jn,dx,x,o1,o2,sg,rows,fo,fm,r1,r2,rfl,_⟩:=h;rfl
 ·obtain⟨jn,dx,x,o1,o2,sg,rows,fo,fm,r1,r2,rfl,hj,hP0,Rv,hB2,PN,I0,hb1,hb2,kq,ke⟩:=h;have hP:=hP0.Vj hj;have agK:=Rv.Vj hj;have agJ:=hB2.Vj hj;obtain⟨d1,q1,ho1,hq1⟩:=agK;obtain⟨d2,q2,ho2,hq2⟩:=agJ;have hl1:=bZ hb1;have hl2:=bZ hb2;obtain⟨agd,hw1⟩:=bG.mp hl1;obtain⟨agc,hw2⟩:=bG.mp hl2;have agu:Iq (r1++r2):=⟨by rw[A_];have:=PN.1;have:=I0.1;omega,λy hy=>(qab.mp hy).elim (λz=>PN.sm.row y z) λz=>I0.sm.row y z⟩;refine⟨_,(ao (ee (av iH (hr.mono (by decide)) Y bq.m bq.fn.kp bq.b .nil (Lets.passes fB) (aa (pv 1) (aa (aQ NB (bB (pv 2) Y) (bB (pv 3) Y)) ah))))
   (ao (lS (pv 0) (gc jj hr bA (aa (bB (pv 2) rfl) ah)) rfl)
   (ao (lS (pv 0) (gc jj hr bA (aa (bB (pv 3) rfl) ah)) rfl)
   (ao (lS (pv 0) (aQ Hi (eE (v:=.str (w_ "-")) rfl T.z5 ⟨_,rfl⟩) (aG (aW) rfl T.cV bO (aa (bB (pv 2) rfl) ah))) rfl)
   (ao (lS (pv 0) (aQ Hi (eE (v:=.str (w_ "-")) rfl T.z5 ⟨_,rfl⟩) (aG (aW) rfl T.cV bO (aa (bB (pv 3) rfl) ah))) rfl)
   (ao (lS (pv 0) (gc vU hr c8 (aa (pv 1) (aa (bB (pv 0) rfl) (aa (aG (aW) rfl T.cV bO (aa (bB (pv 3) rfl) ah)) ah)))) rfl)
   (ao (lS (pv 0) (gc vU hr c8 (aa (pv 1) (aa (bB (pv 0) rfl) (aa (aG (aW) rfl T.cV bO (aa (bB (pv 2) rfl) ah)) ah)))) rfl)
   (ao (yz (i:=4) (N:=OS) nT.nd rfl (Or.inl rfl) rfl (λ_=>⟨[],cT.plain (by decide +kernel) rfl (by decide +kernel) (by decide +kernel)⟩) (ja (bB (pv 0) rfl)) (λ_ _ _ _ _ _ _=>(aS (i:=0) (show(OS:List r_).Nodup by decide +kernel) rfl (Or.inl rfl))) (λ_ _ _ _ _ _ _=>(gc mU hr bP (aa (pv 0) ah))))
   (ao (yz (i:=5) (N:=OS) nT.nd rfl (Or.inl rfl) rfl (λ_=>⟨[],cT.plain (by decide +kernel) rfl (by decide +kernel) (by decide +kernel)⟩) (ja (bB (pv 0) rfl)) (λ_ _ _ _ _ _ _=>(aS (i:=0) (show(OS:List r_).Nodup by decide +kernel) rfl (Or.inl rfl))) (λ_ _ _ _ _ _ _=>(gc mU hr bP (aa (pv 0) ah))))
   (ao (lS (pv 0) (gc IU hr jx (aa (pv 1) (aa (pv 4) (aa (pv 5) ah)))) rfl)
   (ak (lS (pv 0) (gc IM hr jr (aa (bB (pv 0) rfl) (aa (aG (aW) rfl T.cV bO (aa (bB (pv 0) rfl) ah)) ah))) rfl)))))))))))),?_⟩
  refine⟨_,Y,_,Y,o1,_,d1,_,_,Y,Wo.sub _ _ ho1,T.cW,T.bx,fz,_,Y,o2,_,d2,_,_,Y,Wo.sub _ _ ho2,T.cW,T.bx,fz,q1,q2,_,_,Y,Y,aj.tup Wo.sub hq1,aj.tup Wo.sub hq2,λz=>agd (List.map_eq_nil_iff.mp z),?_,λz=>absurd (List.map_eq_nil_iff.mp z) agc,λ_ pt hpt=>?_⟩
  ·rw[f_,f_];exact m_ (show _<=100 by have:=PN.1;have:=I0.1;omega) (by decide)
  have s0:aj H (upd H pt (.tup (r1.map V.str++r2.map V.str))):=aj.upd hpt;refine⟨x,sg,rows,fo,fm,.ref pt,r1++r2,Y,hP0.same s0,⟨pt,Y,.inr (eK.of (by rw[ai,P_]))⟩,agu,λhO H1 s1=>?_,λi j hB RK H1 s1 hd=>ke i j hB RK H1 (λa u ha _=>s1 _ _ (s0 _ _ ha)) hd⟩;have w1:aj (Wo jn H) (Wo jn H1):=Wo.same (s0.trans s1);have j1:=s1 _ _ (s0 _ _ hj);refine⟨_,Y,o1,_,d1,_,_,Y,Wo.sub _ _ (w1 _ _ ho1),T.cW,T.bx,fz,.ref q1,r1,Y,⟨q1,Y,.inr (aj.tup (w1.trans Wo.sub) hq1)⟩,PN.sm,hl1,λl1 H2 s2 _ aby=>⟨_,Y,jn,_,dx,_,Y,s2 _ _ j1,T.bD,T.jH,by show 0<1000;decide,?_⟩⟩;have ni:∀{H:Hp} {C d:g_} {fs:List (r_×V)} {l:g_} {xs:List V},H jn=some (.ins C d fs)->H l=some (.lst xs)->l≠jn:=λh1 h2 z=>by rw[z,h1]at h2;cases h2
  have eW:Wo jn (upd H2 jn (.ins p.az dx (y1 l1)))=Wo jn H2:=Wo.set;have j2:(upd H2 jn (.ins p.az dx (y1 l1))) jn=some (.ins p.az dx (y1 l1)):=ai;generalize upd H2 jn (.ins p.az dx (y1 l1))=H3 at eW j2 ⊢;have w2:aj (Wo jn H) (Wo jn H3):=by rw[eW];exact w1.trans (Wo.same s2)
  have a1:Wo jn H3 l1=some (.lst ((cols r1 (ck r1)).map V.str)):=by rw[eW];exact Wo.in (ni (s2 _ _ j1) aby) aby
  clear eW;refine⟨_,Y,o2,_,d2,_,_,Y,Wo.sub _ _ (w2 _ _ ho2),T.cW,T.bx,fz,.ref q2,r2,Y,⟨q2,Y,.inr (aj.tup (w2.trans Wo.sub) hq2)⟩,I0.sm,hl2,λl2 H4 s4 _ abx=>⟨_,Y,jn,_,dx,_,Y,s4 _ _ j2,T.bD,T.fR,s_ (aM (X_ 0)) (by decide),?_⟩⟩;have w3:aj (Wo jn H) (Wo jn (upd H4 jn (.ins p.az dx (y2 l1 l2)))):=by rw[Wo.set];exact w2.trans (Wo.same s4)
  have j3:(upd H4 jn (.ins p.az dx (y2 l1 l2))) jn=some (.ins p.az dx (y2 l1 l2)):=ai;have b1:Wo jn (upd H4 jn (.ins p.az dx (y2 l1 l2))) l2=some (.lst ((cols r2 (ck r2)).map V.str)):=by rw[Wo.set];exact Wo.in (ni (s4 _ _ j2) abx) abx
  have a1':Wo jn (upd H4 jn (.ins p.az dx (y2 l1 l2))) l1=some (.lst ((cols r1 (ck r1)).map V.str)):=by rw[Wo.set];exact Wo.same s4 _ _ a1
  generalize upd H4 jn (.ins p.az dx (y2 l1 l2))=H5 at w3 j3 b1 a1' ⊢;refine⟨_,Y,o1,_,d1,_,_,Y,Wo.sub _ _ (w3 _ _ ho1),T.cW,T.bx,fz,_,_,Y,.inr ⟨_,aj.tup (w3.trans Wo.sub) hq1,Y⟩,_,_,Y,Y,?_,?_,by decide,?_,_,Y,jn,_,dx,_,Y,j3,T.bD,T.oF,s_ (aM (aM (X_ 0))) (by decide),?_⟩
  ·rw[f_];have:=PN.1;omega
  ·rw[f_];have:=PN.1;omega
  ·rw[f_];show((r1.length:Nat):Int).toNat*1<=z_;exact m_ (show _<=1000 by have:=PN.1;omega) (by decide)
  rw[f_,JI];have w4:aj (Wo jn H) (Wo jn (upd H5 jn (.ins p.az dx (y3 l1 l2 (aV r1.length))))):=by rw[Wo.set];exact w3
  have j4:(upd H5 jn (.ins p.az dx (y3 l1 l2 (aV r1.length)))) jn=some (.ins p.az dx (y3 l1 l2 (aV r1.length))):=ai;have ab8:Wo jn (upd H5 jn (.ins p.az dx (y3 l1 l2 (aV r1.length)))) l1=some (.lst ((cols r1 (ck r1)).map V.str)):=by rw[Wo.set];exact a1'
  have b1':Wo jn (upd H5 jn (.ins p.az dx (y3 l1 l2 (aV r1.length)))) l2=some (.lst ((cols r2 (ck r2)).map V.str)):=by rw[Wo.set];exact b1
  generalize upd H5 jn (.ins p.az dx (y3 l1 l2 (aV r1.length)))=H6 at w4 j4 ab8 b1' ⊢;refine⟨_,Y,o2,_,d2,_,_,Y,Wo.sub _ _ (w4 _ _ ho2),T.cW,T.bx,fz,_,_,Y,.inr ⟨_,aj.tup (w4.trans Wo.sub) hq2,Y⟩,_,_,Y,Y,?_,?_,by decide,?_,_,Y,jn,_,dx,_,Y,j4,T.bD,T.mQ,s_ (aM (aM (aM (X_ 0)))) (by decide),?_⟩
  ·rw[f_];have:=I0.1;omega
  ·rw[f_];have:=I0.1;omega
  ·rw[f_];show((r2.length:Nat):Int).toNat*1<=z_;exact m_ (show _<=1000 by have:=I0.1;omega) (by decide)
  rw[f_,JI];have w5:aj (Wo jn H) (Wo jn (upd H6 jn (.ins p.az dx (y4 l1 l2 (aV r1.length) (aV r2.length))))):=by rw[Wo.set];exact w4
  have j5:(upd H6 jn (.ins p.az dx (y4 l1 l2 (aV r1.length) (aV r2.length)))) jn=some (.ins p.az dx (y4 l1 l2 (aV r1.length) (aV r2.length))):=ai;have Vc:Wo jn (upd H6 jn (.ins p.az dx (y4 l1 l2 (aV r1.length) (aV r2.length)))) l1=some (.lst ((cols r1 (ck r1)).map V.str)):=by rw[Wo.set];exact ab8
  have ab6:Wo jn (upd H6 jn (.ins p.az dx (y4 l1 l2 (aV r1.length) (aV r2.length)))) l2=some (.lst ((cols r2 (ck r2)).map V.str)):=by rw[Wo.set];exact b1'
  generalize upd H6 jn (.ins p.az dx (y4 l1 l2 (aV r1.length) (aV r2.length)))=H7 at w5 j5 Vc ab6 ⊢;have cA:=tU hb1 λr hr=>hO r (qbB _ hr);have cB:=tU hb2 λr hr=>hO r (qae _ hr);have zA:∀c∈(cols r1 (ck r1)),c.cps.size<=1000:=λc hc=>by rw[cA.size c hc];have:=PN.1;omega
  have zB:∀c∈(cols r2 (ck r2)),c.cps.size<=1000:=λc hc=>by rw[cB.size c hc];have:=I0.1;omega
  have nA:(cols r1 (ck r1)).length<=1000:=by rw[bE];have:=PN.ck hl1;omega
  have nB:(cols r2 (ck r2)).length<=1000:=by rw[bE];have:=I0.ck hl2;omega
  have a5:=Vc;have b5:=ab6;refine⟨_,Y,_,Y,jn,_,dx,_,_,Y,j5,T.bD,T.jH,(sD (sD (sD Mu (by decide +kernel)) (by decide +kernel)) (by decide +kernel)),_,Y,o2,_,d2,_,_,Y,Wo.sub _ _ (w5 _ _ ho2),T.cW,T.bx,fz,_,_,Y,.inr ⟨_,aj.tup (w5.trans Wo.sub) hq2,Y⟩,x,l1,sg,rows,fo,fm,(cols r1 (ck r1)),r2.length,(by rw[f_];rfl),(hP.same w5).same Wo.sub,Wo.sub _ _ a5,nA,zA,(by have:=I0.1;omega),λla H8 s8 _ hla=>⟨_,Y,jn,_,dx,_,Y,s8 _ _ j5,T.bD,T.wK,s_ (aM (aM (aM (aM (X_ 0))))) (by decide),?_⟩⟩;have eW:Wo jn (upd H8 jn (.ins p.az dx (y5 l1 l2 (aV r1.length) (aV r2.length) la)))=Wo jn H8:=Wo.set;have j6:(upd H8 jn (.ins p.az dx (y5 l1 l2 (aV r1.length) (aV r2.length) la))) jn=some (.ins p.az dx (y5 l1 l2 (aV r1.length) (aV r2.length) la)):=ai;generalize upd H8 jn (.ins p.az dx (y5 l1 l2 (aV r1.length) (aV r2.length) la))=H9 at eW j6 ⊢;have w6:aj (Wo jn H) (Wo jn H9):=by rw[eW];exact w5.trans (Wo.same s8)
  have a6:Wo jn H9 l1=some (.lst ((cols r1 (ck r1)).map V.str)):=by rw[eW];exact Wo.same s8 _ _ a5
  have b6:Wo jn H9 l2=some (.lst ((cols r2 (ck r2)).map V.str)):=by rw[eW];exact Wo.same s8 _ _ b5
  have ga6:Wo jn H9 la=some (.lst ((cols r1 (ck r1)).map λc=>V.int (I8 (sS rows fo fm) c r2.length))):=by rw[eW];exact Wo.in (ni (s8 _ _ j5) hla) hla
  clear eW;refine⟨_,Y,_,Y,jn,_,dx,_,_,Y,j6,T.bD,T.fR,(sD (sD (sD Mu (by decide +kernel)) (by decide +kernel)) (by decide +kernel)),_,Y,o1,_,d1,_,_,Y,Wo.sub _ _ (w6 _ _ ho1),T.cW,T.bx,fz,_,_,Y,.inr ⟨_,aj.tup (w6.trans Wo.sub) hq1,Y⟩,x,l2,sg,rows,fo,fm,(cols r2 (ck r2)),r1.length,(by rw[f_];rfl),(hP.same w6).same Wo.sub,Wo.sub _ _ b6,nB,zB,(by have:=PN.1;omega),λlb Ct CD _ hlb=>⟨_,Y,jn,_,dx,_,Y,CD _ _ j6,T.bD,T.wJ,s_ (aM (aM (aM (aM (aM (X_ 0)))))) (by decide),?_⟩⟩;have eW:Wo jn (upd Ct jn (.ins p.az dx (y6 l1 l2 (aV r1.length) (aV r2.length) la lb)))=Wo jn Ct:=Wo.set;have j7:(upd Ct jn (.ins p.az dx (y6 l1 l2 (aV r1.length) (aV r2.length) la lb))) jn=some (.ins p.az dx (y6 l1 l2 (aV r1.length) (aV r2.length) la lb)):=ai;generalize upd Ct jn (.ins p.az dx (y6 l1 l2 (aV r1.length) (aV r2.length) la lb))=UC at eW j7 ⊢;have w7:aj (Wo jn H) (Wo jn UC):=by rw[eW];exact w6.trans (Wo.same CD)
  have a7:Wo jn UC l1=some (.lst ((cols r1 (ck r1)).map V.str)):=by rw[eW];exact Wo.same CD _ _ a6
  have b7:Wo jn UC l2=some (.lst ((cols r2 (ck r2)).map V.str)):=by rw[eW];exact Wo.same CD _ _ b6
  have ga7:Wo jn UC la=some (.lst ((cols r1 (ck r1)).map λc=>V.int (I8 (sS rows fo fm) c r2.length))):=by rw[eW];exact Wo.same CD _ _ ga6
  have gb7:Wo jn UC lb=some (.lst ((cols r2 (ck r2)).map λc=>V.int (I8 (sS rows fo fm) c r1.length))):=by rw[eW];exact Wo.in (ni (CD _ _ j6) hlb) hlb
  clear eW;refine⟨_,Y,jn,_,dx,_,_,Y,j7,T.bD,T.jH,(sD (sD (sD (sD (sD Mu (by decide +kernel)) (by decide +kernel)) (by decide +kernel)) (by decide +kernel)) (by decide +kernel)),l1,Y,⟨_,bY.of (Wo.sub _ _ a7)⟩,λlo hlo=>?_⟩;refine nV (cols r1 (ck r1)).length (λj=>V.str (aY 45 ((cols r1 (ck r1)).getD j ⟨#[]⟩))) hlo (s_ nA (by decide)) (λj H4' QD hj=>?_) (λH4' QD=>?_) (λj y H4' H5' R QD hj hy hR=>?_) λUB s12 abv=>?_
  ·exact⟨_,_,bY.of (QD _ _ (Wo.sub _ _ a7)),by rw[n_,e_ hj];rfl⟩
  ·exact⟨_,bY.of (QD _ _ (Wo.sub _ _ a7)),by rw[f_];exact j_ _⟩
  ·obtain⟨rfl,hy⟩:=hy;have ey:=hy _ (bY.of (QD _ _ (Wo.sub _ _ a7)));rw[n_,e_ hj]at ey;cases ey;refine⟨Kp.vd,_,Y,_,Y,zA _ (x_ hj),?_⟩;have z:=hR _ (aj.refl _);rw[bz (e_ hj)]at z;exact z
  rw[eL (cols r1 (ck r1)) λc=>V.str (aY 45 c)]at abv;refine⟨_,Y,jn,_,dx,_,_,Y,(s12 _ _ j7),T.bD,T.fR,(sD (sD (sD (sD Mu (by decide +kernel)) (by decide +kernel)) (by decide +kernel)) (by decide +kernel)),l2,Y,⟨_,bY.of (Wo.sub _ _ (Wo.same s12 _ _ b7))⟩,λlp hlp=>?_⟩;refine nV (cols r2 (ck r2)).length (λj=>V.str (aY 45 ((cols r2 (ck r2)).getD j ⟨#[]⟩))) hlp (s_ nB (by decide)) (λj H4' QD hj=>?_) (λH4' QD=>?_) (λj y H4' H5' R QD hj hy hR=>?_) λZv s13 abu=>?_
  ·exact⟨_,_,bY.of (QD _ _ (Wo.sub _ _ (Wo.same s12 _ _ b7))),by rw[n_,e_ hj];rfl⟩
  ·exact⟨_,bY.of (QD _ _ (Wo.sub _ _ (Wo.same s12 _ _ b7))),by rw[f_];exact j_ _⟩
  ·obtain⟨rfl,hy⟩:=hy;have ey:=hy _ (bY.of (QD _ _ (Wo.sub _ _ (Wo.same s12 _ _ b7))));rw[n_,e_ hj]at ey;cases ey;refine⟨Kp.vd,_,Y,_,Y,zB _ (x_ hj),?_⟩;have z:=hR _ (aj.refl _);rw[bz (e_ hj)]at z;exact z
  rw[eL (cols r2 (ck r2)) λc=>V.str (aY 45 c)]at abu;have s14:=s12.trans s13;refine⟨_,Y,_,Y,_,Y,x,lo,lp,sg,rows,fo,fm,(cols r1 (ck r1)).map (aY 45),(cols r2 (ck r2)).map (aY 45),Y,(hP.same (w7.trans (Wo.same s14))).same Wo.sub,(by rw[s13 _ _ abv,qaf];rfl),by rw[f_];exact nA,λc hc=>?_,(by rw[abu,qaf];rfl),by rw[f_];exact nB,λc hc=>?_,λle H15 UP _ hle=>?_⟩
  ·obtain⟨c',hc',rfl⟩:=G_.mp hc;exact⟨F0 (cA.of c' hc'),CZ (zA c' hc')⟩
  ·obtain⟨c',hc',rfl⟩:=G_.mp hc;exact⟨F0 (cB.of c' hc'),CZ (zB c' hc')⟩
  have Yh:=s14.trans UP;rw[f_,f_]at hle;have hE:=hle.congr (g:=z7 (sj sg rows (aO fo.2 fm.2 rows)) (sS rows fo fm) (cols r1 (ck r1)) (cols r2 (ck r2))) λi j hi hj=>by
   unfold z7;rw[BE hi,BE hj];rfl
  refine⟨_,Y,jn,_,dx,_,Y,Yh _ _ j7,T.bD,T.p8,s_ (aM (aM (aM (aM (aM (aM (X_ 0))))))) (by decide),?_⟩;have eW:Wo jn (upd H15 jn (.ins p.az dx (y7 l1 l2 (aV r1.length) (aV r2.length) la lb le)))=Wo jn H15:=Wo.set;have j8:(upd H15 jn (.ins p.az dx (y7 l1 l2 (aV r1.length) (aV r2.length) la lb le))) jn=some (.ins p.az dx (y7 l1 l2 (aV r1.length) (aV r2.length) la lb le)):=ai;generalize upd H15 jn (.ins p.az dx (y7 l1 l2 (aV r1.length) (aV r2.length) la lb le))=ZS at eW j8 ⊢;have w8:aj (Wo jn H) (Wo jn ZS):=by rw[eW];exact w7.trans (Wo.same Yh)
  have a8:Wo jn ZS l1=some (.lst ((cols r1 (ck r1)).map V.str)):=by rw[eW];exact Wo.same Yh _ _ a7
  have b8:Wo jn ZS l2=some (.lst ((cols r2 (ck r2)).map V.str)):=by rw[eW];exact Wo.same Yh _ _ b7
  have ga8:Wo jn ZS la=some (.lst ((cols r1 (ck r1)).map λc=>V.int (I8 (sS rows fo fm) c r2.length))):=by rw[eW];exact Wo.same Yh _ _ ga7
  have gb8:Wo jn ZS lb=some (.lst ((cols r2 (ck r2)).map λc=>V.int (I8 (sS rows fo fm) c r1.length))):=by rw[eW];exact Wo.same Yh _ _ gb7
  have e8:xu (Wo jn ZS) le (cols r1 (ck r1)).length (cols r2 (ck r2)).length (z7 (sj sg rows (aO fo.2 fm.2 rows)) (sS rows fo fm) (cols r1 (ck r1)) (cols r2 (ck r2))):=by rw[eW];exact hE.Vj (Yh _ _ j7)
  clear eW;refine⟨_,Y,jn,_,dx,_,_,Y,j8,T.bD,T.p8,Mu,_,Y,jn,_,dx,_,_,Y,j8,T.bD,T.fR,(sD (sD (sD (sD (sD Mu (by decide +kernel)) (by decide +kernel)) (by decide +kernel)) (by decide +kernel)) (by decide +kernel)),_,_,Y,.inl ⟨_,bY.of (Wo.sub _ _ b8),Y⟩,le,(cols r1 (ck r1)).length,(cols r2 (ck r2)).length,z7 (sj sg rows (aO fo.2 fm.2 rows)) (sS rows fo fm) (cols r1 (ck r1)) (cols r2 (ck r2)),(by rw[f_];rfl),e8.same Wo.sub,nA,nB,λlr H18 s18 _ hlr=>⟨_,Y,jn,_,dx,_,Y,s18 _ _ j8,T.bD,T.oq,s_ (aM (aM (aM (aM (aM (aM (aM (X_ 0)))))))) (by decide),?_⟩⟩;have Zz:=Wo.same (t:=jn) s18;refine kq hO _ (λa u ha hne=>?_) ⟨dx,l1,l2,la,lb,le,lr,ai,(Zz.trans Wo.upd) _ _ a8,(Zz.trans Wo.upd) _ _ b8,(Zz.trans Wo.upd) _ _ ga8,(Zz.trans Wo.upd) _ _ gb8,e8.same (Zz.trans Wo.upd),(hlr.Vj (s18 _ _ j8)).same Wo.upd⟩;rw[aH hne];exact Wo.sub _ _ (Zz _ _ (w8 _ _ (Wo.in hne ha)))
end
section
variable{P:I_}{w:W_}{K:PySem.W.Frag}{mg:r_->Option i_}{base:qad}
theorem EZ {nM:g_}{lB:B_}{p:Pm}(T:Txt K mg p w)(ju:Dn K mg "first_move" rX l61 nM lB)  :aI P w K mg base cO 1 nM lB l61 (Qs K p.az):=by
 refine ju.fn.ok ue (λvs H Q E h=>?_) (λcdv A outer s H vs Q E hr h=>?_)
 ·obtain⟨jn,A,B,n1,n2,pc,mo,i,j,rfl,_⟩:=h;rfl
 ·obtain⟨jn,A,B,n1,n2,pc,mo,i,j,rfl,⟨dx,l1,l2,la,lb,le,lr,h1,h2,h3,_,_,h6,h7⟩,nA,nB,hi,hj,k⟩:=h;obtain⟨L,g1,g2,g3⟩:=h7.at_;obtain⟨M,f1,f2,f3⟩:=h6.at_;have eA:(A.map V.str).length=A.length:=f_ ..;have eB:(B.map V.str).length=B.length:=f_ ..;unfold Lj at k;refine⟨_,(ao (cN (bf nS (pv 1) (aG (aW) Y T.cV bO (aa (bB (pv 0) Y) ah)) (bC _)) (ak (aP dQ)) br)
   (ao (Z9X 3 ue.nd (bu cj (bu cj (bB (pv 0) rfl) (pv 1) (λ_ _=>rfl)) (pv 2) (λ_ _=>rfl)))
   (ao (Z9X 4 ue.nd (bu cj (bB (pv 0) rfl) (aQ fC (pv 1) aq) (λ_ _=>rfl)))
   (ao (cN (PW.pt (G6 (bf zI (pv 2) (aG (aW) rfl T.cV bO (aa (bB (pv 0) rfl) ah)) (bC _)) (CF (bf nS (aQ fC (bu cj (bu cj (bB (pv 0) rfl) (pv 1) (λ_ _=>rfl)) (pv 2) (λ_ _=>rfl)) (bu cj (pv 4) (aQ fC (pv 2) aq) (λ_ _=>rfl))) (pv 3) (bC _))))) (ak (aP dQ)) br)
   (ak (aP (Dz (bf nS (bu cj (pv 4) (pv 2) (λ_ _=>rfl)) (pv 3) (bC _)) dQ dQ))))))),?_⟩
  refine⟨_,Y,_,Y,jn,_,dx,_,_,Y,h1,T.bD,T.jH,HP,_,_,Y,.inl ⟨_,bY.of h2,Y⟩,Y,_,Y,?_⟩;rw[Uk,eA];refine gw (λe=>?_) (λe=>?_)
  ·rw[if_pos (by omega)]at k;exact k
  rw[if_neg (by omega)]at k;have hi':i<A.length:=by omega
  obtain⟨r,a1,a2⟩:=g3 i (by omega);obtain⟨r',b1,b2⟩:=g3 (i+1) (by omega);refine⟨_,Y,jn,_,dx,_,_,Y,h1,T.bD,T.oq,DX,_,Y,lr,_,_,.ref r,Y,Y,bY.of g1,cG a1,_,Y,r,_,_,.int (jE (z7 pc mo A B) A.length B.length i j),Y,Y,bY.of a2,cG (kU (by omega)),?_⟩;refine⟨_,Y,jn,_,dx,_,_,Y,h1,T.bD,T.oq,DX,_,Y,_,_,Y,Y,lr,_,_,.ref r',Y,Y,bY.of g1,cG b1,?_⟩;refine⟨_,Y,_,Y,jn,_,dx,_,_,Y,h1,T.bD,T.fR,Bh,_,_,Y,.inl ⟨_,bY.of h3,Y⟩,_,_,Y,Y,_,Y,?_⟩;rw[eB];by_cases hjl:j<B.length
  ·rw[decide_eq_true (show(j:Int)<(B.length:Int) by omega)];obtain⟨q,c1,c2⟩:=f3 i hi';refine qb ⟨_,Y,jn,_,dx,_,_,Y,h1,T.bD,T.p8,OW,_,Y,le,_,_,.ref q,Y,Y,bY.of f1,cG c1,_,Y,q,_,_,.int (z7 pc mo A B i j),Y,Y,bY.of c2,cG (kU hjl),_,Y,_,Y,_,_,Y,Y,r',_,_,.int (jE (z7 pc mo A B) A.length B.length (i+1) (j+1)),Y,Y,bY.of b2,cG (j:=j+1) (kU (by omega)),_,_,Y,Y,_,Y,Y,_,Y,?_⟩;rw[Uk];refine gw (λe2=>?_) (λe2=>?_)
   ·rw[if_pos ⟨hjl,e2⟩]at k;exact k
   ·rw[if_neg λz=>e2 z.2]at k;refine⟨_,Y,_,Y,r',_,_,.int (jE (z7 pc mo A B) A.length B.length (i+1) j),Y,Y,bY.of b2,cG (kU (by omega)),_,Y,Y,_,Y,?_⟩;rw[Uk];refine gw (λe3=>?_) (λe3=>?_)
    ·rw[if_pos e3]at k;exact k
    ·rw[if_neg e3]at k;exact k
  ·rw[decide_eq_false (show ¬(j:Int)<(B.length:Int) by omega)];rw[if_neg λz=>hjl z.1]at k;refine mj (mj ⟨_,Y,_,Y,r',_,_,.int (jE (z7 pc mo A B) A.length B.length (i+1) j),Y,Y,bY.of b2,cG (kU (by omega)),_,Y,Y,_,Y,?_⟩);rw[Uk];refine gw (λe3=>?_) (λe3=>?_)
   ·rw[if_pos e3]at k;exact k
   ·rw[if_neg e3]at k;exact k
theorem DI {lK nM fE:g_}{jO lB eS:B_}{p:Pm}(T:Txt K mg p w)(gZ:Dn K mg "first_moves" qC Mv lK jO)(ju:Dn K mg "first_move" rX l61 nM lB)(IQ:aI P w K mg base cO 1 nM lB l61 (Qs K p.az))(cS:Dn K mg "place_behind" mJ YF fE eS)(sW:aI P w K mg base cO 1 fE eS YF (Di K)):aI P w K mg base cO 2 lK jO Mv (Nh K p.az):=by
 refine gZ.fn.ok mF (λvs H Q E h=>?_) (λcdv A outer s H vs Q E hr h=>?_)
 ·obtain⟨jn,A,B,n1,n2,pc,mo,rfl,_⟩:=h;rfl
 ·obtain⟨jn,A,B,n1,n2,pc,mo,rfl,hJ,nA,nB,k⟩:=h;have eA:(A.map V.str).length=A.length:=f_ ..;have eB:(B.map V.str).length=B.length:=f_ ..;refine⟨_,(ao (Z9X 1 mF.nd (gK (aa aq (aa aq ah))))
   (ao (Z9X 2 mF.nd (jz ah))
   (ao (Dy Q_ (bf (Ho (qaP (rj hr))) (pv 1) (gK (aa (aG (aW) rfl T.cV bO (aa (bB (pv 0) rfl) ah)) (aa (aG (aW) rfl T.cV bO (aa (bB (pv 0) rfl) ah)) ah))) (bC _)) (ao (Z9X 3 mF.nd (gc IQ hr ju (aa (pv 0) (aa (bu cQ (pv 1) aq (λ_ _=>rfl)) (aa (bu cQ (pv 1) aq (λ_ _=>rfl)) ah)))))
   (ao (ee (tS PySem.F.plainAttrs_list PySem.F.slot_list_append PySem.F.type_list_append k8 (pv 2) (aa (pv 3) ah)))
   (ak (Z9X 1 mF.nd (gc sW hr cS (aa (pv 1) (aa (pv 3) ah))))))))
   (ak (aP (pv 2)))))),?_⟩
  refine⟨c_,λq0 E9=>⟨a_,λl hl=>?_⟩⟩;have s0:=(aj.upd (o:=.tup [.int 0,.int 0]) E9).trans (aj.upd (o:=.lst []) hl);have nq:q0≠l:=λz=>by rw[←z,ai]at hl;cases hl
  have O0:H l=none:=aj.free (aj.upd E9) hl;refine⟨λm σ H2=>GF λ(q:g_) (v3:Option V) (cs:List Nat) (i j:Nat)=>σ=[some (.ref jn),some (.ref q),some (.ref l),v3]/\aj H H2/\H2 l=some (.lst (cs.map sg))/\TupAt H2 q ((i:Int),(j:Int))/\xC (z7 pc mo A B) A.length B.length cs i j/\m=A.length+B.length-(i+j),⟨_,q0,_,[],0,0,Y,s0,ai,?_,.nil,Y⟩,?_⟩
  ·show upd _ _ _ q0=_;rw[aH nq];exact ai
  rintro m σ H2 ⟨q,v3,cs,i,j,rfl,s2,h2,hq,hF,hm⟩;obtain⟨hi,hj,hc⟩:=hF.path.in;obtain⟨dx,l1,l2,la,lb,le,lr,h1,h3,h4,_⟩:=hJ.same s2;refine⟨_,Y,_,Y,jn,_,dx,_,_,Y,h1,T.bD,T.jH,HP,_,_,Y,.inl ⟨_,bY.of h3,Y⟩,_,Y,jn,_,dx,_,_,Y,h1,T.bD,T.fR,Bh,_,_,Y,.inl ⟨_,bY.of h4,Y⟩,c_,λqt hqt=>?_⟩;have s3:=s2.trans (aj.upd (o:=.tup [.int (((A.map V.str).length:Nat):Int),.int (((B.map V.str).length:Nat):Int)]) hqt);have h2':=aj.upd (o:=.tup [.int (((A.map V.str).length:Nat):Int),.int (((B.map V.str).length:Nat):Int)]) hqt _ _ h2;have hq':TupAt (upd H2 qt (.tup [.int (((A.map V.str).length:Nat):Int),.int (((B.map V.str).length:Nat):Int)])) q ((i:Int),(j:Int)):=aj.upd hqt _ _ hq;refine⟨q,qt,_,_,Y,Y,hq'.fr,eK.of ai,Y,Y,_,Y,?_⟩;generalize upd H2 qt (.tup [.int (((A.map V.str).length:Nat):Int),.int (((B.map V.str).length:Nat):Int)])=H3 at s3 h2' hq' ⊢;rw[Qa,eA,eB];by_cases he:i=A.length/\j=B.length
  ·rw[decide_eq_true (show(i:Int)=(A.length:Int)/\(j:Int)=(B.length:Int) by omega)];obtain⟨rfl,rfl⟩:=he;exact kY ⟨_,Y,k l H3 cs s3 O0 h2' hF⟩
  ·rw[decide_eq_false (show ¬((i:Int)=(A.length:Int)/\(j:Int)=(B.length:Int)) by omega)];obtain⟨i',j',hm',hres⟩:=Yy (E:=z7 pc mo A B) hi hj he;obtain⟨e1,e2,e3⟩:=hm'.in hi hj;refine zY ⟨λσ' H'=>rG λ(q:g_) (v3:Option V) (cs:List Nat)=>σ'=[some (.ref jn),some (.ref q),some (.ref l),v3]/\aj H H'/\H' l=some (.lst (cs.map sg))/\TupAt H' q ((i':Int),(j':Int))/\xC (z7 pc mo A B) A.length B.length cs i' j',λσ' H' h=>?_,?_⟩
   ·obtain⟨q,v3,cs,rfl,a,b,c,d⟩:=h;exact⟨A.length+B.length-(i'+j'),by omega,q,v3,cs,i',j',Y,a,b,c,d,Y⟩
   refine⟨_,Y,_,Y,q,_,_,_,Y,Y,hq'.fr,Y,_,Y,q,_,_,_,Y,Y,hq'.fr,Y,jn,A,B,n1,n2,pc,mo,i,j,Y,hJ.same s3,nA,nB,hi,hj,?_⟩;refine⟨_,Y,.inl ⟨Y,_,bY.of h2'⟩,_,Y,l,_,_,Y,Y,h2',?_,?_⟩
   ·rw[f_];exact s_ (show cs.length<=1000 by omega) (by decide)
   have hq2:=hq'.off (o:=.lst (cs.map sg++[V.str ⟨#[Lj (z7 pc mo A B) A.length B.length i j]⟩])) h2';have Bj:upd H3 l (.lst (cs.map sg++[V.str ⟨#[Lj (z7 pc mo A B) A.length B.length i j]⟩])) l=some (.lst ((cs++[Lj (z7 pc mo A B) A.length B.length i j]).map sg)):=by
    rw[ai,P_];rfl
   have s4:aj H (upd H3 l (.lst (cs.map sg++[V.str ⟨#[Lj (z7 pc mo A B) A.length B.length i j]⟩]))):=aj.at s3 O0;generalize upd H3 l (.lst (cs.map sg++[V.str ⟨#[Lj (z7 pc mo A B) A.length B.length i j]⟩]))=H4 at hq2 Bj s4 ⊢;refine⟨_,Y,_,Y,q,_,_,Y,hq2.fr,Yx,λr hr=>?_⟩;rw[hm'.stp];exact⟨r,_,_,Y,s4.trans (aj.upd hr),aj.upd hr _ _ Bj,ai,hF.snoc hm' hres⟩
end
section
variable{P:I_}{w:W_}{K:PySem.W.Frag}{mg:r_->Option i_}{base:qad}
theorem Ca {jV fE:g_}{iS eS:B_}{p:Pm}(T:Txt K mg p w)(gj:Dn K mg "laid_columns" pF l62 jV iS)(cS:Dn K mg "place_behind" mJ YF fE eS)(sW:aI P w K mg base cO 1 fE eS YF (Di K)):aI P w K mg base cO 2 jV iS l62 (Na K):=by
 refine gj.fn.ok fJ (λvs H Q E h=>?_) (λcdv A outer s H vs Q E hr h=>?_)
 ·obtain⟨l1,l2,lm,A,B,g1,g2,cs,i,j,rfl,_⟩:=h;rfl
 ·obtain⟨l1,l2,lm,A,B,g1,g2,cs,ie,je,rfl,h1,h2,hm,nA,nB,zA,zB,z1,z2,hp,k⟩:=h;obtain⟨pi1,pj1,hpat⟩:=hp.at_;have hcl:=hp.in.2.2;obtain⟨pi2,pj2,_⟩:=hp.in;refine⟨_,(ao (Z9X 5 fJ.nd (jz ah))
   (ao (Z9X 6 fJ.nd (gK (aa aq (aa aq ah))))
   (ao (dP Q_ rfl (ja (pv 4)) (Z9Y 7 fJ.nd) (ao (Z9X 8 fJ.nd (Nv (eE (v:=.ref p.nR) rfl T.HW rfl) (pv 7) (λ_ _=>rfl)))
   (bJ (Z9X 9 fJ.nd (Dz (bf nS (bu cQ (pv 8) aq (λ_ _=>rfl)) aq (bC _)) (bu cj (pv 0) (bu cQ (pv 6) aq (λ_ _=>rfl)) (λ_ _=>rfl)) (pv 2)))
   (bJ (Z9X 10 fJ.nd (Dz (bf nS (bu cQ (pv 8) aq (λ_ _=>rfl)) aq (bC _)) (bu cj (pv 1) (bu cQ (pv 6) aq (λ_ _=>rfl)) (λ_ _=>rfl)) (pv 3)))
   (ao (ee (tS PySem.F.plainAttrs_list PySem.F.slot_list_append PySem.F.type_list_append k8 (pv 5) (aa (aQ oE (pv 9) (pv 10)) ah)))
   (ak (Z9X 6 fJ.nd (gc sW hr cS (aa (pv 6) (aa (pv 7) ah))))))))))
   (ak (aP (pv 5)))))),?_⟩
  refine⟨a_,λl hl=>?_⟩;refine⟨c_,λq0 E9=>?_⟩;have s1:aj H (upd (upd H l (.lst [])) q0 (.tup [.int 0,.int 0])):=(aj.upd hl).trans (aj.upd E9);have nq:l≠q0:=λz=>by rw[←z,ai]at E9;cases E9
  refine⟨_,Y,lm,Y,⟨_,bY.of (s1 _ _ hm)⟩,sV (K:=K) (a:=lm) (xs:=cs.map sg) (λi σ H2=>GF λ(q:g_) (v7 v8 v9 v10:Option V)=>σ=[some (.ref l1),some (.ref l2),some (.str g1),some (.str g2),some (.ref lm),some (.ref l),some (.ref q),v7,v8,v9,v10]/\H2 l=some (.lst ((wc A B g1 g2 cs i).map V.str))/\TupAt H2 q ((pI cs i:Int),(pJ cs i:Int))/\aj H H2)
   ⟨q0,_,_,_,_,rfl,by rw[aH nq];exact ai,ai,s1⟩ (λi σ H2 _ hh=>?_) ?_ ?_⟩
  ·obtain⟨_,_,_,_,_,_,_,_,s2⟩:=hh;exact bY.of (s2 _ _ hm)
  ·rintro i y σ H2 hy ⟨q,v7,v8,v9,v10,rfl,hl2,tq,s2⟩;obtain⟨c,hc,rfl⟩:=pN hy;have hi:i<cs.length:=(q_.mp hc).1;obtain⟨c',hc',hmv⟩:=hpat i hi;rw[hc]at hc';cases hc';have afZ:=hmv.stp;have hmo:=hmv.ok;obtain⟨v,st,hv,hst,ha,hb⟩:fD λ(v:g_) (st:cC)=>mq [(Sum.inr (w_ "p"),V.ref p.kT),(Sum.inr (w_ "a"),V.ref p.kR),(Sum.inr (w_ "b"),V.ref p.kQ)] (Sum.inr ⟨#[c]⟩:Key)=some (.ref v)/\(∀H:Hp,eK K H v [.int st.1,.int st.2]) ∧
     ((st.1=1/\pI cs i<A.length/\c≠98)\/(st.1=0/\c=98))/\((st.2=1/\pJ cs i<B.length/\c≠97)\/(st.2=0/\c=97)):=by
    generalize pI cs (i+1)=i1 at hmv;generalize pJ cs (i+1)=j1 at hmv
    cases hmv with
    |p hi hj=>exact⟨p.kT,(1,1),gf (show(Sum.inr (w_ "p"):Key)=Sum.inr ⟨#[112]⟩ by decide +kernel),T.JO,.inl ⟨Y,hi,by decide⟩,.inl ⟨Y,hj,by decide⟩⟩
    |a hi=>exact⟨p.kR,(1,0),(gg (show ¬(Sum.inr (w_ "p"):Key)=Sum.inr ⟨#[97]⟩ by decide +kernel)).trans (gf (show(Sum.inr (w_ "a"):Key)=Sum.inr ⟨#[97]⟩ by decide +kernel)),T.JN,.inl ⟨Y,hi,by decide⟩,.inr ⟨Y,Y⟩⟩
    |b hj=>exact⟨p.kQ,(0,1),(gg (show ¬(Sum.inr (w_ "p"):Key)=Sum.inr ⟨#[98]⟩ by decide +kernel)).trans ((gg (show ¬(Sum.inr (w_ "a"):Key)=Sum.inr ⟨#[98]⟩ by decide +kernel)).trans (gf (show(Sum.inr (w_ "b"):Key)=Sum.inr ⟨#[98]⟩ by decide +kernel))),T.JM,.inr ⟨Y,Y⟩,.inl ⟨Y,hj,by decide⟩⟩
   refine⟨_,Y,p.nR,_,.inr ⟨#[c]⟩,_,Y,Y,T.DW P,hv,?_⟩
   obtain⟨L,hL⟩:∃L:r_,L=(if c=98 then g1 else A.getD (pI cs i) ⟨#[]⟩):=⟨_,rfl⟩
   obtain⟨R,hR⟩:∃R:r_,R=(if c=97 then g2 else B.getD (pJ cs i) ⟨#[]⟩):=⟨_,rfl⟩
   have zL:L.cps.size<=1000:=by
    rcases ha with⟨_,e2,e3⟩|⟨_,e3⟩
    ·rw[hL,if_neg e3];exact zA _ (getD_mem e2)
    ·rw[hL,if_pos e3];exact z1
   have zR:R.cps.size<=1000:=by
    rcases hb with⟨_,e2,e3⟩|⟨_,e3⟩
    ·rw[hR,if_neg e3];exact zB _ (getD_mem e2)
    ·rw[hR,if_pos e3];exact z2
   refine⟨λσ' H'=>H'=H2/\σ'=[some (.ref l1),some (.ref l2),some (.str g1),some (.str g2),some (.ref lm),some (.ref l),some (.ref q),some (.str ⟨#[c]⟩),some (.ref v),some (.str L),v10],?_,?_⟩
   ·refine⟨_,Y,v,_,_,_,Y,Y,hst _,Y,Y,_,Y,?_⟩;rcases ha with⟨e1,e2,e3⟩|⟨e1,e3⟩
    ·rw[e1,decide_eq_true rfl];refine qb ⟨_,Y,_,Y,q,_,_,_,Y,Y,tq.fr,Y,l1,_,_,.str L,Y,Y,bY.of (s2 _ _ h1),cG ?_,Y,Y⟩;rw[hL,if_neg e3,n_,e_ e2,bz (e_ e2)];rfl
    ·rw[e1,decide_eq_false (show ¬V.int 0=V.int 1 by decide)];refine mj ⟨_,Y,Y,?_⟩;rw[hL,if_pos e3];rfl
   rintro σ' H3 ⟨rfl,rfl⟩;refine⟨λσ' H'=>H'=H3/\σ'=[some (.ref l1),some (.ref l2),some (.str g1),some (.str g2),some (.ref lm),some (.ref l),some (.ref q),some (.str ⟨#[c]⟩),some (.ref v),some (.str L),some (.str R)],?_,?_⟩
   ·refine⟨_,Y,v,_,_,_,Y,Y,hst _,Y,Y,_,Y,?_⟩;rcases hb with⟨e1,e2,e3⟩|⟨e1,e3⟩
    ·rw[e1,decide_eq_true rfl];refine qb ⟨_,Y,_,Y,q,_,_,_,Y,Y,tq.fr,Y,l2,_,_,.str R,Y,Y,bY.of (s2 _ _ h2),cG ?_,Y,Y⟩;rw[hR,if_neg e3,n_,e_ e2,bz (e_ e2)];rfl
    ·rw[e1,decide_eq_false (show ¬V.int 0=V.int 1 by decide)];refine mj ⟨_,Y,Y,?_⟩;rw[hR,if_pos e3];rfl
   rintro σ' H4 ⟨rfl,rfl⟩;refine⟨_,Y,.inl ⟨Y,_,bY.of hl2⟩,_,Y,_,Y,_,_,Y,Y,m_ (Nat.add_le_add zL zR) (by decide),l,_,_,Y,Y,hl2,?_,?_⟩
   ·unfold wc;rw[f_,f_,qan];exact K_ (show i<1000 by omega) (by decide)
   have tq2:=tq.off (o:=.lst ((wc A B g1 g2 cs i).map V.str++[V.str (L++R)])) hl2;have hl3:upd H4 l (.lst ((wc A B g1 g2 cs i).map V.str++[V.str (L++R)])) l=some (.lst ((wc A B g1 g2 cs (i+1)).map V.str)):=by
    rw[ai];unfold wc;rw[yy,P_,List.map_singleton,bz hc,hL,hR];rfl
   have s3:aj H (upd H4 l (.lst ((wc A B g1 g2 cs i).map V.str++[V.str (L++R)]))):=aj.at s2 hl;generalize upd H4 l (.lst ((wc A B g1 g2 cs i).map V.str++[V.str (L++R)]))=H5 at tq2 hl3 s3 ⊢;refine⟨_,Y,_,Y,q,c,_,Y,tq2.fr,hmo,λr hr=>?_⟩;rw[afZ];exact⟨r,_,_,_,_,Y,aj.upd hr _ _ hl3,ai,s3.trans (aj.upd hr)⟩
  ·rintro σ H2 ⟨q,v7,v8,v9,v10,rfl,hl2,tq,s2⟩;rw[f_]at hl2;exact⟨_,Y,k l H2 s2 hl hl2⟩
theorem Cb {jW lK jV kZ aD:g_}{iT jO iS iQ aT:B_}{p:Pm}(T:Txt K mg p w)(gk:Dn K mg "joined_block" pG Mv jW iT)(gZ:Dn K mg "first_moves" qC Mv lK jO)(FE:aI P w K mg base cO 2 lK jO Mv (Nh K p.az))(gj:Dn K mg "laid_columns" pF l62 jV iS)(Ez:aI P w K mg base cO 2 jV iS l62 (Na K))(fO:Dn K mg "turned" uL TL kZ iQ)(xw:aI P w K mg base cO 2 kZ iQ TL (zq K))(aU:Dm K "__init__" "Block.__init__" bR IY aD aT)(f6:Mk K p.aJ aD)(cE:aI P w K mg base cO 5 aD aT IY (nv (tG K p.aJ p.bK))):aI P w K mg base cO 7 jW iT Mv (Nd K p.aJ p.az):=by
 refine gk.fn.ok rE (λvs H Q E h=>?_) (λcdv A outer s H vs Q E hr h=>?_)
 ·obtain⟨jn,A,B,n1,n2,pc,mo,kn,rfl,_⟩:=h;rfl
 ·obtain⟨jn,A,B,n1,n2,pc,mo,kn,rfl,hJ,ok,k⟩:=h;refine⟨_,(ao (Z9X 1 rE.nd (gc FE hr gZ (aa (pv 0) ah)))
   (ao (Z9X 2 rE.nd (gc Ez hr gj (aa (bB (pv 0) rfl) (aa (bB (pv 0) rfl) (aa (bB (pv 0) rfl) (aa (bB (pv 0) rfl) (aa (pv 1) ah)))))))
   (ak (aP (tR f6 cE (hr.mono (by decide)) rfl T.qZ aU.b .nil aR (aa (gc xw hr fO (aa (pv 2) (aa (aG (aW) rfl T.cV bO (aa (aQ oE (bB (pv 0) rfl) (bB (pv 0) rfl)) ah)) ah))) ah)))))),?_⟩
  have nA:=ok.la;have nB:=ok.lb;refine⟨_,Y,jn,A,B,n1,n2,pc,mo,Y,hJ,by omega,by omega,λlm H1 cs s1 _ hm hF=>?_⟩;obtain⟨dx,l1,l2,la,lb,le,lr,h1,h2,h3,_⟩:=hJ.same s1;have hin:=hF.path.in;have m1:=ok.s1;have m2:=ok.s2;refine⟨_,Y,jn,_,dx,_,_,Y,h1,T.bD,T.jH,HP,_,Y,jn,_,dx,_,_,Y,h1,T.bD,T.fR,Bh,_,Y,jn,_,dx,_,_,Y,h1,T.bD,T.oF,BO,_,Y,jn,_,dx,_,_,Y,h1,T.bD,T.mQ,yg,_,Y,l1,l2,lm,A,B,aV n1,aV n2,cs,A.length,B.length,Y,h2,h3,hm,by omega,by omega,λc hc=>by rw[ok.a.size c hc];omega,λc hc=>by rw[ok.b.size c hc];omega,by rw[iO];omega,by rw[iO];omega,hF.path,λlc H2 s2 _ hc=>?_⟩;have s12:=s1.trans s2;have vA:=s2 _ _ h1;have hC:=hF.path.cols ok.a ok.b ok.kn;have hz:(wc A B (aV n1) (aV n2) cs cs.length).length=cs.length:=by unfold wc;rw[f_,qan]
  have hp1:=ok.p1;obtain⟨T8,_⟩:=sJ (by omega) hC;refine⟨_,Y,_,Y,jn,_,dx,_,_,Y,vA,T.bD,T.oF,BO,_,Y,jn,_,dx,_,_,Y,vA,T.bD,T.mQ,yg,_,_,Y,Y,?_,_,_,Y,⟨?_,Y⟩,.ref lc,wc A B (aV n1) (aV n2) cs cs.length,n1+n2,?_,⟨lc,Y,.inl (bY.of hc)⟩,⟨by rw[hz];omega,λr hr=>by rw[hC.size r hr];omega⟩,by omega,λr hr=>qce (hC.size r hr).symm,λlt H3 s3 _ ht=>?_⟩
  ·show(aV n1).cps.size+(aV n2).cps.size<=z_;rw[iO,iO];exact m_ (show _<=1000 by omega) (by decide)
  ·show(aV n1++aV n2).cps.size<=z_;rw[uZ,iO,iO];exact m_ (show _<=1000 by omega) (by decide)
  ·show [V.ref lc,V.int (((aV n1++aV n2).cps.size:Nat):Int)]=_;rw[uZ,iO,iO]
  refine λo RK ho hdx Ti=>?_;have s7:aj H3 (upd (upd H3 RK (.own o)) o (.ins p.aJ RK [])):=aj.at (aj.upd hdx) ho;refine⟨o,RK,_,_,Y,ai,⟨lt,Y,.inl (bY.of (s7 _ _ ht))⟩,⟨by rw[bE];omega,λr hr=>?_⟩,λ_ H8 q1 q2=>?_,λz=>(by rw[T8]at z;cases z)⟩
  ·rw[←hz]at hin;obtain⟨j,_,rfl⟩:=G_.mp (show r∈(E_ (n1+n2)).map (iK (wc A B (aV n1) (aV n2) cs cs.length)) from hr);rw[show(iK (wc A B (aV n1) (aV n2) cs cs.length) j).cps.size=(wc A B (aV n1) (aV n2) cs cs.length).length from f_ ..];omega
  ·have g2:aj H3 H8:=λc u hc=>q1 _ _ (s7 _ _ hc) (λz=>by rw[z,ho]at hc;cases hc);exact⟨Y,k o H8 cs ((s12.trans s3).trans g2) (aj.free (s12.trans s3) ho) hF q2⟩
end
section
variable{P:I_}{w:W_}{K:PySem.W.Frag}{mg:r_->Option i_}{base:qad}
theorem HA {jg:g_}{gQ:B_}{p:Pm}(T:Txt K mg p w)(fq:Dn K mg "check_row" qT CH jg gQ)  :aI P w K mg base (sZ P w) 1 jg gQ CH (LJ K p.aJ p.dX):=by
 refine fq.fn.BK G3 (λvs H Q E h=>?_) (λcdv A outer s H vs Q E hr h=>?_)
 ·obtain⟨b,i,rs,rfl,_⟩:=h;rfl
 ·obtain⟨b,i,rs,rfl,⟨dx,q,hb,hq⟩,k,kX⟩:=h;refine⟨_,(ak (cN (jy (QH Nz zI aq (pv 1) (aG (aW) Y T.cV bO (aa (bB (pv 0) Y) ah)))) (ak (qY fB T.Jb Y Y T.DP (aa dQ ah))) br)),?_⟩;refine⟨_,Y,_,_,Y,Y,_,Y,?_⟩;refine gw (λh1=>?_) λh1=>?_
  ·have vA:0<=i:=h1;refine⟨_,Y,b,_,dx,_,_,Y,hb,T.cW,T.bx,fz,_,_,Y,.inr ⟨_,hq,Y⟩,_,_,Y,Y,_,Y,?_⟩;rw[f_];by_cases h2:i<(rs.length:Int)
   ·rw[decide_eq_true h2];exact kY (k (by unfold inR;rw[decide_eq_true vA,decide_eq_true h2];rfl))
   ·rw[decide_eq_false h2];exact zY ⟨b_,kX (by unfold inR;rw[decide_eq_false h2,qb_])⟩
  ·have vA:¬ 0<=i:=h1;exact⟨_,Y,zY ⟨b_,kX (by unfold inR;rw[decide_eq_false vA];rfl)⟩⟩
theorem Te {Bm jg eY:g_}{xO gQ dH:B_}{p:Pm}(T:Txt K mg p w)(xE:Dn K mg "bare" G5 CH Bm xO)(fq:Dn K mg "check_row" qT CH jg gQ)(xA:aI P w K mg base (sZ P w) 1 jg gQ CH (LJ K p.aJ p.dX))(bP:Dn K mg "signs_of" oA Ra eY dH)(mU:aI P w K mg base cO 1 eY dH Ra uG):aI P w K mg base (sZ P w) 2 Bm xO CH (Qx K p.aJ p.dX):=by
 refine xE.fn.BK SX (λvs H Q E h=>?_) (λcdv A outer s H vs Q E hr h=>?_)
 ·obtain⟨b,i,rs,rfl,_⟩:=h;rfl
 ·obtain⟨b,i,rs,rfl,hB,hS,k,kX⟩:=h;refine⟨_,(ao (ee (av xA (hr.mono (by decide)) Y fq.m fq.fn.kp fq.b .nil (Lets.passes fB) (aa (pv 0) (aa (pv 1) ah))))
   (ak (aP (gc mU hr bP (aa (bu cQ (bB (pv 0) rfl) (pv 1) (λ_ _=>rfl)) ah))))),?_⟩
  refine⟨_,Y,_,Y,b,i,rs,Y,hB,λe=>?_,kX⟩;obtain⟨dx,q,hb,hq⟩:=hB;unfold inR at e;rw[R_,decide_eq_true_iff,decide_eq_true_iff]at e;obtain⟨n,rfl⟩:∃n:Nat,i=(n:Int):=⟨i.toNat,by omega⟩;have hlt:n<rs.length:=by omega
  have hat:=e_ hlt;refine⟨_,Y,b,_,dx,_,_,Y,hb,T.cW,T.bx,fz,_,Y,q,_,_,_,Y,Y,hq,?_,_,Y,hS.row _ (x_ hlt),k _ e.1 hat⟩;exact cG (by rw[n_,hat];rfl)
theorem QZ {xQ aD:g_}{uS aT:B_}{p:Pm}(T:Txt K mg p w)(t9:Dn K mg "alone" CC PK xQ uS)(aU:Dm K "__init__" "Block.__init__" bR IY aD aT)(f6:Mk K p.aJ aD)(cE:aI P w K mg base (sZ P w) 5 aD aT IY (tG K p.aJ p.bK)):aI P w K mg base (sZ P w) 7 xQ uS PK (JB K p.aJ p.bK):=by
 refine t9.fn.BK QC (λvs H Q E h=>?_) (λcdv A outer s H vs Q E hr h=>?_)
 ·obtain⟨x,rfl,_⟩:=h;rfl
 ·obtain⟨x,rfl,hx,k,kX⟩:=h;refine⟨_,(ak (aP (tR f6 cE (hr.mono (by decide)) Y T.qZ aU.b .nil (Lets.passes fB) (aa (jz (aa (pv 0) ah)) ah)))),?_⟩;refine⟨_,Y,b_,λl hl=>?_⟩;intro o dx ho hdx Ti;have s1:aj H (upd H l (.lst [.str x])):=aj.upd hl;generalize hH1:upd H l (.lst [.str x])=H1 at s1 ho hdx;have hl1:H1 l=some (.lst [.str x]):=by rw[←hH1];exact ai
  have s2:aj H1 (upd (upd H1 dx (.own o)) o (.ins p.aJ dx [])):=aj.at (aj.upd hdx) ho;refine⟨o,dx,_,[x],Y,ai,⟨l,Y,.inl (bY.of (s2 _ _ hl1))⟩,⟨by show 1<=100;decide,λr hr=>by rw[F_.mp hr];exact hx⟩,λe H' h1 h2=>⟨Y,k e o H' (λa u ha=>?_) (aj.free s1 ho) h2⟩,λe H' s3=>kX e H' ((s1.trans s2).trans s3)⟩;have ha1:=s1 _ _ ha;exact h1 _ _ (s2 _ _ ha1) (λz=>by rw[z,ho]at ha1;cases ha1)
theorem ES {gT:g_}{fZ:B_}{p:Pm}(T:Txt K mg p w)(dW:Dn K mg "other_rows" pC CH gT fZ)  :aI P w K mg base cO 1 gT fZ CH (Dc K p.aJ):=by
 refine dW.fn.ok EL (λvs H Q E h=>?_) (λcdv A outer s H vs Q E hr h=>?_)
 ·obtain⟨b,n,rs,rfl,_⟩:=h;rfl
 ·obtain⟨b,n,rs,rfl,⟨dx,q,hb,hq⟩,hn,hl,k⟩:=h;have hL:(rs.map V.str).length=rs.length:=f_ ..;refine⟨_,(ak (aP (aQ DB (kW Dl (bB (pv 0) Y) pM (m6 (pv 1))) (kW Dl (bB (pv 0) Y) (m6 (aQ fC (pv 1) aq)) pM)))),?_⟩;refine⟨_,Y,b,_,dx,_,_,Y,hb,T.cW,T.bx,fz,_,Y,_,Y,q,_,Y,hq,?_,λq1 hq1=>?_⟩
  ·rw[HT.wz,HT.se,hL];omega
  rw[RP (by omega)];have s1:aj H (upd H q1 (.tup ((rs.map V.str).take n))):=aj.upd hq1;have h1:upd H q1 (.tup ((rs.map V.str).take n)) q1=some (.tup ((rs.map V.str).take n)):=ai;generalize upd H q1 (.tup ((rs.map V.str).take n))=H1 at s1 h1 ⊢;refine⟨_,Y,b,_,dx,_,_,Y,s1 _ _ hb,T.cW,T.bx,fz,_,Y,_,_,Y,Y,_,Y,q,_,Y,aj.tup s1 hq,?_,λq2 hq2=>?_⟩
  ·rw[show(n:Int)+1=((n+1:Nat):Int) by omega,HT.se,HT.wz,hL];omega
  rw[show(n:Int)+1=((n+1:Nat):Int) by omega,KP (by omega)];have s2:aj H1 (upd H1 q2 (.tup ((rs.map V.str).drop (n+1)))):=aj.upd hq2;have h2:upd H1 q2 (.tup ((rs.map V.str).drop (n+1))) q2=some (.tup ((rs.map V.str).drop (n+1))):=ai;generalize upd H1 q2 (.tup ((rs.map V.str).drop (n+1)))=H2 at s2 h2 ⊢;have vA:=s2 _ _ h1;have e:(rs.eraseIdx n).map V.str=(rs.map V.str).take n++(rs.map V.str).drop (n+1):=by rw[List.eraseIdx_eq_take_drop_succ,P_,qcD,List.map_drop]
  by_cases z:n=0
  ·subst z;refine .inr ⟨q1,q2,_,Y,Y,eK.of vA,eK.of h2,k q2 H2 (s1.trans s2) ?_⟩;rw[e];exact eK.of h2
  ·refine .inl ⟨q1,q2,_,_,Y,Y,eK.of vA,eK.of h2,?_,?_,λz2=>k q1 H2 (s1.trans s2) ?_,λz2 p hp=>k p _ (aj.at (s1.trans s2) ((s1.trans s2).free hp)) ?_⟩
   ·intro z2;have:=congrArg List.length z2;rw[qai,hL]at this;have:min n rs.length=0:=this;omega
   ·rw[qai,qa8,hL];exact m_ (show _<=100 by omega) (by decide)
   ·rw[e,z2,qaR];exact eK.of vA
   ·rw[e];exact eK.of ai
theorem Ma {sH jg gT c5 nK kZ aD:g_}{qc gQ fZ cM kI iQ aT:B_}{p:Pm}(T:Txt K mg p w)(o7:Dn K mg "without" xG CH sH qc)(fq:Dn K mg "check_row" qT CH jg gQ)(xA:aI P w K mg base (sZ P w) 1 jg gQ CH (LJ K p.aJ p.dX))(dW:Dn K mg "other_rows" pC CH gT fZ)(vJ:aI P w K mg base cO 1 gT fZ CH (Dc K p.aJ))(bA:Dn K mg "columns_of" kH BN c5 cM)(jj:aI P w K mg base cO 3 c5 cM BN (uH K))(iz:Dn K mg "is_gaps" uM OS nK kI)(BA:aI P w K mg base cO 1 nK kI OS Df)(fO:Dn K mg "turned" uL TL kZ iQ)(xw:aI P w K mg base cO 2 kZ iQ TL (zq K))(aU:Dm K "__init__" "Block.__init__" bR IY aD aT)(f6:Mk K p.aJ aD)(cE:aI P w K mg base (sZ P w) 5 aD aT IY (tG K p.aJ p.bK)):aI P w K mg base (sZ P w) 7 sH qc CH (F1 K p.aJ p.dX):=by
 refine o7.fn.BK yt (λvs H Q E h=>?_) (λcdv A outer s H vs Q E hr h=>?_)
 ·obtain⟨b,i,rs,rfl,_⟩:=h;rfl
 ·obtain⟨b,i,rs,rfl,hB,hS,T3,hok,k,kX⟩:=h;have Rp:=hok;unfold cR at Rp;rw[R_,R_]at Rp;obtain⟨ok1,ok2,_⟩:=Rp;refine⟨_,(ao (ee (av xA (hr.mono (by decide)) Y fq.m fq.fn.kp fq.b .nil (Lets.passes fB) (aa (pv 0) (aa (pv 1) ah))))
   (ao (cN (bf nS (aG (aW) rfl T.cV bO (aa (bB (pv 0) rfl) ah)) aq (bC _)) (ak (qY fB T.Jb rfl rfl T.DP (aa dQ ah))) br)
   (ao (Z9X 2 yt.nd (gc vJ hr dW (aa (pv 0) (aa (pv 1) ah))))
   (ao (JQ (i:=3) (N:=OS) yt.nd rfl (Or.inl rfl) rfl (λ_=>⟨[],cT.plain (by decide +kernel) rfl (by decide +kernel) (by decide +kernel)⟩) (ja (gc jj hr bA (aa (pv 2) ah))) (λ_ _ _ _ _ _ _=>(aS (i:=0) (show(OS:List r_).Nodup by decide +kernel) rfl (Or.inl rfl))) (λ_ _ _ _ _ _ _=>(pv 0)) (λ_ _ _ _ _ _ _=>(jy (gD (gc BA hr iz (aa (pv 0) ah))))))
   (ak (aP (tR f6 cE (hr.mono (by decide)) rfl T.qZ aU.b .nil (Lets.passes fB) (aa (gc xw hr fO (aa (pv 3) (aa (aG (aW) rfl T.cV bO (aa (pv 2) ah)) ah))) ah)))))))),?_⟩
  refine⟨_,Y,_,Y,b,i,rs,Y,hB,λe=>?_,λe=>kX (.inl e) H (aj.refl _)⟩;have e':=e;unfold inR at e';rw[R_,decide_eq_true_iff,decide_eq_true_iff]at e';obtain⟨n,rfl⟩:∃n:Nat,i=(n:Int):=⟨i.toNat,by omega⟩;have hlt:n<rs.length:=by omega
  have hB':=hB;obtain⟨dx,q,hb,hq⟩:=hB';refine⟨_,Y,b,_,dx,_,_,Y,hb,T.cW,T.bx,fz,_,_,Y,.inr ⟨_,hq,Y⟩,Y,_,Y,?_⟩;rw[f_];by_cases h1:rs.length=1
  ·rw[decide_eq_true (show V.int ((rs.length:Nat):Int)=V.int 1 by rw[h1];rfl)];exact qb ⟨b_,kX (.inr h1) H (aj.refl _)⟩
  rw[decide_eq_false (λz=>h1 (by injection z with z;omega))];refine mj ?_;have r1:=Pb ok1 hlt h1;have r2:=Ib (n:=n) ok2;have r3:=Pa ok1 hlt h1;have r4:(rs.eraseIdx n).length<=100:=by rw[qbu hlt];have:=hS.len;omega
  have rS:Iq (rs.eraseIdx n):=⟨r4,λr hr=>hS.row r (T_ hr)⟩;refine⟨_,Y,_,Y,b,n,rs,Y,hB,hlt,hS.len,λq1 H1 s1 hq1=>?_⟩;obtain⟨os,hos⟩:∃os,os=rs.eraseIdx n:=⟨_,rfl⟩;rw[←hos]at hq1 r1 r2 r3 r4 rS;have hR1:Rw K H1 (.ref q1) os:=⟨q1,rfl,.inr hq1⟩;refine⟨_,Y,_,os,Y,hR1,rS,r1,λl H2 s2 HR hl2=>?_⟩;refine⟨l,Y,⟨_,bY.of hl2⟩,λl2 T6=>?_⟩;refine Ig (ck os) (λi=>!c6 (iK os i)) (λi=>V.str (iK os i)) T6 (s_ (show ck os<=100 by omega) (by decide)) (λi H3 s3 hi=>?_) (λH3 s3=>?_) (λi x H3 H4 R S s3 hi y hR hF=>?_) λH3 s3 hl3=>?_
  ·exact⟨_,_,bY.of (s3 _ _ hl2),by rw[n_,xT hi];rfl⟩
  ·exact⟨_,bY.of (s3 _ _ hl2),by rw[f_,bE];exact j_ _⟩
  ·obtain⟨rfl,y⟩:=y;have ex:=y _ (bY.of (s3 _ _ hl2));rw[n_,xT hi]at ex;cases ex;refine⟨Kp.rep _ _,?_⟩;refine⟨_,Y,_,Y,by rw[lQ];omega,_,Y,?_⟩
   cases z:c6 (iK os i)with
   |true=>exact kY (hF (by rw[z];rfl) _ (aj.refl _))
   |false=>exact zY ⟨_,Y,hR (by rw[z];rfl) _ (aj.refl _)⟩
  ·rw[O5]at hl3;have hR3:Rw K H3 (.ref l2) ((cols os (ck os)).filter λc=>!c6 c):=⟨l2,rfl,.inl (bY.of hl3)⟩;have ZI:eK K H3 q1 (os.map V.str):=aj.tup s3 (aj.tup s2 hq1);refine⟨_,Y,_,Y,_,_,Y,.inr ⟨_,ZI,Y⟩,_,_,os.length,by rw[f_];rfl,hR3,MI (by omega) r4 _,by omega,λr hr=>qce (Uq hr).symm,λl3 H4 s4 hn4 Bj=>?_⟩;intro o dx2 ho hdx Ti;have s5:aj H4 (upd (upd H4 dx2 (.own o)) o (.ins p.aJ dx2 [])):=aj.at (aj.upd hdx) ho;have s04:aj H H4:=((s1.trans s2).trans s3).trans s4;refine⟨o,dx2,_,packed os,Y,ai,⟨l3,Y,.inl (bY.of (s5 _ _ Bj))⟩,Hh (by omega) r4,λ_ H' g1 g2=>⟨Y,k e h1 o H' (λa u ha=>?_) (aj.free s04 ho) (by rw[hos]at g2;exact g2)⟩,λz=>?_⟩
   ·have ha1:=s04 _ _ ha;exact g1 _ _ (s5 _ _ ha1) (λz=>by rw[z,ho]at ha1;cases ha1)
   ·rw[uO r1 r2]at z;cases z
theorem B9 {jU:g_}{iR:B_}{p:Pm}(T:Txt K mg p w)(cJ:Dn K mg "_law_block_is" pD l63 jU iR)  :aI P w K mg base cO 1 jU iR l63 (Nk K p.aJ):=by
 refine cJ.fn.ok B3 (λvs H Q E h=>?_) (λcdv A outer s H vs Q E hr h=>?_)
 ·obtain⟨b,a,rs,rfl,_⟩:=h;rfl
 ·obtain⟨b,a,rs,rfl,⟨dx,q,hb,hq⟩,ha,hl,kk⟩:=h;refine⟨_,(ao (cN (PW.pt (qW (jy (gD (aG (Ij) Y T.dN c9 (aa (pv 0) (aa (eE (v:=.ref p.aJ) Y T.qZ Y) ah))))) (sQ (jy (gD (aG (su) Y T.dN c9 (aa (bB (pv 0) Y) (aa (vp (v:=.ty "tuple") Y T.tw rq Y) ah)))))))) (ak (aP rH)) br)
   (ak (aP (vo (L8 (qaP (rj hr))) (bB (pv 0) rfl) (p5 (qN) rfl T.tw rq (aa (pv 1) ah)) (bC _))))),?_⟩
  refine⟨_,Y,b,_,dx,_,Y,hb,T.Rh,_,Y,kY ?_⟩;refine⟨_,Y,b,_,dx,_,_,Y,hb,T.cW,T.bx,fz,_,"tuple",.type "tuple",true,Y,.inr ⟨q,_,Y,hq,Y⟩,(by kernel_rfl),_,Y,kY ?_⟩;refine⟨_,Y,b,_,dx,_,_,Y,hb,T.cW,T.bx,fz,_,Y,a,_,Y,.inl ⟨ha,λq2 hq2=>⟨q,q2,_,_,Y,Y,aj.tup (aj.upd hq2) hq,eK.of ai,Bk,Bk,?_⟩⟩⟩;show Q (.bl (i7 (rs.map V.str) (rs.map V.str))) _;rw[yl];exact kk _ (aj.upd hq2)
end
section
variable{P:I_}{w:W_}{K:PySem.W.Frag}{mg:r_->Option i_}{base:qad}
theorem yE {dm Bm xQ sH bX:g_}{cX xO uS qc gG:B_}{p:Pm}(T:Txt K mg p w)(bU:Dn K mg "row_with_others" i9 Ks dm cX)(xE:Dn K mg "bare" G5 CH Bm xO)(Zw:aI P w K mg base (sZ P w) 2 Bm xO CH (Qx K p.aJ p.dX))(t9:Dn K mg "alone" CC PK xQ uS)(UD:aI P w K mg base cO 7 xQ uS PK (nv (JB K p.aJ p.bK)))(o7:Dn K mg "without" xG CH sH qc)(Px:aI P w K mg base (sZ P w) 7 sH qc CH (F1 K p.aJ p.dX))(fV:Dm K "__init__" "Joining.__init__" dG ZE bX gG)(Bx:Mk K p.az bX)(zh:aI P w K mg base cO 6 bX gG ZE (nv (Nc K p.au p.aJ p.az p.aE))):aI P w K mg base (sZ P w) 9 dm cX Ks (LI K p.au p.aJ p.az p.dX):=by
 refine bU.fn.BK yu (λvs H Q E h=>?_) (λcdv A outer s H vs Q E hr h=>?_)
 ·obtain⟨x,b,i,sg,rows,fo,fm,rs,rfl,_⟩:=h;rfl
 ·obtain⟨x,b,i,sg,rows,fo,fm,rs,rfl,hP,hB,hS,hb,hO,kq,ke⟩:=h;have hl:=bZ hb;refine⟨_,(ak (aP (tR Bx zh (hr.mono (by decide)) Y T.Mp fV.b .nil aR (aa (pv 0) (aa (gc UD hr t9 (aa (av Zw (hr.mono (by decide)) Y xE.m xE.fn.kp xE.b .nil (Lets.passes fB) (aa (pv 1) (aa (pv 2) ah))) ah)) (aa (av Px (hr.mono (by decide)) Y o7.m o7.fn.kp o7.b .nil (Lets.passes fB) (aa (pv 1) (aa (pv 2) ah))) ah)))))),?_⟩;refine⟨_,Y,_,Y,_,Y,b,i,rs,Y,hB,hS.sm,λy hi hy=>?_,λz=>ke (.inl z) H (aj.refl _)⟩;have hy':=l_ hy;have hyz:=hS.2 y hy';have hil:i.toNat<rs.length:=(q_.mp hy).1;have hal:=Ae (x:=y) λc hc=>wj (v_.mp (mT hb) y hy') hc;have hsz:(aY 45 y).cps.size<=50:=m_ tE hyz;have hw:=hS.ck hl;have hz:=hS.1;refine⟨aY 45 y,Y,by omega,λ_ o1 H1 s1 ho1 Rv=>?_,λz=>(by rw[hal]at z;cases z)⟩;refine⟨_,Y,_,Y,b,i,rs,Y,hB.same s1,hS.sm,by omega,hb,λhin h1 o2 H2 s2 ho2 hB2=>?_,λz H2 s2=>ke z H2 (s1.trans s2)⟩;obtain⟨l1,l2,l3⟩:=vt hl hil h1;have hO2:∀r∈rs.eraseIdx i.toNat,Of (qL sg) r:=λr hr=>hO r (T_ hr);have Mw:=uO l1 (v_.mpr λr hr=>v_.mp (mT hb) r (T_ hr));have s12:=s1.trans s2;intro jn dx hj hdx Ti;have s3:aj H2 (upd (upd H2 dx (.own jn)) jn (.ins p.az dx [])):=aj.at (aj.upd hdx) hj;refine⟨jn,dx,x,o1,o2,sg,rows,fo,fm,[aY 45 y],packed (rs.eraseIdx i.toNat),Y,ai,hP.same (s12.trans s3),Rv.same (s2.trans s3),hB2.same s3,⟨by show 1<=40;decide,λr hr=>by rw[F_.mp hr];exact hsz⟩,AN l1 (by omega) (by omega),hal,Mw,λ_ H3 q1 q2=>?_,λa c Sv=>absurd (λr hr=>?_) Sv.no⟩
  ·have s4:aj H H3:=λc u hc=>q1 _ _ (s3 _ _ (s12 _ _ hc)) (λz=>by rw[z,s12.free hj]at hc;cases hc);exact⟨Y,kq y hi hy h1 jn H3 s4 q2⟩
  ·rcases qab.mp hr with hr|hr
   ·rw[F_.mp hr];exact λc hc=>hO y hy' c (pY hc).1
   ·exact xK l1 hO2 r hr
theorem wG {cP jW aD:g_}{cI iT aT:B_}{p:Pm}(T:Txt K mg p w)(bI:Dn K mg "with_row_put_back" gE YD cP cI)(gk:Dn K mg "joined_block" pG Mv jW iT)(EA:aI P w K mg base cO 7 jW iT Mv (Nd K p.aJ p.az))(aU:Dm K "__init__" "Block.__init__" bR IY aD aT)(f6:Mk K p.aJ aD)(cE:aI P w K mg base cO 5 aD aT IY (nv (tG K p.aJ p.bK))):aI P w K mg base cO 8 cP cI YD (LK K p.aJ p.az):=by
 refine bI.fn.ok qQ (λvs H Q E h=>?_) (λcdv A outer s H vs Q E hr h=>?_)
 ·obtain⟨jn,r,n2,A,B,pc,mo,kn,rfl,_⟩:=h;rfl
 ·obtain⟨jn,r,n2,A,B,pc,mo,kn,rfl,hJ,ok,hrn,hn2,k⟩:=h;refine⟨_,(ao (Z9X 2 qQ.nd (bB (gc EA hr gk (aa (pv 0) ah)) Y))
   (ak (aP (tR f6 cE (hr.mono (by decide)) rfl T.qZ aU.b .nil aR (aa (aQ DB (aQ DB (kW Dl (pv 2) (m6 aq) (m6 (aQ fC (pv 1) aq))) (kW Dl (pv 2) pM (m6 aq))) (kW Dl (pv 2) (m6 (aQ fC (pv 1) aq)) pM)) ah))))),?_⟩
  refine⟨_,Y,jn,A,B,1,n2,pc,mo,kn,Y,hJ,ok,λb H1 cs s1 hb1 hF Rv=>?_⟩;obtain⟨R,hR⟩:∃R,R=cols (wc A B (aV 1) (aV n2) cs cs.length) (1+n2):=⟨_,rfl⟩;rw[←hR]at Rv;have hRl:R.length=1+n2:=by rw[hR,bE]
  obtain⟨bk,_⟩:=sJ (by omega) (hF.path.cols ok.a ok.b ok.kn);rw[←hR]at bk;have k':∀b H' cs',aj H H'->H b=none->cs'=cs->vV K p.aJ H' b (mh r (R.headD ⟨#[]⟩) R.tail)->Q (.ref b) H':=λb H' cs' s hb e hB=>k b H' cs s hb hF (by rw[←hR];exact hB);have hm1:=ok.s2
  cases hc:R with
  |nil=>rw[hc]at hRl;have:0=1+n2:=hRl;omega
  |cons y ys =>
  rw[hc]at Rv hRl k' bk;have hyl:ys.length=n2:=by have:ys.length+1=1+n2:=hRl;omega
  have hL:((y::ys).map V.str).length=n2+1:=by rw[f_,qac,hyl]
  obtain⟨dq,q,hbq,hq⟩:=Rv;refine⟨b,_,dq,_,_,Y,hbq,T.cW,T.bx,fz,?_⟩;have er:(r:Int)+1=((r+1:Nat):Int):=by omega
  refine⟨_,Y,_,Y,_,Y,_,_,Y,Y,_,Y,q,_,Y,hq,?_,λq1 hq1=>?_⟩
  ·rw[show(1:Int)=((1:Nat):Int) from rfl,HT.se,hL];omega
  rw[er,show vX ((y::ys).map V.str) (some 1) (some ((r+1:Nat):Int))=(ys.take r).map V.str from(Uo (a:=1) (b:=r+1) (by omega) (by omega)).trans (by rw[Nat.add_sub_cancel,qak,List.drop_succ_cons,qbS,qcD])];have s2:aj H1 (upd H1 q1 (.tup ((ys.take r).map V.str))):=aj.upd hq1;have h2:upd H1 q1 (.tup ((ys.take r).map V.str)) q1=some (.tup ((ys.take r).map V.str)):=ai;generalize upd H1 q1 (.tup ((ys.take r).map V.str))=H2 at s2 h2 ⊢;refine⟨_,Y,_,Y,q,_,Y,aj.tup s2 hq,?_,λq2 hq2=>?_⟩
  ·rw[show(1:Int)=((1:Nat):Int) from rfl,HT.se,hL];omega
  rw[show vX ((y::ys).map V.str) none (some 1)=[V.str y] from(RP (n:=1) (by omega)).trans rfl];have s3:aj H2 (upd H2 q2 (.tup [.str y])):=aj.upd hq2;have h3:upd H2 q2 (.tup [.str y]) q2=some (.tup [.str y]):=ai;generalize upd H2 q2 (.tup [.str y])=H3 at s3 h3 ⊢;refine KW (eK.of (s3 _ _ h2)) (eK.of h3) ?_ λq4 H4 s4 h4=>?_
  ·rw[f_,qai];exact m_ (show _<=1000 by show _+1<=1000;omega) (by decide)
  refine⟨_,Y,_,Y,_,_,Y,Y,_,Y,q,_,Y,aj.tup (s2.trans (s3.trans s4)) hq,?_,λq5 hq5=>?_⟩
  ·rw[er,HT.se,HT.wz,hL];omega
  rw[er,show vX ((y::ys).map V.str) (some ((r+1:Nat):Int)) none=(ys.drop r).map V.str from(KP (by omega)).trans (by rw[qak,List.drop_succ_cons,List.map_drop])];have s5:aj H4 (upd H4 q5 (.tup ((ys.drop r).map V.str))):=aj.upd hq5;have h5:upd H4 q5 (.tup ((ys.drop r).map V.str)) q5=some (.tup ((ys.drop r).map V.str)):=ai;generalize upd H4 q5 (.tup ((ys.drop r).map V.str))=H5 at s5 h5 ⊢;refine KW (aj.tup s5 h4) (eK.of h5) ?_ λq6 H6 s6 h6=>?_
  ·rw[A_,f_,f_,qai,qa8];exact m_ (show _<=1000 by show _+1+_<=1000;omega) (by decide)
  have e6:(ys.take r).map V.str++[V.str y]++(ys.drop r).map V.str=(mh r y ys).map V.str:=by
   unfold mh;rw[P_,P_];rfl
  rw[e6]at h6;have sA:=s2.trans (s3.trans (s4.trans (s5.trans s6)));intro o dx ho hdx Ti;have s7:aj H6 (upd (upd H6 dx (.own o)) o (.ins p.aJ dx [])):=aj.at (aj.upd hdx) ho;have bp:=BU (r:=r) bk;have hin:=hF.path.in;have la:=ok.la;have lb:=ok.lb;have ysz:∀z∈y::ys,z.cps.size<=1000:=λz hz=>by
   have hz':z∈cols (wc A B (aV 1) (aV n2) cs cs.length) (1+n2):=by rw[←hR,hc];exact hz
   obtain⟨j,_,rfl⟩:=G_.mp (show z∈(E_ (1+n2)).map (iK (wc A B (aV 1) (aV n2) cs cs.length)) from hz');rw[lQ];unfold wc;rw[f_,qan];omega
  refine⟨o,dx,_,mh r y ys,Y,ai,⟨q6,Y,.inr (aj.tup s7 h6)⟩,⟨by rw[sR];omega,λz hz=>?_⟩,λ_ H8 q1 q2=>⟨Y,?_⟩,λz=>(by rw[bp]at z;cases z)⟩
  ·rcases qX hz with rfl|hz
   ·exact ysz _ (D_ ..)
   ·exact ysz _ (C_ _ hz)
  ·have g2:aj H6 H8:=λc u hc=>q1 _ _ (s7 _ _ hc) (λz=>by rw[z,ho]at hc;cases hc);exact k' o H8 cs (s1.trans (sA.trans g2)) ((s1.trans sA).free ho) Y q2
theorem Hz {o6 bW dm cP:g_}{nE bN cX cI:B_}{p:Pm}(T:Txt K mg p w)(kD:Dn K mg "laid_anew" tQ Ks o6 nE)(bq:Dn K mg "check_block_rows" fQ TF bW bN)(iH:aI P w K mg base (sZ P w) 4 bW bN TF (tF K p.au p.aE))(bU:Dn K mg "row_with_others" i9 Ks dm cX)(pS:aI P w K mg base (sZ P w) 9 dm cX Ks (LI K p.au p.aJ p.az p.dX))(bI:Dn K mg "with_row_put_back" gE YD cP cI)(nW:aI P w K mg base cO 8 cP cI YD (LK K p.aJ p.az)):aI P w K mg base (sZ P w) 11 o6 nE Ks (Qy K p.au p.aJ p.aE p.dX):=by
 refine kD.fn.BK G2 (λvs H Q E h=>?_) (λcdv A outer s H vs Q E hr h=>?_)
 ·obtain⟨x,b,i,sg,rows,fo,fm,rs,rfl,_⟩:=h;rfl
 ·obtain⟨x,b,i,sg,rows,fo,fm,rs,rfl,hP,hB,hS,hb,kq,kr,ks⟩:=h;obtain⟨dq,q,hbq,hq⟩:=id hB;refine⟨_,(ao (ee (av iH (hr.mono (by decide)) Y bq.m bq.fn.kp bq.b .nil (Lets.passes fB) (aa (pv 0) (aa (bB (pv 1) Y) ah))))
   (ak (aP (gc nW hr bI (aa (av pS (hr.mono (by decide)) rfl bU.m bU.fn.kp bU.b .nil (Lets.passes fB) (aa (pv 0) (aa (pv 1) (aa (pv 2) ah)))) (aa (pv 2) ah)))))),?_⟩
  refine⟨_,Y,_,Y,b,_,dq,_,_,Y,hbq,T.cW,T.bx,fz,x,sg,rows,fo,fm,.ref q,rs,Y,hP,⟨q,Y,.inr hq⟩,hS.sm,λhO H1 s1=>?_,λa c Sv dx H1 s1 hd=>ks a c Sv dx H1 s1 hd⟩;have hl:=bZ hb;refine⟨_,Y,_,Y,_,Y,x,b,i,sg,rows,fo,fm,rs,Y,hP.same s1,hB.same s1,hS,hb,hO,λy hi hy h1 jn H2 s2 hJ=>?_,λz H2 s2=>kr hO z H2 (s1.trans s2)⟩;have hil:i.toNat<rs.length:=(q_.mp hy).1;have hy':=l_ hy;obtain⟨l1,l2,l3⟩:=vt hl hil h1;have hal:=Ae (x:=y) λc hc=>wj (v_.mp (mT hb) y hy') hc;have Mw:=uO l1 (v_.mpr λr hr=>v_.mp (mT hb) r (T_ hr));have hw:=hS.ck hl;have hz:=hS.1;have hpl:(packed (rs.eraseIdx i.toNat)).length=(rs.eraseIdx i.toNat).length:=bE;have sm2:=AN l1 (by omega) (by omega);refine⟨_,Y,jn,i.toNat,(packed (rs.eraseIdx i.toNat)).length,_,_,_,_,(qL sg).cps.toList,(by rw[qaB hi];rfl),hJ,⟨tU hal λr hr=>?_,tU Mw (xK l1 λr hr=>hO r (T_ hr)),?_,?_,by decide,?_,by decide,lX.mpr (.inl Y)⟩,by omega,by omega,λb' H3 cs s3 Su hF hB3=>?_⟩
  ·rw[F_.mp hr];exact λc hc=>hO y hy' c (pY hc).1
  ·rw[bE];exact m_ tE (hS.2 y hy')
  ·rw[bE];exact sm2.ck (bZ Mw)
  ·omega
  ·rw[bE,bE]at hF;exact kq hO y hi hy h1 b' H3 cs ((s1.trans s2).trans s3) ((s1.trans s2).free Su) hF hB3
end
section
variable{P:I_}{w:W_}{K:PySem.W.Frag}{mg:r_->Option i_}{base:qad}
theorem Ka {qh:g_}{oU:B_}{p:Pm}(T:Txt K mg p w)(iJ:Dn K mg "_law_bare" vj Tz qh oU)  :aI P w K mg base cO 1 qh oU Tz Nl:=by
 refine iJ.fn.ok JH (λvs H Q E h=>?_) (λcdv A outer s H vs Q E hr h=>?_)
 ·obtain⟨x,rfl,_⟩:=h;rfl
 ·obtain⟨x,rfl,hz,k⟩:=h;refine⟨_,(ak (aP (tS PySem.F.plainAttrs_str PySem.F.slot_str_join PySem.F.type_str_join HE dQ (aa (JS (N:=["_law_thing_here"]) Y (λ_=>⟨[],cT.plain (by decide +kernel) Y (by decide +kernel) (by decide +kernel)⟩) (uh (pv 0)) (λ_ _ _ _ _ _ _=>(aS (i:=0) (show(["_law_thing_here"]:List r_).Nodup by decide +kernel) Y (Or.inl Y))) (λ_ _ _ _ _ _ _=>(pv 0)) (λ_ _ _ _ _ _ _=>(bf vR (pv 0) dQ (bC _)))) ah)))),?_⟩;refine⟨Y,_,Y,_,Y,λl NJ=>?_⟩;refine Ig x.cps.size (λj=>x.cps.toList.getD j 0 != 45) (λj=>L2.sg (x.cps.toList.getD j 0)) NJ (s_ hz (by decide)) (λj Ct CD hj=>hj) (λCt CD=>j_ _) (λj y Ct UC R S CD hj hy hRR hF=>?_) λCt CD OZ=>?_
  ·obtain⟨rfl,c,hc,rfl⟩:=hy;rw[bz (nZ hc)]at hRR hF;refine⟨Kp.vd,?_⟩;refine⟨_,Y,Y,_,Y,?_⟩;rw[Ye]
   cases z:c != 45 with
   |true=>exact qb ⟨_,Y,hRR z _ (aj.refl _)⟩
   |false=>exact mj (hF z _ (aj.refl _))
  rw[←o_,KL]at OZ;refine⟨l,_,Y,Y,bY.of OZ,?_,?_⟩
  ·exact m_ (qaI _ _) (by rw[o_];omega)
  exact k Ct CD
theorem zJ {iw:g_}{gx:B_}{p:Pm}(T:Txt K mg p w)(fj:Dn K mg "same_both_ways" mZ Lk iw gx)  :aI P w K mg base cO 1 iw gx Lk (Qw K p.au):=by
 refine fj.fn.ok i8 (λvs H Q E h=>?_) (λcdv A outer s H vs Q E hr h=>?_)
 ·obtain⟨x,sg,rows,fo,fm,rfl,_⟩:=h;rfl
 ·obtain⟨x,sg,rows,fo,fm,rfl,⟨_,T4,_,_,_,_,_,dx,Pp,o,m,d,kvs,h1,⟨qs,Ro,hp⟩,h3,h4,h5,h6⟩,k⟩:=h;refine⟨_,(ao (dP Q_ Y (zG Y T.qO (aa (bB (pv 0) Y) ah)) (um (n:=2) Y (fh (Z9Y 1 i8.nd) (fh (Z9Y 2 i8.nd) qI))) (ak (dP Q_ Y (zG Y T.qO (aa (pv 2) ah)) (um (n:=2) Y (fh (Z9Y 3 i8.nd) (fh (Z9Y 4 i8.nd) qI))) (ak (cN (bf (Ho (qaP (rj hr))) (pv 4) (bu cQ (bu cQ (bB (pv 0) Y) (pv 3) (λ_ _=>rfl)) (pv 1) (λ_ _=>rfl)) (bC _)) (ak (aP rH)) br)))))
   (ak (aP rH))),?_⟩
  refine⟨_,Y,x,_,_,_,_,Y,h1,T.bT,T.mP,D7,.tup Pp,_,Y,Ro,wY (K:=K) (c:=.tup Pp) (xs:=qs.map V.ref) (λi σ H2=>yj λv1 v2 v3 v4=>σ=[some (.ref x),v1,v2,v3,v4]/\aj H H2/\∀i' j' f g,i'<i->Av rows i' j' f->Av rows j' i' g->f=g)
   ⟨_,_,_,_,rfl,aj.refl _,λi' j' f g z=>by omega⟩ (λi σ H2 _ ⟨v1,v2,v3,v4,_,s2,_⟩=>Dat.tup (Dat.of s2) Ro) ?_ ?_⟩
  ·rintro i y p1 σ H2 hy hp1 ⟨v1,v2,v3,v4,rfl,s2,hb⟩;obtain⟨q,hq,rfl⟩:=pN hy;obtain⟨row,er,ps,hps,hpp⟩:=Paired.at hp hq;have hi:i<rows.length:=(q_.mp er).1;have s3:=s2.trans (aj.upd (o:=.tup [.int (i:Int),.ref q]) hp1);refine⟨p1,_,Y,eK.of ai,Y,_,_,Y,_,_,Y,Y,?_⟩;refine⟨_,Y,.tup q,_,Y,Dat.tup (Dat.of s3) hps,wY (K:=K) (c:=.tup q) (xs:=ps.map V.ref) (λj σ H3=>fD λv3 v4=>σ=[some (.ref x),some (.int (i:Int)),some (.ref q),v3,v4]/\aj H H3/\∀i' j' f g,(i'<i\/(i'=i/\j'<j))->Av rows i' j' f->Av rows j' i' g->f=g)
    ⟨_,_,rfl,s3,λi' j' f g z=>hb i' j' f g (by omega)⟩ (λj σ H3 _ ⟨v3,v4,_,s3,_⟩=>Dat.tup (Dat.of s3) hps) ?_ ?_⟩
   ·rintro j y p2 σ H3 hy hp2 ⟨v3,v4,rfl,s3,Su⟩;obtain⟨pr,hpr,rfl⟩:=pN hy;obtain⟨f,ef,hf⟩:=Paired.at hpp hpr;have hj:j<row.length:=(q_.mp ef).1;have s4:=s3.trans (aj.upd (o:=.tup [.int (j:Int),.ref pr]) hp2);have hrl:=T4.2 row (l_ er);have hj':j<rows.length:=by rw[T4.1,←hrl];exact hj
    obtain⟨qj,eqj,psj,af6,af7⟩:=Paired.at' hp (e_ hj');have hrj:=T4.2 rows[j] (x_ hj');have hi':i<(rows[j]).length:=by rw[hrj,←T4.1];exact hi
    obtain⟨pji,agS,hg⟩:=Paired.at' af7 (e_ hi');refine⟨p2,_,Y,eK.of ai,Y,_,_,Y,_,_,Y,Y,?_⟩;refine⟨_,Y,_,Y,x,_,_,_,_,Y,s4 _ _ h1,T.bT,T.mP,D7,_,Y,Pp,_,_,.ref qj,Y,Y,Dat.tup (Dat.of s4) Ro,cG (by rw[n_,eqj];rfl),?_⟩;refine⟨_,Y,qj,_,_,.ref pji,Y,Y,Dat.tup (Dat.of s4) af6,cG (by rw[n_,agS];rfl),?_⟩;refine⟨pr,pji,_,_,Y,Y,hf.same s4,hg.same s4,Y,Y,_,Y,?_⟩;have af:Av rows i j f:=⟨row,er,ef⟩;have ag:Av rows j i (rows[j])[i]:=⟨rows[j],e_ hj',e_ hi'⟩;by_cases he:f=(rows[j])[i]
    ·rw[(FZ f (rows[j])[i]).mpr he];refine kY ⟨_,_,Y,s4,λi' j' f' g' z z1 z2=>?_⟩;by_cases e:i'=i/\j'=j
     ·obtain⟨rfl,rfl⟩:=e;obtain⟨r1,a1,a2⟩:=z1;obtain⟨r2,b1,b2⟩:=z2;rw[er]at a1;cases a1;rw[ef]at a2;cases a2;rw[e_ hj']at b1;cases b1;rw[e_ hi']at b2;cases b2;exact he
     ·exact Su i' j' f' g' (by omega) z1 z2
    ·have ef2:i7 [.int f.1,.int f.2] [.int ((rows[j])[i]).1,.int ((rows[j])[i]).2]=false:=by
      cases e:i7 [.int f.1,.int f.2] [.int ((rows[j])[i]).1,.int ((rows[j])[i]).2]with
      |false=>rfl
      |true=>exact absurd ((FZ _ _).mp e) he
     rw[ef2];exact zY (k false _ ⟨λz=>(by cases z),λz=>absurd (z i j f _ af ag) he⟩ s4)
   ·rintro σ H3 ⟨v3,v4,rfl,s3,Su⟩;refine⟨_,_,_,_,Y,s3,λi' j' f g z z1 z2=>Su i' j' f g ?_ z1 z2⟩;rw[f_,Paired.len hpp];by_cases e:i'=i
    ·subst e;obtain⟨r,a1,a2⟩:=z1;rw[er]at a1;cases a1;exact .inr ⟨Y,(q_.mp a2).1⟩
    ·exact .inl (by omega)
  ·rintro σ H2 ⟨v1,v2,v3,v4,rfl,s2,hb⟩;refine k true H2 ⟨λ_ i' j' f g z1 z2=>hb i' j' f g ?_ z1 z2,λ_=>rfl⟩ s2;obtain⟨r,a1,a2⟩:=z1;rw[f_,Paired.len hp];exact(q_.mp a1).1
end
section
variable{P:I_}{w:W_}{K:PySem.W.Frag}{mg:r_->Option i_}{base:qad}
theorem EV {kK oW:g_}{jc nj:B_}{p:Pm}(T:Txt K mg p w)(dY:Dn K mg "_law_cost" sO PF kK jc)(ku:Dn K mg "_law_thing" tL l47 oW nj)(Le:aI P w K mg base cO 3 oW nj l47 (zu K p.au)):aI P w K mg base cO 4 kK jc PF (GQ K p.au):=by
 refine dY.fn.ok oM (λvs H Q E h=>?_) (λcdv A outer s H vs Q E hr h=>?_)
 ·obtain⟨x,v,sg,rows,fo,fm,rs,rfl,_⟩:=h;rfl
 ·obtain⟨x,v,sg,rows,fo,fm,rs,rfl,hP,hv,hS,hl,hO,k⟩:=h;obtain⟨hne,hw⟩:=bG.mp hl;have hn:=hS.len;have hr0:rs[0]? =some (rs.headD ⟨#[]⟩):=by
   cases rs with
   |nil=>exact absurd Y hne
   |cons r0 t=>rfl
  have T3:ck rs<=1000:=hS.row _ (l_ hr0);have hat:∀i k,i<rs.length->k<ck rs->∃r,rs[i]? =some r/\r.cps.size<=1000/\r.cps.toList[k]? =some (ym rs i k)/\ym rs i k∈(qL sg).cps.toList:=λi k hi hk=>by
   have hm:=x_ hi;have hk':k<rs[i].cps.toList.length:=by rw[o_,hw _ hm];exact hk
   have e:ym rs i k=rs[i].cps.toList[k]:=by
    unfold ym;rw[bz (e_ hi),bz (e_ hk')]
   exact⟨rs[i],e_ hi,hS.row _ hm,by rw[e];exact e_ hk',by rw[e];exact hO _ hm _ (x_ hk')⟩
  obtain⟨g,hg⟩:∃g:Nat->Nat->Nat->Int,g=λk i r=>pX sg rows fo fm (ym rs i k) (ym rs r k):=⟨_,rfl⟩
  obtain⟨R,hR⟩:∃R:Nat->Nat->Int,R=λi j=>if i<j then sm (λk=>g k i j) (ck rs)else 0:=⟨_,rfl⟩
  refine⟨_,(ao (Z9X 2 oM.nd aq)
   (ao (dP Q_ rfl (iN rfl T.lT (aa (aG (aW) rfl T.cV bO (aa (pv 1) ah)) ah)) (Z9Y 3 oM.nd) (ak (dP Q_ rfl (Ow rfl T.lT (aa (aQ fC (pv 3) aq) (aa (aG (aW) rfl T.cV bO (aa (pv 1) ah)) ah))) (Z9Y 4 oM.nd) (ak (dP Q_ rfl (iN rfl T.lT (aa (aG (aW) rfl T.cV bO (aa (bu DY (pv 1) aq (λ_ _=>rfl)) ah)) ah)) (Z9Y 5 oM.nd) (ak (Z9X 2 oM.nd (aQ fC (pv 2) (gc Le hr ku (aa (pv 0) (aa (bu wX (bu DY (pv 1) (pv 3) (λ_ _=>rfl)) (pv 5) (λ_ _=>rfl)) (aa (bu wX (bu DY (pv 1) (pv 4) (λ_ _=>rfl)) (pv 5) (λ_ _=>rfl)) ah))))))))))))
   (ak (aP (pv 2))))),?_⟩
  refine⟨_,Y,_,rs.length,Y,hv.len,((rs.length:Nat):Int),Y,by omega,by omega,?_⟩;refine k9 (lo:=0) (n:=((rs.length:Nat):Int).toNat) (λi σ H2=>rG λv3 v4 v5=>σ=[some (.ref x),some v,some (.int (sm (λi=>sm (R i) rs.length) i)),v3,v4,v5]/\aj H H2) ⟨_,_,_,Y,aj.refl _⟩ ?_ ?_
  ·rintro i σ H2 hi ⟨v3,v4,v5,rfl,s2⟩;have hi':i<rs.length:=by omega
   refine⟨_,Y,_,_,Y,Y,_,Y,_,rs.length,Y,(hv.same s2).len,0+(i:Int)+1,((rs.length:Nat):Int),Y,⟨by omega,by omega,by omega,by omega⟩,?_⟩;refine k9 (lo:=0+(i:Int)+1) (n:=(((rs.length:Nat):Int)-(0+(i:Int)+1)).toNat) (λd σ H3=>fD λv4 v5=>σ=[some (.ref x),some v,some (.int (sm (λi=>sm (R i) rs.length) i+sm (R i) (i+1+d))),some (.int (0+(i:Int))),v4,v5]/\aj H H3) ⟨v4,v5,?_,s2⟩ ?_ ?_
   ·have e:sm (R i) (i+1+0)=0:=by rw[hR];exact Nq _ _ (j_ _)
    rw[e,qb0];rfl
   ·rintro d σ H3 hd ⟨v4,v5,rfl,s3⟩;have hj:i+1+d<rs.length:=by omega
    refine⟨_,Y,(hv.same s3).ix (i:=0) hr0 ?_⟩;refine⟨_,_,Y,⟨m_ T3 (by decide),Y⟩,((ck rs:Nat):Int),Y,by omega,by omega,?_⟩;refine k9 (lo:=0) (n:=((ck rs:Nat):Int).toNat) (λq σ H4=>∃v5,σ=[some (.ref x),some v,some (.int (sm (λi=>sm (R i) rs.length) i+sm (R i) (i+1+d)+sm (λk=>g k i (i+1+d)) q)),some (.int (0+(i:Int))),some (.int (0+(i:Int)+1+(d:Int))),v5]/\aj H H4) ⟨v5,?_,s3⟩ ?_ ?_
    ·show _=[_,_,some (V.int (_+0)),_,_,_];rw[qb0];rfl
    ·rintro q σ H4 hq ⟨v5,rfl,s4⟩;obtain⟨r1,e1,z1,c1,o1⟩:=hat i q hi' (by omega);obtain⟨r2,e2,z2,c2,o2⟩:=hat (i+1+d) q hj (by omega);have a4:=hv.same s4;refine⟨_,Y,_,Y,_,Y,_,Y,a4.ixe (i:=i) e1 (qaW _) ?_⟩;refine⟨_,Y,r1,_,_,Y,Y,m_ z1 (by decide),(by rw[qaW];exact cG c1),?_⟩;refine⟨_,Y,_,Y,a4.ixe (i:=i+1+d) e2 (by omega) ?_⟩;refine⟨_,Y,r2,_,_,Y,Y,m_ z2 (by decide),(by rw[qaW];exact cG c2),?_⟩;refine⟨x,sg,rows,fo,fm,_,_,Y,hP.same s4,o1,o2,λH5 s5=>?_⟩;refine⟨_,_,Y,Y,some (.int (0+(q:Int))),?_,s4.trans s5⟩;have e3:sm (λk=>g k i (i+1+d)) (q+1)=sm (λk=>g k i (i+1+d)) q+pX sg rows fo fm (ym rs i q) (ym rs (i+1+d) q):=by
      show sm (λk=>g k i (i+1+d)) q+g q i (i+1+d)=_;rw[hg]
     rw[e3,←qcl];rfl
    ·rintro σ H4 ⟨v5,rfl,s4⟩;refine⟨some (.int (0+(i:Int)+1+(d:Int))),v5,?_,s4⟩;have e4:sm (R i) (i+1+d+1)=sm (R i) (i+1+d)+sm (λk=>g k i (i+1+d)) (ck rs):=by
      show sm (R i) (i+1+d)+R i (i+1+d)=_;rw[hR]
      show _+(if i<i+1+d then _ else _)=_
      rw[if_pos (by omega)]
     rw[show i+1+(d+1)=i+1+d+1 by omega,e4,qay,←qcl]
   ·rintro σ H3 ⟨v4,v5,rfl,s3⟩;refine⟨some (.int (0+(i:Int))),v4,v5,?_,s3⟩;rw[show i+1+(((rs.length:Nat):Int)-(0+(i:Int)+1)).toNat=rs.length by omega];rfl
  ·rintro σ H2 ⟨v3,v4,v5,rfl,s2⟩;refine⟨_,Y,?_⟩;have z:=k H2 s2;rw[←R7]at z;rw[qay,hR,hg];exact z
end
section
variable{P:I_}{w:W_}{K:PySem.W.Frag}{mg:r_->Option i_}{base:qad}
theorem DF {lH:g_}{jL:B_}{p:Pm}(T:Txt K mg p w)(gX:Dn K mg "least_added" qz Mv lH jL)  :aI P w K mg base cO 1 lH jL Mv (M7 p.az):=by
 refine gX.fn.ok Dp (λvs H Q E h=>?_) (λcdv A outer s H vs Q E hr h=>?_)
 ·obtain⟨jn,A,B,n1,n2,pc,mo,rfl,_⟩:=h;rfl
 ·obtain⟨jn,A,B,n1,n2,pc,mo,rfl,⟨dx,l1,l2,a,b,e,rr,h1,h2,h3,h4,h5,h6,⟨rs,hrs,hrl,hr'⟩⟩,hA,hB,k⟩:=h;obtain⟨r0,hr0⟩:∃r0,rs[0]? =some r0:=⟨_,e_ (by omega)⟩;have e4:H a=some (.lst ((A.map λc=>I8 mo c n2).map V.int)):=by rw[h4,qaf];rfl
  have e5:H b=some (.lst ((B.map λc=>I8 mo c n1).map V.int)):=by rw[h5,qaf];rfl
  refine⟨_,(ak (aP (aQ fC (aQ fC (aG (qi (K':=K) Y Y) Y T.CL y9 (aa (bB (pv 0) Y) ah)) (aG (qi (K':=K) Y Y) Y T.CL y9 (aa (bB (pv 0) Y) ah))) (bu cj (bu cj (bB (pv 0) Y) aq (λ_ _=>rfl)) aq (λ_ _=>rfl))))),?_⟩;refine⟨_,Y,jn,_,dx,_,_,Y,h1,T.bD,T.wK,TU,a,_,Y,bY.of e4,_,Y,jn,_,dx,_,_,Y,h1,T.bD,T.wJ,TR,b,_,Y,bY.of e5,_,_,Y,Y,?_⟩;exact⟨_,Y,jn,_,dx,_,_,Y,h1,T.bD,T.oq,DX,rr,_,_,.ref r0,Y,Y,bY.of hrl,cG (j:=0) (by rw[n_,hr0];rfl),r0,_,_,.int (jE (z7 pc mo A B) A.length B.length 0 0),Y,Y,bY.of (hr' 0 r0 hr0),cG (j:=0) (by rw[n_,List.getElem?_range (by omega)];rfl),_,_,Y,Y,k H (aj.refl _)⟩
theorem Cg {jZ gT gS:g_}{iW fZ fY:B_}{p:Pm}(T:Txt K mg p w)(gq:Dn K mg "added_by_row" pL Ks jZ iW)(dW:Dn K mg "other_rows" pC CH gT fZ)(vJ:aI P w K mg base cO 1 gT fZ CH (Dc K p.aJ))(dU:Dn K mg "thing_cost" pB IZ gS fY)(vI:aI P w K mg base cO 3 gS fY IZ (zu K p.au)):aI P w K mg base cO 4 jZ iW Ks (Nn K p.au p.aJ):=by
 refine gq.fn.ok n8 (λvs H Q E h=>?_) (λcdv A outer s H vs Q E hr h=>?_)
 ·obtain⟨x,b,r,T1,R,y,rfl,_⟩:=h;rfl
 ·obtain⟨x,b,r,T1,R,y,rfl,hP,hB,hG,hy,k⟩:=h;have hr':r<R.length:=(q_.mp hy).1;have hlen:=hG.len;obtain⟨_,hw⟩:=bG.mp (bZ hG.bk);have hyw:=hw y (l_ hy);have ajs:=hG.ck;obtain⟨dx,q0,hb,E9⟩:=id hB;refine⟨_,(ao (Z9X 3 n8.nd aq)
   (ao (dP Q_ rfl (zH (gc vJ hr dW (aa (pv 1) (aa (pv 2) ah)))) (Z9Y 4 n8.nd) (ak (Z9X 3 n8.nd (aQ fC (pv 3) (aG (qi (K':=K) rfl rfl) rfl T.CL y9 (aa (gM (N:=l67) rfl (cT.rL (nt:=2) (ix:=[0]) rfl (by decide +kernel) (by decide +kernel) (by kernel_rfl) rfl (by kernel_rfl)) (LY rfl rfl T.PV (aa (bu cQ (bB (pv 1) rfl) (pv 2) (λ_ _=>rfl)) (aa (pv 4) ah))) (λ_ _ _ _ _ _ _=>(S5 (K':=K) (n:=2) rfl rfl (fh (aS (i:=0) (show(l67:List r_).Nodup by decide +kernel) rfl (Or.inl rfl)) (fh (aS (i:=1) (show(l67:List r_).Nodup by decide +kernel) rfl (Or.inl rfl)) qI)))) (λ_ _ _ _ _ _ _=>(gc vI hr dU (aa (pv 2) (aa (pv 0) (aa (pv 1) ah)))))) ah))))))
   (ak (aP (pv 3))))),?_⟩
  refine⟨_,Y,_,Y,b,r,R,Y,hB,hr',by omega,λq H1 s1 hq=>⟨.tup q,_,Y,hq,?_⟩⟩;refine D6 (K:=K) (c:=.tup q) (xs:=(R.eraseIdx r).map V.str) (λi σ H2=>∃v4,σ=[some (.ref x),some (.ref b),some (.int (r:Int)),some (.int (Bt (pX T1.1 T1.2.1 T1.2.2.1 T1.2.2.2) y ((R.eraseIdx r).take i))),v4]/\aj H1 H2) ⟨_,Y,aj.refl _⟩ (λi σ H2 _ ⟨v4,_,s2⟩=>aj.tup s2 hq) ?_ ?_
  ·rintro i o' σ H2 ho ⟨v4,rfl,s2⟩;obtain⟨o,hoo,rfl⟩:=pN ho;have s12:=s1.trans s2;have hom:=T_ (l_ hoo);have how:=hw o hom;refine⟨_,Y,_,Y,b,_,dx,_,_,Y,s12 _ _ hb,T.cW,T.bx,fz,_,Y,q0,_,_,.str y,Y,Y,aj.tup s12 E9,cG (by rw[n_,hy];rfl),_,Y,.txt y,.txt o,_,_,Y,Y,Y,λl hl=>?_⟩;refine nV y.cps.size (λj=>V.int (pX T1.1 T1.2.1 T1.2.2.1 T1.2.2.2 (y.cps.toList.getD j 0) (o.cps.toList.getD j 0))) hl (s_ (show y.cps.size<=100 by omega) (by decide)) (λj H4 s4 hj=>?_) (λH4 s4=>?_) (λj z H4 H5 R' s4 hj hz hR=>?_) λH4 s4 Bj=>?_
   ·exact⟨_,_,_,_,Y,Y,e_ (by rw[signs_length];exact hj),e_ (by rw[signs_length];omega)⟩
   ·exact⟨_,_,Y,Y,.inl (by rw[signs_length];exact j_ _)⟩
   ·obtain⟨p1,u,v,rfl,hp1,rfl,e⟩:=hz;obtain⟨eu,ev⟩:=e _ _ rfl rfl;obtain⟨cu,hcu,rfl⟩:=signs_get eu;obtain⟨cv,hcv,rfl⟩:=signs_get ev;have gu:y.cps.toList[j]? =some cu:=by rw[U_];exact hcu
    have gv:o.cps.toList[j]? =some cv:=by rw[U_];exact hcv
    have s5:=aj.upd (o:=.tup [V.str ⟨#[cu]⟩,V.str ⟨#[cv]⟩]) hp1;rw[bz gu,bz gv]at hR;refine⟨p1,_,Y,eK.of ai,Y,_,_,Y,_,_,Y,Y,Kp.two,?_⟩;exact⟨_,Y,_,Y,_,Y,x,T1.1,T1.2.1,T1.2.2.1,T1.2.2.2,cu,cv,Y,hP.same (s12.trans (s4.trans s5)),hG.kn y (l_ hy) _ (l_ gu),hG.kn o hom _ (l_ gv),λH6 s6=>hR H6 (s5.trans s6)⟩
   ·refine⟨l,(E_ y.cps.size).map λj=>pX T1.1 T1.2.1 T1.2.2.1 T1.2.2.2 (y.cps.toList.getD j 0) (o.cps.toList.getD j 0),Y,bY.of (by rw[Bj,qaf];rfl),_,_,Y,Y,some (.str o),?_,s2.trans s4⟩;have e3:Bt (pX T1.1 T1.2.1 T1.2.2.1 T1.2.2.2) y ((R.eraseIdx r).take (i+1))=Bt (pX T1.1 T1.2.1 T1.2.2.1 T1.2.2.2) y ((R.eraseIdx r).take i)+((E_ y.cps.size).map λj=>pX T1.1 T1.2.1 T1.2.2.1 T1.2.2.2 (y.cps.toList.getD j 0) (o.cps.toList.getD j 0)).sum:=by
     unfold Bt;rw[qcx,hoo,Option.toList_some,P_,List.sum_append,uI];simp
    rw[e3];rfl
  ·rintro σ H2 ⟨v4,rfl,s2⟩;rw[f_,qbP];exact⟨_,Y,k H2 (s1.trans s2)⟩
theorem AS {i0 bW iw:g_}{ir bN gx:B_}{p:Pm}(T:Txt K mg p w)(fM:Dn K mg "check_mending" oj PD i0 ir)(bq:Dn K mg "check_block_rows" fQ TF bW bN)(iH:aI P w K mg base (sZ P w) 4 bW bN TF (tF K p.au p.aE))(fj:Dn K mg "same_both_ways" mZ Lk iw gx)(By:aI P w K mg base cO 1 iw gx Lk (Qw K p.au)):aI P w K mg base (sZ P w) 6 i0 ir PD (Qv K p.au p.aJ p.aE p.aL p.aZ):=by
 refine fM.fn.BK AK (λvs H Q E h=>?_) (λcdv A outer s H vs Q E hr h=>?_)
 ·obtain⟨x,b,m,T1,R,rfl,_⟩:=h;rfl
 ·obtain⟨x,b,m,T1,R,rfl,hP,⟨dx,q,hb,hq⟩,hS,k,kS,kP,kM⟩:=h;refine⟨_,(ao (ee (av iH (hr.mono (by decide)) Y bq.m bq.fn.kp bq.b .nil (Lets.passes fB) (aa (pv 0) (aa (bB (pv 1) Y) ah))))
   (ao (cN (jy (gD (gc By hr fj (aa (pv 0) ah)))) (ak (qY fB T.Jc rfl rfl T.BL (aa dQ ah))) br)
   (ak (cN (bf zI (pv 2) aq (bC _)) (ak (qY fB T.N8 rfl rfl T.Ge (aa dQ ah))) br)))),?_⟩
  refine⟨_,Y,_,Y,b,_,dx,_,_,Y,hb,T.cW,T.bx,fz,x,_,_,_,_,_,R,Y,hP,⟨q,Y,.inr hq⟩,hS,λhO H1 s1=>?_,kS⟩;refine⟨_,Y,x,_,_,_,_,Y,hP.same s1,λbb H2 Y0 s2=>⟨_,Y,?_⟩⟩;have s12:=s1.trans s2
  cases bb with
  |false=>exact zY ⟨b_,kP hO (λz=>by have:=Y0.mpr z;cases this) H2 s12⟩
  |true =>
   have bw:=Y0.mp rfl;refine kY ⟨_,Y,_,_,Y,Y,_,Y,gw (λz=>⟨b_,kM hO bw z H2 s12⟩) λz=>k hO bw (by have z':¬m<0:=z;omega) H2 s12⟩
end
section
variable{P:I_}{w:W_}{K:PySem.W.Frag}{mg:r_->Option i_}{base:qad}
theorem EY {nL dm jZ lH cP:g_}{lA cX iW jL cI:B_}{p:Pm}(T:Txt K mg p w)(jt:Dn K mg "first_step" rW So nL lA)(bU:Dn K mg "row_with_others" i9 Ks dm cX)(pS:aI P w K mg base cO 9 dm cX Ks (nv (LI K p.au p.aJ p.az p.dX)))(gq:Dn K mg "added_by_row" pL Ks jZ iW)(ED:aI P w K mg base cO 4 jZ iW Ks (Nn K p.au p.aJ))(gX:Dn K mg "least_added" qz Mv lH jL)(FA:aI P w K mg base cO 1 lH jL Mv (M7 p.az))(bI:Dn K mg "with_row_put_back" gE YD cP cI)(nW:aI P w K mg base cO 8 cP cI YD (LK K p.aJ p.az)):aI P w K mg base cO 10 nL lA So (Qq K p.au p.aJ):=by
 refine jt.fn.ok qu (λvs H Q E h=>?_) (λcdv A outer s H vs Q E hr h=>?_)
 ·obtain⟨x,b,T1,R,rfl,_⟩:=h;rfl
 ·obtain⟨x,b,T1,R,rfl,hP,hB,hG,h1,hs,k,kn⟩:=h;have hlen:=hG.len;obtain⟨dx,q0,hb,E9⟩:=id hB;refine⟨_,(ao (dP Q_ Y (iN Y T.lT (aa (aG (aW) Y T.cV bO (aa (bB (pv 1) Y) ah)) ah)) (Z9Y 2 qu.nd) (ao (Z9X 3 qu.nd (gc pS hr bU (aa (pv 0) (aa (pv 1) (aa (pv 2) ah)))))
   (ao (Z9X 4 qu.nd (aQ wF (gc ED hr gq (aa (pv 0) (aa (pv 1) (aa (pv 2) ah)))) (gc FA hr gX (aa (pv 3) ah))))
   (ak (cN (bf DA (pv 4) aq (bC _)) (ak (aP (gK (aa (pv 2) (aa (gc nW hr bI (aa (pv 3) (aa (pv 2) ah))) (aa (pv 4) ah)))))) br)))))
   (ak (aP vn))),?_⟩
  refine⟨_,Y,b,_,dx,_,_,Y,hb,T.cW,T.bx,fz,_,R.length,Y,.inr ⟨_,E9,by rw[f_]⟩,_,Y,by omega,by omega,?_⟩;rw[qay];refine k9 (lo:=0) (n:=R.length) (λi σ H2=>rG λv2 v3 v4=>σ=[some (.ref x),some (.ref b),v2,v3,v4]/\aj H H2/\NoB T1 R i) ⟨_,_,_,Y,aj.refl _,λq R' z=>absurd z (qa6 _)⟩ ?_ ?_
  ·rintro i σ H2 hi ⟨v2,v3,v4,rfl,s2,nb⟩;have ei:(0:Int)+(i:Int)=(i:Int):=by omega
   have hy:=e_ hi;generalize R[i]=y at hy;obtain⟨jk,j1,j2,j3,j4⟩:=YM hG.bk hG.sm hG.kn hy (by omega);have sv:∀R',An T1 R i R'->Bs T1 R'+Bt (pX T1.1 T1.2.1 T1.2.2.1 T1.2.2.2) y (R.eraseIdx i)=Bs T1 R+E7 (sj T1.1 T1.2.1 (aO T1.2.2.1.2 T1.2.2.2.2 T1.2.1)) (sS T1.2.1 T1.2.2.1 T1.2.2.2) (aA y) (aB R i) 1 (packed (R.eraseIdx i)).length:=λR' a=>by
    obtain⟨z,cs,hz,hF,rfl⟩:=a;rw[hy]at hz;cases hz;exact(An.ok hG h1 hy hF).less Y hF hs
   rw[ei];refine⟨_,Y,_,Y,_,Y,x,b,(i:Int),T1.1,T1.2.1,T1.2.2.1,T1.2.2.2,R,Y,hP.same s2,hB.same s2,hG.sm,hG.bk,hG.kn,λy' _ hy' _ jn H3 s3 hJ=>?_,λz=>?_⟩
   ·rw[qay]at hy' hJ;rw[hy]at hy';cases hy';have S0:=s2.trans s3;refine⟨_,Y,_,Y,_,Y,x,b,i,T1,R,y,Y,hP.same S0,hB.same S0,hG,hy,λH4 s4=>?_⟩;refine⟨_,Y,jn,_,_,_,_,_,_,Y,hJ.same s4,j3,j4,λH5 s5=>?_⟩;have s25:=S0.trans (s4.trans s5);refine⟨_,_,Y,Y,_,Y,_,_,Y,Y,_,Y,gw (λz=>?_) λz=>?_⟩
    ·refine⟨_,Y,_,Y,_,Y,jn,i,_,_,_,_,_,_,Y,hJ.same (s4.trans s5),jk,j1,j2,λbb H6 cs s6 _ hF hB6=>?_⟩;refine⟨_,Y,d_,λq hq=>?_⟩;rw[bE,bE]at hF;have an:An T1 R i (MQ R i y cs):=⟨y,cs,hy,hF,rfl⟩;have e:=sv _ an;have s7:=aj.upd (o:=.tup [.int (i:Int),.ref bb,.int (Bs T1 R-Bs T1 (MQ R i y cs))]) hq;have eq:Bt (pX T1.1 T1.2.1 T1.2.2.1 T1.2.2.2) y (R.eraseIdx i)-E7 (sj T1.1 T1.2.1 (aO T1.2.2.1.2 T1.2.2.2.2 T1.2.1)) (sS T1.2.1 T1.2.2.1 T1.2.2.2) (aA y) (aB R i) 1 (packed (R.eraseIdx i)).length=Bs T1 R-Bs T1 (MQ R i y cs):=by omega
     have z':(0:Int)<Bt (pX T1.1 T1.2.1 T1.2.2.1 T1.2.2.2) y (R.eraseIdx i)-E7 (sj T1.1 T1.2.1 (aO T1.2.2.1.2 T1.2.2.2.2 T1.2.1)) (sS T1.2.1 T1.2.2.1 T1.2.2.2) (aA y) (aB R i) 1 (packed (R.eraseIdx i)).length:=z;rw[eq]at z';show Q (.ref q) (upd H6 q (.tup [.int (i:Int),.ref bb,.int (Bt (pX T1.1 T1.2.1 T1.2.2.1 T1.2.2.2) y (R.eraseIdx i)-E7 (sj T1.1 T1.2.1 (aO T1.2.2.1.2 T1.2.2.2.2 T1.2.1)) (sS T1.2.1 T1.2.2.1 T1.2.2.2) (aA y) (aB R i) 1 (packed (R.eraseIdx i)).length)]));rw[eq];exact k i _ q bb _ (s25.trans (s6.trans s7)) ⟨h1,an,by omega,nb⟩ ai (hB6.same s7)
    ·have z':¬(0:Int)<Bt (pX T1.1 T1.2.1 T1.2.2.1 T1.2.2.2) y (R.eraseIdx i)-E7 (sj T1.1 T1.2.1 (aO T1.2.2.1.2 T1.2.2.2.2 T1.2.1)) (sS T1.2.1 T1.2.2.1 T1.2.2.2) (aA y) (aB R i) 1 (packed (R.eraseIdx i)).length:=z;refine⟨_,_,_,Y,s25,λq R' hq a=>?_⟩;by_cases e:q=i
     ·subst e;have:=sv R' a;omega
     ·exact nb q R' (by omega) a
   ·exfalso;rcases z with z|z
    ·unfold inR at z;rw[decide_eq_true (show(0:Int)<=(i:Int) by omega),decide_eq_true (show(i:Int)<((R.length:Nat):Int) by omega)]at z;cases z
    ·omega
  ·rintro σ H2 ⟨v2,v3,v4,rfl,s2,nb⟩;exact kn (λ_=>nb) H2 s2
end
section
variable{P:I_}{w:W_}{K:PySem.W.Frag}{mg:r_->Option i_}{base:qad}
theorem OA {pQ i0 lP nL kL:g_}{nh ir jS lA jd:B_}{p:Pm}(T:Txt K mg p w)(fG:Dn K mg "mended" wu PD pQ nh)(fM:Dn K mg "check_mending" oj PD i0 ir)(Cw:aI P w K mg base (sZ P w) 6 i0 ir PD (Qv K p.au p.aJ p.aE p.aL p.aZ))(g9:Dn K mg "block_units" qH So lP jS)(FJ:aI P w K mg base cO 5 lP jS So (Dh K p.au p.aJ))(jt:Dn K mg "first_step" rW So nL lA)(IP:aI P w K mg base cO 10 nL lA So (Qq K p.au p.aJ))(fU:Dn K mg "in_units" sP YG kL jd)(zd:aI P w K mg base cO 2 kL jd YG (AE K p.au)):aI P w K mg base (sZ P w) 11 pQ nh PD (zv K p.au p.aJ p.aE p.aL p.aZ):=by
 refine fG.fn.BK sC (λvs H Q E h=>?_) (λcdv A outer s H vs Q E hr h=>?_)
 ·obtain⟨x,b,m,T1,R,rfl,_⟩:=h;rfl
 ·obtain⟨x,b,m,T1,R,rfl,hP,hB,T8,hS,hm,kq,kG,kE⟩:=h;refine⟨_,(bJ (ee (av Cw (hr.mono (by decide)) Y fM.m fM.fn.kp fM.b .nil (Lets.passes fB) (aa (pv 0) (aa (pv 1) (aa (pv 2) ah)))))
   (bJ (Z9X 3 sC.nd (jz ah))
   (bJ (cN (bf nS (aG (aW) rfl T.cV bO (aa (bB (pv 1) rfl) ah)) aq (bC _)) (ak (aP (gK (aa (pv 1) (aa (pv 3) ah))))) br)
   (bJ (Z9X 4 sC.nd (gc FJ hr g9 (aa (pv 0) (aa (pv 1) ah))))
   (bJ (Dy m7 (bf zI (aG (aW) rfl T.cV bO (aa (pv 3) ah)) (pv 2) (bC _)) (ao (Z9X 5 sC.nd (gc IP hr jt (aa (pv 0) (aa (pv 1) ah))))
   (ao (cN (bf QW (pv 5) vn (by with_unfolding_all rfl)) (ak QI) br)
   (ao (Z9X 1 sC.nd (bu cQ (pv 5) aq (λ_ _=>rfl)))
   (ao (Z9X 4 sC.nd (aQ wF (pv 4) (bu cQ (pv 5) aq (λ_ _=>rfl))))
   (ak (ee (tS PySem.F.plainAttrs_list PySem.F.slot_list_append PySem.F.type_list_append k8 (pv 3) (aa (gK (aa (bu cQ (pv 5) aq (λ_ _=>rfl)) (aa (gc zd hr fU (aa (pv 0) (aa (pv 4) ah))) ah))) ah)))))))))
   (ak (aP (gK (aa (pv 1) (aa (pv 3) ah)))))))))),?_⟩
  refine⟨λσ' H'=>aj H H'/\(∀r∈R,Of (qL T1.1) r)/\gH T1.2.1/\0<=m/\σ'=[some (.ref x),some (.ref b),some (.int m),none,none,none],?_,?_⟩
  ·exact⟨_,Y,_,Y,_,Y,x,b,m,T1,R,Y,hP,hB,hS,λhO bw m0 H1 s1=>⟨s1,hO,bw,m0,Y⟩,kE⟩
  rintro σ' H1 ⟨s1,hO,bw,m0,rfl⟩;have hG:=kG hO;obtain⟨hs,k⟩:=kq hG bw m0;have big:∀a:Nat,a<=2000->a<z_:=λa h=>s_ h (by decide);refine⟨λσ' H'=>∃l,aj H H'/\H l=none/\H' l=some (.lst [])/\σ'=[some (.ref x),some (.ref b),some (.int m),some (.ref l),none,none],⟨a_,λl hl=>⟨l,s1.trans (aj.upd hl),aj.free s1 hl,ai,Y⟩⟩,?_⟩;rintro σ' H2 ⟨l,s2,fl,e2,rfl⟩;obtain⟨dx,q0,hb,E9⟩:=id hB;refine⟨λσ' H'=>H'=H2/\1<R.length/\σ'=[some (.ref x),some (.ref b),some (.int m),some (.ref l),none,none],?_,?_⟩
  ·refine⟨_,Y,b,_,dx,_,_,Y,s2 _ _ hb,T.cW,T.bx,fz,_,R.length,Y,.inr ⟨_,aj.tup s2 E9,by rw[f_]⟩,Y,_,Y,DZ (λz=>?_) λz=>⟨Y,?_,Y⟩⟩
   ·refine⟨_,Y,_,Y,c_,λq hq=>?_⟩;have s3:=aj.upd (o:=.tup [.ref b,.ref l]) hq;have z':((R.length:Nat):Int)=1:=z;exact k q b l R [] [] _ (s2.trans s3) .nil m0 (λ_ c=>by omega) hG ai (hB.same (s2.trans s3)) fl (s3 _ _ e2) .nil
   ·have z':¬((R.length:Nat):Int)=1:=z;have:=qbK.mpr (bG.mp (bZ T8)).1;omega
  rintro σ' H2 ⟨rfl,h1,rfl⟩;refine⟨λσ' H'=>aj H2 H'/\σ'=[some (.ref x),some (.ref b),some (.int m),some (.ref l),some (.int (Bs T1 R)),none],?_,?_⟩
  ·exact⟨_,Y,_,Y,x,b,_,_,_,_,R,Y,hP.same s2,hB.same s2,hS,bZ T8,hO,λH3 s3=>⟨s3,Y⟩⟩
  rintro σ' H3 ⟨s3,rfl⟩
  let I:St->Hp->List (Nat×Int)->List r_->Prop:=λσ' H' ss R1=>rG λbb vs v5=>σ'=[some (.ref x),some (.ref bb),some (.int m),some (.ref l),some (.int (Bs T1 R1)),v5]/\aj H H'/\vV K p.aJ (Wo l H') bb R1/\BY T1 R1/\1<R1.length/\vZ T1 R ss R1/\H' l=some (.lst vs)/\Paired (xm T1 (Wo l H')) vs ss/\(ss.length:Int)<=m
  refine⟨λσ' H'=>fD λss R1=>I σ' H' ss R1/\((ss.length:Int)<m->Sf T1 R1),?_,?_⟩
  ·have e3:=s3 _ _ e2;refine⟨λn σ' H'=>fD λss R1=>I σ' H' ss R1/\n=m.toNat-ss.length,⟨_,[],R,⟨b,[],none,Y,s2.trans s3,(hB.same (s2.trans s3)).wo e3,hG,h1,.nil,e3,.nil,m0⟩,Y⟩,?_⟩;rintro n σ' H4 ⟨ss,R1,⟨bb,vs,v5,rfl,s4,hB4,Y5,ZM,hM,e4,hst,hle⟩,rfl⟩;have hvl:vs.length=ss.length:=Paired.length hst;refine⟨_,Y,_,vs.length,Y,.inl ⟨_,bY.of e4,Y⟩,_,Y,_,_,Y,Y,_,Y,gw (λz=>?_) λz=>?_⟩
   ·have z':((vs.length:Nat):Int)<m:=z;refine⟨λσ' H'=>∃n',n'<m.toNat-ss.length/\fD λss R1=>I σ' H' ss R1/\n'=m.toNat-ss.length,λσ' H' h=>h,?_⟩;refine⟨_,Y,_,Y,x,bb,T1,R1,Y,hP.same s4,hB4.same Wo.sub,Y5,ZM,hs,λr R2 q b2 H5 s5 hF hq hB5=>?_,λhno H5 s5=>?_⟩
    ·have e5:=s5 _ _ e4;have gd:=(An.gd Y5 ZM hF.2.1);have l2:=An.len Y5 ZM hF.2.1;refine⟨_,Y,Y,_,Y,mj ?_⟩;refine⟨_,Y,q,_,_,_,Y,Y,eK.of hq,Y,?_⟩;refine⟨_,Y,_,Y,q,_,_,_,Y,Y,eK.of hq,Y,_,_,Y,Y,?_⟩;refine⟨_,Y,.inl ⟨Y,_,bY.of e5⟩,_,Y,q,_,_,_,Y,Y,eK.of hq,Y,?_⟩;have en:Bs T1 R1-(Bs T1 R1-Bs T1 R2)=Bs T1 R2:=by omega
     refine⟨_,Y,_,Y,x,Bs T1 R1-(Bs T1 R1-Bs T1 R2),_,_,_,_,Y,hP.same (s4.trans s5),λc H6 s6 _ hc=>⟨c_,λa2 ha2=>?_⟩⟩;have s7:=aj.upd (o:=.tup [.int (r:Int),.ref c]) ha2;have a7:upd H6 a2 (.tup [.int (r:Int),.ref c]) a2=some (.tup [.int (r:Int),.ref c]):=ai;generalize upd H6 a2 (.tup [.int (r:Int),.ref c])=H7 at s7 a7 ⊢;have s57:=s6.trans s7;have e7:=s57 _ _ e5;rw[en]at hc;have c7:=s7 _ _ hc;refine⟨l,vs,.ref a2,Y,Y,e7,big _ (by omega),m.toNat-(ss++[(r,Bs T1 R2)]).length,?_,ss++[(r,Bs T1 R2)],R2,⟨b2,vs++[.ref a2],_,congrArg (λz=>([some (.ref x),some (.ref b2),some (.int m),some (.ref l),some (.int z),some (.ref q)]:St)) en,aj.at (s4.trans (s5.trans s57)) fl,?_,gd.1,by omega,hM.snoc hF,ai,?_,?_⟩,Y⟩
     ·rw[A_,qbw];omega
     ·rw[Wo.set];exact(hB5.same s57).wo e7
     ·rw[Wo.set];exact GP.Paired.snoc (Paired.qa hst λa b h=>h.same (Wo.same (s5.trans s57))) ⟨a2,c,Y,Wo.in (rJ a7 e7 (by intro z;cases z)) a7,Wo.in (rJ c7 e7 (by intro z;cases z)) c7⟩
     ·rw[A_,qbw];omega
    ·exact⟨_,Y,Y,_,Y,qb ⟨ss,R1,⟨bb,vs,_,Y,s4.trans s5,hB4.same (Wo.same s5),Y5,ZM,hM,s5 _ _ e4,Paired.qa hst λa b h=>h.same (Wo.same s5),hle⟩,λ_=>hno⟩⟩
   ·have z':¬((vs.length:Nat):Int)<m:=z;exact⟨ss,R1,⟨bb,vs,_,Y,s4,hB4,Y5,ZM,hM,e4,hst,hle⟩,λz=>absurd z (by omega)⟩
  rintro σ' H4 ⟨ss,R1,⟨bb,vs,v5,rfl,s4,hB4,Y5,ZM,hM,e4,hst,hle⟩,hno⟩;refine⟨_,Y,_,Y,c_,λq hq=>?_⟩;have s5:=aj.upd (o:=.tup [.ref bb,.ref l]) hq;exact k q bb l R1 ss vs _ (s4.trans s5) hM hle hno Y5 ai ((hB4.same Wo.sub).same s5) fl (s5 _ _ e4) (Paired.qa hst λa b h=>h.same (Wo.same s5))
end
section
variable{P:I_}{w:W_}{K:PySem.W.Frag}{mg:r_->Option i_}{base:qad}
theorem yF {gA dJ:g_}{fS cY:B_}{p:Pm}(T:Txt K mg p w)(eF:Dn K mg "_law_same_prices" lU l64 gA fS)(bF:Dn K mg "pair_cost" mK IZ dJ cY)(ki:aI P w K mg base cO 1 dJ cY IZ (sM K p.au)):aI P w K mg base cO 2 gA fS l64 (M5 K p.au):=by
 refine eF.fn.ok ow (λvs H Q E h=>?_) (λcdv A outer s H vs Q E hr h=>?_)
 ·obtain⟨x,sg,rows,fo,fm,rfl,_⟩:=h;rfl
 ·obtain⟨x,sg,rows,fo,fm,rfl,hP,hz,k⟩:=h;obtain⟨sig,UL,_,_,_,_,_,dx,Pp,o,m,d,kvs,h1,h2,h3,h4,h5,h6⟩:=id hP;refine⟨_,(ao (dP Q_ Y (uh (bB (pv 0) Y)) (Z9Y 1 ow.nd) (ak (dP Q_ Y (uh (bB (pv 0) Y)) (Z9Y 2 ow.nd) (ak (cN (bf vR (gc ki hr bF (aa (pv 0) (aa (pv 1) (aa (pv 2) ah)))) (gc ki hr bF (aa (pv 0) (aa (pv 2) (aa (pv 1) ah)))) (bC _)) (ak (aP rH)) br)))))
   (ak (aP rH))),?_⟩
  refine⟨_,Y,x,_,_,_,_,Y,h1,T.bT,T.jG,vB,_,Y,?_⟩;refine HY (x:=sg) (λi σ H2=>fD λ(v1 v2:Option V)=>σ=[some (.ref x),v1,v2]/\aj H H2/\∀j a,j<i->sg.cps.toList[j]? =some a->∀c∈sg.cps.toList,sj sg rows (aO fo.2 fm.2 rows) a c=sj sg rows (aO fo.2 fm.2 rows) c a) ⟨_,_,Y,aj.refl _,λj a hj=>absurd hj (qa6 _)⟩ ?_ ?_
  ·rintro i a σ H2 ha ⟨v1,v2,rfl,s2,hi⟩;have ha':=nZ ha;refine⟨_,Y,x,_,_,_,_,Y,s2 _ _ h1,T.bT,T.jG,vB,_,Y,?_⟩;refine HY (x:=sg) (λj σ H3=>∃(v2:Option V),σ=[some (.ref x),some (.str ⟨#[a]⟩),v2]/\aj H H3/\∀q c,q<j->sg.cps.toList[q]? =some c->sj sg rows (aO fo.2 fm.2 rows) a c=sj sg rows (aO fo.2 fm.2 rows) c a) ⟨_,Y,s2,λq c hq=>absurd hq (qa6 _)⟩ ?_ ?_
   ·rintro j c σ H3 hc ⟨v2,rfl,s3,hj⟩;have hc':=nZ hc;obtain⟨i1,j1,f1,k1,k2,k3,k4⟩:=wD (u:=aO fo.2 fm.2 rows) hP.UL (l_ ha') (l_ hc');obtain⟨i2,j2,f2,l1,l2,l3,l4⟩:=wD (u:=aO fo.2 fm.2 rows) hP.UL (l_ hc') (l_ ha');refine⟨_,Y,_,Y,_,Y,x,sg,rows,fo,fm,i1,j1,a,c,f1,Y,hP.same s3,k1,k2,k3,λH4 s4=>?_⟩;refine⟨_,Y,_,Y,_,Y,x,sg,rows,fo,fm,i2,j2,c,a,f2,Y,hP.same (s3.trans s4),l1,l2,l3,λH5 s5=>?_⟩;have s35:=s3.trans (s4.trans s5);refine⟨Y,_,Y,?_⟩;refine ur (λz=>?_) λe=>?_
    ·refine k false H5 s35 ⟨(λe=>by cases e),λq=>absurd (q a (l_ ha') c (l_ hc')) ?_⟩;rw[k4,l4];exact z
    ·refine⟨_,Y,s35,λq d hq hd=>?_⟩;by_cases e':q=j
     ·subst e';rw[hc']at hd;cases hd;rw[k4,l4];exact e
     ·exact hj q d (by omega) hd
   ·rintro σ H3 ⟨v2,rfl,s3,hj⟩;refine⟨_,_,Y,s3,λq d hq hd c hc=>?_⟩;by_cases e':q=i
    ·subst e';rw[ha']at hd;cases hd;obtain⟨z,hz',ec⟩:=qaA hc;rw[o_]at hz';exact hj z c hz' (by rw[←ec];exact e_ _)
    ·exact hi q d (by omega) hd c hc
  ·rintro σ H2 ⟨v1,v2,rfl,s2,hi⟩;refine k true H2 s2 ⟨λ_ a ha c hc=>?_,λ_=>rfl⟩;obtain⟨z,hz',ea⟩:=qaA ha;rw[o_]at hz';exact hi z a hz' (by rw[←ea];exact e_ _) c hc
theorem Hy {o5 o6 aD kK:g_}{nD nE aT jc:B_}{p:Pm}(T:Txt K mg p w)(gi:Dn K mg "_law_first" tP PF o5 nD)(kD:Dn K mg "laid_anew" tQ Ks o6 nE)(Lh:aI P w K mg base cO 11 o6 nE Ks (nv (Qy K p.au p.aJ p.aE p.dX)))(aU:Dm K "__init__" "Block.__init__" bR IY aD aT)(f6:Mk K p.aJ aD)(cE:aI P w K mg base cO 5 aD aT IY (nv (tG K p.aJ p.bK)))(dY:Dn K mg "_law_cost" sO PF kK jc)(vK:aI P w K mg base cO 4 kK jc PF (GQ K p.au)):aI P w K mg base cO 12 o5 nD PF (JA K p.au):=by
 refine gi.fn.ok ve (λvs H Q E h=>?_) (λcdv A outer s H vs Q E hr h=>?_)
 ·obtain⟨x,l,T1,R,rfl,_⟩:=h;rfl
 ·obtain⟨x,l,T1,R,rfl,hP,hl,hG,k,kn⟩:=h;have hlen:=hG.len;have sm:=hG.sm;refine⟨_,(bJ (cN (bf DA (aG (aW) Y T.cV bO (aa (pv 1) ah)) aq (bC _)) (ak (dP Q_ Y (iN Y T.lT (aa (aG (aW) Y T.cV bO (aa (pv 1) ah)) ah)) (Z9Y 2 ve.nd) (ao (Z9X 3 ve.nd (gc Lh hr kD (aa (pv 0) (aa (tR f6 cE (hr.mono (by decide)) Y T.qZ aU.b .nil aR (aa (pv 1) ah)) (aa (pv 2) ah)))))
   (ak (cN (bf zI (gc vK hr dY (aa (pv 0) (aa (bB (pv 3) rfl) ah))) (gc vK hr dY (aa (pv 0) (aa (pv 1) ah))) (bC _)) (ak (aP (gK (aa (pv 2) (aa (p5 (Ad) rfl T.Lq Il (aa (bB (pv 3) rfl) ah)) ah))))) br))))) br)
   (ak (aP (gK (aa (BI wg aq) (aa (pv 1) ah)))))),?_⟩
  refine⟨λσ' H'=>aj H H'/\Sf T1 R/\fD λv2 v3=>σ'=[some (.ref x),some (.ref l),v2,v3],?_,?_⟩
  ·refine⟨_,Y,_,R.length,Y,.inl ⟨_,bY.of hl,by rw[f_]⟩,_,_,Y,Y,_,Y,gw (λz=>?_) λz=>⟨aj.refl _,λc=>absurd (show((R.length:Nat):Int)>1 by omega) z,_,_,Y⟩⟩;have h1:1<R.length:=by have z':(1:Int)<((R.length:Nat):Int):=z;omega
   refine⟨_,Y,_,R.length,Y,.inl ⟨_,bY.of hl,by rw[f_]⟩,_,Y,by omega,by omega,?_⟩;rw[qay];refine k9 (lo:=0) (n:=R.length) (λi σ H2=>fD λv2 v3=>σ=[some (.ref x),some (.ref l),v2,v3]/\aj H H2/\NoB T1 R i) ⟨_,_,Y,aj.refl _,λq R' z=>absurd z (qa6 _)⟩ ?_ λσ H2 ⟨v2,v3,e,s2,nb⟩=>⟨s2,λ_=>nb,_,_,e⟩;rintro i σ H2 hi ⟨v2,v3,rfl,s2,nb⟩;have ei:(0:Int)+(i:Int)=(i:Int):=by omega
   rw[ei];refine⟨_,Y,_,Y,λo dx ho hdx Ti=>?_⟩;have s3:aj H2 (upd (upd H2 dx (.own o)) o (.ins p.aJ dx [])):=aj.at (aj.upd hdx) ho;refine⟨o,dx,_,R,Y,ai,⟨l,Y,.inl (bY.of (s3 _ _ (s2 _ _ hl)))⟩,sm.sm,λ_ H4 h4 hB=>⟨Y,?_⟩,λz=>by rw[hG.bk]at z;cases z⟩;have s4:aj H H4:=s2.trans λa u ha=>h4 _ _ (s3 _ _ ha) (λz=>by rw[z,ho]at ha;cases ha);refine⟨_,Y,x,o,(i:Int),T1.1,T1.2.1,T1.2.2.1,T1.2.2.2,R,Y,hP.same s4,hB,sm,hG.bk,λ_ y _ hy _ b' H5 cs s5 _ hF hB5=>?_,λ_ z=>?_,λa c Sv=>absurd hG.kn Sv.no⟩
   ·rw[qay]at hy hF hB5;have an:An T1 R i (MQ R i y cs):=⟨y,cs,hy,hF,rfl⟩;obtain⟨gd,_⟩:=An.gd hG h1 an;have gs:=gd.sm;generalize MQ R i y cs=R' at an gd hB5 gs;have s45:=s4.trans s5;obtain⟨RK,q',hb',hq'⟩:=hB5;refine⟨_,Y,_,Y,b',_,RK,_,_,Y,hb',T.cW,T.bx,fz,x,.ref q',_,_,_,_,R',Y,hP.same s45,⟨q',Y,.inr hq'⟩,gs.sm,bZ gd.bk,gd.kn,λH6 s6=>?_⟩;have s46:=s45.trans s6;refine⟨_,Y,_,Y,x,.ref l,_,_,_,_,R,Y,hP.same s46,⟨l,Y,.inl (bY.of (s46 _ _ hl))⟩,sm.sm,bZ hG.bk,hG.kn,λH7 s7=>?_⟩;have s47:=s46.trans s7;refine⟨_,_,Y,Y,_,Y,gw (λz=>?_) λz=>?_⟩
    ·refine⟨_,Y,_,Y,b',_,RK,_,_,Y,s7 _ _ (s6 _ _ hb'),T.cW,T.bx,fz,q',_,Y,.inr (aj.tup (s6.trans s7) hq'),λl' hl'=>⟨c_,λq hq=>?_⟩⟩;have s8:=aj.upd (o:=.lst (R'.map V.str)) hl';have s9:=aj.upd (o:=.tup [.int (i:Int),.ref l']) hq;exact k i R' q l' _ (s47.trans (s8.trans s9)) ⟨h1,an,z,nb⟩ ai (s9 _ _ ai)
    ·refine⟨_,_,Y,s47,λq R2 hq a=>?_⟩;by_cases e:q=i
     ·subst e;rw[a.uniq an];have z':¬Bs T1 R'<Bs T1 R:=z;omega
     ·exact nb q R2 (by omega) a
   ·exfalso;rcases z with z|z
    ·unfold inR at z;rw[decide_eq_true (show(0:Int)<=(i:Int) by omega),decide_eq_true (show(i:Int)<((R.length:Nat):Int) by omega)]at z;cases z
    ·omega
  rintro σ' H1 ⟨s1,hno,v2,v3,rfl⟩;exact⟨_,Y,_,Y,c_,λq hq=>kn hno q _ (s1.trans (aj.upd hq)) ai⟩
theorem DG {lI pQ aD:g_}{jM nh aT:B_}{p:Pm}(T:Txt K mg p w)(cU:Dn K mg "_law_refused" qA Sn lI jM)(fG:Dn K mg "mended" wu PD pQ nh)(xx:aI P w K mg base (sZ P w) 11 pQ nh PD (zv K p.au p.aJ p.aE p.aL p.aZ))(aU:Dm K "__init__" "Block.__init__" bR IY aD aT)(f6:Mk K p.aJ aD)(cE:aI P w K mg base (sZ P w) 5 aD aT IY (tG K p.aJ p.bK)):aI P w K mg base cO 14 lI jM Sn (Qm K p.au):=by
 refine cU.fn.ok iD (λvs H Q E h=>?_) (λcdv A outer s H vs Q E hr h=>?_)
 ·obtain⟨x,l,m,T1,R,rfl,_⟩:=h;rfl
 ·obtain⟨x,l,m,T1,R,rfl,hP,hl,T8,hS,hm,kG,kS,hh⟩:=h;refine⟨_,(ao (Z9X 3 iD.nd vn)
   (bJ (Yn Y7 (λ_ _ _ LT PO=>(ak (ee (QO xx (hr.mono (by decide)) rfl fG.m fG.fn.kp fG.b .nil LT (aa (pv 0) (aa (QK f6 cE (hr.mono (by decide)) rfl T.qZ aU.b .nil LT (aa (pv 1) ah)) (aa (pv 2) ah))))))) (aaq (i:=6) iD.nd rfl rfl rfl T.yd T.EH (λea=>(ak (Z9X 3 iD.nd (pv 6)))) Yq))
   (bJ (Z9X 4 iD.nd (jz (aa (aG (uw) rfl T.dN c9 (aa (pv 3) (aa (eE (v:=.ref p.aE) rfl T.Gd rfl) ah))) (aa (aG (uw) rfl T.dN c9 (aa (pv 3) (aa (eE (v:=.ref p.aL) rfl T.BL rfl) ah))) (aa (aG (uw) rfl T.dN c9 (aa (pv 3) (aa (eE (v:=.ref p.aZ) rfl T.Ge rfl) ah))) ah)))))
   (bJ (Z9X 5 iD.nd (aG (yi) rfl T.dN c9 (aa (pv 3) (aa (gK (aa (eE (v:=.ref p.bK) rfl T.sU rfl) (aa (eE (v:=.ref p.fX) rfl T.Kl rfl) (aa (eE (v:=.ref p.fW) rfl T.Kh rfl) (aa (eE (v:=.ref p.kg) rfl T.OO rfl) (aa (eE (v:=.ref p.iA) rfl T.Mn rfl) ah)))))) ah))))
   (bJ (Z9X 5 iD.nd (aar (pv 5) (LZ (aG (yi) rfl T.dN c9 (aa (pv 3) (aa (gK (aa (eE (v:=.ref p.dX) rfl T.DP rfl) (aa (eE (v:=.ref p.kc) rfl T.ON rfl) (aa (eE (v:=.ref p.j9) rfl T.OM rfl) ah)))) ah))))))
   (bJ (cN (PW.pt (qW (gD (pv 5)) (sQ (bf vR (aG (aW) rfl T.cV bO (aa (JS (N:=["_law_one"]) rfl (λ_=>⟨[],cT.plain (by decide +kernel) rfl (by decide +kernel) (by decide +kernel)⟩) (ja (pv 4)) (λ_ _ _ _ _ _ _=>(aS (i:=0) (show(["_law_one"]:List r_).Nodup by decide +kernel) rfl (Or.inl rfl))) (λ_ _ _ _ _ _ _=>(pv 0)) (λ_ _ _ _ _ _ _=>(gD (pv 0)))) ah)) aq (bC _))))) (ak (aP (gK (aa dQ (aa aq (aa aq ah)))))) br)
   (ao (cN (gD (bu cj (pv 4) aq (λ_ _=>rfl))) (ak (aP (gK (aa dQ (aa (Nx (pv 3) rfl) (aa (Nx (pv 3) rfl) ah)))))) br)
   (ak (aP (gK (aa (bu cj (jz (aa dQ (aa dQ ah))) (aQ wF (tS PySem.F.plainAttrs_list PySem.F.slot_list_index PySem.F.type_list_index OH (pv 4) (aa rH ah)) aq) (λ_ _=>rfl)) (aa aq (aa aq ah))))))))))))),?_⟩
  let Fin:Hp->g_->Option g_->Bool->Bool->Bool->Prop:=λH' Cc od b1 b2 b3=>(b1=true/\b2=false/\b3=false/\Cc=p.aE/\rG λ(i j:Nat) (dx:g_)=>od=some dx/\H' dx=some (CN dx (Fe i j))/\∀q Ao,aj H Ao->Ao q=some (.tup [.str "sign",.int i,.int j])->Q (.ref q) Ao) ∨
   (b1=false/\b2=true/\b3=false/\od=none/\∀q Ao,aj H Ao->Ao q=some (.tup [.str "prices",.int 0,.int 0])->Q (.ref q) Ao)\/(b1=false/\b2=false/\b3=true/\od=none/\∀q Ao,aj H Ao->Ao q=some (.tup [.str "most",.int 0,.int 0])->Q (.ref q) Ao)
  refine⟨λσ' H'=>aj H H'/\Po λea Cc od b1 b2 b3 v6=>σ'=[some (.ref x),some (.ref l),some (.int m),some (.ref ea),none,none,v6]/\H' ea=some (Sw ea (.ref Cc) od)/\Sx K Cc/\PySem.W.kitOne K (.ref Cc) (.ref p.aE)=some b1/\PySem.W.kitOne K (.ref Cc) (.ref p.aL)=some b2/\PySem.W.kitOne K (.ref Cc) (.ref p.aZ)=some b3 ∧
   PySem.W.kitAny K (.ref Cc) ([p.bK,p.fX,p.fW,p.kg,p.iA].map Value.ref)=some false/\PySem.W.kitAny K (.ref Cc) ([p.dX,p.kc,p.j9].map Value.ref)=some false/\Fin H' Cc od b1 b2 b3,?_,?_⟩
  ·refine⟨_,Y,_,Y,λo dx ho hdx Ti=>?_⟩;have s1:aj H (upd (upd H dx (.own o)) o (.ins p.aJ dx [])):=aj.at (aj.upd hdx) ho;refine⟨o,dx,_,R,Y,ai,⟨l,Y,.inl (bY.of (s1 _ _ hl))⟩,hS,λ_ H' f' B'=>?_,λz=>(by rw[T8]at z;cases z)⟩;have s2:aj H H':=λb u e=>f' b u (s1 b u e) λz=>by rw[z,ho]at e;cases e
   rcases hh with⟨hO,hnb,k⟩|⟨hO,bw,hm0,k⟩|⟨i,j,Sv,k⟩
   ·refine⟨Y,_,Y,x,o,m,T1,R,Y,hP.same s2,B',T8,hS,hm,λ_ bw=>absurd bw hnb,kG,λa c hB=>absurd hO hB.no,λ_ _ H2 s3=>?_,λ_ bw=>absurd bw hnb⟩;exact⟨_,_,Y,T.vz,qb λea ZL=>⟨_,Y,(s2.trans s3).trans (aj.upd ZL),ea,_,_,_,_,_,_,Y,ai,T.I9,T.yN,T.wU,T.yP,dh T.x8 (dh T.wW (dh T.wV (dh T.yO (dh T.x6 xM)))),dh T.zV (dh T.yM (dh T.yL xM)),.inr (.inl ⟨Y,Y,Y,Y,k⟩)⟩⟩
   ·refine⟨Y,_,Y,x,o,m,T1,R,Y,hP.same s2,B',T8,hS,hm,λ_ _ m0=>absurd m0 (by omega),kG,λa c hB=>absurd hO hB.no,λ_ nb=>absurd bw nb,λ_ _ _ H2 s3=>?_⟩;exact⟨_,_,Y,T.wR,qb λea ZL=>⟨_,Y,(s2.trans s3).trans (aj.upd ZL),ea,_,_,_,_,_,_,Y,ai,T.N6,T.Bd,T.yQ,T.Bf,dh T.zX (dh T.yS (dh T.yR (dh T.Be (dh T.zW xM)))),dh T.Cj (dh T.Bc (dh T.Bb xM)),.inr (.inr ⟨Y,Y,Y,Y,k⟩)⟩⟩
   ·refine⟨Y,_,Y,x,o,m,T1,R,Y,hP.same s2,B',T8,hS,hm,λhG=>absurd hG.kn Sv.no,kG,λa c hB' RK H2 s3 hd=>?_,λz=>absurd z Sv.no,λz=>absurd z Sv.no⟩;obtain⟨rfl,rfl⟩:=Sv.uniq hB';exact⟨_,_,Y,T.wQ,qb λea ZL=>⟨_,Y,(s2.trans s3).trans (aj.upd ZL),ea,_,_,_,_,_,_,Y,ai,T.N5,T.AZ,T.yI,T.Ba,dh T.zU (dh T.yK (dh T.yJ (dh T.A0 (dh T.zT xM)))),dh T.Ci (dh T.AY (dh T.AX xM)),.inl ⟨Y,Y,Y,Y,i,j,RK,Y,aj.upd ZL _ _ hd,k⟩⟩⟩
  rintro σ' H1 ⟨s1,ea,Cc,od,b1,b2,b3,v6,rfl,he,xt,k1,k2,k3,k5,k6,hF⟩;have hod:od=none\/fD λdx fs=>od=some dx/\H1 dx=some (CN dx fs):=by
   rcases hF with⟨_,_,_,_,i,j,dx,e,hd,_⟩|⟨_,_,_,e,_⟩|⟨_,_,_,e,_⟩
   ·exact .inr ⟨dx,_,e,hd⟩
   ·exact .inl e
   ·exact .inl e
  have abn:∀{H2:Hp},aj H1 H2->od=none\/fD λdx fs=>od=some dx/\H2 dx=some (CN dx fs):=λ{H2} s=>hod.imp id λ⟨dx,fs,e,hd⟩=>⟨dx,fs,e,s _ _ hd⟩;refine⟨λσ' H'=>∃lf,aj H1 H'/\H' lf=some (.lst ([b1,b2,b3].map V.bl))/\σ'=[some (.ref x),some (.ref l),some (.int m),some (.ref ea),some (.ref lf),none,v6],?_,?_⟩
  ·exact⟨_,Y,ea,Cc,od,_,_,_,Y,.inl ⟨_,Y,Y⟩,he,hod,xt,k1,_,Y,ea,Cc,od,_,_,_,Y,.inl ⟨_,Y,Y⟩,he,hod,xt,k2,_,Y,ea,Cc,od,_,_,_,Y,.inl ⟨_,Y,Y⟩,he,hod,xt,k3,d_,λlf hlf=>⟨lf,aj.upd hlf,ai,Y⟩⟩
  rintro σ' H2 ⟨lf,s2,e2,rfl⟩;refine⟨λσ' H'=>aj H2 H'/\σ'=[some (.ref x),some (.ref l),some (.int m),some (.ref ea),some (.ref lf),some (.bl false),v6],?_,?_⟩
  ·refine⟨_,Y,by show 5<=z_;decide,λt1 ht1=>?_⟩;have s3:=aj.upd (o:=.tup ([p.bK,p.fX,p.fW,p.kg,p.iA].map V.ref)) ht1;exact⟨ea,Cc,od,t1,_,_,Y,ai,s3 _ _ (s2 _ _ he),abn (s2.trans s3),xt,k5,s3,Y⟩
  rintro σ' H3 ⟨s3,rfl⟩;refine⟨λσ' H'=>aj H2 H'/\σ'=[some (.ref x),some (.ref l),some (.int m),some (.ref ea),some (.ref lf),some (.bl false),v6],?_,?_⟩
  ·refine⟨_,Y,_,Y,mj ⟨_,Y,d_,λt1 ht1=>?_⟩⟩;have s4:=aj.upd (o:=.tup ([p.dX,p.kc,p.j9].map V.ref)) ht1;exact⟨ea,Cc,od,t1,_,_,Y,ai,(s2.trans (s3.trans s4)) _ _ he,abn (s2.trans (s3.trans s4)),xt,k6,s3.trans s4,Y⟩
  rintro σ' H4 ⟨s4,rfl⟩;have e4:=s4 _ _ e2;refine⟨λσ' H'=>aj H2 H'/\σ'=[some (.ref x),some (.ref l),some (.int m),some (.ref ea),some (.ref lf),some (.bl false),v6],?_,?_⟩
  ·refine⟨_,Y,_,Y,mj ⟨_,Y,lf,Y,⟨_,bY.of e4⟩,λl2 hl2=>?_⟩⟩;refine Ig 3 (λj=>[b1,b2,b3].getD j false) (λj=>V.bl ([b1,b2,b3].getD j false)) hl2 (by decide) (λj H5 s5 hj=>?_) (λH5 s5=>?_) (λj y H5 H6 R' S' s5 hj hy hRR hFF=>?_) λH5 s5 PM=>?_
   ·exact⟨_,_,bY.of (s5 _ _ e4),by rw[n_,e_ (show j<[b1,b2,b3].length from hj)];rfl⟩
   ·exact⟨_,bY.of (s5 _ _ e4),j_ _⟩
   ·obtain⟨rfl,hy⟩:=hy;have ey:=hy _ (bY.of (s5 _ _ e4));rw[n_,e_ (show j<[b1,b2,b3].length from hj)]at ey;cases ey;have ed:[b1,b2,b3].getD j false=[b1,b2,b3][j]:=by rw[L_,e_ (show j<[b1,b2,b3].length from hj),qaS]
    rw[ed]at hRR hFF;refine⟨Kp.vd,_,Y,_,Y,?_⟩;have eb:(λj=>[b1,b2,b3].getD j false) j=[b1,b2,b3][j]:=ed;generalize [b1,b2,b3][j]=bj at hRR hFF eb
    cases bj with
    |true=>exact qb ⟨_,Y,hRR Y _ (aj.refl _)⟩
    |false=>exact mj (hFF Y _ (aj.refl _))
   ·have cnt:1=(((E_ 3).filter λj=>[b1,b2,b3].getD j false).map λj=>V.bl ([b1,b2,b3].getD j false)).length:=by
     rcases hF with⟨rfl,rfl,rfl,_⟩|⟨rfl,rfl,rfl,_⟩|⟨rfl,rfl,rfl,_⟩<;>rfl
    exact⟨_,1,Y,.inl ⟨_,bY.of PM,cnt⟩,Y,_,Y,ur (λz=>absurd Y z) λ_=>⟨s4.trans s5,Y⟩⟩
  rintro σ' H5 ⟨s5,rfl⟩;have UP:=s2.trans s5;have e5:=s5 _ _ e2;have he5:=UP _ _ he;refine⟨_,Y,lf,_,_,_,Y,Y,bY.of e5,Y,_,Y,?_⟩;rcases hF with⟨rfl,rfl,rfl,rfl,i,j,dx,rfl,hd,k⟩|⟨rfl,rfl,rfl,rfl,k⟩|⟨rfl,rfl,rfl,rfl,k⟩
  ·refine qb ⟨_,Y,ea,_,dx,_,_,Y,he5,UP _ _ hd,xt,T.zO,RB,_,Y,ea,_,dx,_,_,Y,he5,UP _ _ hd,xt,T.wI,MD,d_,λq hq=>?_⟩;exact k q _ (s1.trans (UP.trans (aj.upd hq))) ai
  ·refine mj ⟨c_,λl3 hl3=>?_⟩;have s6:=aj.upd (o:=.lst [V.str "prices",V.str "most"]) hl3;refine⟨_,Y,.inl ⟨Y,_,bY.of (s6 _ _ e5)⟩,lf,[false,true,false],1,Y,Y,s6 _ _ e5,Y,?_,_,_,Y,Y,l3,_,_,_,Y,Y,bY.of ai,Y,d_,λq hq=>?_⟩
   ·intro m hm;rw[show m=0 by omega];exact λz=>by cases z
   ·exact k q _ (s1.trans (UP.trans (s6.trans (aj.upd hq)))) ai
  ·refine mj ⟨c_,λl3 hl3=>?_⟩;have s6:=aj.upd (o:=.lst [V.str "prices",V.str "most"]) hl3;refine⟨_,Y,.inl ⟨Y,_,bY.of (s6 _ _ e5)⟩,lf,[false,false,true],2,Y,Y,s6 _ _ e5,Y,?_,_,_,Y,Y,l3,_,_,_,Y,Y,bY.of ai,Y,d_,λq hq=>?_⟩
   ·intro m hm;rcases(show m=0\/m=1 by omega)with z|z
    ·rw[z];exact λz=>by cases z
    ·rw[z];exact λz=>by cases z
   ·exact k q _ (s1.trans (UP.trans (s6.trans (aj.upd hq)))) ai
end
section
variable{P:I_}{w:W_}{K:PySem.W.Frag}{mg:r_->Option i_}{base:qad}
theorem ET {nG o5 jf lJ kK:g_}{lq nD gP jN jc:B_}{p:Pm}(T:Txt K mg p w)(jm:Dn K mg "_law_walked" rQ l65 nG lq)(gi:Dn K mg "_law_first" tP PF o5 nD)(BZ:aI P w K mg base cO 12 o5 nD PF (JA K p.au))(dg:Dn K mg "_law_whole" qS YE jf gP)(tZ:aI P w K mg base cO 1 jf gP YE C7)(gY:Dn K mg "_law_is_cost" qB l51 lJ jN)(FD:aI P w K mg base cO 3 lJ jN l51 (Jz K p.au))(dY:Dn K mg "_law_cost" sO PF kK jc)(vK:aI P w K mg base cO 4 kK jc PF (GQ K p.au)):aI P w K mg base cO 13 nG lq l65 (M4 K p.au):=by
 refine jm.fn.ok nX (λvs H Q E h=>?_) (λcdv A outer s H vs Q E hr h=>?_)
 ·obtain⟨x,l,ls,m,T1,R,R',ss,ws,rfl,_⟩:=h;rfl
 ·obtain⟨x,l,ls,m,T1,R,R',ss,ws,rfl,hP,hl,hG,hls,hst,hM,hle,hno,k⟩:=h;have hwl:ws.length=ss.length:=Paired.length hst;refine⟨_,(bJ (cN (PW.pt (qW (jy (gD (aG (xj) Y T.dN c9 (aa (pv 2) (aa (vp (v:=.ty "list") Y T.Lq Il Y) ah))))) (sQ (bf DA (aG (aW) Y T.cV bO (aa (pv 2) ah)) (pv 3) (bC _))))) (ak (aP vn)) br)
   (bJ (dP Q_ rfl (ja (pv 2)) (Z9Y 4 nX.nd) (bJ (AM (gc BZ hr gi (aa (pv 0) (aa (pv 1) ah))) (um (n:=2) rfl (fh (Z9Y 5 nX.nd) (fh (Z9Y 6 nX.nd) qI))))
   (bJ (cN (PW.pt (qW (bf zI (pv 5) aq (bC _)) (qW (jy (gD (aG (su) rfl T.dN c9 (aa (pv 4) (aa (vp (v:=.ty "tuple") rfl T.tw rq rfl) ah))))) (qW (bf vR (aG (aW) rfl T.cV bO (aa (pv 4) ah)) aq (bC _)) (qW (jy (gD (gc tZ hr dg (aa (bu cQ (pv 4) aq (λ_ _=>rfl)) ah)))) (sQ (bf vR (bu cQ (pv 4) aq (λ_ _=>rfl)) (pv 5) (bC _)))))))) (ak (aP vn)) br)
   (bJ (Z9X 1 nX.nd (pv 6))
   (ak (cN (jy (gD (gc FD hr gY (aa (pv 0) (aa (bu cQ (pv 4) aq (λ_ _=>rfl)) (aa (gc vK hr dY (aa (pv 0) (aa (pv 1) ah))) ah)))))) (ak (aP vn)) br))))))
   (bJ (cN (PW.pt (G6 (bf zI (aG (aW) rfl T.cV bO (aa (pv 2) ah)) (pv 3) (bC _)) (CF (bf aas (bu cQ (gc BZ hr gi (aa (pv 0) (aa (pv 1) ah))) aq (λ_ _=>rfl)) aq (bC _))))) (ak (aP vn)) br)
   (ak (aP (pv 1)))))),?_⟩
  refine⟨λσ' H'=>H'=H/\σ'=[some (.ref x),some (.ref l),some (.ref ls),some (.int m),none,none,none],?_,?_⟩
  ·refine⟨_,Y,_,_,_,_,Y,.lst hls,zS,_,Y,kY ?_⟩;refine⟨_,Y,_,_,Y,.inl ⟨_,bY.of hls,Y⟩,_,Y,_,_,Y,Y,_,Y,YN (by show ¬m<((ws.length:Nat):Int);omega) ⟨Y,Y⟩⟩
  rintro σ' H ⟨rfl,rfl⟩;refine⟨λσ' H'=>yj λli v4 v5 v6=>aj H H'/\H' li=some (.lst (R'.map V.str))/\BY T1 R'/\σ'=[some (.ref x),some (.ref li),some (.ref ls),some (.int m),v4,v5,v6],?_,?_⟩
  ·refine⟨_,Y,ls,Y,⟨_,bY.of hls⟩,?_⟩;refine sV (xs:=ws) (λi σ H2=>GF λli Ri v4 v5 v6=>aj H H2/\H2 li=some (.lst (Ri.map V.str))/\BY T1 Ri/\vZ T1 Ri (ss.drop i) R'/\σ=[some (.ref x),some (.ref li),some (.ref ls),some (.int m),v4,v5,v6]) ⟨l,R,_,_,_,aj.refl _,hl,hG,hM,Y⟩ (λi σ H2 _ ⟨_,_,_,_,_,s2,_⟩=>bY.of (s2 _ _ hls)) ?_ ?_
   ·rintro i wv σ H2 hw ⟨li,Ri,v4,v5,v6,s2,hli,hGi,hMi,rfl⟩;obtain⟨⟨r,c⟩,hs,a,cc,rfl,ha,hc⟩:=GP.Paired.at hst hw;have hil:i<ss.length:=(q_.mp hs).1;have ed:ss.drop i=(r,c)::ss.drop (i+1):=by
     rw[qby hil];rw[e_ hil]at hs;rw[V_ hs]
    rw[ed]at hMi
    cases hMi with
    |cons hF hMn =>
    rename_i R1
    obtain⟨hG1,_⟩:=An.gd hGi hF.1 hF.2.1;have sm1:=hG1.sm;refine⟨λσ' H'=>∃lm,aj H2 H'/\H' lm=some (.lst (R1.map V.str))/\σ'=[some (.ref x),some (.ref li),some (.ref ls),some (.int m),some (.ref a),some (.int (r:Int)),some (.ref lm)],?_,?_⟩
    ·refine⟨_,Y,_,Y,x,li,T1,Ri,Y,hP.same s2,hli,hGi,λr2 R2 q lm H3 s3 hF2 hq hlm=>?_,λz=>(hF.no z).elim⟩;obtain⟨rfl,rfl⟩:=hF.uniq hF2;exact⟨q,_,Y,eK.of hq,Y,_,_,Y,_,_,Y,Y,lm,s3,hlm,Y⟩
    rintro σ' H3 ⟨lm,s3,hlm,rfl⟩;have S0:=s2.trans s3;have ha3:=S0 _ _ ha;refine⟨λσ' H'=>H'=H3/\σ'=[some (.ref x),some (.ref li),some (.ref ls),some (.int m),some (.ref a),some (.int (r:Int)),some (.ref lm)],?_,?_⟩
    ·refine⟨_,Y,_,_,Y,Y,_,Y,YN (by show ¬(r:Int)<0;omega) ?_⟩;refine⟨_,Y,_,_,_,_,Y,.inl (.tup ha3),zS,_,Y,kY ?_⟩;refine⟨_,Y,_,_,Y,.inr ⟨_,eK.of ha3,Y⟩,Y,_,Y,ur (λz=>absurd Y z) λ_=>?_⟩;refine⟨_,Y,a,_,_,_,Y,Y,eK.of ha3,Y,_,Y,_,Y,kY ?_⟩;exact⟨_,Y,a,_,_,_,Y,Y,eK.of ha3,Y,_,Y,Y,_,Y,ur (λz=>absurd Y z) λ_=>⟨Y,Y⟩⟩
    rintro σ' H3 ⟨rfl,rfl⟩;refine⟨λσ' H'=>H'=H3/\σ'=[some (.ref x),some (.ref lm),some (.ref ls),some (.int m),some (.ref a),some (.int (r:Int)),some (.ref lm)],⟨_,Y,Y,Y⟩,?_⟩;rintro σ' H3 ⟨rfl,rfl⟩;refine⟨_,Y,_,Y,a,_,_,_,Y,Y,eK.of ha3,Y,_,Y,_,Y,x,.ref lm,_,_,_,_,R1,Y,hP.same S0,⟨lm,Y,.inl (bY.of hlm)⟩,sm1.sm,bZ hG1.bk,hG1.kn,λH4 s4=>?_⟩;exact⟨x,cc,_,_,_,_,_,Y,hP.same (S0.trans s4),(S0.trans s4) _ _ hc,λH5 s5=>⟨_,Y,kY ⟨lm,R1,_,_,_,(S0.trans s4).trans s5,(s4.trans s5) _ _ hlm,hG1,hMn,Y⟩⟩⟩
   ·rintro σ H2 ⟨li,Ri,v4,v5,v6,s2,hli,hGi,hMi,rfl⟩;rw[hwl,List.drop_length]at hMi;cases hMi;exact⟨li,_,_,_,s2,hli,hGi,Y⟩
  rintro σ' H2 ⟨li,v4,v5,v6,s2,hli,Ub,rfl⟩;refine⟨λσ' H'=>aj H2 H'/\σ'=[some (.ref x),some (.ref li),some (.ref ls),some (.int m),v4,v5,v6],?_,?_⟩
  ·refine⟨_,Y,_,_,Y,.inl ⟨_,bY.of (s2 _ _ hls),Y⟩,_,Y,_,_,Y,Y,_,Y,gw (λz=>?_) λ_=>mj ⟨aj.refl _,Y⟩⟩;have z':((ws.length:Nat):Int)<m:=z;have E9:=hno (by omega);refine⟨_,Y,_,Y,x,li,T1,R',Y,hP.same s2,hli,Ub,λr2 R2 q lm H3 s3 hF2 _ _=>(hF2.no E9).elim,λ_ q H3 s3 hq=>?_⟩;exact⟨q,_,_,_,Y,Y,eK.of hq,Y,_,_,Y,Y,_,Y,YN (by decide) ⟨s3,Y⟩⟩
  rintro σ' H3 ⟨s3,rfl⟩;exact⟨_,Y,k li H3 (s2.trans s3) (s3 _ _ hli)⟩
theorem JZ {qg pQ aD nG jU qh:g_}{oS nh aT lq iR oU:B_}{p:Pm}(T:Txt K mg p w)(mY:Dn K mg "_law_fine" vh Sn qg oS)(fG:Dn K mg "mended" wu PD pQ nh)(xx:aI P w K mg base cO 11 pQ nh PD (nv (zv K p.au p.aJ p.aE p.aL p.aZ)))(aU:Dm K "__init__" "Block.__init__" bR IY aD aT)(f6:Mk K p.aJ aD)(cE:aI P w K mg base cO 5 aD aT IY (nv (tG K p.aJ p.bK)))(jm:Dn K mg "_law_walked" rQ l65 nG lq)(IJ:aI P w K mg base cO 13 nG lq l65 (M4 K p.au))(cJ:Dn K mg "_law_block_is" pD l63 jU iR)(sX:aI P w K mg base cO 1 jU iR l63 (Nk K p.aJ))(iJ:Dn K mg "_law_bare" vj Tz qh oU)(Ey:aI P w K mg base cO 1 qh oU Tz Nl):aI P w K mg base cO 14 qg oS Sn (Ni K p.au):=by
 refine mY.fn.ok mD (λvs H Q E h=>?_) (λcdv A outer s H vs Q E hr h=>?_)
 ·obtain⟨x,l,m,T1,R,rfl,_⟩:=h;rfl
 ·obtain⟨x,l,m,T1,R,rfl,hP,hl,hG,bw,hsy,m0,m1,k⟩:=h;have sm:=hG.sm;refine⟨_,(bJ (Z9X 3 mD.nd (tR f6 cE (hr.mono (by decide)) Y T.qZ aU.b .nil aR (aa (pv 1) ah)))
   (bJ (Z9X 4 mD.nd (gc xx hr fG (aa (pv 0) (aa (pv 3) (aa (pv 2) ah)))))
   (bJ (cN (PW.pt (qW (jy (gD (aG (su) rfl T.dN c9 (aa (pv 4) (aa (vp (v:=.ty "tuple") rfl T.tw rq rfl) ah))))) (sQ (bf vR (aG (aW) rfl T.cV bO (aa (pv 4) ah)) aq (bC _))))) (ak (aP rH)) br)
   (bJ (Z9X 5 mD.nd (gc IJ hr jm (aa (pv 0) (aa (pv 1) (aa (bu cQ (pv 4) aq (λ_ _=>rfl)) (aa (pv 2) ah))))))
   (bJ (cN (PW.pt (qW (bf QW (pv 5) vn (by with_unfolding_all rfl)) (qW (jy (gD (gc sX hr cJ (aa (bu cQ (pv 4) aq (λ_ _=>rfl)) (aa (pv 5) ah))))) (sQ (jy (gD (gc sX hr cJ (aa (pv 3) (aa (pv 1) ah))))))))) (ak (aP rH)) br)
   (bJ (cN (bf zI (aG (aW) rfl T.cV bO (aa (bu cQ (pv 4) aq (λ_ _=>rfl)) ah)) (pv 2) (bC _)) (bJ (AM (gc xx hr fG (aa (pv 0) (aa (bu cQ (pv 4) aq (λ_ _=>rfl)) (aa aq ah)))) (um (n:=2) rfl (fh (Z9Y 6 mD.nd) (fh (Z9Y 7 mD.nd) qI))))
   (ak (cN (PW.pt (qW (jy (gD (gc sX hr cJ (aa (pv 6) (aa (pv 5) ah))))) (sQ (bf (Yt (qaP (rj hr))) (pv 7) (jz ah) (bC _))))) (ak (aP rH)) br))) br)
   (bJ (Z9X 8 mD.nd (p5 (Ad) rfl T.Lq Il (aa (bu cQ (pv 4) aq (λ_ _=>rfl)) ah)))
   (bJ (ee (tS PySem.F.plainAttrs_list PySem.F.slot_list_append PySem.F.type_list_append k8 (bu cQ (pv 4) aq (λ_ _=>rfl)) (aa vn ah)))
   (bJ (cN (bf (S9 (YQ hr)) (bu cQ (gc xx hr fG (aa (pv 0) (aa (pv 3) (aa (pv 2) ah)))) aq (λ_ _=>rfl)) (pv 8) (bC _)) (ak (aP rH)) br)
   (ak (aP (vo (QX (qaP (rj hr))) (gM (N:=Tz) rfl (λ_=>⟨[],cT.plain (by decide +kernel) rfl (by decide +kernel) (by decide +kernel)⟩) (ja (pv 5)) (λ_ _ _ _ _ _ _=>(aS (i:=0) (show(Tz:List r_).Nodup by decide +kernel) rfl (Or.inl rfl))) (λ_ _ _ _ _ _ _=>(gc Ey hr iJ (aa (pv 0) ah)))) (gM (N:=Tz) rfl (λ_=>⟨[],cT.plain (by decide +kernel) rfl (by decide +kernel) (by decide +kernel)⟩) (ja (pv 1)) (λ_ _ _ _ _ _ _=>(aS (i:=0) (show(Tz:List r_).Nodup by decide +kernel) rfl (Or.inl rfl))) (λ_ _ _ _ _ _ _=>(gc Ey hr iJ (aa (pv 0) ah)))) (bC _))))))))))))),?_⟩
  let Z:List (Option V)->St:=λr=>some (.ref x)::some (.ref l)::some (.int m)::r++y_ (6-r.length) none
  have md:∀(H':Hp) (b:g_) (R1:List r_) (mm:Int) (Q':VK),jA K p.au H' x T1.1 T1.2.1 T1.2.2.1 T1.2.2.2->vV K p.aJ H' b R1->BY T1 R1->0<=mm->mm<=1000->(∀(q bb l2:g_) (R2:List r_) (ss:List (Nat×Int)) (vs:List V) (Ao:Hp),aj H' Ao->vZ T1 R1 ss R2->(ss.length:Int)<=mm->((ss.length:Int)<mm->Sf T1 R2)->BY T1 R2 →
    Ao q=some (.tup [.ref bb,.ref l2])->vV K p.aJ Ao bb R2->H' l2=none->Ao l2=some (.lst vs)->Paired (xm T1 (Wo l2 Ao)) vs ss->Q' (.ref q) Ao)->nv (zv K p.au p.aJ p.aE p.aL p.aZ) [.ref x,.ref b,.int mm] H' Q' E0 :=
   λH' b R1 mm Q' p1 p2 g z0 z1 q=>⟨x,b,mm,T1,R1,rfl,p1,p2,g.bk,g.sm.sm,z1,λ_ _ _=>⟨hsy,q⟩,λ_=>g,λa c hB=>absurd g.kn hB.no,λ_ nb=>absurd bw nb,λ_ _ z=>absurd z (by omega)⟩
  refine⟨λσ' H'=>∃b,aj H H'/\vV K p.aJ H' b R/\σ'=Z [some (.ref b)],?_,?_⟩
  ·refine⟨_,Y,λo dx ho hdx Ti=>?_⟩;have s1:aj H (upd (upd H dx (.own o)) o (.ins p.aJ dx [])):=aj.at (aj.upd hdx) ho;exact⟨o,dx,_,R,Y,ai,⟨l,Y,.inl (bY.of (s1 _ _ hl))⟩,sm.sm,λ_ H4 h4 hB=>⟨Y,o,λa u ha=>h4 _ _ (s1 _ _ ha) (λz=>by rw[z,ho]at ha;cases ha),hB,Y⟩,λz=>by rw[hG.bk]at z;cases z⟩
  rintro σ' H1 ⟨b,s1,Rv,rfl⟩;have hl1:=s1 _ _ hl;refine⟨λσ' H'=>PR λq bb l2 R2 ss vs=>aj H1 H'/\vZ T1 R ss R2/\(ss.length:Int)<=m/\((ss.length:Int)<m->Sf T1 R2)/\BY T1 R2/\H' q=some (.tup [.ref bb,.ref l2])/\vV K p.aJ H' bb R2/\H1 l2=none/\H' l2=some (.lst vs)/\Paired (xm T1 (Wo l2 H')) vs ss/\σ'=Z [some (.ref b),some (.ref q)],?_,?_⟩
  ·exact⟨_,Y,_,Y,_,Y,md _ _ _ _ _ (hP.same s1) Rv hG m0 (by omega) λq bb l2 R2 ss vs H2 a1 a2 a3 a4 a5 a6 a7 a8 a9 Uv=>⟨q,bb,l2,R2,ss,vs,a1,a2,a3,a4,a5,a6,a7,a8,a9,Uv,Y⟩⟩
  rintro σ' H2 ⟨q,bb,l2,R2,ss,vs,s2,hM,hle,hno,Ub,hq,hB2,fl2,e2,hst,rfl⟩;have s12:=s1.trans s2;refine⟨λσ' H'=>H'=H2/\σ'=Z [some (.ref b),some (.ref q)],?_,?_⟩
  ·refine⟨_,Y,_,_,_,_,Y,.inl (.tup hq),zS,_,Y,kY ?_⟩;exact⟨_,Y,_,_,Y,.inr ⟨_,eK.of hq,Y⟩,Y,_,Y,ur (λz=>absurd Y z) λ_=>⟨Y,Y⟩⟩
  rintro σ' H2 ⟨rfl,rfl⟩;refine⟨λσ' H'=>∃ld,aj H2 H'/\H' ld=some (.lst (R2.map V.str))/\σ'=Z [some (.ref b),some (.ref q),some (.ref ld)],?_,?_⟩
  ·exact⟨_,Y,_,Y,_,Y,q,_,_,_,Y,Y,eK.of hq,Y,_,Y,x,l,l2,m,T1,R,R2,ss,vs,Y,hP.same s12,s12 _ _ hl,hG,e2,Paired.qa hst λ_ _ h=>h.same Wo.sub,hM,hle,hno,λld H3 s3 hld=>⟨ld,s3,hld,Y⟩⟩
  rintro σ' H3 ⟨ld,s3,hld,rfl⟩;have l6:=Ub.len;have l6':=hG.len;have ZI:=s3 _ _ hq;refine⟨λσ' H'=>aj H3 H'/\σ'=Z [some (.ref b),some (.ref q),some (.ref ld)],?_,?_⟩
  ·refine⟨_,Y,Y,_,Y,mj ?_⟩;refine⟨_,Y,q,_,_,_,Y,Y,eK.of ZI,Y,_,Y,bb,ld,R2,Y,hB2.same s3,bY.of hld,by omega,λH4 s4=>⟨_,Y,kY ?_⟩⟩;exact⟨_,Y,_,Y,b,l,R,Y,Rv.same (s2.trans (s3.trans s4)),bY.of ((s12.trans (s3.trans s4)) _ _ hl),by omega,λH5 s5=>⟨_,Y,kY ⟨s4.trans s5,Y⟩⟩⟩
  rintro σ' H4 ⟨s4,rfl⟩;have SY:=s3.trans s4;have YU:=SY _ _ hq;have e4:=SY _ _ e2;have OY:=s4 _ _ hld;refine⟨λσ' H'=>fD λv6 v7=>aj H4 H'/\σ'=Z [some (.ref b),some (.ref q),some (.ref ld),v6,v7],?_,?_⟩
  ·refine⟨_,Y,q,_,_,_,Y,Y,eK.of YU,Y,_,vs.length,Y,.inl ⟨_,bY.of e4,Y⟩,_,Y,_,_,Y,Y,_,Y,gw (λz=>?_) λ_=>⟨none,none,aj.refl _,Y⟩⟩;have E9:=hno (by have hvl:vs.length=ss.length:=Paired.length hst;have z':((vs.length:Nat):Int)<m:=z;omega);refine⟨λσ' H'=>fD λb6 l7=>aj H4 H'/\vV K p.aJ H' b6 R2/\H' l7=some (.lst [])/\σ'=Z [some (.ref b),some (.ref q),some (.ref ld),some (.ref b6),some (.ref l7)],?_,?_⟩
   ·refine⟨_,Y,_,Y,q,_,_,_,Y,Y,eK.of YU,Y,x,bb,200,T1,R2,Y,hP.same (s12.trans SY),hB2.same SY,Ub.bk,Ub.sm.sm,by decide,λ_ _ _=>⟨hsy,λq6 b6 l7 R6 ss6 vs6 H6 a1 a2 a3 a4 a5 a6 a7 a8 a9 Uv=>?_⟩,λ_=>Ub,λa c hB=>absurd Ub.kn hB.no,λ_ nb=>absurd bw nb,λ_ _ z=>absurd z (by decide)⟩
    cases a2 with
    |cons h _=>exact(h.no E9).elim
    |nil =>
     cases Uv;exact⟨q6,_,Y,eK.of a6,Y,_,_,Y,_,_,Y,Y,b6,l7,a1,a7,a9,Y⟩
   rintro σ' H6 ⟨b6,l7,s6,hB6,e7,rfl⟩;refine⟨_,Y,_,Y,b6,ld,R2,Y,hB6,bY.of (s6 _ _ OY),by omega,λH7 s7=>⟨_,Y,kY ⟨_,Y,a_,λl8 hl8=>?_⟩⟩⟩;have s8:=aj.upd (o:=.lst []) hl8
   exact⟨l7,l8,[],Y,Y,bY.of ((s7.trans s8) _ _ e7),bY.of ai,(λz hz=>nomatch hz),_,Y,mj ⟨_,_,s6.trans (s7.trans s8),Y⟩⟩
  rintro σ' H5 ⟨v6,v7,s5,rfl⟩;have e5:=s5 _ _ e4;have s25:=SY.trans s5;refine⟨λσ' H'=>∃lk,aj H5 H'/\H5 lk=none/\H' lk=some (.lst vs)/\σ'=Z [some (.ref b),some (.ref q),some (.ref ld),v6,v7,some (.ref lk)],?_,?_⟩
  ·exact⟨_,Y,q,_,_,_,Y,Y,eK.of (s5 _ _ YU),Y,l2,_,Y,.inl (bY.of e5),λlk hlk=>⟨lk,aj.upd hlk,hlk,ai,Y⟩⟩
  rintro σ' H6 ⟨lk,s6,flk,hlk,rfl⟩;have e6:=s6 _ _ e5;have s26:=s25.trans s6;have nlk:lk≠l2:=λz=>by rw[z,e5]at flk;cases flk
  have nld:ld≠l2:=λz=>by
   rw[z,e4]at OY;have ev:vs=R2.map V.str:=by injection OY with OY;injection OY
   have hne:=(bG.mp (bZ Ub.bk)).1
   cases R2 with
   |nil=>exact hne Y
   |cons r0 R2 =>
    rw[ev]at hst
    cases hst with
    |cons h _ =>
     obtain⟨_,_,e,_⟩:=h;cases e
  refine⟨λσ' H'=>H'=upd H6 l2 (.lst (vs++[.lV]))/\σ'=Z [some (.ref b),some (.ref q),some (.ref ld),v6,v7,some (.ref lk)],?_,?_⟩
  ·have hvl:vs.length=ss.length:=Paired.length hst;exact⟨_,Y,q,_,_,_,Y,Y,eK.of ((s5.trans s6) _ _ YU),Y,.inl ⟨Y,_,bY.of e6⟩,l2,_,_,Y,Y,e6,s_ (show vs.length<=2000 by omega) (by decide),Y,Y⟩
  rintro σ' H7 ⟨hH,rfl⟩;have s17:aj H1 H7:=by rw[hH];exact aj.at (s2.trans s26) fl2
  have w7:Wo l2 H7=Wo l2 H6:=by rw[hH,Wo.set]
  have lk7:H7 lk=some (.lst vs):=by rw[hH,aH nlk];exact hlk
  have ld7:H7 ld=some (.lst (R2.map V.str)):=by rw[hH,aH nld];exact(s5.trans s6) _ _ OY
  have st7:Paired (xm T1 (Wo l2 H7)) vs ss:=by rw[w7];exact Paired.qa hst λ_ _ h=>h.same (Wo.same s26)
  clear hH;refine⟨λσ' H'=>aj H7 H'/\σ'=Z [some (.ref b),some (.ref q),some (.ref ld),v6,v7,some (.ref lk)],?_,?_⟩
  ·refine⟨_,Y,_,Y,_,Y,md _ _ _ _ _ (hP.same (s1.trans s17)) (Rv.same s17) hG m0 (by omega) λq8 b8 l8 R8 ss8 vs8 H8 a1 a2 a3 a4 a5 a6 a7 a8 a9 Uv=>?_⟩;obtain⟨rfl,rfl⟩:=vZ.same (n:=m.toNat) a2 hM (by omega) (by omega) (λz=>a4 (by omega)) (λz=>hno (by omega));exact⟨q8,_,_,_,Y,Y,eK.of a6,Y,_,Y,l8,lk,_,_,Y,Y,bY.of a9,bY.of (a1 _ _ lk7),Qh (Paired.qa Uv λ_ _ h=>h.same Wo.sub) (Paired.qa st7 λ_ _ h=>h.same (aj.trans Wo.sub a1)),_,Y,mj ⟨a1,Y⟩⟩
  rintro σ' H8 ⟨s8,rfl⟩;have ld8:=s8 _ _ ld7;have l8:=(s17.trans s8) _ _ hl1;have sm2:=Ub.sm;refine⟨_,Y,ld,Y,⟨_,bY.of ld8⟩,λla hla=>?_⟩;refine nV R2.length (λj=>V.str (aY 45 (R2.getD j ⟨#[]⟩))) hla (s_ (show R2.length<=100 by omega) (by decide)) (λj H9 s9 hj=>?_) (λH9 s9=>?_) (λj z H9 Ct R' s9 hj hz hRR=>?_) λH9 s9 NJ=>?_
  ·exact⟨_,_,bY.of (s9 _ _ ld8),by rw[n_,e_ hj];rfl⟩
  ·exact⟨_,bY.of (s9 _ _ ld8),by rw[f_];exact j_ _⟩
  ·obtain⟨rfl,hz⟩:=hz;have ez:=hz _ (bY.of (s9 _ _ ld8));rw[n_,e_ hj]at ez;cases ez;rw[bz (e_ hj)]at hRR;exact⟨Kp.vd,_,Y,_,Y,m_ (sm2.2 _ (x_ hj)) (by decide),λH' s'=>hRR _ s'⟩
  rw[eL R2 λc=>V.str (aY 45 c)]at NJ;have l9:=s9 _ _ l8;refine⟨_,Y,l,Y,⟨_,bY.of l9⟩,λlb hlb=>?_⟩;refine nV R.length (λj=>V.str (aY 45 (R.getD j ⟨#[]⟩))) hlb (s_ (show R.length<=100 by omega) (by decide)) (λj Ct CD hj=>?_) (λCt CD=>?_) (λj z Ct UC R' CD hj hz hRR=>?_) λCt CD OZ=>?_
  ·exact⟨_,_,bY.of (CD _ _ l9),by rw[n_,e_ hj];rfl⟩
  ·exact⟨_,bY.of (CD _ _ l9),by rw[f_];exact j_ _⟩
  ·obtain⟨rfl,hz⟩:=hz;have ez:=hz _ (bY.of (CD _ _ l9));rw[n_,e_ hj]at ez;cases ez;rw[bz (e_ hj)]at hRR;exact⟨Kp.vd,_,Y,_,Y,m_ (sm.2 _ (x_ hj)) (by decide),λH' s'=>hRR _ s'⟩
  rw[eL R λc=>V.str (aY 45 c)]at OZ;have eR:=(hM.gd hG).2;have m1':R2.map (λc=>V.str (aY 45 c))=(R.map (aY 45)).map V.str:=by rw[←eR,qaf];rfl
  have m2':R.map (λc=>V.str (aY 45 c))=(R.map (aY 45)).map V.str:=by rw[qaf];rfl
  rw[m1']at NJ;rw[m2']at OZ;have fl:((R.map (aY 45)).map V.str).all rm=true:=v_.mpr λv hv=>by obtain⟨z,_,rfl⟩:=G_.mp hv;rfl
  refine⟨la,lb,_,_,Y,Y,bY.of (CD _ _ NJ),bY.of OZ,Y,fl,fl,?_⟩;rw[yl];exact k Ct (s1.trans (s17.trans (s8.trans (s9.trans CD))))
end
section
variable{P:I_}{w:W_}{K:PySem.W.Frag}{mg:r_->Option i_}{base:qad}
theorem Hw {oY eZ oX nH qf gA lI qg qe:g_}{nu dI nk lu oR fS jM oS oQ:B_}{p:Pm}(T:Txt K mg p w)(kC:Dn K mg "_law_round" tN E8 oY nu)(bH:Dn K mg "_law_next" oB E8 eZ dI)(kO:aI P w K mg base cO 1 eZ dI E8 (Dd K))(kB:Dn K mg "_law_signs" tM l49 oX nk)(Lf:aI P w K mg base cO 2 oX nk l49 (Jt K))(jo:Dn K mg "_law_prices" rR l50 nH lu)(IK:aI P w K mg base cO 7 nH lu l50 (F2 K p.au))(iI:Dn K mg "_law_rows" vg l53 qf oR)(Ex:aI P w K mg base cO 3 qf oR l53 (M6 K))(eF:Dn K mg "_law_same_prices" lU l64 gA fS)(Aq:aI P w K mg base cO 2 gA fS l64 (M5 K p.au))(cU:Dn K mg "_law_refused" qA Sn lI jM)(uB:aI P w K mg base cO 14 lI jM Sn (Qm K p.au))(mY:Dn K mg "_law_fine" vh Sn qg oS)(MX:aI P w K mg base cO 14 qg oS Sn (Ni K p.au))(mW:Dn K mg "_law_with" vf l45 qe oQ)(MW:aI P w K mg base cO 1 qe oQ l45 Qk):aI P w K mg base cO 15 oY nu E8 (Ju K):=by
 refine kC.fn.ok dO (λvs H Q E h=>?_) (λcdv A outer s H vs Q E hr h=>?_)
 ·obtain⟨s,t,ns,k,rfl,_⟩:=h;rfl
 ·obtain⟨s,t,ns,k,rfl,hC,hk,kk⟩:=h;have k0:=hC.k0;refine⟨_,(bJ (Z9X 2 dO.nd (gc kO hr bH (aa (pv 0) (aa (pv 1) ah))))
   (bJ (Z9X 3 dO.nd (aQ fC aq (aQ eV (pv 2) aq)))
   (bJ (Z9X 4 dO.nd (gc Lf hr kB (aa (pv 0) (aa (pv 1) (aa (aQ fC (pv 3) aq) ah)))))
   (bJ (Z9X 5 dO.nd (gc IK hr jo (aa (pv 0) (aa (pv 1) (aa (kW AH (pv 4) pM (m6 (pv 3))) (aa (vo DA (aQ eV (aQ eO (pv 2) aq) aq) aq (bC _)) ah))))))
   (bJ (Z9X 6 dO.nd (gc Ex hr iI (aa (pv 0) (aa (pv 1) (aa (kW AH (pv 4) pM (m6 (pv 3))) (aa (aQ fC aq (aQ eV (aQ eO (pv 2) aq) aq)) (aa (aQ eV (aQ eO (pv 2) aq) aq) ah)))))))
   (bJ (Z9X 7 dO.nd (bu cj (jz (aa aq (aa aq (aa aq (aa aq (aa aq ah)))))) (aQ eV (aQ eO (pv 2) aq) aq) (λ_ _=>rfl)))
   (bJ (cN (bf nS (aQ eV (aQ eO (pv 2) aq) aq) aq (bC _)) (bJ (Z9X 6 dO.nd (gc Ex hr iI (aa (pv 0) (aa (pv 1) (aa (kW AH (pv 4) pM (m6 (pv 3))) (aa (aQ fC aq (aQ eV (aQ eO (pv 2) aq) aq)) (aa (aQ fC aq (aQ eV (aQ eO (pv 2) aq) aq)) ah)))))))
   (ak (Z9X 7 dO.nd (aQ fC aq (aQ eV (aQ eO (pv 2) aq) aq))))) br)
   (bJ (cN (jy (gD (gc Aq hr eF (aa (pv 5) ah)))) (ak (cN (bf (Ho (qaP (rj hr))) (gc uB hr cU (aa (pv 5) (aa (pv 6) (aa (bu cj (jz (aa (pv 7) (aa (BI wg aq) ah))) (aQ eV (aQ eO (pv 2) aq) aq) (λ_ _=>rfl)) ah)))) (gK (aa dQ (aa aq (aa aq ah)))) (bC _)) (ak (aP rH)) br)) (bJ (Z9X 8 dO.nd (aQ wF (BI wg aq) (aQ eV (aQ eO (pv 2) aq) aq)))
   (ak (cN (PW.pt (qW (jy (gD (gc MX hr mY (aa (pv 5) (aa (pv 6) (aa (pv 7) ah)))))) (sQ (bf (Ho (qaP (rj hr))) (gc uB hr cU (aa (pv 5) (aa (pv 6) (aa (pv 8) ah)))) (gK (aa dQ (aa aq (aa aq ah)))) (bC _))))) (ak (aP rH)) br))))
   (bJ (cN (bf nS (aG (aW) rfl T.cV bO (aa (bu cj (pv 6) aq (λ_ _=>rfl)) ah)) aq (bC _)) (ak (aP rH)) br)
   (bJ (Z9X 9 dO.nd (gc kO hr bH (aa (pv 0) (aa (pv 1) ah))))
   (bJ (Z9X 10 dO.nd (aQ eV (pv 9) (aG (aW) rfl T.cV bO (aa (pv 6) ah))))
   (bJ (Z9X 11 dO.nd (aQ eV (aQ eO (pv 9) aq) (aG (aW) rfl T.cV bO (aa (bu cj (pv 6) aq (λ_ _=>rfl)) ah))))
   (bJ (AM (gc MW hr mW (aa (bu cj (pv 6) (pv 10) (λ_ _=>rfl)) (aa (pv 11) (aa (bu wX (pv 4) (pv 3) (λ_ _=>rfl)) ah)))) (Hf (pv 6) (pv 10) set_list))
   (ak (aP (vo (L8 (qaP (rj hr))) (gc uB hr cU (aa (pv 5) (aa (pv 6) (aa (bu cj (jz (aa (pv 7) (aa (BI wg aq) ah))) (aQ eV (aQ eO (pv 9) aq) aq) (λ_ _=>rfl)) ah)))) (gK (aa dQ (aa (pv 10) (aa (pv 11) ah)))) (bC _))))))))))))))))),?_⟩
  let Z:List (Option V)->St:=λl=>some (.ref s)::some (.ref t)::l++y_ (10-l.length) none
  refine⟨λσ' H'=>∃m:Int,0<=m/\aj (Wo t H) (Wo t H')/\H' t=some (.lst [.int (k+1)])/\σ'=Z [some (.int m)],?_,?_⟩
  ·exact⟨_,Y,_,Y,s,t,ns,k,Y,hC,by omega,λm h1 h2=>⟨m,h1,by rw[Wo.set];exact aj.refl _,ai,Y⟩⟩
  rintro σ' H1 ⟨m,hm,w1,ht1,rfl⟩;have C1:Au K H1 s t ns (k+1):=hC.off w1 ht1 (by omega);have m1:=qao m (show(4:Int)≠0 by decide);have m2:=qah m (show(0:Int)<4 by decide);obtain⟨ng,hng⟩:∃ng:Nat,1+m % 4=(ng:Int):=⟨(1+m % 4).toNat,by omega⟩;refine⟨λσ' H'=>H'=H1/\σ'=Z [some (.int m),some (.int (ng:Int))],?_,?_⟩
  ·refine⟨_,Y,_,_,Y,Y,(by show(0:Int)<4;decide),_,_,Y,Y,Y,?_⟩;rw[←hng];rfl
  rintro σ' H1 ⟨rfl,rfl⟩;refine⟨λσ' H'=>∃S:r_,S.cps.size=ng+1/\(∀c∈S.cps.toList,gO c=true)/\S.cps.toList.Nodup/\aj (Wo t H) (Wo t H')/\H' t=some (.lst [.int (k+2)])/\σ'=Z [some (.int m),some (.int (ng:Int)),some (.str S)],?_,?_⟩
  ·refine⟨_,Y,_,Y,_,Y,_,_,Y,Y,s,t,ns,k+1,ng+1,Y,C1,by omega,by omega,λS H2 hS hSs hSn s2=>?_⟩;exact⟨S,hS,hSs,hSn,w1.trans (Wo.step s2),by rw[s2 _ _ ai,show k+1+1=k+2 by omega],Y⟩
  rintro σ' H2 ⟨S,hS,hSs,hSn,w2,EF,rfl⟩;have C2:Au K H2 s t ns (k+2):=hC.off w2 EF (by omega);have hzS:S.length<=z_:=m_ (show S.cps.size<=100 by omega) (by decide);obtain⟨sg,T5⟩:∃sg,Txt.slice S none (some (ng:Int))=sg:=⟨_,rfl⟩;have hsg:sg.cps.toList=S.cps.toList.take ng:=by rw[←T5];exact JC S ng
  have hsz:sg.cps.size=ng:=by rw[←o_,hsg,qai,o_];omega
  have hjn:ng<S.cps.toList.length:=by rw[o_];omega
  have YS:∀c∈sg.cps.toList,gO c=true:=λc hc=>hSs c (by rw[hsg]at hc;exact List.mem_of_mem_take hc);have hSg:GH sg:=⟨by omega,by omega,YS,by rw[hsg];exact List.Nodup.sublist (List.take_sublist _ _) hSn⟩;refine⟨λσ' H'=>GF λx k3 rows fo fm=>Zt rows/\jA K p.au (Wo t H') x sg rows fo fm/\aj (Wo t H) (Wo t H')/\H' t=some (.lst [.int k3])/\Kb k k3 300/\σ'=Z [some (.int m),some (.int (ng:Int)),some (.str S),some (.ref x)],?_,?_⟩
  ·refine⟨_,Y,_,Y,_,Y,_,Y,_,Y,S,Y,hzS,_,Y,_,_,Y,Y,⟨by decide,by decide⟩,_,_,Y,Y,(by show(0:Int)<4;decide),_,_,Y,Y,s,t,ns,k+2,sg,_,(by rw[←T5];rfl),C2,by omega,hSg,by omega,λx H' k' rows fo fm hL hP hxn w3 Rl b1 b2=>?_⟩;exact⟨x,k',rows,fo,fm,hL,hP,w2.trans w3,Rl,⟨by omega,by omega⟩,Y⟩
  rintro σ' H4 ⟨x,k3,rows,fo,fm,hL,hP,w4,EE,⟨B31,B32⟩,rfl⟩;have C4:Au K H4 s t ns k3:=hC.off w4 EE (by omega);obtain⟨n1,hn1⟩:∃n:Nat,1+m / 16 % 4=(n:Int):=⟨(1+m / 16 % 4).toNat,by omega⟩;obtain⟨wd,T3⟩:∃n:Nat,m / 64 % 7=(n:Int):=⟨(m / 64 % 7).toNat,by omega⟩;refine⟨λσ' H'=>rG λ(a:g_) (rs:List r_) (k5:Int)=>uy rs n1 wd/\(∀r∈rs,Of (qL sg) r)/\H4 a=none/\Wo t H' a=some (.lst (rs.map V.str))/\aj (Wo t H4) (Wo t H')/\H' t=some (.lst [.int k5])/\Kb k k5 1300/\σ'=Z [some (.int m),some (.int (ng:Int)),some (.str S),some (.ref x),some (.ref a)],?_,?_⟩
  ·refine⟨_,Y,_,Y,_,Y,_,Y,_,Y,S,Y,hzS,_,Y,_,_,Y,Y,⟨by decide,by decide⟩,_,_,Y,Y,(by show(0:Int)<4;decide),_,_,Y,Y,_,Y,_,_,Y,Y,⟨by decide,by decide⟩,_,_,Y,Y,(by show(0:Int)<7;decide),s,t,ns,k3,sg,n1,wd,?_,C4,by omega,by omega,by omega,by omega,by omega,by omega,YS,λl rs k' H' hR hO hl HR w5 ZH c1 c2=>?_⟩
   ·show [V.ref s,.ref t,.str (Txt.slice S none (some (ng:Int))),.int (1+m / 16 % 4),.int (m / 64 % 7)]=_;rw[hn1,T3,T5]
   ·have E6:l≠t:=λz=>by rw[z,EE]at HR;cases HR
    exact⟨l,rs,k',hR,hO,HR,Wo.in E6 hl,w5,ZH,⟨by omega,by omega⟩,Y⟩
  rintro σ' H5 ⟨a0,rs0,k5,hR0,hO0,agh,O0,w5,ZH,⟨B51,B52⟩,rfl⟩;have z0:=qao (m / 512) (show(5:Int)≠0 by decide);have z1:=qah (m / 512) (show(0:Int)<5 by decide);refine⟨λσ' H'=>∃mo:Int,0<=mo/\mo<=4/\aj H5 H'/\σ'=Z [some (.int m),some (.int (ng:Int)),some (.str S),some (.ref x),some (.ref a0),some (.int mo)],?_,?_⟩
  ·refine⟨by show 5<=z_;decide,λl5 PM=>?_⟩;obtain⟨mo,e1,e2,e3⟩:∃mo:Int,MP [V.int 0,.int 1,.int 2,.int 3,.int 4] (m / 512 % 5)=some (.int mo)/\0<=mo/\mo<=4:=by
    obtain⟨j,hj⟩:∃j:Nat,m / 512 % 5=(j:Int):=⟨(m / 512 % 5).toNat,by omega⟩;rw[hj]
    match j,(show j<5 by omega)with
    | 0,_=>exact⟨0,Y,by decide,by decide⟩
    | 1,_=>exact⟨1,Y,by decide,by decide⟩
    | 2,_=>exact⟨2,Y,by decide,by decide⟩
    | 3,_=>exact⟨3,Y,by decide,by decide⟩
    | 4,_=>exact⟨4,Y,by decide,by decide⟩
   exact⟨_,Y,_,_,Y,Y,⟨by decide,by decide⟩,_,_,Y,Y,(by show(0:Int)<5;decide),l5,_,_,_,Y,Y,bY.of ai,e1,mo,e2,e3,aj.upd PM,Y⟩
  rintro σ' H6 ⟨mo0,o1,o2,s6,rfl⟩;have YR:=s6 _ _ ZH;have w46:=w5.trans (Wo.same s6);have C6:Au K H6 s t ns k5:=hC.off (w4.trans w46) YR (by omega);refine⟨λσ' H'=>PR λ(a:g_) (rs:List r_) (n2 w2:Nat) (mo k7:Int)=>uy rs n2 w2/\0<n2/\n2<=6/\n2*w2<=24/\w2<=6/\0<=mo/\mo<=9/\(∀r∈rs,Of (qL sg) r)/\H4 a=none/\Wo t H' a=some (.lst (rs.map V.str))/\aj (Wo t H4) (Wo t H')/\H' t=some (.lst [.int k7])/\Kb k k7 2400/\σ'=Z [some (.int m),some (.int (ng:Int)),some (.str S),some (.ref x),some (.ref a),some (.int mo)],?_,?_⟩
  ·refine⟨_,Y,_,_,Y,Y,⟨by decide,by decide⟩,_,_,Y,Y,(by show(0:Int)<4;decide),Y,_,Y,DZ (λ_=>?_) λ_=>⟨a0,rs0,n1,wd,mo0,k5,hR0,by omega,by omega,?_,by omega,o1,by omega,hO0,agh,Wo.same s6 _ _ O0,w46,YR,⟨by omega,by omega⟩,Y⟩⟩
   ·obtain⟨n2,hn2⟩:∃n:Nat,3+m / 16 % 4=(n:Int):=⟨(3+m / 16 % 4).toNat,by omega⟩;obtain⟨w2,hw2⟩:∃n:Nat,3+m / 64 % 2=(n:Int):=⟨(3+m / 64 % 2).toNat,by omega⟩;refine⟨λσ' H'=>rG λ(a:g_) (rs:List r_) (k7:Int)=>uy rs n2 w2/\(∀r∈rs,Of (qL sg) r)/\H6 a=none/\Wo t H' a=some (.lst (rs.map V.str))/\aj (Wo t H6) (Wo t H')/\H' t=some (.lst [.int k7])/\Kb k k7 2400/\σ'=Z [some (.int m),some (.int (ng:Int)),some (.str S),some (.ref x),some (.ref a),some (.int mo0)],?_,?_⟩
    ·refine⟨_,Y,_,Y,_,Y,_,Y,_,Y,S,Y,hzS,_,Y,_,_,Y,Y,⟨by decide,by decide⟩,_,_,Y,Y,(by show(0:Int)<4;decide),_,_,Y,Y,_,Y,_,_,Y,Y,⟨by decide,by decide⟩,_,_,Y,Y,(by show(0:Int)<2;decide),_,_,Y,Y,s,t,ns,k5,sg,n2,w2,?_,C6,by omega,by omega,by omega,by omega,by omega,by omega,YS,λl rs k' H' hR hO hl HR w7 ht7 c1 c2=>?_⟩
     ·show [V.ref s,.ref t,.str (Txt.slice S none (some (ng:Int))),.int (3+m / 16 % 4),.int (3+m / 64 % 2)]=_;rw[hn2,hw2,T5]
     ·have E6:l≠t:=λz=>by rw[z,YR]at HR;cases HR
      exact⟨l,rs,k',hR,hO,HR,Wo.in E6 hl,w7,ht7,⟨by omega,by omega⟩,Y⟩
    rintro σ' H7 ⟨a,rs,k7,hR,hO,HR,hl,w7,ht7,B7,rfl⟩;refine⟨_,Y,_,_,Y,Y,⟨by decide,by decide⟩,_,_,Y,Y,(by show(0:Int)<5;decide),_,_,Y,Y,a,rs,n2,w2,_,k7,hR,by omega,by omega,?_,by omega,(by show(0:Int)<=5+m / 512 % 5;omega),(by show 5+m / 512 % 5<=9;omega),hO,Wo.back w46 YR HR,hl,w46.trans w7,ht7,B7,Y⟩;exact m_ (qbb (show n2<=6 by omega) (show w2<=4 by omega)) (by decide)
   ·exact m_ (qbb (show n1<=4 by omega) (show wd<=6 by omega)) (by decide)
  rintro σ' H7 ⟨a,rs,n2,w2,mo,k7,hR,hn0,hn6,hnw,hw6,o3,o4,hO,HR,hl,w7,ht7,⟨B71,B72⟩,rfl⟩;obtain⟨TT,hTT⟩:∃TT:Ax,TT=(sg,rows,fo,fm):=⟨_,rfl⟩;have hrl:=hR.len;have hG:BY TT rs:=by
   rw[hTT];refine⟨hR.block hn0,hO,by omega,Int.le_trans (RC hR.ck) ?_⟩;rw[hrl];omega
  have sm:=hG.sm;have hP7:jA K p.au (Wo t H7) x TT.1 TT.2.1 TT.2.2.1 TT.2.2.2:=by rw[hTT];exact hP.same w7
  have hO':∀r∈rs,Of (qL TT.1) r:=hG.kn;have hsi:Zp TT.1 TT.2.1 (aO TT.2.2.1.2 TT.2.2.2.2 TT.2.1)↔gH TT.2.1:=SR hP7 (by rw[hTT];exact hL);have kS:gH TT.2.1->Sym TT:=λbw=>XY (hsi.mpr bw);have hl7:H7 a=some (.lst (rs.map V.str)):=Wo.sub _ _ hl;have T9:=hP7.same Wo.sub;have pick:∀z:Int,∃i2:Int,MP [V.int mo,.int (-1)] (z % 2)=some (.int i2)/\i2<=1000:=λz=>by
   rcases(show z % 2=0\/z % 2=1 by omega)with e|e
   ·rw[e];exact⟨mo,Y,by omega⟩
   ·rw[e];exact⟨-1,Y,by decide⟩
  refine⟨λσ' H'=>∃v8,aj H7 H'/\σ'=Z [some (.int m),some (.int (ng:Int)),some (.str S),some (.ref x),some (.ref a),some (.int mo),v8],?_,?_⟩
  ·refine⟨_,Y,x,TT.1,TT.2.1,TT.2.2.1,TT.2.2.2,Y,T9,hP7.sig.2.1,λbb H8 s8 Y0=>⟨_,Y,?_⟩⟩
   cases bb with
   |false =>
    have hnb:¬gH TT.2.1:=λz=>by have:=Y0.mpr (hsi.mpr z);cases this
    refine zY ⟨_,Y,_,Y,_,Y,_,Y,c_,λl9 NJ=>?_⟩;have s9:=s8.trans (aj.upd (o:=.lst [V.int mo,.int (-1)]) NJ);obtain⟨i2,e1,e2⟩:=pick (m / 2560);refine⟨_,Y,_,_,Y,Y,⟨by decide,by decide⟩,_,_,Y,Y,(by show(0:Int)<2;decide),l9,_,_,_,Y,Y,bY.of ai,e1,x,a,i2,TT,rs,Y,T9.same s9,s9 _ _ hl7,hG.bk,sm.sm,e2,λ_=>hG,kS,.inl ⟨hO',hnb,λq Ct CD hq=>⟨d_,λt2 EF=>?_⟩⟩⟩;refine⟨q,t2,_,_,Y,Y,eK.of (aj.upd EF _ _ hq),eK.of ai,Y,Y,_,Y,?_⟩;rw[CY];exact mj ⟨_,s9.trans (CD.trans (aj.upd EF)),Y⟩
   |true =>
    have bw:gH TT.2.1:=hsi.mp (Y0.mp rfl);refine kY ?_;refine⟨λσ' H'=>∃be:Int,be<0/\H'=H8/\σ'=Z [some (.int m),some (.int (ng:Int)),some (.str S),some (.ref x),some (.ref a),some (.int mo),some (.int be)],?_,?_⟩
    ·have y0:=qao (m / 2560) (show(3:Int)≠0 by decide);exact⟨_,Y,_,Y,_,_,Y,Y,⟨by decide,by decide⟩,_,_,Y,Y,(by show(0:Int)<3;decide),_,_,Y,Y,_,(by show(-1:Int)-m / 2560 % 3<0;omega),Y,Y⟩
    rintro σ' H8' ⟨be,O2,rfl,rfl⟩;refine⟨_,Y,_,Y,_,Y,x,a,mo,TT,rs,Y,T9.same s8,s8 _ _ hl7,hG,bw,kS bw,o3,by omega,λH9 s9=>⟨_,Y,kY ?_⟩⟩;have s89:=s8.trans s9;refine⟨_,Y,_,Y,_,Y,x,a,be,TT,rs,Y,T9.same s89,s89 _ _ hl7,hG.bk,sm.sm,by omega,λ_=>hG,kS,.inr (.inl ⟨hO',bw,O2,λq Ct CD hq=>⟨d_,λt2 EF=>?_⟩⟩)⟩;refine⟨q,t2,_,_,Y,Y,eK.of (aj.upd EF _ _ hq),eK.of ai,Y,Y,_,Y,?_⟩;rw[CY];exact mj ⟨_,s89.trans (CD.trans (aj.upd EF)),Y⟩
  rintro σ' H8 ⟨v8,s8,rfl⟩;have ht8:=s8 _ _ ht7;have w48:=w7.trans (Wo.same s8);have hl8:=s8 _ _ hl7;obtain⟨q0,E9,ajB⟩:∃q,rs[0]? =some q/\q.cps.size=w2:=by
   have h0:0<rs.length:=by omega
   exact⟨_,e_ h0,hR.ck _ (x_ h0)⟩
  have hqz:q0.length<=z_:=m_ (show q0.cps.size<=100 by omega) (by decide);refine⟨λσ' H'=>0<w2/\H'=H8/\σ'=Z [some (.int m),some (.int (ng:Int)),some (.str S),some (.ref x),some (.ref a),some (.int mo),v8],?_,?_⟩
  ·refine⟨_,Y,a,_,_,.str q0,Y,Y,bY.of hl8,cG (j:=0) (by rw[n_,E9];rfl),_,_,Y,⟨hqz,Y⟩,Y,_,Y,DZ (λe=>?_) λe=>⟨?_,Y,Y⟩⟩
   ·exact kk _ _ (w4.trans w48) ht8 (by omega) (by omega)
   ·have e':¬((q0.cps.size:Nat):Int)=0:=e;omega
  rintro σ' H8 ⟨hw0,rfl,rfl⟩;have C8:Au K H8 s t ns k7:=hC.off (w4.trans w48) ht8 (by omega);refine⟨λσ' H'=>∃nn:Int,0<=nn/\H'=upd H8 t (.lst [.int (k7+1)])/\σ'=Z [some (.int m),some (.int (ng:Int)),some (.str S),some (.ref x),some (.ref a),some (.int mo),v8,some (.int nn)],?_,?_⟩
  ·exact⟨_,Y,_,Y,s,t,ns,k7,Y,C8,by omega,λnn h1 h2=>⟨nn,h1,Y,Y⟩⟩
  rintro σ' H9 ⟨nn,hnn,hH,rfl⟩;have Yw:a≠t:=λe=>by rw[e,EE]at HR;cases HR
  have w49:aj (Wo t H4) (Wo t H9):=by rw[hH,Wo.set];exact w48
  have ht9:H9 t=some (.lst [.int (k7+1)]):=by rw[hH];exact ai
  have NJ:H9 a=some (.lst (rs.map V.str)):=by rw[hH,aH Yw];exact hl8
  clear hH;obtain⟨r,hr',abl⟩:∃r:Nat,nn % (((rs.map V.str).length:Nat):Int)=(r:Int)/\r<rs.length:=by
   rw[f_];have e1:=qao nn (show((rs.length:Nat):Int)≠0 by omega);have e2:=qah nn (show(0:Int)<((rs.length:Nat):Int) by omega);exact⟨_,(qaB e1).symm,by omega⟩
  have hrr:=e_ abl;have hrw:=hR.ck _ (x_ abl);generalize rs[r]=row at hrr hrw;refine⟨λσ' H'=>H'=H9/\σ'=Z [some (.int m),some (.int (ng:Int)),some (.str S),some (.ref x),some (.ref a),some (.int mo),v8,some (.int nn),some (.int (r:Int))],?_,?_⟩
  ·refine⟨_,Y,_,Y,_,_,Y,.inl ⟨_,bY.of NJ,Y⟩,_,_,Y,Y,(by show(0:Int)<(((rs.map V.str).length:Nat):Int);rw[f_];omega),Y,?_⟩;rw[←hr'];rfl
  rintro σ' H9 ⟨rfl,rfl⟩;obtain⟨q,hq,abm⟩:∃q:Nat,nn / 4 % ((q0.cps.size:Nat):Int)=(q:Int)/\q<row.cps.size:=by
   have e3:=qao (nn / 4) (show((q0.cps.size:Nat):Int)≠0 by omega);have e4:=qah (nn / 4) (show(0:Int)<((q0.cps.size:Nat):Int) by omega);exact⟨_,(qaB e3).symm,by omega⟩
  refine⟨λσ' H'=>H'=H9/\σ'=Z [some (.int m),some (.int (ng:Int)),some (.str S),some (.ref x),some (.ref a),some (.int mo),v8,some (.int nn),some (.int (r:Int)),some (.int (q:Int))],?_,?_⟩
  ·refine⟨_,Y,_,_,Y,Y,⟨by decide,by decide⟩,_,Y,a,_,_,.str q0,Y,Y,bY.of NJ,cG (j:=0) (by rw[n_,E9];rfl),_,_,Y,⟨hqz,Y⟩,_,_,Y,Y,(by show(0:Int)<((q0.cps.size:Nat):Int);omega),Y,?_⟩;rw[←hq];rfl
  rintro σ' H9 ⟨rfl,rfl⟩;have hcc:=e_ hjn;have hcs:=hSs _ (x_ hjn);generalize S.cps.toList[ng]=c at hcc hcs;have hck:c∉(qL sg).cps.toList:=λz=>by
   rcases lX.mp z with z|z
   ·exact GV hcs z
   ·rw[hsg]at z;exact Qe hSn hcc (j_ _) z
  refine⟨λσ' H'=>∃o':r_,o'.cps.toList=row.cps.toList.set q c/\H' a=some (.lst ((rs.set r o').map V.str))/\aj (Wo t H4) (Wo t H')/\H' t=some (.lst [.int (k7+1)])/\σ'=Z [some (.int m),some (.int (ng:Int)),some (.str S),some (.ref x),some (.ref a),some (.int mo),v8,some (.int nn),some (.int (r:Int)),some (.int (q:Int))],?_,?_⟩
  ·refine⟨_,Y,_,Y,a,_,_,.str row,Y,Y,bY.of NJ,cG (by rw[n_,hrr];rfl),_,Y,_,Y,_,Y,S,_,c,Y,Y,hzS,cG hcc,row,⟨#[c]⟩,q,Y,abm,by omega,by show 1<=100;decide,λo' ho'=>?_⟩;refine⟨_,Y,_,Y,a,_,_,r,Y,Y,NJ,?_,?_⟩
   ·unfold Rc;rw[if_pos (by omega),if_pos (by rw[f_];omega)];simp
   rw[show(rs.map V.str).set r (V.str o')=(rs.set r o').map V.str by rw[List.map_set]];refine⟨o',ho'.trans (Um _ _ _ (by rw[o_];omega)),ai,?_,by rw[aH Yw.symm];exact ht9,Y⟩;rw[Wo.aH Yw];exact aj.at w49 (Wo.free HR)
  rintro σ' UB ⟨o',ho2,agt,w12,afY,rfl⟩;have hR':=hR.put hrr (by omega) ho2 hcs;have hB:zj (qL TT.1) (rs.set r o') r q:=by rw[hTT];exact zj.mk1 hO hrr abm ho2 hck
  have agx:jA K p.au UB x TT.1 TT.2.1 TT.2.2.1 TT.2.2.2:=by rw[hTT];exact(hP.same w12).same Wo.sub
  obtain⟨i2,e1,e2⟩:=pick (nn / 60);refine⟨_,Y,_,Y,_,Y,_,Y,c_,λl9 NJ=>?_⟩;have sz:=aj.upd (o:=.lst [V.int mo,.int (-1)]) NJ;refine⟨_,Y,_,_,Y,Y,⟨by decide,by decide⟩,_,_,Y,Y,(by show(0:Int)<2;decide),l9,_,_,_,Y,Y,bY.of ai,e1,x,a,i2,TT,rs.set r o',Y,agx.same sz,sz _ _ agt,hR'.block hn0,⟨by rw[hR'.len];omega,λz hz=>by rw[hR'.ck z hz];omega⟩,e2,λz=>absurd z hB.no,kS,.inr (.inr ⟨r,q,hB,λtq Zv s13 htq=>?_⟩)⟩;refine⟨_,Y,_,Y,d_,λt2 EF=>?_⟩;refine⟨tq,t2,_,_,Y,Y,eK.of (aj.upd EF _ _ htq),eK.of ai,Y,Y,?_⟩;rw[CY];have sF:=sz.trans (s13.trans (aj.upd (o:=.tup [.str "sign",.int (r:Int),.int (q:Int)]) EF));exact kk _ _ ((w4.trans w12).trans (Wo.same sF)) (sF _ _ afY) (by omega) (by omega)
end
section
variable{P:I_}{w:W_}{K:PySem.W.Frag}{mg:r_->Option i_}{base:qad}
theorem Yu {Gr oY:g_}{RD nu:B_}{p:Pm}(T:Txt K mg p w)(Si:Dn K mg "law" yb ZD Gr RD)(kC:Dn K mg "_law_round" tN E8 oY nu)(Lg:aI P w K mg base cO 15 oY nu E8 (Ju K)):aI P w K mg base cO 16 Gr RD ZD (M8 K):=by
 refine Si.fn.ok LN (λvs H Q E h=>?_) (λcdv A outer s H vs Q E hr h=>?_)
 ·obtain⟨a,ns,rfl,_⟩:=h;rfl
 ·obtain⟨a,ns,rfl,hS,hlen,kk⟩:=h;refine⟨_,(ao (Z9X 1 LN.nd (jz (aa aq ah)))
   (ao (dP Q_ rfl (iN rfl T.lT (aa (aQ fC aq (aQ eO (aG (aW) rfl T.cV bO (aa (kW SV (pv 0) pM (m6 aq)) ah)) aq)) ah)) (Z9Y 2 LN.nd) (ak (cN (jy (gD (gc Lg hr kC (aa (pv 0) (aa (pv 1) ah))))) (ak (aP rH)) br)))
   (ak (aP rH)))),?_⟩
  refine⟨b_,λt ht=>?_⟩;have c1:Au K (upd H t (.lst [.int 0])) a t ns 0:=by
   refine⟨?_,hlen,ai,by decide⟩;rw[Wo.set];exact aj.seq (λb u e=>Wo.in (b9 e ht) e) hS
  generalize upd H t (.lst [.int 0])=H1 at c1 ⊢;have hcl:=w9 (ns.map V.int) none (some 60);rw[f_]at hcl;refine⟨_,Y,_,Y,a,_,Y,c1.scr,λp1 hp1=>⟨_,_,Y,.inl ⟨_,bY.of ai,Y⟩,_,_,Y,Y,⟨by decide,by decide⟩,_,_,Y,Y,_,Y,?_,?_,?_⟩⟩
  ·omega
  ·omega
  have c2:=c1.same (aj.upd (o:=.lst (vX (ns.map V.int) none (some 60))) hp1);generalize upd H1 p1 (.lst (vX (ns.map V.int) none (some 60)))=H2 at c2 ⊢;obtain⟨n,hn⟩:∃n:Nat,(1+(((vX (ns.map V.int) none (some 60)).length:Nat):Int) / 40).toNat=n:=⟨_,rfl⟩;have hn2:n<=3:=by omega
  rw[hn];refine k9 (lo:=0) (n:=n) (λi σ' H3=>fD λ(v2:Option V) (k:Int)=>σ'=[some (.ref a),some (.ref t),v2]/\Au K H3 a t ns k/\k<=3000*(i:Int)) ⟨_,0,Y,c2,by omega⟩ ?_ ?_
  ·rintro i σ' H3 hi ⟨v2,k,rfl,c3,hk⟩;have k0:=c3.k0;refine⟨_,Y,_,Y,a,t,ns,k,Y,c3,by omega,λk' H4 w4 EE b1 b2=>⟨_,Y,kY ⟨_,k',Y,c3.off w4 EE (by omega),by omega⟩⟩⟩
  ·rintro σ' H3 ⟨v2,k,rfl,c3,hk⟩;exact kk H3
end
def kj(K:PySem.W.Frag)(x y:r_)(s:qaq):Prop:=Uw λf oc od sl kV dc pm an cd ct=>PySem.W.nsIn K M_ x=some (some (.ref f))/\K.lookup f=some ⟨oc,od,.func (PySem.W.fnOf y y (lY s) (jD s) (ay s) .none kV dc pm an cd ct),sl⟩/\PySem.W.codeIn K cd y=true/\PySem.W.keepIn K (.ref f)=true
theorem kj.mk{K:PySem.W.Frag}{x y:r_}{s:qaq}{f:g_}{oc kV dc pm cd ct:i_}{od an:Option g_}{sl:Array (Option i_)}(a:PySem.W.nsIn K M_ x=some (some (.ref f)))(l:K.lookup f=some ⟨oc,od,.func (PySem.W.fnOf y y (lY s) (jD s) (ay s) .none kV dc pm an cd ct),sl⟩)(c:PySem.W.codeIn K cd y=true)(k:PySem.W.keepIn K (.ref f)=true):kj K x y s:=⟨f,oc,od,sl,kV,dc,pm,an,cd,ct,a,l,c,k⟩
theorem RO{K:PySem.W.Frag}{h:qad}{mg:r_->Option i_}{x y:r_}{s:qaq}{ps:List r_}(X:K.In h)(G:h.Ns M_ mg)(d:kj K x y s)(b:∀(kV doc pm:i_) (an:Option g_) (cdv ct:i_) (us:List i_),us.length=ps.length->bindArgs (PySem.W.fnOf y y (lY s) (jD s) (ay s) .none kV doc pm an cdv ct) ⟨us,[]⟩=pure (ps.zip us):=by intro _ _ _ _ _ _ us hl;first|(obtain⟨_,rfl⟩:=GP.Tw hl;exact Y)|(obtain⟨_,_,rfl⟩:=GP.Tv hl;exact Y)|(obtain⟨_,_,_,rfl⟩:=GP.Tu hl;exact Y)|(obtain⟨_,_,_,_,rfl⟩:=GP.Tt hl;exact Y)|(obtain⟨_,_,_,_,_,rfl⟩:=GP.Tr hl;exact Y)|(obtain⟨_,_,_,_,_,_,rfl⟩:=GP.aaG hl;exact Y)):fD λf fd=>Da K mg x y s ps f fd:=by
 obtain⟨f,oc,od,sl,kV,dc,pm,an,cd,ct,a,l,c,k⟩:=d;exact⟨f,_,yU l c k,(yU l c k).binds b,PySem.W.mg_of X G a⟩
theorem bL{K:PySem.W.Frag}{h:qad}{mg:r_->Option i_}{x:r_}{s:qaq}{ps:List r_}(X:K.In h)(G:h.Ns M_ mg)(d:kj K x x s)(b:∀(kV doc pm:i_) (an:Option g_) (cdv ct:i_) (us:List i_),us.length=ps.length->bindArgs (PySem.W.fnOf x x (lY s) (jD s) (ay s) .none kV doc pm an cdv ct) ⟨us,[]⟩=pure (ps.zip us):=by intro _ _ _ _ _ _ us hl;first|(obtain⟨_,rfl⟩:=GP.Tw hl;exact Y)|(obtain⟨_,_,rfl⟩:=GP.Tv hl;exact Y)|(obtain⟨_,_,_,rfl⟩:=GP.Tu hl;exact Y)|(obtain⟨_,_,_,_,rfl⟩:=GP.Tt hl;exact Y)|(obtain⟨_,_,_,_,_,rfl⟩:=GP.Tr hl;exact Y)|(obtain⟨_,_,_,_,_,_,rfl⟩:=GP.aaG hl;exact Y)):fD λf fd=>Dn K mg x s ps f fd:=by
 obtain⟨f,fd,e⟩:=RO X G d b;exact⟨f,fd,e.fn,e.b,e.m⟩
theorem all_mk {l:PySem.W.OpenLaw}{w:W_}{K:PySem.W.Frag}{h:qad}{mg:r_->Option i_}{fa:g_}(X:K.In h)(G:h.Ns M_ mg)(hfa:mg "law" =some (.ref fa))
  {rN:Tok}
  {tD:Tok}
  {oG:g_} {Kd:Option g_} {Mj:Nat} {JD:Array (Option i_)} {Jq Jp Jo:Tok}
  {nR:g_} {RI:Nat} {kT kR kQ:g_} {Jm Jl Jk:Tok}
  {OG:Option g_} {Q3:Nat} {Og:Array (Option i_)} {Lz Ly:Tok}
  {OF:Option g_} {Q2:Nat} {Oe:Array (Option i_)} {Lx Lw:Tok}
  {OD:Option g_} {Q0:Nat} {Od:Array (Option i_)} {Lv Lu:Tok}
  {M1:Tok}
  {au:g_}
  {aJ:g_}
  {az:g_}
  {cH:g_}
  {bK:g_}
  {dX:g_}
  {aL:g_}
  {aZ:g_}
  {aE:g_}
  {fX:g_}
  {fW:g_}
  {kg:g_}
  {iA:g_}
  {kc:g_}
  {j9:g_}
  (u0:PySem.W.nsIn K M_ "FIRST_SIGN" =some (some (.int 32 rN)))
  (u1:PySem.W.nsIn K M_ "LAST_SIGN" =some (some (.int 126 tD)))
  (u2:PySem.W.nsIn K M_ "NO_SIGNS" =some (some (.ref oG)))
  (u3:K.lookup oG=some ⟨.type "tuple",Kd,.seq #[.int 34 Jq,.int 37 Jp,.int 45 Jo] Mj,JD⟩)
  (u4:PySem.W.nsIn K M_ "STEPS" =some (some (.ref nR)))
  (u5:K.lookup nR=some { cls:=.type "dict",data:=.dict #[⟨PySem.PyData.keyHash w.params (w_ "p"),.str (w_ "p") Jm,.ref kT⟩,⟨PySem.PyData.keyHash w.params (w_ "a"),.str (w_ "a") Jl,.ref kR⟩,⟨PySem.PyData.keyHash w.params (w_ "b"),.str (w_ "b") Jk,.ref kQ⟩] RI })
  (u6:(nR==sysModules)=false)
  (u7:K.lookup kT=some ⟨.type "tuple",OG,.seq #[.int 1 Lz,.int 1 Ly] Q3,Og⟩)
  (u8:K.lookup kR=some ⟨.type "tuple",OF,.seq #[.int 1 Lx,.int 0 Lw] Q2,Oe⟩)
  (u9:K.lookup kQ=some ⟨.type "tuple",OD,.seq #[.int 0 Lv,.int 1 Lu] Q0,Od⟩)
  (u10:PySem.W.nsIn K M_ "GAP" =some (some (.str (w_ "-") M1)))
  (u11:PySem.W.nsIn K M_ "Prices" =some (some (.ref au)))
  (u12:PySem.W.plainGet K au qcF=true) (u13:PySem.W.hasDictIn K au=true) (u14:PySem.W.plainOver K au=true) (u15:PySem.W.findIn K (.ref au) "__setattr__" =some (some (.builtin "object.__setattr__"))) (u16:PySem.W.makesIn K au=true) (u17:PySem.W.keepIn K (.ref au)=true)
  (u18:cD K au "signs")
  (u19:cD K au "pairs")
  (u20:cD K au "opening")
  (u21:cD K au "more")
  (u22:cD K au "factors")
  (u23:cD K au "unit")
  (u24:cD K au "costs")
  (u25:cD K au "opening_units")
  (u26:cD K au "more_units")
  (u27:PySem.W.nsIn K M_ "Block" =some (some (.ref aJ)))
  (u28:PySem.W.plainGet K aJ qcF=true) (u29:PySem.W.hasDictIn K aJ=true) (u30:PySem.W.plainOver K aJ=true) (u31:PySem.W.findIn K (.ref aJ) "__setattr__" =some (some (.builtin "object.__setattr__"))) (u32:PySem.W.makesIn K aJ=true) (u33:PySem.W.keepIn K (.ref aJ)=true)
  (u34:cD K aJ "rows")
  (u35:PySem.W.isIn K (.ref aJ) aJ=true)
  (u36:PySem.W.nsIn K M_ "Joining" =some (some (.ref az)))
  (u37:PySem.W.plainGet K az qcF=true) (u38:PySem.W.hasDictIn K az=true) (u39:PySem.W.plainOver K az=true) (u40:PySem.W.findIn K (.ref az) "__setattr__" =some (some (.builtin "object.__setattr__"))) (u41:PySem.W.makesIn K az=true) (u42:PySem.W.keepIn K (.ref az)=true)
  (u43:cD K az "ones")
  (u44:cD K az "others")
  (u45:cD K az "one_gaps")
  (u46:cD K az "other_gaps")
  (u47:cD K az "by_a")
  (u48:cD K az "by_b")
  (u49:cD K az "extras")
  (u50:cD K az "rests")
  (u51:PySem.W.nsIn K M_ "WeaveError" =some (some (.ref cH)))
  (u52:PySem.W.hasDictIn K cH=true) (u53:PySem.W.typeIn K (.ref cH)=some (.type "type")) (u54:PySem.W.mroIn K cH (.type "BaseException")=some true)
  (u55:PySem.W.nsIn K M_ "NoBlock" =some (some (.ref bK)))
  (u56:PySem.W.excIn K bK [.type "ValueError",.type "Exception",.type "BaseException",.type "object"] "ValueError.__new__" =true)
  (u57:PySem.W.nsIn K M_ "NoRow" =some (some (.ref dX)))
  (u58:PySem.W.excIn K dX [.type "ValueError",.type "Exception",.type "BaseException",.type "object"] "ValueError.__new__" =true)
  (u59:PySem.W.nsIn K M_ "NoPrices" =some (some (.ref aL)))
  (u60:PySem.W.excIn K aL [.type "ValueError",.type "Exception",.type "BaseException",.type "object"] "ValueError.__new__" =true)
  (u61:PySem.W.findIn K (.ref aL) "__getattribute__" =some (some (.builtin "BaseException.__getattribute__")))
  (u62:PySem.W.findIn K (.ref aL) "__getattr__" =some none)
  (u63:PySem.W.hasDictIn K aL=true)
  (u64:PySem.W.findIn K (.ref aL) "__class__" =some (some (.builtin "object.__class__")))
  (u65:PySem.W.specialIn K (.builtin "object.__class__") "__get__" =some (some (.builtin "getset_descriptor.__get__")))
  (u66:PySem.W.takesIn K (.builtin "object.__class__")=some true)
  (u67:PySem.W.mroIn K aL (.type "object")=some true)
  (u68:PySem.W.mroIn K aL (.type "BaseException")=some true)
  (u69:PySem.W.nsIn K M_ "NoMost" =some (some (.ref aZ)))
  (u70:PySem.W.excIn K aZ [.type "ValueError",.type "Exception",.type "BaseException",.type "object"] "ValueError.__new__" =true)
  (u71:PySem.W.findIn K (.ref aZ) "__getattribute__" =some (some (.builtin "BaseException.__getattribute__")))
  (u72:PySem.W.findIn K (.ref aZ) "__getattr__" =some none)
  (u73:PySem.W.hasDictIn K aZ=true)
  (u74:PySem.W.findIn K (.ref aZ) "__class__" =some (some (.builtin "object.__class__")))
  (u75:PySem.W.specialIn K (.builtin "object.__class__") "__get__" =some (some (.builtin "getset_descriptor.__get__")))
  (u76:PySem.W.takesIn K (.builtin "object.__class__")=some true)
  (u77:PySem.W.mroIn K aZ (.type "object")=some true)
  (u78:PySem.W.mroIn K aZ (.type "BaseException")=some true)
  (u79:PySem.W.nsIn K M_ "NoSign" =some (some (.ref aE)))
  (u80:PySem.W.findIn K (.ref aE) "__getattribute__" =some (some (.builtin "BaseException.__getattribute__")))
  (u81:PySem.W.findIn K (.ref aE) "__getattr__" =some none)
  (u82:PySem.W.hasDictIn K aE=true)
  (u83:PySem.W.findIn K (.ref aE) "__class__" =some (some (.builtin "object.__class__")))
  (u84:PySem.W.specialIn K (.builtin "object.__class__") "__get__" =some (some (.builtin "getset_descriptor.__get__")))
  (u85:PySem.W.takesIn K (.builtin "object.__class__")=some true)
  (u86:PySem.W.mroIn K aE (.type "object")=some true)
  (u87:PySem.W.mroIn K aE (.type "BaseException")=some true)
  (u88:PySem.W.nsIn K M_ "NoLaying" =some (some (.ref fX)))
  (u89:PySem.W.nsIn K M_ "NoManner" =some (some (.ref fW)))
  (u90:PySem.W.nsIn K M_ "NoNote" =some (some (.ref kg)))
  (u91:PySem.W.nsIn K M_ "NoPlace" =some (some (.ref iA)))
  (u92:PySem.W.nsIn K M_ "NoText" =some (some (.ref kc)))
  (u93:PySem.W.nsIn K M_ "NoTree" =some (some (.ref j9)))
  (u94:PySem.W.hasDictIn K aE=true) (u95:((PySem.W.clsIn K aE).any λcd=>yo cd.mro)=true) (u96:PySem.W.findIn K (.ref aE) "__setattr__" =some (some (.builtin "object.__setattr__"))) (u97:PySem.W.keepIn K (.ref aE)=true)
  (u98:cD K aE "row")
  (u99:cD K aE "place")
  (XX:PySem.W.specialIn K (.ref cH) "__getattribute__" =some (some (.builtin "type.__getattribute__"))) (XW:PySem.W.readsIn K cH (.type "type")=true) (XU:PySem.W.findCls K (.ref cH) (.type "type") "__init__" =some (.val (.builtin "ValueError.__init__")))
  (XT:PySem.W.subIn K (.ref aE) (.ref cH)=some true)
  (XS:PySem.W.subIn K (.ref aL) (.ref cH)=some true)
  (XR:PySem.W.subIn K (.ref aZ) (.ref cH)=some true)
  (u106:PySem.W.kitOne K (.ref aE) (.ref aE)=some true)
  (XQ:PySem.W.kitOne K (.ref aE) (.ref aL)=some false)
  (XO:PySem.W.kitOne K (.ref aE) (.ref aZ)=some false)
  (XN:PySem.W.kitOne K (.ref aL) (.ref aE)=some false)
  (XM:PySem.W.kitOne K (.ref aL) (.ref aL)=some true)
  (XJ:PySem.W.kitOne K (.ref aL) (.ref aZ)=some false)
  (XI:PySem.W.kitOne K (.ref aZ) (.ref aE)=some false)
  (XH:PySem.W.kitOne K (.ref aZ) (.ref aL)=some false)
  (XG:PySem.W.kitOne K (.ref aZ) (.ref aZ)=some true)
  (XF:PySem.W.kitOne K (.ref aE) (.ref bK)=some false)
  (XE:PySem.W.kitOne K (.ref aE) (.ref fX)=some false)
  (XD:PySem.W.kitOne K (.ref aE) (.ref fW)=some false)
  (XC:PySem.W.kitOne K (.ref aE) (.ref kg)=some false)
  (XA:PySem.W.kitOne K (.ref aE) (.ref iA)=some false)
  (Xz:PySem.W.kitOne K (.ref aE) (.ref dX)=some false)
  (Xy:PySem.W.kitOne K (.ref aE) (.ref kc)=some false)
  (Xx:PySem.W.kitOne K (.ref aE) (.ref j9)=some false)
  (Xw:PySem.W.kitOne K (.ref aL) (.ref bK)=some false)
  (Xv:PySem.W.kitOne K (.ref aL) (.ref fX)=some false)
  (Xu:PySem.W.kitOne K (.ref aL) (.ref fW)=some false)
  (Xs:PySem.W.kitOne K (.ref aL) (.ref kg)=some false)
  (Xr:PySem.W.kitOne K (.ref aL) (.ref iA)=some false)
  (Xq:PySem.W.kitOne K (.ref aL) (.ref dX)=some false)
  (Xp:PySem.W.kitOne K (.ref aL) (.ref kc)=some false)
  (Xo:PySem.W.kitOne K (.ref aL) (.ref j9)=some false)
  (Xn:PySem.W.kitOne K (.ref aZ) (.ref bK)=some false)
  (Xm:PySem.W.kitOne K (.ref aZ) (.ref fX)=some false)
  (Xl:PySem.W.kitOne K (.ref aZ) (.ref fW)=some false)
  (Xk:PySem.W.kitOne K (.ref aZ) (.ref kg)=some false)
  (Xj:PySem.W.kitOne K (.ref aZ) (.ref iA)=some false)
  (Xi:PySem.W.kitOne K (.ref aZ) (.ref dX)=some false)
  (Xh:PySem.W.kitOne K (.ref aZ) (.ref kc)=some false)
  (Xg:PySem.W.kitOne K (.ref aZ) (.ref j9)=some false)
  {od0 an0:Option g_} {sl0:Array (Option i_)} {oc0 kV0 dc0 pm0 cd0 ct0:i_} {bS:g_}
  (Z0:PySem.W.findIn K (.ref aE) "__init__" =some (some (.ref bS))) (Xf:PySem.W.isFn K (.ref bS)=true) (Xe:K.lookup bS=some ⟨oc0,od0,.func (PySem.W.fnOf "__init__" "NoSign.__init__" (lY d8) (jD d8) (ay d8) .none kV0 dc0 pm0 an0 cd0 ct0),sl0⟩) (Xd:PySem.W.codeIn K cd0 "NoSign.__init__" =true) (Xc:PySem.W.keepIn K (.ref bS)=true)
  (u144:kj K "greatest_divisor" "greatest_divisor" fP)
  (Xb:kj K "lowest" "lowest" zE)
  (Xa:kj K "is_sign" "is_sign" xH)
  (W9:kj K "are_signs" "are_signs" qU)
  (W8:kj K "check_signs" "check_signs" qF)
  (W7:kj K "check_lengths_prices" "check_lengths" gI)
  (W6:kj K "lowest_price" "lowest_price" mO)
  (W5:kj K "lowest_prices" "lowest_prices" n9)
  (W4:kj K "all_unders" "all_unders" rZ)
  (W3:kj K "unit_factors" "unit_factors" pA)
  (W2:kj K "product_of" "product_of" rP)
  (W0:kj K "by_unit" "by_unit" uN)
  (WZ:kj K "costs_by_signs" "costs_by_signs" m5)
  {afz ag8:Option g_} {afd:Array (Option i_)} {afD afP agX afs abZ ag2:i_} {cF:g_}
  (WY:PySem.W.findIn K (.ref au) "__init__" =some (some (.ref cF))) (WX:PySem.W.isFn K (.ref cF)=true) (WW:K.lookup cF=some ⟨afD,afz,.func (PySem.W.fnOf "__init__" "Prices.__init__" (lY dZ) (jD dZ) (ay dZ) .none afP agX afs ag8 abZ ag2),afd⟩) (WV:PySem.W.codeIn K abZ "Prices.__init__" =true) (WU:PySem.W.keepIn K (.ref cF)=true)
  (WT:kj K "pair_cost" "pair_cost" mK)
  (WS:kj K "more_cost" "more_cost" mL)
  (WR:kj K "in_units" "in_units" sP)
  (WQ:kj K "same_both_ways" "same_both_ways" mZ)
  (WO:kj K "check_known" "check_known" qG)
  (WN:kj K "place_behind" "place_behind" mJ)
  (WM:kj K "things_at" "things_at" tK)
  (WL:kj K "turned" "turned" uL)
  (WK:kj K "columns_of" "columns_of" kH)
  (WJ:kj K "laid_columns" "laid_columns" pF)
  (WI:kj K "is_gaps" "is_gaps" uM)
  (WH:kj K "signs_of" "signs_of" oA)
  (WG:kj K "check_lengths_blocks" "check_lengths" gJ)
  (WE:kj K "are_things" "are_things" rY)
  (WD:kj K "check_things" "check_things" pK)
  (WC:kj K "check_columns" "check_columns" om)
  {afy ag7:Option g_} {afc:Array (Option i_)} {afC afO agW afr abY ag1:i_} {aD:g_}
  (WB:PySem.W.findIn K (.ref aJ) "__init__" =some (some (.ref aD))) (WA:PySem.W.isFn K (.ref aD)=true) (Wz:K.lookup aD=some ⟨afC,afy,.func (PySem.W.fnOf "__init__" "Block.__init__" (lY bR) (jD bR) (ay bR) .none afO agW afr ag7 abY ag1),afc⟩) (Wy:PySem.W.codeIn K abY "Block.__init__" =true) (Wx:PySem.W.keepIn K (.ref aD)=true)
  (Ww:kj K "check_row" "check_row" qT)
  (Wv:kj K "bare" "bare" G5)
  (Wu:kj K "alone" "alone" CC)
  (Wt:kj K "other_rows" "other_rows" pC)
  (Ws:kj K "without" "without" xG)
  (Wr:kj K "check_block_rows" "check_block_rows" fQ)
  (Wq:kj K "thing_cost" "thing_cost" pB)
  (Wn:kj K "column_cost" "column_cost" qD)
  (Wm:kj K "block_units" "block_units" qH)
  (Wl:kj K "cost_by_gaps" "cost_by_gaps" pH)
  (Wk:kj K "costs_by_gaps" "costs_by_gaps" oi)
  (Wj:kj K "sign_extras" "sign_extras" qv)
  (Wi:kj K "extras_beside" "extras_beside" oh)
  (Wh:kj K "all_extras" "all_extras" r9)
  (Wg:kj K "rests_ahead" "rests_ahead" qw)
  (Wf:kj K "join_rests" "join_rests" rV)
  {afx ag6:Option g_} {afb:Array (Option i_)} {afB afN agV afq abX ag0:i_} {bX:g_}
  (We:PySem.W.findIn K (.ref az) "__init__" =some (some (.ref bX))) (Wd:PySem.W.isFn K (.ref bX)=true) (Wc:K.lookup bX=some ⟨afB,afx,.func (PySem.W.fnOf "__init__" "Joining.__init__" (lY dG) (jD dG) (ay dG) .none afN agV afq ag6 abX ag0),afb⟩) (Wb:PySem.W.codeIn K abX "Joining.__init__" =true) (Wa:PySem.W.keepIn K (.ref bX)=true)
  (V9:kj K "least_added" "least_added" qz)
  (V8:kj K "first_move" "first_move" rX)
  (V7:kj K "first_moves" "first_moves" qC)
  (V6:kj K "joined_block" "joined_block" pG)
  (V5:kj K "row_with_others" "row_with_others" i9)
  (V4:kj K "with_row_put_back" "with_row_put_back" gE)
  (V3:kj K "laid_anew" "laid_anew" tQ)
  (V2:kj K "added_by_row" "added_by_row" pL)
  (V1:kj K "first_step" "first_step" rW)
  (V0:kj K "check_mending" "check_mending" oj)
  (VZ:kj K "mended" "mended" wu)
  (VY:kj K "_law_next" "_law_next" oB)
  (VX:kj K "_law_signs" "_law_signs" tM)
  (VW:kj K "_law_price" "_law_price" tO)
  (VV:kj K "_law_prices" "_law_prices" rR)
  (VU:kj K "_law_column" "_law_column" rT)
  (VT:kj K "_law_rows" "_law_rows" vg)
  (VS:kj K "_law_thing" "_law_thing" tL)
  (VR:kj K "_law_cost" "_law_cost" sO)
  (VQ:kj K "_law_whole" "_law_whole" qS)
  (VP:kj K "_law_is_cost" "_law_is_cost" qB)
  (VO:kj K "_law_block_is" "_law_block_is" pD)
  (VN:kj K "_law_bare" "_law_bare" vj)
  (VM:kj K "_law_same_prices" "_law_same_prices" lU)
  (VL:kj K "_law_with" "_law_with" vf)
  (VJ:kj K "_law_refused" "_law_refused" qA)
  (VI:kj K "_law_first" "_law_first" tP)
  (VH:kj K "_law_walked" "_law_walked" rQ)
  (VG:kj K "_law_fine" "_law_fine" vh)
  (VF:kj K "_law_round" "_law_round" tN)
  {afw ab7:Option g_} {afa:Array (Option i_)} {afA aa7 abT aap Za abV:i_} {Gr:g_}
  (SH:PySem.W.nsIn K M_ "law" =some (some (.ref Gr))) (VE:K.lookup Gr=some ⟨afA,afw,.func (PySem.W.fnOf "law" "law" (lY yb) (jD yb) (ay yb) .none aa7 abT aap ab7 Za abV),afa⟩) (VD:PySem.W.codeIn K Za "law" =true) (VC:PySem.W.keepIn K (.ref Gr)=true)
  (SG:MF K aE bS=true)
  (VB:PySem.W.nsIn K M_ "abs" =some none)
  (VA:PySem.W.nsIn K M_ "len" =some none)
  (Vz:PySem.W.nsIn K M_ "ord" =some none)
  (Vy:PySem.W.nsIn K M_ "set" =some none)
  (Vx:PySem.W.nsIn K M_ "tuple" =some none)
  (Vw:PySem.W.nsIn K M_ "zip" =some none)
  (Vv:PySem.W.nsIn K M_ "enumerate" =some none)
  (Vu:PySem.W.nsIn K M_ "range" =some none)
  (Vt:PySem.W.nsIn K M_ "isinstance" =some none)
  (Vs:PySem.W.nsIn K M_ "int" =some none)
  (Vr:PySem.W.nsIn K M_ "bool" =some none)
  (Vq:PySem.W.nsIn K M_ "all" =some none)
  (Vp:PySem.W.nsIn K M_ "any" =some none)
  (Vo:PySem.W.nsIn K M_ "sum" =some none)
  (Vn:PySem.W.nsIn K M_ "list" =some none)
  (Vm:PySem.W.nsIn K M_ "min" =some none)
  (Vl:PySem.W.nsIn K M_ "reversed" =some none)
  : ∃fd:B_,(∀(s:p_) (v:i_),BindsTo s fd ⟨[v],[]⟩ [("_law_script",v)])/\∀base:qad,K.In base->base.Ns M_ mg->aI l.prog w K mg base cO 16 fa fd ZD (M8 K):=by
 have e:=hfa.symm.trans (PySem.W.mg_of X G SH);cases e;obtain⟨p,hp⟩:∃p:Pm,p=(⟨rN,tD,oG,nR,kT,kR,kQ,M1,au,aJ,az,cH,bK,dX,aL,aZ,aE,fX,fW,kg,iA,kc,j9⟩:Pm):=⟨_,rfl⟩;have T:Txt K mg p w:=by subst hp;exact⟨PySem.W.mg_none_of X G VB,PySem.W.mg_none_of X G VA,PySem.W.mg_none_of X G Vz,PySem.W.mg_none_of X G Vy,PySem.W.mg_none_of X G Vx,PySem.W.mg_none_of X G Vw,PySem.W.mg_none_of X G Vv,PySem.W.mg_none_of X G Vu,PySem.W.mg_none_of X G Vt,PySem.W.mg_none_of X G Vs,PySem.W.mg_none_of X G Vr,PySem.W.mg_none_of X G Vq,PySem.W.mg_none_of X G Vp,PySem.W.mg_none_of X G Vo,PySem.W.mg_none_of X G Vn,PySem.W.mg_none_of X G Vm,PySem.W.mg_none_of X G Vl,PySem.W.mg_of X G u0,PySem.W.mg_of X G u1,PySem.W.mg_of X G u2,λH=>.inr ⟨_,_,_,u3,Y,Y,d_,.cons ⟨_,Y⟩ (.cons ⟨_,Y⟩ (.cons ⟨_,Y⟩ (.nil)))⟩,PySem.W.mg_of X G u4,λP=>KDict.mk (P:=P) (w:=w) [((w_ "p"),Jm,.ref kT),((w_ "a"),Jl,.ref kR),((w_ "b"),Jk,.ref kQ)] u5 Y (show([(w_ "p"),(w_ "a"),(w_ "b")]:List r_).Nodup by decide +kernel) (vs:=[.ref kT,.ref kR,.ref kQ]) (.cons Y (.cons Y (.cons Y (.nil)))) u6,λH=>.inr ⟨_,_,_,u7,Y,Y,c_,.cons ⟨_,Y⟩ (.cons ⟨_,Y⟩ (.nil))⟩,λH=>.inr ⟨_,_,_,u8,Y,Y,c_,.cons ⟨_,Y⟩ (.cons ⟨_,Y⟩ (.nil))⟩,λH=>.inr ⟨_,_,_,u9,Y,Y,c_,.cons ⟨_,Y⟩ (.cons ⟨_,Y⟩ (.nil))⟩,PySem.W.mg_of X G u10,PySem.W.mg_of X G u11,⟨u12,u13,u14,u15⟩,u18,u19,u20,u21,u22,u23,u24,u25,u26,PySem.W.mg_of X G u27,⟨u28,u29,u30,u31⟩,u34,u35,PySem.W.mg_of X G u36,⟨u37,u38,u39,u40⟩,u43,u44,u45,u46,u47,u48,u49,u50,PySem.W.mg_of X G u51,⟨u52,u53,u54⟩,PySem.W.mg_of X G u55,Cz u56,PySem.W.mg_of X G u57,Cz u58,PySem.W.mg_of X G u59,Cz u60,⟨u61,u62,u63,u64,u65,u66,u67,u68⟩,PySem.W.mg_of X G u69,Cz u70,⟨u71,u72,u73,u74,u75,u76,u77,u78⟩,PySem.W.mg_of X G u79,⟨u80,u81,u82,u83,u84,u85,u86,u87⟩,PySem.W.mg_of X G u88,PySem.W.mg_of X G u89,PySem.W.mg_of X G u90,PySem.W.mg_of X G u91,PySem.W.mg_of X G u92,PySem.W.mg_of X G u93,⟨u94,u95,u96⟩,⟨_,Ja SG⟩,u98,u99,⟨XX,XW,XU⟩,XT,XS,XR,u106,XQ,XO,XN,XM,XJ,XI,XH,XG,XF,XE,XD,XC,XA,Xz,Xy,Xx,Xw,Xv,Xu,Xs,Xr,Xq,Xp,Xo,Xn,Xm,Xl,Xk,Xj,Xi,Xh,Xg⟩
 have t8:=yU (st:=d8) Xe Xd Xc;have gC:Dm K "__init__" "NoSign.__init__" d8 ZF _ _:=⟨t8,t8.binds (ps:=ZF) λ_ _ _ _ _ _ us hl=>by obtain⟨_,_,_,rfl⟩:=GP.Tu hl;exact Y⟩;obtain⟨bV,bM,bh⟩:=bL (ps:=TM) X G u144;obtain⟨uU,sG,rB⟩:=bL (ps:=l40) X G Xb;obtain⟨sI,qd,o8⟩:=bL (ps:=["sign"]) X G Xa;obtain⟨jh,gR,fu⟩:=bL (ps:=PK) X G W9;obtain⟨lN,jQ,g7⟩:=bL (ps:=["signs"]) X G W8;obtain⟨dR,dw,cK⟩:=RO (ps:=l42) X G W7;obtain⟨fF,eT,b4⟩:=bL (ps:=Rb) X G W6;obtain⟨iX,ia,fK⟩:=bL (ps:=PL) X G W5;obtain⟨nP,lD,jw⟩:=bL (ps:=l41) X G W4;obtain⟨jT,iP,gh⟩:=bL (ps:=["unders"]) X G W3;obtain⟨nF,lg,jl⟩:=bL (ps:=["factors"]) X G W2;obtain⟨nN,kJ,fH⟩:=bL (ps:=YH) X G W0;obtain⟨iy,gy,fk⟩:=bL (ps:=l43) X G WZ;have t7:=yU (st:=dZ) WW WV WU;have gB:Dm K "__init__" "Prices.__init__" dZ ZG _ _:=⟨t7,t7.binds (ps:=ZG) λ_ _ _ _ _ _ us hl=>by obtain⟨_,_,_,_,_,rfl⟩:=GP.Tr hl;exact Y⟩;obtain⟨dJ,cY,bF⟩:=bL (ps:=IZ) X G WT;obtain⟨dM,cZ,bQ⟩:=bL (ps:=Lk) X G WS;obtain⟨kL,jd,fU⟩:=bL (ps:=YG) X G WR;obtain⟨iw,gx,fj⟩:=bL (ps:=Lk) X G WQ;obtain⟨lO,jR,g8⟩:=bL (ps:=l46) X G WO;obtain⟨fE,eS,cS⟩:=bL (ps:=YF) X G WN;obtain⟨oV,m8,ko⟩:=bL (ps:=l44) X G WM;obtain⟨kZ,iQ,fO⟩:=bL (ps:=TL) X G WL;obtain⟨c5,cM,bA⟩:=bL (ps:=BN) X G WK;obtain⟨jV,iS,gj⟩:=bL (ps:=l62) X G WJ;obtain⟨nK,kI,iz⟩:=bL (ps:=OS) X G WI;obtain⟨eY,dH,bP⟩:=bL (ps:=Ra) X G WH;obtain⟨dS,dB,cL⟩:=RO (ps:=BN) X G WG;obtain⟨nO,lC,jv⟩:=bL (ps:=PL) X G WE;obtain⟨jY,iV,gp⟩:=bL (ps:=BN) X G WD;obtain⟨i6,iu,fN⟩:=bL (ps:=BN) X G WC;have uW:=yU (st:=bR) Wz Wy Wx;have aU:Dm K "__init__" "Block.__init__" bR IY _ _:=⟨uW,uW.binds (ps:=IY) λ_ _ _ _ _ _ us hl=>by obtain⟨_,_,rfl⟩:=GP.Tv hl;exact Y⟩;obtain⟨jg,gQ,fq⟩:=bL (ps:=CH) X G Ww;obtain⟨Bm,xO,xE⟩:=bL (ps:=CH) X G Wv;obtain⟨xQ,uS,t9⟩:=bL (ps:=PK) X G Wu;obtain⟨gT,fZ,dW⟩:=bL (ps:=CH) X G Wt;obtain⟨sH,qc,o7⟩:=bL (ps:=CH) X G Ws;obtain⟨bW,bN,bq⟩:=bL (ps:=TF) X G Wr;obtain⟨gS,fY,dU⟩:=bL (ps:=IZ) X G Wq;obtain⟨lM,jP,g6⟩:=bL (ps:=l48) X G Wn;obtain⟨lP,jS,g9⟩:=bL (ps:=So) X G Wm;obtain⟨jX,iU,gm⟩:=bL (ps:=l54) X G Wl;obtain⟨iZ,ig,c8⟩:=bL (ps:=l55) X G Wk;obtain⟨lF,jJ,gU⟩:=bL (ps:=l56) X G Wj;obtain⟨iY,ic,fL⟩:=bL (ps:=l57) X G Wi;obtain⟨nQ,lE,jx⟩:=bL (ps:=l58) X G Wh;obtain⟨lG,jK,gW⟩:=bL (ps:=l59) X G Wg;obtain⟨nJ,lz,jr⟩:=bL (ps:=l60) X G Wf;have sY:=yU (st:=dG) Wc Wb Wa;have fV:Dm K "__init__" "Joining.__init__" dG ZE _ _:=⟨sY,sY.binds (ps:=ZE) λ_ _ _ _ _ _ us hl=>by obtain⟨_,_,_,_,rfl⟩:=GP.Tt hl;exact Y⟩;obtain⟨lH,jL,gX⟩:=bL (ps:=Mv) X G V9;obtain⟨nM,lB,ju⟩:=bL (ps:=l61) X G V8;obtain⟨lK,jO,gZ⟩:=bL (ps:=Mv) X G V7;obtain⟨jW,iT,gk⟩:=bL (ps:=Mv) X G V6;obtain⟨dm,cX,bU⟩:=bL (ps:=Ks) X G V5;obtain⟨cP,cI,bI⟩:=bL (ps:=YD) X G V4;obtain⟨o6,nE,kD⟩:=bL (ps:=Ks) X G V3;obtain⟨jZ,iW,gq⟩:=bL (ps:=Ks) X G V2;obtain⟨nL,lA,jt⟩:=bL (ps:=So) X G V1;obtain⟨i0,ir,fM⟩:=bL (ps:=PD) X G V0;obtain⟨pQ,nh,fG⟩:=bL (ps:=PD) X G VZ;obtain⟨eZ,dI,bH⟩:=bL (ps:=E8) X G VY;obtain⟨oX,nk,kB⟩:=bL (ps:=l49) X G VX;obtain⟨oZ,ny,eG⟩:=bL (ps:=E8) X G VW;obtain⟨nH,lu,jo⟩:=bL (ps:=l50) X G VV;obtain⟨nI,ly,jq⟩:=bL (ps:=l52) X G VU;obtain⟨qf,oR,iI⟩:=bL (ps:=l53) X G VT;obtain⟨oW,nj,ku⟩:=bL (ps:=l47) X G VS;obtain⟨kK,jc,dY⟩:=bL (ps:=PF) X G VR;obtain⟨jf,gP,dg⟩:=bL (ps:=YE) X G VQ;obtain⟨lJ,jN,gY⟩:=bL (ps:=l51) X G VP;obtain⟨jU,iR,cJ⟩:=bL (ps:=l63) X G VO;obtain⟨qh,oU,iJ⟩:=bL (ps:=Tz) X G VN;obtain⟨gA,fS,eF⟩:=bL (ps:=l64) X G VM;obtain⟨qe,oQ,mW⟩:=bL (ps:=l45) X G VL;obtain⟨lI,jM,cU⟩:=bL (ps:=Sn) X G VJ;obtain⟨o5,nD,gi⟩:=bL (ps:=PF) X G VI;obtain⟨nG,lq,jm⟩:=bL (ps:=l65) X G VH;obtain⟨qg,oS,mY⟩:=bL (ps:=Sn) X G VG;obtain⟨oY,nu,kC⟩:=bL (ps:=E8) X G VF;have Vh:=yU (st:=yb) VE VD VC;have Si:Dn K mg "law" yb ZD _ _:=⟨Vh,Vh.binds (ps:=ZD) λ_ _ _ _ _ _ us hl=>by obtain⟨_,rfl⟩:=GP.Tw hl;exact Y,PySem.W.mg_of X G SH⟩;have Eu:XMk K p.aE bS:=by subst hp;exact⟨Ja SG,Xf,u97⟩
 have Et:Mk K p.au cF:=by subst hp;exact⟨u16,WY,WX,u17⟩
 have f6:Mk K p.aJ aD:=by subst hp;exact⟨u32,WB,WA,u33⟩
 have Bx:Mk K p.az bX:=by subst hp;exact⟨u41,We,Wd,u42⟩
 refine⟨PySem.W.fnOf "law" "law" (lY yb) (jD yb) (ay yb) .none aa7 abT aap ab7 Za abV,λs v=>.of_eq Y,λbase _ _=>?_⟩;have oH:=xX (P:=l.prog) (w:=w) (base:=base) T bh;have Sd:=OB T rB bh oH;have xr:=B8 T b4 rB Sd;have Cn:=AO T fK b4 xr;have ID:=E4 (P:=l.prog) (w:=w) (base:=base) T jw;have Ej:=B5 T gh bh oH;have Ir:=ER (P:=l.prog) (w:=w) (base:=base) T jl;have GJ:=Me (P:=l.prog) (w:=w) (base:=base) T fH;have Pr:=Mb (P:=l.prog) (w:=w) (base:=base) T o8;have BX:=HB T fu o8 Pr;have Fv:=DK T g7 fu BX;have vG:=uP (P:=l.prog) (w:=w) (base:=base) T cK;have Bw:=zK T fk fH GJ;have tW:=Hr (P:=l.prog) (w:=w) (base:=base) T bF;have tX:=Hs (P:=l.prog) (w:=w) (base:=base) T bQ;have Eo:=Kc T fU bh oH;have Ak:=yG T gB g7 Fv cK vG fK Cn b4 xr jw ID gh Ej jl Ir fk Bw fH GJ;have vF:=JY (P:=l.prog) (w:=w) (base:=base) T bH;have K4:=Hq (P:=l.prog) (w:=w) (base:=base) T ko;have Ek:=Oz T fO ko K4;have sy:=E2 T bA fO Ek;have GI:=Mc (P:=l.prog) (w:=w) (base:=base) T iz;have vE:=JV (P:=l.prog) (w:=w) (base:=base) T bP;have IC:=E3 T jv bP vE fu BX;have vH:=uQ (P:=l.prog) (w:=w) (base:=base) T cL;have Er:=Cf T gp jv IC;have Cs:=AU T fN bA sy iz GI;have xq:=B6 (P:=l.prog) (w:=w) (base:=base) T cS;have Al:=yH (P:=l.prog) (w:=w) (base:=base) T gC;have fT:=zM T aU cL vH gp Er fN Cs;have MS:=JW (P:=l.prog) (w:=w) (base:=base) T mW;have Fw:=DL T g8 gC Eu Al;have oJ:=xY T bq g8 Fw;have Ag:=EO T dU bQ tX bF tW;have K6:=Hu T ku bQ tX bF tW;have Ft:=DJ T g6 dU Ag;have Fx:=DM T g9 g6 Ft bA sy;have K7:=Hv T kB bH vF;have K9:=Hx T eG bH vF;have Iv:=EU T jo eG K9 gB Et Ak;have BV:=Ht (P:=l.prog) (w:=w) (base:=base) T dg;have Fp:=DH T gY dg BV fU Eo;have Iw:=EW T jq bH vF;have MT:=JX T iI jq Iw;have Ep:=Cd T gm bP vE bQ tX;have Cq:=AR T c8 gm Ep;have Fi:=DC T gU bF tW bQ tX;have Co:=AQ T fL gU Fi;have IE:=E5 T jx fL Co;have Fj:=DE (P:=l.prog) (w:=w) (base:=base) T gW;have Iz:=EX T jr gW Fj;have zb:=xZ T fV bq oJ bA sy c8 Cq bP vE jx IE jr Iz;have IB:=EZ (P:=l.prog) (w:=w) (base:=base) T ju;have Fq:=DI T gZ ju IB cS xq;have Em:=Ca T gj cS xq;have En:=Cb T gk gZ Fq gj Em fO Ek aU f6 (aI.nv fT);have BW:=HA (P:=l.prog) (w:=w) (base:=base) T fq;have Zq:=Te T xE fq BW bP vE;have Uy:=QZ T t9 aU f6 fT;have Ah:=ES (P:=l.prog) (w:=w) (base:=base) T dW;have Pq:=Ma T o7 fq BW dW Ah bA sy iz GI fO Ek aU f6 fT;have El:=B9 (P:=l.prog) (w:=w) (base:=base) T cJ;have tV:=yE T bU xE Zq t9 (aI.nv Uy) o7 Pq fV Bx (aI.nv zb);have rM:=wG T bI gk En aU f6 (aI.nv fT);have Lb:=Hz T kD bq oJ bU tV bI rM;have MV:=Ka (P:=l.prog) (w:=w) (base:=base) T iJ;have Bv:=zJ (P:=l.prog) (w:=w) (base:=base) T fj;have Aj:=EV T dY ku K6;have Fl:=DF (P:=l.prog) (w:=w) (base:=base) T gX;have Es:=Cg T gq dW Ah dU Ag;have Cr:=AS T fM bq oJ fj Bv;have IA:=EY T jt bU (aI.nv tV) gq Es gX Fl bI rM;have K5:=OA T fG fM Cr g9 Fx jt IA fU Eo;have Ai:=yF T eF bF tW;have La:=Hy T gi kD (aI.nv Lb) aU f6 (aI.nv fT) dY Aj;have Fo:=DG T cU fG K5 aU f6 fT;have Iu:=ET T jm gi La dg BV gY Fp dY Aj;have MU:=JZ T mY fG (aI.nv K5) aU f6 (aI.nv fT) jm Iu cJ El iJ MV;have K8:=Hw T kC bH vF kB K7 jo Iv iI MT eF Ai cU Fo mY MU mW MS;have ace:=Yu T Si kC K8;exact ace
theorem walk{l:PySem.W.OpenLaw}{q:I_}{loose:List r_}{XP:(r_->Option i_)->qad->Prop}{as:List g_}{N t:Nat}{d:DefRec}{K:Params->PySem.W.Frag}(hn:l.most=some 63)(hdf:d.params.defaults=[])
  (hk:∀P,as=(K P).map (·.1)) (ht:∀P,GK (K P) t=true)
  (F:∀(w:W_) (mg:r_->Option i_) (fa:g_) (h:qad),(K w.params).In h->h.Ns M_ mg->mg d.name=some (.ref fa) →
   ∃fd:B_,(∀(s:p_) (u:i_),BindsTo s fd ⟨[u],[]⟩ [("_law_script",u)])/\∀base:qad,(K w.params).In base->base.Ns M_ mg->aI l.prog w (K w.params) mg base cO 16 fa fd ZD (M8 (K w.params))) :
  PySem.W.WalkX q loose XP (PySem.W.X.obsZ as) (PySem.W.X.valZ K N t) l.row.toRowW d [] (λf vs=>PySem.call f vs) :=
 L2.PX (n:=63) (k:=16) (x:= "_law_script") (CX:=λ_=>cO) (sp:=λw=>M8 (K w.params)) hn (by decide) hdf ⟨rfl,by decide,by decide⟩ hk ht F (λ_ _ a ns hl _ hS=>⟨a,ns,rfl,hS,hl,λ_=>rfl⟩) λ_ _ _ _ _ z=>z
end G51
structure PySem.W.Fast where
(tw11076380344057664676 tw13425746346902146496 tw5812344137636792166 tw12582536604536234574 tw18059351594537031573 tw1144003342617794528 tw207451974004252959 tw16183811773506008777 tw12205621742373836437 tw8913067733337806143 tw10564664336971578499 tw13124904742002132222 tw8269594995130461377 tw3066713031664248090 tw2826755659677283985 tw13995340933114443509 tw926327417894906325 tw15807628664578810698 tw7192583832178029195 tw7495078192481729418 tw6059538497125360530 tw7748151566464700881 tw6461935978743840384 tw7502555056597691782 tw634787280198519114 tw6144887462218681079 tw316413580606493837 tw6508825777932158171 tw8680423821768793555 tw14438106876783924710 tw14990659703745511436 tw4917107244834494509 tw627213677731537124 tw2984574687954693474 tw11079781001483715426 tw12593133983103314879 tw6953914499874957870 tw4971929071049552261 tw1828485689871906207 tw4614953741702876312 tw5609044449104089878 tw17968952352303811823 tw7823397684869743183 tw1593545753033505319 tw84251499692121600 tw14951854345679776385 tw16447822164597126532 tw16531417304753393360 tw448509117787572491 tw5141843110736951154 tw6634152735058292501 tw1339128943767907457 tw11243498934024719278 tw7587524108937800536 tw11774795101670574090 tw10434017173209842365 tw6058345452399440327 tw15081523984714544114 tw1706565331375201993 tw6365790000880019061 tw356391622364437479 tw1840416818691551437 tw18443116223917930357 tw3820525268633595389 tw12036691664788594359 tw14570060334994035090 tw17563140403544483572 tw1414869000214811171 tw10991801182486692956 tw17335627373173045563 tw15080247204224468677 tw1032656322160629198 tw2228346474340489735 tw4990099724789860108 tw1370107757924985098 tw4968849155568406663 tw16863752393293450916 tw10383485449014973315 tw16879862009483352363 tw8419166700001897254 tw7973116726404203404 tw8248148623833251247 tw3319383605147156072 tw4951921546035526213 tw1914811523848618395 tw7394655223098066526 tw1003132684552009722 tw13794772393837636500 tw6321127374655290558 tw5815017236580677734 tw13382717347064843159 tw13030035135897853506 tw13904191566492300185 tw10723960342305345856 tw18105711946289319892 tw13024878244513329603 tw15426884434645717026 tw14121638917361457955 tw3818901899953756677 tw11270796881066809536 tw18025675925956783224 tw9269391449354094238 tw2485222174974105120 tw12130492344948652163 tw3379072834029881230 tw15071616336710915978 tw752738184315314839 tw15502172652220905158 tw6638564267225344616 tw1869163903097420140 tw7355023177469788361 tw6516585776730691733 tw12968710788871649422 tw12470108572648392677 tw12420166935514818887 tw9833198651881686449 tw10062507870918258335 tw6141756279745217356 tw1206461336017544391 tw14305548096678324910 tw16474035456188871960 tw15609796239460714193 tw9733687319369224098 tw10209152908922125330 tw14846701411833842671 tw17764422716665745881 tw12674950785149177212 tw15455886146457240468 tw11514605229826291881 tw5252456218992172289 tw73745009305158050 tw3528497475059472933 tw15925714720094182385 tw13146784399373393673 tw3511431726070974248 tw10933182854312725565 tw3138871244181859352 tw13541996853078616926 tw5231543845860032890 tw16028681067860198991 tw15215029546718467914 tw11682470144992775646 tw15792102069355535914 tw4464072003713531046 tw12994737814325118740 tw1311621483948379334 tw12837119083977409561 tw2919403093273233192 tw16362155417475597393 tw6445924365769251909 tw12461609826753412345 tw17542712157225718787 tw8004135272125445659 tw539371390898004503 tw1721532381194447682 tw12914388359959225636 tw11945865910046388738 tw7192097065067833769 tw6263907836461558927 tw600106909037060932 tw18091270552614008719 tw15803819246914549515 tw12028528466974847219 tw15837013999163991591 tw10227772787730938309 tw5920921667963860428 tw2954390729828879520 tw10460087069093701096 tw5509467470974768223 tw8555525074823139712 tw3836340355517929309 tw14008479301852848876 tw5373869622342745990 tw17814381953837945913 tw12756687533536816835 tw238111616461525943 tw8062089649811398236 tw7703305821468823660 tw2741120531851043536 tw14736176916148681316 tw1151299186994045440 tw9072142052160479606 tw17100381312687655744 tw10579059273908839459 tw8859605248769947220 tw17839364613681421921 tw5294631455645648207 tw16252709118355456529 tw390123422240297297 tw6789603332286710047 tw18147967783843443741 tw684672361260311622 tw10191506803515665634 tw343202088416222991 tw16211298023426564795 tw12614829339395470811 tw18094302596549237872 tw2735292710089571928 tw13538451475554287014 tw3766568324569530706 tw10027798124925894206 tw4013526301892612469 tw13732168263057345201 tw2523761951404371140 tw4496746444700320506 tw7480993084180982443 tw15085843357806894587 tw14491746440721299721 tw3572016692495438476 tw7847204562115150194 tw3019910787446150094 tw17131966690625568599 tw1525904214366227635 tw15927349536391063728 tw2500718752942528033 tw8327335709874839484 tw16283264944653984420 tw5253715667512588362 tw1361846489773435317 tw15292877771824670207 tw3461964501870249996 tw10055656522366503958 tw11096899930156201774 tw7148072470305388005 tw10308736178867692880 tw8592256970608804707 tw12336628617866502258 tw12004404475690396724 tw10002498571799027925 tw6335417336568451095 tw103117959669438452 tw3523268891454014426 tw197195185816490067 tw1084846806722167485 tw11460542286584133835 tw781186939383458565 tw14034990466874800567 tw4290857171137430919 tw1547833114715983595 tw18232288868917577053 tw8684589748914210091 tw1565667383917384087 tw5394670234855923810 tw907163003801328239 tw8375315562748721570 tw8994871115044278544 tw401406774198933364 tw6486416898699221535 tw18313957907947715980 tw2196006464126626841 tw7871244866243638376 tw16860379660050055202 tw18077110863577720647 tw6484624012632280410 tw13845106993444746811 tw16639367312851476406 tw3955263864800698421 tw5906636761483438494 tw14748764325483524248 tw794183896643476224 tw8412101455125372173 tw18082442055742400978 tw12068381554944984729 tw3794330705429399849 tw9969878286056612799 tw7020350317254919600 tw16542592511336206191 tw14429779932384968745 tw9582388133925811277 tw17568198001077929231 tw15578789792488053249 tw6530761168579988613 tw6314133087890320137 tw2759094757727844187 tw13836920818542443280 tw8078321064196841182 tw10399440552853417810 tw5204599883667673284 tw4553465081088947591 tw1326552080324721467 tw6977481516266948192 tw16372080871606666017 tw7682062949575760388 tw11582220690709286031 tw3447298039553016912 tw13369071123518832499 tw7803026402813862254 tw927899130145529740 tw1988609530457228070 tw6466226528762389111 tw16309466856179619387 tw8037927848128417486 tw12265375587447903762 tw13864200528354385508 tw5710399547925971593 tw14564489639948455511 tw2157358818507992667 tw14868236261740214753 tw1956355088152482179 tw6178717778700515062 tw9516400584879718597 tw17870351850348450156 tw5763543272312102343 tw8220239532789323130 tw9764393138714110185 tw11033084999913969665 tw15712827285313132195 tw14735634442990517187 tw1918937614922224963 tw862245551029874992 tw10516024734410975955 tw14449851933996767225 tw15020631902565387092 tw16873155571742081051 tw15366526553271829640 tw9818259172876990822 tw14329854862018223487 tw8614957543738317361 tw15775388277740130776 tw11869299884695228345 tw8445540011052227316 tw1328943611051654434 tw2213499647226555755 tw7705710451285947770 tw4100602046198349089 tw18357571763700752789 tw9544340412623795475 tw12041857652900124863 tw4267002208072921149 tw2636412049941857933 tw14929597318978940490 tw16786152952133223626 tw6457084736176384630 tw7773932087653531325 tw3662385022953326008 tw12462089051939151229 tw3238723443217034903 tw10258163913362742124 tw9636665259826670231 tw18303024116130841623 tw11781518332059213102 tw16052153038163520639 tw13622778489255287960 tw37671401090001711 tw4530518760010157584 tw18034517767717302488 tw17987120940857801913 tw9664403919395898287 tw18065577721156449487 tw17944236100800740517 tw13893410994682021756 tw5578703314622206528 tw7304153727543632163 tw3937505724324140956 tw7239337798275748070 tw2565613234140525129 tw17970712219866616624 tw1220464135302409380 tw8954901893115757597 tw6000142138224829699 tw4407234282104151725 tw12293322077906800569 tw7963400675247719983 tw3037934368001467396 tw4135747524072193992 tw8774279639137033096 tw17446929484690246920 tw12565627873434259724 tw8004266529953748321 tw5677835837133623257 tw8368207870961485141 tw15056823946079125449 tw16525524498351199952 tw2406498774772241610 tw17349151535266234575 tw1302189861482094729 tw13015289576533739037 tw5193663667975760214 tw2392834080704065852 tw15914097857061872399 tw194553171414870363 tw8505319702436411261 tw1903788909501922156 tw11049546372652699961 tw3579275398544356529 tw16490785887605230949 tw11579780331736553707 tw14663044970722911430 tw12515259681645802659 tw4917441102294258127 tw12983741981783847413 tw12363595619325475630 tw6526799566551135969 tw11901887846396104678 tw12121468960518692542 tw2664319982752016057 tw11647290623835461248 tw17466269880827405494 tw8237356404337786797 tw8772101541792022460 tw16630998202214309531 tw11573664984415925442 tw3176681528524141001 tw16399426851125466019 tw4920418309793634468 tw10803766827417418187 tw8612117148236884285 tw15365630713754884075 tw12513248430481198479 tw13950441854309261558 tw15117739380769496447 tw16695584510406837443 tw12924064949398758111 tw241077395187775160 tw8673923670896818359 tw12572953155469239084 tw6102982804274780685 tw17446323823911132489 tw4522084025736315053 tw4247919669991278915 tw551096327183878335 tw13040527205187112123 tw14868588982296122004 tw1319851728470837163 tw13133571811908428450 tw18138315653917994291 tw16081631448271708035 tw12176514798735898005 tw2637664824002700089 tw17732847276771674982 tw4154121697267034677 tw16882606413636477159 tw17659111554905818558 tw18180029407989357963 tw16687319785342895907 tw3488692881071693327 tw15716749246201828514 tw17664915593244421296 tw17476965019175918594 tw995842545854547432 tw5960088785664209837 tw17293220974274843502 tw16000730899869384099 tw2821874378537871014 tw8121597965748138724 tw2334262262430839345 tw2530499080664781355 tw7337220518211058879 tw9059920651729822913 tw7486649503940589935 tw2721427183611097453 tw9810069739215042641 tw11409796331277638087 tw11634076308304375396 tw413734180371542864 tw15572421325204677578 tw8189802841800917002 tw13799845278848863561 tw16266482026326841924 tw439512186005131400 tw13443222349896067609 tw12423132907113216803 tw16094183236236396572 tw4698881923257675115 tw16917907868977283707 tw6687468122018199004 tw1051710333561797053 tw10770961682634379499 tw12018748397748631856 tw10637729496817167066 tw2012342348815872708 tw8572080581915838503 tw8033298207896882377 tw16144280933726013811 tw14924268715602461191 tw17429603900798460919 tw1898942192657469969 tw448932443907202129 tw15220332994364506818 tw12726771132907898244 tw6190644897554074196 tw6242909885892095738 tw1632658566081213595 tw7937068239953997099 tw4735728892319100093 tw2291862799785372768 tw4519999337859750189 tw4236712644487236255 tw2570830512112029965 tw17900337287851777647 tw17252448993797046465 tw575702643202106466 tw14088526511176276189 tw14985633127668405098 tw13157579917993857624 tw1523874054829632737 tw5775466820654033922 tw16253627784863890203 tw9058886578925062565 tw2878283044103531453 tw6357551695937547599 tw1671613055932480778 tw4682375431648867199 tw9923366912398595967 tw4968812298359907341 tw13968318385314676009 tw293422245710520701 tw12644306968348053207 tw7387175722296748318 tw12306827841647676383 tw8792024088182132439 tw16321138934341401283 tw1216179306235846142 tw13610855341953518660 tw13315199489447828567 tw17486623453601220026 tw10268017395582264325 tw14429111444786095954 tw14950946893147058390 tw3864354872281788046 tw11956954175732414958 tw15659124192559466377 tw9085232785033364659 tw15093634415899649981 tw16721886092304416054 tw4566046506242946502 tw15626579711112857788 tw1301101509265762674 tw11154546351854922335 tw1016217072074263389 tw15135533917435469454 tw17117322202581432591 tw15621154325466112630 tw13529555329999293334 tw10239275180844368456 tw10487153056449680651 tw2846810068808620551 tw5243446549266199332 tw9251298155465129885 tw13118406516333917040 tw3202218597909461080 tw12589982882787797949 tw4199440253613588329 tw9607504473326867550 tw11958203292327321695 tw11492894213500281964 tw1772099324484435942 tw6042565677883207477 tw9983501195901667467 tw15551967961687186092 tw2614613106944403376 tw16841777444621114488 tw13338712131859536316 tw16136999557208556240 tw8792680658332245090 tw17807739114270733283 tw14357165904663862234 tw9820694700294535840 tw8154269971776631340 tw7389368519398337087 tw12299773279277521165 tw16377451156052700537 tw4492982039908860666 tw2846460604323426392 tw5707401978967724175 tw9254393639721813211 tw3174598479980262305 tw4983107042078014477 tw1152524247507701975 tw5316319490375059419 tw1729633478582703541 tw8968437765170543218 tw15779832519597802954 tw16863252540407972724 tw11399731446039997451 tw11111203726349586909 tw10424888408416613201 tw5224452965742199241 tw15950750820624303023 tw11057311808499889226 tw4541336163776128485 tw9479867062029598365 tw5754674577663390617 tw8852060827303594669 tw6728430385075011295 tw3955627586241901097 tw3874606090148952726 tw9817022565631716799 tw7410136819114833169 tw998645871210883071 tw17713391617372586217 tw11479650624559010158 tw5181124397273873401 tw13631581824097374686 tw16711198374246502797 tw12814618653278272242 tw16478254433563065544 tw2633113322810812253 tw17855528069511602161 tw552922401314511430 tw14221189725689396587 tw3078925934747182422 tw17238611251649119699 tw16136170129527885145 tw12355039283483751377 tw9901466717477005140 tw12227841524793793434 tw7875544598764679375 tw17748320081488251155 tw8006569937232867664 tw2955236991322015295 tw14571341165352145145 tw16963307423460056439 tw4633686137544182168 tw14064524458827388235 tw8740220589093053143 tw15154554190646348852 tw314790805256403336 tw12078729410294772430 tw4118302912175282881 tw12513982229541164188 tw5244926107940519630 tw8404688138992015159 tw6250739789738392336 tw17231243295777961169 tw16617777535213414407 tw7476949289222976236 tw12022343392185492612 tw9803756560885563311 tw14038621137891894662 tw2985521829020512872 tw8731705034549528883 tw13775636890140145995 tw9763035294395318145 tw1749428100202849092 tw7210273649368913992 tw10808221439251863037 tw987079938227726983 tw1159092290799624233 tw1375925683247473202 tw10825834600832941244 tw3850488798740590123 tw8817339370784965643 tw11566849333130805212 tw619638396734835130 tw3131150592090060072 tw13123566032283016993 tw4897606155152469266 tw5125494571141932645 tw3492239957856785621 tw18241786096253407413 tw12180965302066204786 tw15329057598738402071 tw9636738824017984155 tw4008351566973428821 tw4609938722397499968 tw13153822800486999004 tw2550020596889874706 tw14711669935671827957 tw13316199811371484768 tw1441798618972884810 tw18063871385052956390 tw275345359394916790 tw1722125453317642456 tw3536046811096344491 tw18050261787271439835 tw2323804786676187396 tw3986534066705392678 tw13574351342369743993 tw809335998401133107 tw245432110154011698 tw4951540671278568218 tw16954837784692140970 tw3403575803545474028 tw7690870210500527367 tw311071626434089356 tw1977648328777488561 tw8339261021106204937 tw10467928481575114209 tw5726144834713627832 tw1380543330206736384 tw17523809793771880767 tw17563715185396661444 tw10980863171085425651 tw6651520948103470322 tw3957042480584114177 tw7794999177056385909 tw12690503126308813264 tw12943446103756027999 tw1458904211200763255 tw2813509782254389603 tw4158157352865268034 tw7857485962840685419 tw5995209803555819829 tw17833183241561860513 tw10122158193830653165 tw13891212379008445709 tw11362794331769116612 tw13096383145746284814 tw3398601219041469127 tw11205193500594658372 tw1010422063668381313 tw5822389648458318952 tw3683593007619492271 tw11355972473113488674 tw11110771496291489924 tw14651693476321551605 tw10375793477868892527 tw15983811642197199370 tw5609665497232662994 tw16579089853046609191:True)
open PySem PySem.W PyProof.Rows
set_option maxRecDepth 100000 in
set_option maxHeartbeats 0 in
theorem PySem.Challenge.cw_gapweave_k51_mended_holds : PySem.Challenge.rw_gapweave_k51_mended.Holds := by
 w_on;o_law;z_head;(case hw=>w_witness2)
 k_fill
 refine G51.walk (l:=PySem.Challenge.rw_gapweave_k51_mended) Y Y (λ_=>by kernel_rfl) (λ_=>by kernel_rfl) ?F
 case F =>
  intro w mg fa h KX G hmg
  refine' G51.all_mk KX G hmg ?u0 ?u1 ?u2 ?u3 ?u4 ?u5 ?u6 ?u7 ?u8 ?u9 ?u10 ?u11 ?u12 ?u13 ?u14 ?u15 ?u16 ?u17 ?u18 ?u19 ?u20 ?u21 ?u22 ?u23 ?u24 ?u25 ?u26 ?u27 ?u28 ?u29 ?u30 ?u31 ?u32 ?u33 ?u34 ?u35 ?u36 ?u37 ?u38 ?u39 ?u40 ?u41 ?u42 ?u43 ?u44 ?u45 ?u46 ?u47 ?u48 ?u49 ?u50 ?u51 ?u52 ?u53 ?u54 ?u55 ?u56 ?u57 ?u58 ?u59 ?u60 ?u61 ?u62 ?u63 ?u64 ?u65 ?u66 ?u67 ?u68 ?u69 ?u70 ?u71 ?u72 ?u73 ?u74 ?u75 ?u76 ?u77 ?u78 ?u79 ?u80 ?u81 ?u82 ?u83 ?u84 ?u85 ?u86 ?u87 ?u88 ?u89 ?u90 ?u91 ?u92 ?u93 ?u94 ?u95 ?u96 ?u97 ?u98 ?u99 ?XX ?XW ?XU ?XT ?XS ?XR ?u106 ?XQ ?XO ?XN ?XM ?XJ ?XI ?XH ?XG ?XF ?XE ?XD ?XC ?XA ?Xz ?Xy ?Xx ?Xw ?Xv ?Xu ?Xs ?Xr ?Xq ?Xp ?Xo ?Xn ?Xm ?Xl ?Xk ?Xj ?Xi ?Xh ?Xg ?Z0 ?Xf ?Xe ?Xd ?Xc ?u144 ?Xb ?Xa ?W9 ?W8 ?W7 ?W6 ?W5 ?W4 ?W3 ?W2 ?W0 ?WZ ?WY ?WX ?WW ?WV ?WU ?WT ?WS ?WR ?WQ ?WO ?WN ?WM ?WL ?WK ?WJ ?WI ?WH ?WG ?WE ?WD ?WC ?WB ?WA ?Wz ?Wy ?Wx ?Ww ?Wv ?Wu ?Wt ?Ws ?Wr ?Wq ?Wn ?Wm ?Wl ?Wk ?Wj ?Wi ?Wh ?Wg ?Wf ?We ?Wd ?Wc ?Wb ?Wa ?V9 ?V8 ?V7 ?V6 ?V5 ?V4 ?V3 ?V2 ?V1 ?V0 ?VZ ?VY ?VX ?VW ?VV ?VU ?VT ?VS ?VR ?VQ ?VP ?VO ?VN ?VM ?VL ?VJ ?VI ?VH ?VG ?VF ?SH ?VE ?VD ?VC ?SG ?VB ?VA ?Vz ?Vy ?Vx ?Vw ?Vv ?Vu ?Vt ?Vs ?Vr ?Vq ?Vp ?Vo ?Vn ?Vm ?Vl
  case u0|u1|u2|u3|u4|u5|u7|u8|u9|u10|u11|u12|u13|u14|u15|u16|u17|u27|u28|u29|u30|u31|u32|u33|u36|u37|u38|u39|u40|u41|u42|u51|u52|u53|u54|u55|u57|u59|u61|u62|u63|u64|u65|u66|u67|u68|u69|u71|u72|u73|u74|u75|u76|u77|u78|u79|u80|u81|u82|u83|u84|u85|u86|u87|u88|u89|u90|u91|u92|u93|u94|u96|u97|XT|XS|XR|Z0|Xf|Xe|Xd|Xc|WY|WX|WW|WV|WU|WB|WA|Wz|Wy|Wx|We|Wd|Wc|Wb|Wa|SH|VE|VD|VC|VB|VA|Vz|Vy|Vx|Vw|Vv|Vu|Vt|Vs|Vr|Vq|Vp|Vo|Vn|Vm|Vl=>k_is
  case u6=>decide
  case u18|u19|u20|u21|u22|u23|u24|u25|u26|u34|u43|u44|u45|u46|u47|u48|u49|u50|u98|u99=>(show PySem.W.findIn _ _ _=_;k_is)
  case u35|u95|XX|XW|XU|SG=>kernel_rfl
  case u56|u58|u60|u70=>k_exc
  case u106|XQ|XO|XN|XM|XJ|XI|XH|XG|XF|XE|XD|XC|XA|Xz|Xy|Xx|Xw|Xv|Xu|Xs|Xr|Xq|Xp|Xo|Xn|Xm|Xl|Xk|Xj|Xi|Xh|Xg=>kit_is
  case u144|Xb|Xa|W9|W8|W7|W6|W5|W4|W3|W2|W0|WZ|WT|WS|WR|WQ|WO|WN|WM|WL|WK|WJ|WI|WH|WG|WE|WD|WC|Ww|Wv|Wu|Wt|Ws|Wr|Wq|Wn|Wm|Wl|Wk|Wj|Wi|Wh|Wg|Wf|V9|V8|V7|V6|V5|V4|V3|V2|V1|V0|VZ|VY|VX|VW|VV|VU|VT|VS|VR|VQ|VP|VO|VN|VM|VL|VJ|VI|VH|VG|VF=>(refine' G51.kj.mk ?a ?l ?c ?k;(case a=>k_is);(case l=>k_is);(case c=>k_is);(case k=>k_is))
