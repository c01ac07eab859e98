import PyProof.Rows.All
import Wide.All
import OpenK.AllK
import Wide.FinOn
import Lean
import PyProof.EqAt
import PyProof.EqKinds
import PyProof.TupleCall
import PyProof.NeKinds
import PyProof.Rows.StrStrike
import PyProof.SumWalkG
import PyProof.StrCalls2
import PyProof.Rows.StrItems
import PyProof.Rows.StrJoin2
import PyProof.Truth
import OpenK.ZHead
import KE.KRevIter
import KE.KListMore
import PyProof.ZipIter
import KE.KItemsList
import PyProof.CollectWalk
import KE.KSort
import KE.KSortTup
import PyProof.Rows.SetFrom
import KE.KIntText
import PyProof.Rows.StrIntSpec
import PySem.Challenge.RW_gapweave_k91_whole_many
set_option Elab.async false
set_option linter.all false
set_option maxRecDepth 100000
set_option compiler.extract_closed false
local macro_rules|`(tactic|omega)=>`(tactic|first|lia|omega +splitDisjunctions)
local macro_rules|`(#[$a,$b,*])=>`(⟨$a,$b,*⟩)
open PySem.W renaming Frag->zaa,emptyDict->zac,kitOne->zad,findIn->zaf,kia_one->zai,fnOf->zaj,any_some->zak,instObj->zan,InstAt->zao,keepIn->zap,hasDictIn->zaq,takerIn->zar,looks_findIn->zas,subIn->zat,Looks->zau,mroIn->zav,codeIn->zaw,lookIn->zaz,looks_clsIn->za0,callWith_K->za1,clsIn->za3,looks_mroIn->za4,findObj->za5,nsIn->za6,methodObj->za9,plainGet->za_,handedIn->zba,set_plain->zbb,typeIn->zbc,specialIn->zbd,cellsFrom_some->zbe,OpenLaw->zbi,plainOver->zbl,makesIn->zbm,takesIn->zbn,kitx_list->zbo,kitx_dict->zbp,isFn->zbq,excIn->zbt,isNs_of_in->zbu,tail_of_in->zbv,looks_find->zbw,WalkX->zbz
open PySem.F renaming plainAttrs_list->zab,plainAttrs_str->zae,slot_list_append->zag,type_list_append->zah,slot_str_join->zal,type_str_join->zam,slot_str_split->zax,type_str_split->zay,excBase_ValueError->za2,slot_list_reverse->za7,type_list_reverse->za8,slot_tuple_add->zbf,entry_tuple_add->zbg,args_tuple_add_2->zbh,slot_list_pop->zbj,type_list_pop->zbk,entry_bexc_ga->zbx,args_bexc_ga->zby,slot_list_extend->zb2,type_list_extend->zb3
open PyProof.Rows renaming slot_tuple_getitem->zbr,tDigits_len_ge->zb0,signs_ofString->zb1,int_text_len_1921->zb4
open PyProof.Rows.F renaming entry_set_update_loop->zbs
inductive bU{A1 A2:Type}(p:A1->A2->Prop):Prop
 |mk (a1:A1) (a2:A2):p a1 a2->bU p
inductive iG{A1 A2 A3:Type}(p:A1->A2->A3->Prop):Prop
 |mk (a1:A1) (a2:A2) (a3:A3):p a1 a2 a3->iG p
inductive mZ{A1 A2 A3 A4:Type}(p:A1->A2->A3->A4->Prop):Prop
 |mk (a1:A1) (a2:A2) (a3:A3) (a4:A4):p a1 a2 a3 a4->mZ p
inductive tW{A1 A2 A3 A4 A5:Type}(p:A1->A2->A3->A4->A5->Prop):Prop
 |mk (a1:A1) (a2:A2) (a3:A3) (a4:A4) (a5:A5):p a1 a2 a3 a4 a5->tW p
inductive Mm{A1 A2 A3 A4 A5 A6:Type}(p:A1->A2->A3->A4->A5->A6->Prop):Prop
 |mk (a1:A1) (a2:A2) (a3:A3) (a4:A4) (a5:A5) (a6:A6):p a1 a2 a3 a4 a5 a6->Mm p
inductive GS{A1 A2 A3 A4 A5 A6 A7:Type}(p:A1->A2->A3->A4->A5->A6->A7->Prop):Prop
 |mk (a1:A1) (a2:A2) (a3:A3) (a4:A4) (a5:A5) (a6:A6) (a7:A7):p a1 a2 a3 a4 a5 a6 a7->GS p
inductive Pe{A1 A2 A3 A4 A5 A6 A7 A8:Type}(p:A1->A2->A3->A4->A5->A6->A7->A8->Prop):Prop
 |mk (a1:A1) (a2:A2) (a3:A3) (a4:A4) (a5:A5) (a6:A6) (a7:A7) (a8:A8):p a1 a2 a3 a4 a5 a6 a7 a8->Pe p
inductive M6{A1 A2 A3 A4 A5 A6 A7 A8 A9:Type}(p:A1->A2->A3->A4->A5->A6->A7->A8->A9->Prop):Prop
 |mk (a1:A1) (a2:A2) (a3:A3) (a4:A4) (a5:A5) (a6:A6) (a7:A7) (a8:A8) (a9:A9):p a1 a2 a3 a4 a5 a6 a7 a8 a9->M6 p
inductive Pf{A1 A2 A3 A4 A5 A6 A7 A8 A9 Nf:Type}(p:A1->A2->A3->A4->A5->A6->A7->A8->A9->Nf->Prop):Prop
 |mk (a1:A1) (a2:A2) (a3:A3) (a4:A4) (a5:A5) (a6:A6) (a7:A7) (a8:A8) (a9:A9) (Pd:Nf):p a1 a2 a3 a4 a5 a6 a7 a8 a9 Pd->Pf p
inductive Sf{A1 A2 A3 A4 A5 A6 A7 A8 A9 Nf Sy:Type}(p:A1->A2->A3->A4->A5->A6->A7->A8->A9->Nf->Sy->Prop):Prop
 |mk (a1:A1) (a2:A2) (a3:A3) (a4:A4) (a5:A5) (a6:A6) (a7:A7) (a8:A8) (a9:A9) (Pd:Nf) (Wu:Sy):p a1 a2 a3 a4 a5 a6 a7 a8 a9 Pd Wu->Sf p
inductive Se{A1 A2 A3 A4 A5 A6 A7 A8 A9 Nf Sy Yj:Type}(p:A1->A2->A3->A4->A5->A6->A7->A8->A9->Nf->Sy->Yj->Prop):Prop
 |mk (a1:A1) (a2:A2) (a3:A3) (a4:A4) (a5:A5) (a6:A6) (a7:A7) (a8:A8) (a9:A9) (Pd:Nf) (Wu:Sy) (a12:Yj):p a1 a2 a3 a4 a5 a6 a7 a8 a9 Pd Wu a12->Se p
namespace QA
open PySem
theorem a_:0<=sizeLine:=by decide
theorem b_:1<=sizeLine:=by decide
theorem c_:2<=sizeLine:=by decide
end QA
open QA
open List renaming getElem?_eq_getElem->d_,length_map->e_,mem_of_getElem?->h_,getElem?_map->j_,getElem?_eq_some_iff->m_,mem_cons_self->r_,mem_cons_of_mem->s_,length_append->t_,mem_singleton->u_,all_eq_true->x_,size_toArray->y_,mem_map->z_,mem_cons->B_,getElem_mem->D_,map_append->E_,replicate->G_,range->H_,getD_eq_getElem?_getD->M_,length_cons->Q_,not_mem_nil->R_,mem_append->S_,mem_of_mem_eraseIdx->T_,map_map->U_,length_take->W_,length_range->X_,take_of_length_le->Y_,getElem?_append_right->qab,mem_append_right->qac,getElem?_append_left->qad,map_cons->qag,mem_range->qam,getElem?_eq_none->qar,replicate_succ->qas,append_assoc->qat,length_replicate->qaz,mem_filter->qaD,length_filter_le->qaH,getElem_map->qaL,append_nil->qaQ,length->qaR,length_pos_iff->qaT,flatten_cons->qaV,length_drop->qaY,ext_getElem->qa0,map_congr_left->qa1,sum_cons->qa_,getElem_of_mem->qbd,range_succ->qbe,length_singleton->qbf,getElem_range->qbi,eq_of_mem_replicate->qbk,mem_append_left->qbm,mem_of_mem_take->qbo,filter_cons_of_pos->qbr,filter_cons_of_neg->qbs,length_eraseIdx_of_lt->qbD,getElem?_eq_none_iff->qbF,mem_or_eq_of_mem_set->qbH,forIn_cons->qbJ,length_reverse->qbX,getElem?_replicate->qb0,lookup_cons->qb1,mem_flatten->qb2,lookup->qb6,getElem?_set_self->qb7,nodup_cons->qcf,length_set->qcg,foldl_cons->qch,find?_cons->qci,length_nil->qcj,take_append_drop->qcn,mem_iff_getElem?->qco,getElem?_set_ne->qcv,drop_zero->qcz,take_length->qcC,cons_ne_nil->qcD,exists_mem_of_ne_nil->qcF,drop_eq_getElem_cons->qcG,filter_map->qcN,filter_append->qcR,forIn_nil->qcX,foldl_append->qc0,take_add_one->qc1,ext_getElem?->qc4,any_cons->qc8,map_take->qdb
theorem Y{α:Sort u}{a:α}:a=a:=rfl
open PySem renaming wpAny_bind->f_,Addr->l_,Value->n_,wpAny_pure->q_,Shared->v_,Str->w_,sizeLine->A_,wpAny->F_,starEach->qaa,Program->qal,wpAny_field->qao,wpAny_holding->qaw,wpAny_mono->qaC,Heap->qaE,World->qaG,wpAny_callSpecial?_slot->qaJ,Around->qaP,wpAny_truthy_bool->qa2,wpAny_newObj_type->qa3,mainGlobals->qa7,wpAny_call_entry->qa9,wpAny_seqItems->qba,wpAny_Call_Name_kw->qbg,wpAny_setField_rec->qbh,wpAny_passesOwn->qbI,codeAny_builtin->qbL,codeAny_mono->qbM,NameKind->qbN,codeAny_call_builtin->qbO,wpAny_attempt->qbT,Obj->qbW,wpAny_getItem_str_slice->qb4,sizeLine_eq->qb5,wpAny_call->qb9,call_meets->qca,wpAny_pyIter_tuple->qcb,FuncData->qce,IsPair->qcm,wpAny_pyIter_list->qcq,wpAny_loadPart_at->qcs,wpAny_setField->qcx,wpAny_standAt->qcJ,wpAny_execs_nil->qcM,tupleKind_room_in1->qcP,Scope->qcT,Stmt->qcU,wpAny_loadPart->qcV,wpAny_pyIter_strU->qcZ,ExcBaseFacts->qc2,Pos->qc5
open Nat renaming le_trans->gc,le_refl->i_,lt_of_le_of_lt->o_,lt_of_lt_of_le->J_,zero_le->O_,ne_of_lt->V_,le_add_right->qan,lt_irrefl->qav,le_succ->qaA,mul_le_mul->qaK,add_le_add_right->qaM,pow_le_pow_right->qaN,mul_le_mul_right->qaO,ne_of_gt->qaU,toDigits->qaW,le_of_lt->qa5,lt_succ_self->qa8,not_lt_zero->qbu,add_le_add->qbE,min_eq_left->qbK,sub_self->qbP,le_of_eq->qb8,le_succ_of_le->qcp,lt_succ_of_lt->qcr,lt_of_succ_lt->qct,lt_trans->qcA,add_le_add_left->qcH,succ_mul->qcW,zero_add->qc3,not_lt->qc7
open PySem.Heap renaming get?_push_of_some->g_,lt_size->C_,get?_push_size->I_,get?_update_other->qaj,get?_update_self->qaq,size_push->qaX,SameBut->qbj,get?_none_of_le->qcu
open Array renaming length_toList->k_,getElem?_toList->P_,toList_inj->qbz,getElem?_eq_some_iff->qcy
open PySem.Str renaming ofString->p_,join->qbx
open Bool renaming false_ne_true->K_,and_eq_true->N_,false_eq_true->qaF,eq_iff_iff->qa6,not_eq_true'->qbq,true_and->qcK
open PySem.PassesOwn renaming never->L_
open Option.some renaming inj->Z_
open PySem.Builtin.SmallTypes renaming nextOf->qae,ownedTupleIsFree->qai
open Int renaming emod_lt_of_pos->qaf,gcd->qah,emod_nonneg->qap,toNat_natCast->qax,toNat_of_nonneg->qaS,le_of_lt->qbb,eq_of_mul_eq_mul_right->qbc,zero_add->qbl,gcd_dvd_right->qbp,ediv_pos_of_pos_of_dvd->qbC,mul_right_comm->qcc,add_zero->qcd,gcd_dvd_left->qcB,natCast_nonneg->qcS,mul_assoc->qc9,add_assoc->qda
open PySem.NameKind renaming free->qak,cell->qck
open PyProof.Rows renaming callWith_type1->qau,step_dedup->qcQ
open PySem.Obj renaming mapSeq->qay,data_mapFields->qbB,isFreed_of_fields->qcl,mapFields->qc_
open PySem.Builtin.Str renaming occurrences->qaB,partsBetween->qcL
open False renaming elim->qaI
open Option renaming getD_some->qaZ,map_eq_some_iff->qby,isSome_iff_exists->qbQ,bind_some->qb3
open PySem.Builtin.List renaming listTooLong->qa4
open PySem.Around renaming under_plainId->qbn
open PySem.F renaming slot_zip_next->qbt,slot_tuple_iterator_next->qbA,plain_extend_loop->qcI,args_zip_next_1->qcY,entry_zip_next->qc6
open PyProof.Rows.F renaming plain_set_update_loop->qbw
open PySem.Builtin.Slice renaming slicePlaces->qbG,sliceAdjust->qcE
open PySem.Builtin.Tuple renaming tupleExact->qbR
open PySem.SeqAt renaming EqAt->qbS
open PySem.AutoSeq1 renaming wpAny_loadPart'->qbU
open Char renaming toNat->qbV
open PySem.Heap.SameBut renaming update->qbY
open PySem.Builtin.Range renaming rangeSize->qbZ
open PySem.Calls renaming callWith_builtin->qb_,evalArgs_plain->qcw,spliced_cons->qcO
namespace TK
open PySem
theorem oV(h:Runs M Γ p t fs s e s'):s.toks<=s'.toks:=by
 induction h with
 |fresh _ ih=>exact gc (qaA _) ih
 |call _ _ a b=>exact gc a b
 |segRet _ _ a b=>exact gc a b
 |segGen _ _ a b=>exact gc a b
 |resumeFresh _ _ _ _ a b=>exact gc a b
 |resumeSuspended _ _ _ _ a b=>exact gc a b
 |segSuspGen _ _ _ _ a b=>exact gc a b
 |_=>first|exact i_ _|assumption
theorem Cv(h:Wakes M Γ p g r s res s'):s.toks<=s'.toks:=by
 unfold Wakes at h;split at h
 ·exact h.elim
 ·split at h
  ·obtain⟨e,s1,a,_,_,rfl⟩:=h;have z:=oV a;exact z
  ·obtain⟨_,rfl⟩:=h;exact i_ _
  ·obtain⟨_,rfl⟩:=h;exact i_ _
 ·obtain⟨e,s1,a,_,_,rfl⟩:=h;have z:=oV a;exact z
 ·obtain⟨_,rfl⟩:=h;exact i_ _
 ·obtain⟨_,rfl⟩:=h;exact i_ _
theorem Qc(t:Sem α):∀{Q:α->qc5->v_->Prop} {E:n_->qc5->v_->Prop} {p:qc5} {s:v_},n<=s.toks →
  Sem.wp M Γ t (λa p s'=>n<=s'.toks->Q a p s') (λe p s'=>n<=s'.toks->E e p s') p s->Sem.wp M Γ t Q E p s:=by
 induction t with
 |pure a=>intro Q E p s hn h;exact h hn
 |raise e=>intro Q E p s hn h;exact h hn
 |unsupported w=>intro Q E p s hn h;exact h
 |finish e=>intro Q E p s hn h;exact h
 |rule t k ih=>intro Q E p s hn h;exact ih () hn h
 | «at» p' k ih=>intro Q E p s hn h;exact ih () hn h
 |load a q k ih=>intro Q E p s hn h;obtain⟨o,e,h⟩:=h;exact#[o,e,ih o hn h]
 |update a q f k ih=>intro Q E p s hn h;exact#[h.1,ih () hn h.2]
 |alloc o k ih=>intro Q E p s hn h;exact ih _ hn h
 |loadIfAlive a k ih=>intro Q E p s hn h;exact ih _ hn h
 |point l k ih=>intro Q E p s hn h;exact ih () hn h
 |register a k ih=>intro Q E p s hn h;exact h
 |fresh k ih=>intro Q E p s hn h;exact ih _ (qcp hn) h
 |ask k ih=>intro Q E p s hn h;exact ih _ hn h
 |choose src m k ih=>intro Q E p s hn h;exact#[h.1,ih _ hn h.2]
 |os q l k ih=>intro Q E p s hn h;exact ih _ hn h
 |call c hd g l k ih=>intro Q E p s hn h;obtain⟨r,s1,a,h⟩:=h;exact#[r,s1,a,ih r (gc hn (oV a)) h]
 |handled own k ih=>intro Q E p s hn h;exact ih _ hn h
 |newGen c k ih=>intro Q E p s hn h;exact ih _ hn h
 |genState g k ih=>intro Q E p s hn h;obtain⟨st,e,h⟩:=h;exact#[st,e,ih _ hn h]
 |resume g r l k ih=>intro Q E p s hn h;obtain⟨res,s1,a,h⟩:=h;exact#[res,s1,a,ih _ (gc hn (Cv a)) h]
 |yield v g l k ih=>intro Q E p s hn h;exact h
 |stack k ih=>intro Q E p s hn h;exact ih _ hn h
 |fork c k ih=>intro Q E p s hn h;exact h
 |thread k ih=>intro Q E p s hn h;exact ih _ hn h
 |await a tk tm l k ih=>intro Q E p s hn h;exact h
theorem bP{Q:α->v_->Prop}{n:Nat}(hn:n<=s.toks)(h:F_ M A t (λa s'=>n<=s'.toks->Q a s') (λe s'=>n<=s'.toks->E e s') s):F_ M A t Q E s :=
 λΓ p hΓ=>Qc t hn (h Γ p hΓ)
theorem D4(hn:n<=s.toks)(h:codeAny M A c (λr s'=>n<=s'.toks->R r s') s):codeAny M A c R s:=λΓ p hc hb=>by
 obtain⟨r,s1,a,h⟩:=h Γ p hc hb;exact#[r,s1,a,h (gc hn (oV a))]
end TK
set_option Elab.async false
set_option linter.all false
set_option maxRecDepth 100000
namespace L2
open PySem PySem.Spec PyProof.Rows
section
noncomputable abbrev Key:=Sum Int w_
noncomputable def xT:Key->n_->Bool
 | .inl k,v=>Value.isInt k v
 | .inr x,v=>Value.isStrOf x v
noncomputable def U4(w:qaG):Key->Int
 | .inl k=>hashInt k
 | .inr x=>hashStr w x
theorem dR:∀{k:Key} {v:n_},xT k v=true->(bU λi t=>k=Sum.inl i/\v=Value.int i t)\/(bU λx t=>k=Sum.inr x/\v=Value.str x t)
 | .inl i,v,h=>by
  obtain⟨t,e⟩:=Value.isInt_shape (k:=i) (v:=v) h;exact .inl #[i,t,Y,e]
 | .inr x,v,h=>by
  obtain⟨t,e⟩:=Value.isStrOf_shape (x:=x) (v:=v) h;exact .inr #[x,t,Y,e]
theorem Gb(i:Int)(t:Tok):xT (.inl i) (.int i t)=true:=by simp[xT,Value.isInt]
theorem Ga(x:w_)(t:Tok):xT (.inr x) (.str x t)=true:=by simp[xT,Value.isStrOf]
theorem Oz(a b:Int):decide ((Sum.inl a:Key)=Sum.inl b)=(a==b):=by
 by_cases e:a=b
 ·subst e;simp
 ·have h:¬(Sum.inl a:Key)=Sum.inl b:=λq=>e (Sum.inl.inj q);rw[decide_eq_false h];exact(beq_eq_false_iff_ne.mpr e).symm
theorem Ov(a b:w_):decide ((Sum.inr a:Key)=Sum.inr b)=decide (a=b):=by
 by_cases e:a=b
 ·subst e;simp
 ·have h:¬(Sum.inr a:Key)=Sum.inr b:=λq=>e (Sum.inr.inj q);rw[decide_eq_false h,decide_eq_false e]
theorem Ox(a:Int)(b:w_):decide ((Sum.inl a:Key)=Sum.inr b)=false:=decide_eq_false (λq=>nomatch q)
theorem Ow(a:w_)(b:Int):decide ((Sum.inr a:Key)=Sum.inl b)=false:=decide_eq_false (λq=>nomatch q)
noncomputable def fP(prog:qal)(w:qaG):PySem.KeyKind prog w Key where
 is:=xT
 hash:=U4 w
 inj:=λv a b ha hb=>by
  rcases dR ha with⟨i,t,rfl,rfl⟩|⟨x,t,rfl,rfl⟩
  ·rcases dR hb with⟨j,u,rfl,e⟩|⟨y,u,rfl,e⟩
   ·injection e with e1 _;rw[e1]
   ·exact nomatch e
  ·rcases dR hb with⟨j,u,rfl,e⟩|⟨y,u,rfl,e⟩
   ·exact nomatch e
   ·injection e with e1 _;rw[e1]
 byValue:=λk v h=>by
  rcases dR h with⟨i,t,rfl,rfl⟩|⟨x,t,rfl,rfl⟩<;>rfl
 pyHash:=λhv h=>by
  rcases dR hv with⟨i,t,rfl,rfl⟩|⟨x,t,rfl,rfl⟩
  ·exact wpAny_pyHash_int h
  ·exact wpAny_pyHash_str h
 eqBool:=λhu hv h=>by
  rcases dR hu with⟨i,t,rfl,rfl⟩|⟨x,t,rfl,rfl⟩
  ·rcases dR hv with⟨j,u,rfl,rfl⟩|⟨y,u,rfl,rfl⟩
   ·rw[Oz]at h;exact wpAny_eqBool_int h
   ·rw[Ox]at h;exact SeqAt.EqAt.int_str i t y u _ _ _ _ h
  ·rcases dR hv with⟨j,u,rfl,rfl⟩|⟨y,u,rfl,rfl⟩
   ·rw[Ow]at h;exact SeqAt.EqAt.str_int x t j u _ _ _ _ h
   ·rw[Ov]at h;exact wpAny_eqBool_str h
 «strs» :=λk x t v h=>by
  rcases dR h with⟨i,u,rfl,e⟩|⟨y,u,rfl,e⟩
  ·exact nomatch e
  ·injection e with e1 _;subst e1;cases v<;>rfl
theorem Bw(prog:qal)(w:qaG)(i:Int)(t:Tok):(fP prog w).is (.inl i) (.int i t)=true:=Gb i t
theorem nZ(prog:qal)(w:qaG)(x:w_)(t:Tok):(fP prog w).is (.inr x) (.str x t)=true:=Ga x t
end
section
inductive V where
 |dX|bl (b:Bool)|int (i:Int)|str (x:w_)|E8 (b:Array UInt8)|O2 (b:UInt64)|ref (a:l_)|ty (n:String)
 deriving DecidableEq
def RelV:V->n_->Prop
 | .dX,u=>u=Value.none
 | .bl b,u=>u=Value.bool b
 | .int i,u=>∃t,u=Value.int i t
 | .str x,u=>∃t,u=Value.str x t
 | .E8 b,u=>∃t,u=Value.bytes b t
 | .O2 b,u=>∃t,u=Value.float b t
 | .ref a,u=>u=Value.ref a
 | .ty n,u=>u=Value.type n
abbrev Vals:List V->List n_->Prop:=Paired RelV
theorem Vals.length(r:Vals xs us):xs.length=us.length:=Paired.length r
theorem Vals.get:∀{xs:List V} {us:List n_} {i:Nat} {x:V},Vals xs us->xs[i]? =some x->∃u,us[i]? =some u/\RelV x u
 |_,_,_,_,.nil,e=>by simp at e
 |_,_,0,_,.cons r _,e=>by simp at e;subst e;exact#[_,Y,r]
 |_,_,i+1,x,.cons _ t,e=>by
  obtain⟨u,h1,h2⟩:=Vals.get (i:=i) (x:=x) t (by simpa using e);exact#[u,by simpa using h1,h2]
theorem Vals.set(r:RelV x u):∀{xs:List V} {us:List n_} (i:Nat),Vals xs us->Vals (xs.set i x) (us.set i u)
 |_,_,_,.nil=>.nil
 |_,_,0,.cons _ t=>.cons r t
 |_,_,i+1,.cons q t=>.cons q (Vals.set r i t)
theorem Vals.append:∀{xs ys:List V} {us ws:List n_},Vals xs us->Vals ys ws->Vals (xs++ys) (us++ws)
 |_,_,_,_,.nil,s=>s
 |_,_,_,_,.cons r t,s=>.cons r (Vals.append t s)
theorem Vals.take:∀{xs:List V} {us:List n_} (n:Nat),Vals xs us->Vals (xs.take n) (us.take n)
 |_,_,0,_=>.nil
 |_,_,_+1,.nil=>.nil
 |_,_,n+1,.cons r t=>.cons r (Vals.take n t)
theorem Vals.drop:∀{xs:List V} {us:List n_} (n:Nat),Vals xs us->Vals (xs.drop n) (us.drop n)
 |_,_,0,r=>r
 |_,_,_+1,.nil=>.nil
 |_,_,n+1,.cons _ t=>Vals.drop n t
theorem Vals.none_of:∀{xs:List V} {us:List n_} {i:Nat},Vals xs us->xs[i]? =none->us[i]? =none:=λ{xs us i} r e=>by
 have h1:=r.length;have h2:xs.length<=i:=qbF.mp e;exact qbF.mpr (by omega)
def m5:Option V->Option n_->Prop
 |some v,some u=>RelV v u
 |none,none=>True
 |_,_=>False
def KV{κ:Type}:List (κ×V)->List (κ×n_)->Prop:=Paired λ(p:κ×V) (q:κ×n_)=>p.1=q.1/\RelV p.2 q.2
noncomputable def kV:Key->V
 | .inl i=>.int i
 | .inr x=>.str x
inductive HO where
 |lst (xs:List V)
 |tup (xs:List V)
 |dK (kvs:List (Key×V))|dT (kvs:List (List Key×V))
 |set (S:Int->Bool) (n:Nat)
 |ins (C dx:l_) (fs:List (w_×V))
 |own (x:l_)
 |xd (fs:List (w_×V))
 |met (f x:l_)
 |SQ (lo hi:Int)
 |DQ (o:qbW) (u:HO)
 |Mu (ps:Array n_)
 |ext (φ:qaE->Prop)
noncomputable abbrev Hp:=l_->Option HO
noncomputable def upd(H:Hp)(a:l_)(o:HO):Hp:=λb=>if b=a then some o else H b
theorem ai:upd H a o a=some o:=by unfold upd;rw[if_pos rfl]
theorem ay(h:b≠a):upd H a o b=H b:=by unfold upd;rw[if_neg h]
theorem kg{H:Hp}(h:H a=some o)(h':H b=some u)(d:o≠u):a≠b:=by
 intro e;subst e;rw[h]at h';exact d (Z_ h')
theorem bA{H:Hp}(h:H a=some o)(h':H b=none):a≠b:=by
 intro e;subst e;rw[h]at h';cases h'
section
variable(P:qal)(w:qaG)
def cE(H:Hp)(h:qaE)(a:l_):HO->Prop
 | .lst xs=>xs.length<=A_/\bU λ(its:List n_) (n:Nat)=>Vals xs its/\h.get? a=some { cls:=.type "list",data:=.seq its.toArray n }
 | .tup xs=>xs.length<=A_/\∃its:List n_,Vals xs its/\IsTup h a its.toArray
 | .dK kvs=>kvs.length<=A_/\(a==sysModules)=false/\∃vs,KV kvs vs/\h.DictOf (fP P w) a vs
 | .dT kvs=>kvs.length<=A_/\(a==sysModules)=false/\∃xs:List (List Key×l_×n_),
   Paired (λ(p:List Key×V) (q:List Key×l_×n_)=>p.1=q.1/\H q.2.1=some (.tup (p.1.map kV))/\RelV p.2 q.2.2) kvs xs ∧
   iG λo es ep=>h.get? a=some o/\o.ExactDict/\o.data= .dict es ep/\es.toList=xs.map (entryOfKey (tupleKind (fP P w)))/\(xs.map (·.1)).Nodup
 | .set S n=>h.SetOf (intKind P w) a S n
 | .ins C dx fs=>H dx=some (.own a)/\fs.length<=1000/\dx≠a/\h.get? a=some (zan C dx) ∧
   ∃mA,h.Ns1 dx mA/\(∀f,m5 (fs.lookup f) (mA f))/\PySem.Within mA (fs.map (·.1))
 | .own _=>∃o,h.get? a=some o
 | .xd fs=>∃mA,h.Ns1 a mA/\∀f,m5 (fs.lookup f) (mA f)
 | .SQ lo hi=>iG λt u v=>h.get? a=some { cls:=.type "range",data:=.fields (List.toArray [.int lo t,.int hi u,.int 1 v]) }
 | .DQ o u=>h.get? a=some o/\cE H h a u
 | .Mu ps=>h.get? a=some { cls:=.none,data:=.fields ps }
 | .met f x=>h.get? a=some (za9 (.ref f) (.ref x))
 | .ext φ=>φ h/\(∃o,h.get? a=some o)/\∀h1 h2:qaE,φ h1->(∀o,h1.get? a=some o->h2.get? a=some o)->φ h2
def mF(H:Hp)(h:qaE):Prop:=∀a o,H a=some o->cE P w H h a o
end
section
variable{P:qal}{w:qaG}{H H':Hp}{h h':qaE}{a:l_}{o:HO}
theorem cE.lt(x:cE P w H h a o):a<h.objs.size:=by
 cases o with
 |lst xs=>obtain⟨_,_,_,_,e⟩:=x;exact C_ e
 |tup xs=>obtain⟨_,_,_,p⟩:=x;exact p.lt
 |dK kvs=>obtain⟨_,_,_,_,o,_,_,e,_⟩:=x;exact C_ e
 |dT kvs=>obtain⟨_,_,_,_,o,_,_,e,_⟩:=x;exact C_ e
 |set S n=>obtain⟨o,_,_,_,e,_⟩:=x;exact C_ e
 |ins C dx fs=>obtain⟨_,_,_,e,_⟩:=x;exact C_ e
 |own y=>obtain⟨_,e⟩:=x;exact C_ e
 |xd fs=>obtain⟨_,⟨_,_,_,e,_⟩,_⟩:=x;exact C_ e
 |SQ lo hi=>obtain⟨_,_,_,e⟩:=x;exact C_ e
 |DQ ob u=>obtain⟨e,_⟩:=x;exact C_ e
 |Mu ps=>exact C_ (show h.get? a=some _ from x)
 |met f y=>exact C_ (show h.get? a=some _ from x)
 |ext φ=>obtain⟨_,⟨_,e⟩,_⟩:=x;exact C_ e
theorem Paired.jr:∀{l₁:List α} {l₂:List β},Paired F l₁ l₂->(∀a b,F a b->G a b)->Paired G l₁ l₂
 |_,_,.nil,_=>.nil
 |_,_,.cons r t,f=>.cons (f _ _ r) (Paired.jr t f)
theorem cE.stay(x:cE P w H h a o)(k:∀b u,(b=a\/H b=some (.own a))->h.get? b=some u->h'.get? b=some u)
  (ho:∀b,H b=some (.own a)->H' b=some (.own a)) (ht:∀b xs,H b=some (.tup xs)->H' b=some (.tup xs)):cE P w H' h' a o:=by
 induction o with
 |lst xs=>obtain⟨z,its,n,r,e⟩:=x;exact#[z,its,n,r,k _ _ (.inl Y) e]
 |tup xs=>obtain⟨z,its,r,ob,e,c⟩:=x;exact#[z,its,r,ob,k _ _ (.inl Y) e,c]
 |dK kvs=>obtain⟨z,y,vs,r,ob,es,ep,e,c⟩:=x;exact#[z,y,vs,r,ob,es,ep,k _ _ (.inl Y) e,c]
 |dT kvs =>
  obtain⟨z,y,xs,r,ob,es,ep,e,c⟩:=x;exact#[z,y,xs,Paired.jr r λp q z=>#[z.1,ht _ _ z.2.1,z.2.2],ob,es,ep,k _ _ (.inl Y) e,c]
 |set S n=>obtain⟨ob,es,ep,t,e,c⟩:=x;exact#[ob,es,ep,t,k _ _ (.inl Y) e,c]
 |ins C dx fs =>
  obtain⟨d,z,ne,e,mA,⟨od,es,ep,e2,c⟩,r⟩:=x;exact#[ho _ d,z,ne,k _ _ (.inl Y) e,mA,#[od,es,ep,k _ _ (.inr d) e2,c],r]
 |own y=>obtain⟨ob,e⟩:=x;exact#[ob,k _ _ (.inl Y) e]
 |xd fs=>obtain⟨mA,⟨od,es,ep,e,c⟩,r⟩:=x;exact#[mA,#[od,es,ep,k _ _ (.inl Y) e,c],r]
 |SQ lo hi=>obtain⟨t,u,v,e⟩:=x;exact#[t,u,v,k _ _ (.inl Y) e]
 |DQ ob u ih=>obtain⟨e,q⟩:=x;exact#[k _ _ (.inl Y) e,ih q]
 |Mu ps =>
  have e:h.get? a=some { cls:=.none,data:=.fields ps }:=x;show h'.get? a=some { cls:=.none,data:=.fields ps };exact k a _ (.inl Y) e
 |met f y =>
  have e:h.get? a=some (za9 (.ref f) (.ref y)):=x;show h'.get? a=some (za9 (.ref f) (.ref y));exact k a _ (.inl Y) e
 |ext φ=>obtain⟨p,⟨o,e⟩,st⟩:=x;exact#[st _ _ p λo q=>k _ _ (.inl Y) q,#[o,k _ _ (.inl Y) e],st]
theorem mF.lt(x:mF P w H h)(e:H a=some o):a<h.objs.size:=(x a o e).lt
theorem mF.fresh(x:mF P w H h)(e:h.objs.size<=a):H a=none:=by
 cases q:H a with
 |none=>rfl
 |some u=>exact absurd (J_ (x.lt q) e) (qav _)
theorem mF.kept(x:mF P w H h)(k:∀b u,h.get? b=some u->h'.get? b=some u):mF P w H h':=λa o e =>
 (x a o e).stay (λb u _ q=>k b u q) (λ_ q=>q) λ_ _ q=>q
theorem mF.laid(x:mF P w H h)(k:∀b u,h.get? b=some u->h'.get? b=some u)(hp:h.objs.size<=a)(new:cE P w (upd H a o) h' a o):mF P w (upd H a o) h':=λb u e=>by
 have hn:=x.fresh hp;by_cases hb:b=a
 ·subst hb;rw[ai]at e;cases e;exact new
 ·rw[ay hb]at e;exact(x b u e).stay (λc v _ q=>k c v q) (λc q=>by rw[ay (bA q hn)];exact q) λc xs q=>by rw[ay (bA q hn)];exact q
end
def Rd(H:Hp)(a:l_)(u:HO):Prop:=H a=some u\/∃o,H a=some (.DQ o u)
theorem Rd.ok(r:Rd H a u)(x:mF P w H h):cE P w H h a u:=by
 rcases r with r|⟨o,r⟩
 ·exact x a u r
 ·obtain⟨_,q⟩:=x a _ r;exact q
def Sk:Option HO->Prop
 |some (.lst _)=>True
 |some (.dK _)=>True
 |some (.dT _)=>True
 |some (.set _ _)=>True
 |some (.ins _ _ _)=>True
 |some (.ext _)=>True
 |_=>False
section
variable{P:qal}{w:qaG}{H:Hp}{h h':qaE}{x e:l_}{o':HO}
theorem mF.write(ok:mF P w H h)(mu:Sk (H x))(he:e=x\/H e=some (.own x))(k:∀b u,b≠e->h.get? b=some u->h'.get? b=some u)(PV:∃u,h'.get? e=some u)
  (new:cE P w (upd H x o') h' x o'):mF P w (upd H x o') h':=λb u q=>by
 have QY:∀c y,H c=some (.own y)->c≠x:=λc y r z=>by subst z;rw[r]at mu;exact mu
 have UO:∀c xs,H c=some (.tup xs)->c≠x:=λc xs r z=>by subst z;rw[r]at mu;exact mu
 by_cases hb:b=x
 ·subst hb;rw[ai]at q;cases q;exact new
 ·rw[ay hb]at q;by_cases IT:b=e
  ·have q':H b=some (.own x):=by
    rcases he with z|z
    ·exact absurd (IT.trans z) hb
    ·rw[IT];exact z
   rw[q]at q';cases q';obtain⟨v,hv⟩:=PV;exact#[v,by rw[IT];exact hv]
  ·refine(ok b u q).stay (λc v hc r=>k c v ?_ r) (λc r=>by rw[ay (QY c b r)];exact r) λc xs r=>by rw[ay (UO c xs r)];exact r
   rcases hc with rfl|hc
   ·exact IT
   ·rintro rfl;rcases he with z|z
    ·exact QY c b hc z
    ·rw[hc]at z;cases z;exact hb Y
end
structure Un(fs ex:List l_)(H H':Hp)(h h':qaE):Prop where
 keep:∀b o,h.get? b=some o->H b=none->b∉fs->b∉ex->h'.get? b=some o
 slot:∀b o,h.get? b=some o->H b=none->b∈fs->b∉ex->∃sl,h'.get? b=some { o with slots:=sl }
 free:∀b o,h.get? b=some o->H b=none->b∉ex->H' b=none
 there:∀b o,h.get? b=some o->b∉ex->∃o',h'.get? b=some o'
 tups:∀b xs,H b=some (.tup xs)->H' b=some (.tup xs)
 qg:∀b o u,H b=some (.DQ o u)->H' b=some (.DQ o u)
 qB:∀b ps,H b=some (.Mu ps)->∃more,H' b=some (.Mu (ps++more))
section
variable{fs fs' ex ex':List l_}{H H1 H2:Hp}{h h1 h2 h':qaE}{a x e:l_}{o:HO}
theorem Un.any(u:Un fs ex H H1 h h1)(q:h.get? b=some ob)(n:H b=none)(hx:b∉ex):∃sl,h1.get? b=some { ob with slots:=sl }:=by
 by_cases hb:b∈fs
 ·exact u.slot b ob q n hb hx
 ·exact#[ob.slots,u.keep b ob q n hb hx]
theorem Un.kept(k:∀b u,h.get? b=some u->h'.get? b=some u):Un fs ex H H h h' :=
 #[λb ob q _ _ _=>k b ob q,λb ob q _ _ _=>#[ob.slots,k b ob q],λ_ _ _ n _=>n,λb ob q _=>#[ob,k b ob q],λ_ _ q=>q,λ_ _ _ q=>q,λ_ ps q=>#[#[],by rw[q];simp]]
theorem Un.refl:Un fs ex H H h h:=Un.kept λ_ _ q=>q
theorem Un.laid(k:∀b u,h.get? b=some u->h'.get? b=some u)(hp:h.objs.size<=a)(hn:H a=none):Un fs ex H (upd H a o) h h' where
 keep:=λb u q _ _ _=>k b u q
 slot:=λb u q _ _ _=>#[u.slots,k b u q]
 free:=λb u q n _=>by rw[ay (V_ (J_ (C_ q) hp))];exact n
 there:=λb u q _=>#[u,k b u q]
 tups:=λb xs q=>by rw[ay (bA q hn)];exact q
 qg:=λb u xs q=>by rw[ay (bA q hn)];exact q
 qB:=λb ps q=>#[#[],by rw[ay (bA q hn),q];simp]
theorem Un.write(mu:Sk (H x))(he:e=x\/H e=some (.own x))(k:∀b u,b≠e->h.get? b=some u->h'.get? b=some u)(PV:∃u,h'.get? e=some u):Un fs ex H (upd H x o) h h':=by
 have hx:∀b,H b=none->b≠x:=λb n z=>by subst z;rw[n]at mu;exact mu
 have hb:∀b,H b=none->b≠e:=λb n z=>by
  subst z;rcases he with r|r
  ·exact hx b n r
  ·rw[n]at r;cases r
 have hm:∀b u,H b=some u->¬Sk (some u)->b≠x:=λb u q nm z=>by subst z;rw[q]at mu;exact nm mu
 refine#[λb u q n _ _=>k b u (hb b n) q,λb u q n _ _=>#[u.slots,k b u (hb b n) q],λb u q n _=>by rw[ay (hx b n)];exact n,λb u q _=>?_,
  λb xs q=>by rw[ay (hm b _ q λz=>z)];exact q,λb u xs q=>by rw[ay (hm b _ q λz=>z)];exact q,λb ps q=>#[#[],by rw[ay (hm b _ q λz=>z),q];simp]]
 by_cases IT:b=e
 ·subst IT;exact PV
 ·exact#[u,k b u IT q]
end
noncomputable def SH(h:qaE)(H:Hp):List l_:=(H_ h.objs.size).filter λa=>(H a).isSome
noncomputable def zM(h:qaE)(H:Hp):qaE:=PySem.W.hideAll h (SH h H)
theorem Gh(h:qaE)(H:Hp):(zM h H).objs.size=h.objs.size:=PySem.W.hideAll_size _ _
theorem IQ(e:h.get? b=some o)(n:H b=none):(zM h H).get? b=some o :=
 PySem.W.hideAll_get _ e λhm=>by
  have q:(H b).isSome=true:=(qaD.mp hm).2;rw[n]at q;simp at q
theorem Lm(e:(zM h H).get? b=some o):h.get? b=some o/\H b=none:=by
 have e':h.get? b=some o:=PySem.W.of_hideAll (SH h H) e;refine#[e',?_]
 cases q:H b with
 |none=>rfl
 |some x =>
  have hm:b∈SH h H:=qaD.mpr #[qam.mpr (C_ e'),by simp[q]];have z:(zM h H).get? b=none:=PySem.W.hideAll_none (SH h H) hm;rw[z]at e;cases e
end
section
structure Mod(K:zaa)(mg:w_->Option n_)(base:qaE):Prop where
 MH:K.In base
 glob:base.Ns qa7 mg
 blt:∃mb,base.Ns builtinsNs mb/\∀x:w_,x≠ "__name__" ->mb x=bootBuiltins x
 nolimit:base.NoLimit
structure Cx where
 prog:qal
 w:qaG
 K:zaa
 mg:w_->Option n_
 base:qaE
 A:qaP
 N:List w_
 s₀:v_
 H₀:Hp
 env:Env
 outer:List Env
 stack:List Env
 ex:List l_
 fn:w_->Bool
 calm:Bool
 pn:List (l_×qbW)
 xe:n_->v_->Prop
noncomputable def frs(l:List Env):List l_:=l.filterMap (·.frame)
noncomputable abbrev Cx.fs(X:Cx):List l_:=frs X.outer
def TR(sc:qcT)(x:w_):Prop:=sc.names.lookup x=some .local\/sc.names.lookup x=some .cell\/sc.names.lookup x=some .free
def Loc(sc:qcT)(x:w_):Prop:=sc.names.lookup x=some .local\/sc.names.lookup x=some .cell
def Look(env:Env)(h:qaE)(m:w_->Option n_)(x:w_)(u:n_):Prop :=
 (env.kindOf x=some .local/\m x=some u)\/((env.kindOf x=some .cell\/env.kindOf x=some .free)/\∃c,env.cells.lookup x=some c/\h.IsCell c (some u))
def Cg(mg:w_->Option n_)(n:Nat):Prop:=∀x v u,mg x=some (.str v u)->u<n/\u≠0
theorem Cg.mono(h:Cg mg n)(l:n<=m):Cg mg m:=λx v u e=>#[J_ (h x v u e).1 l,(h x v u e).2]
structure Cx.Ok(X:Cx):Prop where
 mod:Mod X.K X.mg X.base
 kind:X.env.scope.kind= .function
 glob:X.env.globals=qa7
 blt:X.env.builtins=builtinsNs
 above:X.s₀.heap.objs.size<=X.env.locals
 inj:∀x y c,X.env.cells.lookup x=some c->X.env.cells.lookup y=some c->x=y
 has:∀x,(X.env.kindOf x=some .cell\/X.env.kindOf x=some .free)->∃c,X.env.cells.lookup x=some c
 Mh:∀x c,X.fn x=true->X.env.cells.lookup x=some c->X.s₀.heap.objs.size<=c
 hd:X.calm=true->X.A.handled=none
 frames:X.A.frames=some X.stack
 stk:X.stack=X.outer\/(X.stack=X.env::X.outer/\X.env.frame=some X.env.locals)
 Tz:∀b∈X.ex,b≠X.env.locals/\∀x c,X.env.cells.lookup x=some c->c≠b
 bs:∀b o,X.base.get? b=some o->X.s₀.heap.get? b=some o/\X.H₀ b=none
 Jv:X.base.objs.size<=X.s₀.heap.objs.size
 Du:∀b o,X.base.get? b=some o->b∉X.ex
 Gn:∀b∈X.ex,b∉X.fs
 qf:X.s₀.heap.FunFrames X.base X.outer
 LU:∀b∈X.fs,X.H₀ b=none
 tk:Cg X.mg X.s₀.toks
structure Inv(X:Cx)(pins:List (l_×qbW))(σ:List (Option V))(H:Hp)(s:v_):Prop where
 ok:X.Ok
 os:s.os=X.s₀.os
 bare:AllBare s.gens
 base:Un X.fs X.ex X.H₀ H X.s₀.heap s.heap
 loc:∃m,s.heap.Ns X.env.locals m/\∀(i:Nat) (x:w_) (v:V),X.N[i]? =some x->σ[i]? =some (some v)->TR X.env.scope x->∃u,RelV v u/\Look X.env s.heap m x u
 cell:∀x c,X.env.cells.lookup x=some c->∃v,s.heap.IsCell c v
 free:H X.env.locals=none
 ir:∀x c,X.env.cells.lookup x=some c->H c=none
 pin:∀p∈X.pn++pins,s.heap.get? p.1=some p.2/\H p.1=none/\p.1≠X.env.locals/\p.1∉X.fs/\∀v,p.2.data≠ .cell v
 hok:mF X.prog X.w H s.heap
 len:σ.length=X.N.length
 up:X.s₀.toks<=s.toks
section
variable{X:Cx}{pins:List (l_×qbW)}{σ:List (Option V)}{H H':Hp}{s:v_}{h':qaE}
theorem Cx.Ok.UR(ok:X.Ok)(e:X.base.get? b=some o):b∉X.fs:=λhb=>by
 have:=(ok.qf.mem hb).1;rw[e]at this;cases this
theorem Inv.tk(I:Inv X pins σ H s):Cg X.mg s.toks:=I.ok.tk.mono I.up
theorem Inv.bs(I:Inv X pins σ H s):∀b o,X.base.get? b=some o->s.heap.get? b=some o/\H b=none:=λb o e =>
 #[I.base.keep b o (I.ok.bs b o e).1 (I.ok.bs b o e).2 (I.ok.UR e) (I.ok.Du b o e),I.base.free b o (I.ok.bs b o e).1 (I.ok.bs b o e).2 (I.ok.Du b o e)]
theorem Inv.bk(I:Inv X pins σ H s):∀b o,X.base.get? b=some o->s.heap.get? b=some o:=λb o e=>(I.bs b o e).1
theorem Inv.mod(I:Inv X pins σ H s):Mod X.K X.mg X.base:=I.ok.mod
theorem Inv.nu(I:Inv X pins σ H s):X.K.In s.heap:=I.ok.mod.MH.keeps I.bk
theorem Inv.lt(I:Inv X pins σ H s):X.env.locals<s.heap.objs.size:=let ⟨_,hn,_⟩:=I.loc;hn.lt
theorem Inv.sz(I:Inv X pins σ H s):X.s₀.heap.objs.size<=s.heap.objs.size:=gc I.ok.above (qa5 I.lt)
theorem Inv.UQ(I:Inv X pins σ H s){a:l_}(h:s.heap.objs.size<=a):a∉X.fs:=λhb=>by
 obtain⟨_,o,ho,_⟩:=I.ok.qf.mem hb;exact absurd (J_ (C_ ho) (gc I.sz h)) (qav _)
theorem Inv.M3(I:Inv X pins σ H s):∀x c,X.env.cells.lookup x=some c->c≠X.env.locals:=λx c e z=>by
 obtain⟨v,o,ho,hd⟩:=I.cell x c e;obtain⟨m,⟨o',es,ep,ho',hd',_⟩,_⟩:=I.loc;rw[z,ho']at ho;cases ho;rw[hd']at hd;cases hd
theorem Inv.qf(I:Inv X pins σ H s):s.heap.FunFrames X.base X.outer:=by
 have all:∀(l:List Env),(∀b∈frs l,b∈X.fs)->X.s₀.heap.FunFrames X.base l->s.heap.FunFrames X.base l:=by
  intro l
  induction l with
  |nil=>intro _ _;trivial
  |cons env r ih =>
   intro hs hl;obtain⟨hk,⟨L,o,hf,hn,ho,hd⟩,hr⟩:=hl;have hL:L∈X.fs:=hs L (by unfold frs;rw[List.filterMap_cons,hf];exact r_);obtain⟨sl,e⟩:=I.base.slot L o ho (I.ok.LU L hL) hL λz=>I.ok.Gn L z hL;exact#[hk,#[L,_,hf,hn,e,hd],ih (λb hb=>hs b (by unfold frs;rw[List.filterMap_cons,hf];exact s_ _ hb)) hr]
 exact all X.outer (λ_ hb=>hb) I.ok.qf
theorem Inv.stack(I:Inv X pins σ H s):s.heap.FunFrames X.base X.stack:=by
 rcases I.ok.stk with e|⟨e,hf⟩
 ·rw[e];exact I.qf
 ·rw[e];obtain⟨m,hn,_⟩:=I.loc;refine .cons (by rw[I.ok.kind];decide) hf hn ?_ I.qf;exact qcu (gc I.ok.Jv I.ok.above)
theorem Inv.rF(I:Inv X pins σ H s):∀b∈frs X.stack,b∈X.env.locals::X.fs:=λb hb=>by
 rcases I.ok.stk with e|⟨e,hf⟩
 ·rw[e]at hb;exact s_ _ hb
 ·rw[e]at hb;unfold frs at hb;rw[List.filterMap_cons,hf]at hb;exact hb
theorem Inv.yy(I:Inv X pins σ H s):∀b∈frs X.stack,H b=none:=λb hb=>by
 rcases B_.mp (I.rF b hb)with e|hb
 ·rw[e];exact I.free
 ·obtain⟨_,o,ho,_⟩:=I.ok.qf.mem hb;exact I.base.free b o ho (I.ok.LU b hb) λz=>I.ok.Gn b z hb
theorem Inv.step{ch:List l_}(I:Inv X pins σ H s)
  (hch:∀b∈ch,(b∈X.ex\/X.s₀.heap.objs.size<=b)/\b≠X.env.locals/\(∀x c,X.env.cells.lookup x=some c->c≠b)/\∀p∈X.pn++pins,p.1≠b)
  (keep:∀b o,b≠X.env.locals->b∉X.fs->b∉ch->s.heap.get? b=some o->H b=none->h'.get? b=some o)
  (slot:∀b o,b≠X.env.locals->b∈X.fs->b∉ch->s.heap.get? b=some o->H b=none->∃sl,h'.get? b=some { o with slots:=sl }) (free:∀b o,b∉ch->s.heap.get? b=some o->H b=none->H' b=none)
  (there:∀b o,b∉ch->s.heap.get? b=some o->∃o',h'.get? b=some o')
  (tups:∀b xs,H b=some (.tup xs)->H' b=some (.tup xs)) (qg:∀b o u,H b=some (.DQ o u)->H' b=some (.DQ o u)) (qB:∀b ps,H b=some (.Mu ps)->∃more,H' b=some (.Mu (ps++more)))
  (ns:∀m,s.heap.Ns X.env.locals m->h'.Ns X.env.locals m) (hok:mF X.prog X.w H' h') (hg:AllBare g') (ht:X.s₀.toks<=t') :
  Inv X pins σ H' { s with heap:=h',gens:=g',drawn:=d',toks:=t' }:=by
 have W6:∀b o,X.s₀.heap.get? b=some o->b≠X.env.locals:=λb o e=>V_ (J_ (C_ e) I.ok.above);have SW:∀b o,X.s₀.heap.get? b=some o->b∉X.ex->b∉ch:=λb o e hx hb=>by
  rcases(hch b hb).1 with z|z
  ·exact hx z
  ·exact absurd (J_ (C_ e) z) (qav _)
 have cellK:∀x c,X.env.cells.lookup x=some c->∀v,s.heap.IsCell c v->h'.IsCell c v:=λx c e v ⟨o,ho,hd⟩=>by
  have MG:c∉ch:=λz=>(hch c z).2.2.1 x c e rfl;by_cases hc:c∈X.fs
  ·obtain⟨sl,q⟩:=slot c o (I.M3 x c e) hc MG ho (I.ir x c e);exact#[_,q,hd]
  ·exact#[o,keep c o (I.M3 x c e) hc MG ho (I.ir x c e),hd]
 refine#[I.ok,I.os,hg,#[λb o e n hb hx=>?_,λb o e n hb hx=>?_,λb o e n hx=>?_,λb o e hx=>?_,λb xs e=>tups b xs (I.base.tups b xs e),λb o xs e=>qg b o xs (I.base.qg b o xs e),λb ps e=>?_],?_,λx c e=>?_,?_,λx c e=>?_,λp hp=>?_,hok,I.len,ht]
 ·exact keep b o (W6 b o e) hb (SW b o e hx) (I.base.keep b o e n hb hx) (I.base.free b o e n hx)
 ·obtain⟨sl,e1⟩:=I.base.slot b o e n hb hx;obtain⟨GI,e2⟩:=slot b _ (W6 b o e) hb (SW b o e hx) e1 (I.base.free b o e n hx);exact#[GI,e2]
 ·obtain⟨o',e1⟩:=I.base.there b o e hx;exact free b o' (SW b o e hx) e1 (I.base.free b o e n hx)
 ·obtain⟨o',e1⟩:=I.base.there b o e hx;exact there b o' (SW b o e hx) e1
 ·obtain⟨m1,e1⟩:=I.base.qB b ps e;obtain⟨m2,e2⟩:=qB b _ e1;exact#[m1++m2,by rw[e2,Array.append_assoc]]
 ·obtain⟨m,hn,hl⟩:=I.loc;refine#[m,ns m hn,λi x v e1 e2 e3=>?_];obtain⟨u,r,l⟩:=hl i x v e1 e2 e3;refine#[u,r,?_];rcases l with l|⟨k,c,e,z⟩
  ·exact .inl l
  ·exact .inr #[k,c,e,cellK x c e _ z]
 ·obtain⟨v,z⟩:=I.cell x c e;exact#[v,cellK x c e v z]
 ·obtain⟨m,⟨o,_,_,ho,_⟩,_⟩:=I.loc;exact free _ o (λz=>(hch _ z).2.1 Y) ho I.free
 ·obtain⟨v,o,ho,hd⟩:=I.cell x c e;exact free c o (λz=>(hch c z).2.2.1 x c e Y) ho (I.ir x c e)
 ·obtain⟨e,n,ne,nf,d⟩:=I.pin p hp;have MG:p.1∉ch:=λz=>(hch p.1 z).2.2.2 p hp rfl;exact#[keep p.1 p.2 ne nf MG e n,free p.1 p.2 MG e n,ne,nf,d]
theorem Inv.un{t':Nat}(I:Inv X pins σ H s)(u:Un X.fs [] H H' s.heap h')(hok:mF X.prog X.w H' h')(ht:s.toks<=t':=by first|exact i_ _|exact qaA _|assumption|omega):Inv X pins σ H' { s with heap:=h',toks:=t' }:=by
 obtain⟨m,⟨o,es,ep,ho,r⟩,_⟩:=id I.loc;obtain⟨sl,hL⟩:=u.any ho I.free (by simp)
 exact I.step (g':=s.gens) (d':=s.drawn) (ch:=[]) (λ_ z=>nomatch z) (λb o _ hb _ e n=>u.keep b o e n hb (by simp)) (λb o _ hb _ e n=>u.slot b o e n hb (by simp)) (λb o _ e n=>u.free b o e n (by simp)) (λb o _ e=>u.there b o e (by simp)) u.tups u.qg u.qB (λm' hm=>by
  obtain⟨o',es',TL,ho',r'⟩:=hm;rw[ho]at ho';cases ho';exact#[_,es',TL,hL,r']) hok I.bare (gc I.up ht)
theorem Inv.call(I:Inv X pins σ H s)(u:Un (frs X.stack) ch H H' s.heap h')(hok:mF X.prog X.w H' h')(hg:AllBare g')
  (hch:∀b∈ch,(b∈X.ex\/X.s₀.heap.objs.size<=b)/\b≠X.env.locals/\(∀x c,X.env.cells.lookup x=some c->c≠b)/\∀p∈X.pn++pins,p.1≠b) (ht:X.s₀.toks<=t') :
  Inv X pins σ H' { s with heap:=h',gens:=g',drawn:=d',toks:=t' }:=by
 obtain⟨m,⟨o,es,ep,ho,r⟩,_⟩:=id I.loc;obtain⟨sl,hL⟩:=u.any ho I.free λz=>(hch _ z).2.1 rfl;exact I.step (ch:=ch) hch (λb o hL hb hc e n=>u.keep b o e n (λz=>(B_.mp (I.rF b z)).elim hL hb) hc) (λb o _ _ hc e n=>u.any e n hc) (λb o hc e n=>u.free b o e n hc) (λb o hc e=>u.there b o e hc) u.tups u.qg u.qB (λm' hm=>by
  obtain⟨o',es',TL,ho',r'⟩:=hm;rw[ho]at ho';cases ho';exact#[_,es',TL,hL,r']) hok hg ht
theorem Inv.turned{t':Nat}{it:l_}(I:Inv X pins σ H s)(k:∀b o,b≠it->s.heap.get? b=some o->h'.get? b=some o)(hn:H it=none)(hL:it≠X.env.locals)
  (h1:it∈X.ex\/X.s₀.heap.objs.size<=it) (h2:∀x c,X.env.cells.lookup x=some c->c≠it) (h3:∀p∈X.pn++pins,p.1≠it) (ht:s.toks<=t':=by first|exact i_ _|exact qaA _|assumption|omega):Inv X pins σ H { s with heap:=h',toks:=t' }:=by
 have W5:∀b u,H b=some u->b≠it:=λb u e z=>by rw[z,hn]at e;cases e
 refine I.step (g':=s.gens) (d':=s.drawn) (ch:=[it]) (λb hb=>?_) (λb o _ _ hc e _=>k b o (λz=>hc (by simp[z])) e) (λb o _ _ hc e _=>#[o.slots,k b o (λz=>hc (by simp[z])) e]) (λ_ _ _ _ n=>n)
  (λb o hc e=>#[o,k b o (λz=>hc (by simp[z])) e]) (λ_ _ e=>e) (λ_ _ _ e=>e) (λb ps e=>#[#[],by rw[e];simp]) (λm hm=>?_) (λb u e=>?_) I.bare (gc I.up ht)
 ·have e:b=it:=by simpa using hb
  subst e;exact#[h1,hL,h2,h3]
 ·obtain⟨o,es,ep,ho,r⟩:=hm;exact#[o,es,ep,k _ o (Ne.symm hL) ho,r]
 ·refine(I.hok b u e).stay (λc v hc q=>k c v ?_ q) (λ_ q=>q) λ_ _ q=>q;rcases hc with z|z
  ·rw[z];exact W5 b u e
  ·exact W5 c _ z
theorem Inv.tok(I:Inv X pins σ H s)(t':Nat)(ht:s.toks<=t':=by first|exact i_ _|exact qaA _|assumption|omega):Inv X pins σ H { s with toks:=t' }:=I.un (h':=s.heap) (t':=t') Un.refl I.hok ht
theorem Inv.kept{t':Nat}(I:Inv X pins σ H s)(k:∀b u,s.heap.get? b=some u->h'.get? b=some u)(ht:s.toks<=t':=by first|exact i_ _|exact qaA _|assumption|omega):Inv X pins σ H { s with heap:=h',toks:=t' }:=I.un (Un.kept k) (I.hok.kept k) ht
theorem Inv.laid{a:l_}{o:HO}{t':Nat}(I:Inv X pins σ H s)(k:∀b u,s.heap.get? b=some u->h'.get? b=some u)(hp:s.heap.objs.size<=a)(new:cE X.prog X.w (upd H a o) h' a o)(ht:s.toks<=t':=by first|exact i_ _|exact qaA _|assumption|omega):
  Inv X pins σ (upd H a o) { s with heap:=h',toks:=t' }:=I.un (Un.laid k hp (I.hok.fresh hp)) (I.hok.laid k hp new) ht
theorem Inv.write{x e:l_}{o:HO}{t':Nat}(I:Inv X pins σ H s)(mu:Sk (H x))(he:e=x\/H e=some (.own x))(k:∀b u,b≠e->s.heap.get? b=some u->h'.get? b=some u)(PV:∃u,h'.get? e=some u)
  (new:cE X.prog X.w (upd H x o) h' x o) (ht:s.toks<=t':=by first|exact i_ _|exact qaA _|assumption|omega):Inv X pins σ (upd H x o) { s with heap:=h',toks:=t' }:=I.un (Un.write mu he k PV) (I.hok.write mu he k PV new) ht
theorem Inv.weak(I:Inv X pins σ H s)(hl:σ'.length=σ.length)(w:∀(i:Nat) v,σ'[i]? =some (some v)->σ[i]? =some (some v)):Inv X pins σ' H s :=
 #[I.ok,I.os,I.bare,I.base,let ⟨m,hn,hl'⟩:=I.loc;#[m,hn,λi x v e1 e2 e3=>hl' i x v e1 (w i v e2) e3],I.cell,I.free,I.ir,I.pin,I.hok,hl.trans I.len,I.up]
theorem Inv.yM{MB:List (l_×qbW)}(I:Inv X pins σ H s)(h:∀p∈MB,s.heap.get? p.1=some p.2/\H p.1=none/\p.1≠X.env.locals/\p.1∉X.fs/\∀v,p.2.data≠ .cell v):Inv X MB σ H s :=
 #[I.ok,I.os,I.bare,I.base,I.loc,I.cell,I.free,I.ir,λp hp=>(S_.mp hp).elim (λz=>I.pin p (qbm _ z)) (h p),I.hok,I.len,I.up]
theorem vm{N:List w_}(hN:N.Nodup){i j:Nat}(a:N[i]? =some x)(b:N[j]? =some x):i=j:=by
 obtain⟨h1,e1⟩:=m_.mp a;obtain⟨h2,e2⟩:=m_.mp b;exact(List.getElem_inj hN).mp (e1.trans e2.symm)
theorem rE{M:Model}{A:qaP}{E:n_->v_->Prop}{i:Nat}{x:w_}{v:V}{u:n_}{Q:Unit->v_->Prop}(I:Inv X pins σ H s)(hN:X.N.Nodup)(hi:X.N[i]? =some x)(hx:Loc X.env.scope x)(r:RelV v u)
  (h:∀s',Inv X pins (σ.set i (some v)) H s'->(∃a,qbj a s.heap s'.heap/\(a=X.env.locals\/X.env.cells.lookup x=some a))->Q () s') (hf:X.fn x=true\/X.env.scope.names.lookup x=some .local:=by first|exact .inl rfl|exact .inr rfl|assumption):F_ M A (storeName X.env x u) Q E s:=by
 obtain⟨m,hn,hl⟩:=id I.loc;have hcls:(X.env.scope.kind== .class||(X.env.scope.kind== .module&&X.env.locals != X.env.globals))=false:=by rw[I.ok.kind];rfl
 have RG:i<σ.length:=by rw[I.len];exact(m_.mp hi).1
 have M3:=I.M3;have tracked:∀{a:l_} {h':qaE},(∃o,s.heap.get? a=some o/\H a=none)->qbj a s.heap h'->mF X.prog X.w H h':=λ{a h'} ha hs b ob e=>by
  obtain⟨_,_,hfree⟩:=ha;refine(I.hok b ob e).stay (λc w' hc q=>(hs.2 c ?_).trans q) (λ_ q=>q) λ_ _ q=>q;rintro rfl;rcases hc with rfl|hc
  ·rw[hfree]at e;cases e
  ·rw[hfree]at hc;cases hc
 rcases hx with hk|hk
 ·refine wpAny_storeName_local hk hn (λh' hn' hs=>?_) hcls;obtain⟨oL,_,_,Rx,_⟩:=id hn
  refine h _ #[I.ok,I.os,I.bare,#[λb o e n hb hx=>?_,λb o e n hb hx=>?_,I.base.free,λb o e hx=>?_,I.base.tups,I.base.qg,I.base.qB],#[_,hn',λj y v' e1 e2 e3=>?_],λy c e=>?_,I.free,I.ir,λp hp=>?_,tracked #[oL,Rx,I.free] hs,by simpa using I.len,gc I.up (by first|exact i_ _|exact qaA _|exact qan _ _)] #[_,hs,.inl Y]
  ·exact(hs.2 b (V_ (J_ (C_ e) I.ok.above))).trans (I.base.keep b o e n hb hx)
  ·obtain⟨sl,e1⟩:=I.base.slot b o e n hb hx;exact#[sl,(hs.2 b (V_ (J_ (C_ e) I.ok.above))).trans e1]
  ·obtain⟨o',e1⟩:=I.base.there b o e hx;exact#[o',(hs.2 b (V_ (J_ (C_ e) I.ok.above))).trans e1]
  ·by_cases hj:j=i
   ·subst hj;rw[hi]at e1;cases e1;rw[qb7 RG]at e2;cases e2;exact#[u,r,.inl #[hk,by simp]]
   ·rw[qcv (Ne.symm hj)]at e2;obtain⟨u',r',q⟩:=hl j y v' e1 e2 e3;refine#[u',r',?_];rcases q with⟨k,e⟩|⟨k,c,e,z⟩
    ·refine .inl #[k,?_];have:y≠x:=λe=>hj (vm hN e1 (e▸hi));simp[this,e]
    ·exact .inr #[k,c,e,z.sameBut hs (M3 y c e)]
  ·obtain⟨w',z⟩:=I.cell y c e;exact#[w',z.sameBut hs (M3 y c e)]
  ·obtain⟨e,n,ne,nf,d⟩:=I.pin p hp;exact#[(hs.2 p.1 ne).trans e,n,ne,nf,d]
 ·have hfn:X.fn x=true:=by
   rcases hf with z|z
   ·exact z
   ·rw[z]at hk;cases hk
  obtain⟨c,hc⟩:=I.ok.has x (.inl hk);obtain⟨w',z⟩:=I.cell x c hc;refine wpAny_storeName_cell I.ok.kind hk hc z (λh' hc' hs=>?_);obtain⟨oc,hoc,Vw⟩:=id z;refine h { s with heap:=h' } #[I.ok,I.os,I.bare,#[λb o e n hb hx=>?_,λb o e n hb hx=>?_,I.base.free,λb o e hx=>?_,I.base.tups,I.base.qg,I.base.qB],#[m,hn.sameBut hs (Ne.symm (M3 x c hc)),λj y v' e1 e2 e3=>?_],λy c' e=>?_,I.free,I.ir,λp hp=>?_,tracked #[oc,hoc,I.ir x c hc] hs,by simpa using I.len,I.up] #[c,hs,.inr hc]
  ·exact(hs.2 b (V_ (J_ (C_ e) (I.ok.Mh x c hfn hc)))).trans (I.base.keep b o e n hb hx)
  ·obtain⟨sl,e1⟩:=I.base.slot b o e n hb hx;exact#[sl,(hs.2 b (V_ (J_ (C_ e) (I.ok.Mh x c hfn hc)))).trans e1]
  ·obtain⟨o',e1⟩:=I.base.there b o e hx;exact#[o',(hs.2 b (V_ (J_ (C_ e) (I.ok.Mh x c hfn hc)))).trans e1]
  ·by_cases hj:j=i
   ·subst hj;rw[hi]at e1;cases e1;rw[qb7 RG]at e2;cases e2;exact#[u,r,.inr #[.inl hk,c,hc,hc']]
   ·rw[qcv (Ne.symm hj)]at e2;obtain⟨u',r',q⟩:=hl j y v' e1 e2 e3;refine#[u',r',?_];rcases q with q|⟨k,c',e,z'⟩
    ·exact .inl q
    ·refine .inr #[k,c',e,z'.sameBut hs ?_];rintro rfl;exact hj (vm hN e1 (I.ok.inj _ _ _ e hc▸hi))
  ·by_cases hcc:c'=c
   ·subst hcc;exact#[_,hc']
   ·obtain⟨w2,z2⟩:=I.cell y c' e;exact#[w2,z2.sameBut hs hcc]
  ·obtain⟨e,n,ne,nf,d⟩:=I.pin p hp;refine#[(hs.2 p.1 ?_).trans e,n,ne,nf,d];intro q;rw[q,hoc]at e;have q':oc=p.2:=Z_ e;exact d w' (by rw[←q'];exact Vw)
theorem uB{M:Model}{A:qaP}{E:n_->v_->Prop}{i:Nat}{x:w_}{v:V}{u:n_}{Q:Unit->v_->Prop}(I:Inv X pins σ H s)(hN:X.N.Nodup)(hi:X.N[i]? =some x)(hx:Loc X.env.scope x)(r:RelV v u)
  (h:∀s',Inv X pins (σ.set i (some v)) H s'->Q () s') (hf:X.fn x=true\/X.env.scope.names.lookup x=some .local:=by first|exact .inl rfl|exact .inr rfl|assumption):F_ M A (storeName X.env x u) Q E s :=
 rE I hN hi hx r (λs' I' _=>h s' I') hf
theorem Inv.M4(I:Inv X pins σ H s)(ho:s'.os=s.os)(u:Un (frs X.stack) ch H H' s.heap s'.heap)(hok:mF X.prog X.w H' s'.heap)(hg:AllBare s'.gens)
  (hch:∀b∈ch,(b∈X.ex\/X.s₀.heap.objs.size<=b)/\b≠X.env.locals/\(∀x c,X.env.cells.lookup x=some c->c≠b)/\∀p∈X.pn++pins,p.1≠b) (ht:X.s₀.toks<=s'.toks):Inv X pins σ H' s':=by
 obtain⟨h',g',d',t',o'⟩:=s';have e:o'=s.os:=ho;subst e;exact I.call (g':=g') (t':=t') (d':=d') u hok hg hch ht
end
abbrev XK:=n_->Option l_->Hp->Prop
noncomputable abbrev St:=List (Option V)
abbrev VK:=V->Hp->Prop
abbrev TE:=St->Hp->VK->Prop
abbrev TT:=St->Hp->(Bool->Hp->Prop)->Prop
abbrev TA:=St->Hp->(List V->Hp->Prop)->Prop
structure Ends where
 nx:St->Hp->Prop
 rt:VK
 bk:St->Hp->Prop:=λ_ _=>False
 ct:St->Hp->Prop:=λ_ _=>False
abbrev TS:=Ends->St->Hp->Prop
def EP(X:Cx)(pins:List (l_×qbW))(σ:St)(Q:VK)(u:n_)(s':v_):Prop:=bU λv H'=>Inv X pins σ H' s'/\RelV v u/\Q v H'
def TP(X:Cx)(pins:List (l_×qbW))(σ:St)(Q:Bool->Hp->Prop)(b:Bool)(s':v_):Prop:=∃H',Inv X pins σ H' s'/\Q b H'
def AP(X:Cx)(pins:List (l_×qbW))(σ:St)(Q:List V->Hp->Prop)(us:List n_)(s':v_):Prop:=bU λvs H'=>Inv X pins σ H' s'/\Vals vs us/\Q vs H'
def SP(X:Cx)(pins:List (l_×qbW))(D:Ends)(f:Flow)(s':v_):Prop :=
 match f with
 | .next=>bU λσ' H'=>Inv X pins σ' H' s'/\D.nx σ' H'
 | .brk=>bU λσ' H'=>Inv X pins σ' H' s'/\D.bk σ' H'
 | .cont=>bU λσ' H'=>Inv X pins σ' H' s'/\D.ct σ' H'
 | .ret u=>iG λv σ' H'=>Inv X pins σ' H' s'/\RelV v u/\D.rt v H'
def PE(X:Cx)(e:Expr)(t:TE):Prop :=
 ∀(pins:List (l_×qbW)) (s:v_) (σ:St) (H:Hp) (Q:VK),Inv X pins σ H s->t σ H Q->F_ (model X.prog X.w) X.A (eval e X.env) (EP X pins σ Q) X.xe s
def PT(X:Cx)(e:Expr)(t:TT):Prop :=
 ∀(pins:List (l_×qbW)) (s:v_) (σ:St) (H:Hp) (Q:Bool->Hp->Prop),Inv X pins σ H s->t σ H Q->F_ (model X.prog X.w) X.A (isTrue e X.env (eval e X.env)) (TP X pins σ Q) X.xe s
def PW(X:Cx)(e:Expr)(t:TT):Prop :=
 ∀(whole:Sem n_) (pins:List (l_×qbW)) (s:v_) (σ:St) (H:Hp) (Q:Bool->Hp->Prop),Inv X pins σ H s->t σ H Q->F_ (model X.prog X.w) X.A (isTrue e X.env whole) (TP X pins σ Q) X.xe s
theorem PW.pt(h:PW X e t):PT X e t:=h _
def PA(X:Cx)(es:List Expr)(t:TA):Prop :=
 ∀(pos:qc5) (pins:List (l_×qbW)) (s:v_) (σ:St) (H:Hp) (Q:List V->Hp->Prop),Inv X pins σ H s->t σ H Q->F_ (model X.prog X.w) X.A (spliced (backTo pos (qaa es X.env))) (AP X pins σ Q) X.xe s
def PS(X:Cx)(st:qcU)(t:TS):Prop :=
 ∀(pins:List (l_×qbW)) (s:v_) (σ:St) (H:Hp) (D:Ends),Inv X pins σ H s->t D σ H->F_ (model X.prog X.w) X.A (exec st X.env) (SP X pins D) X.xe s
def xh(X:Cx)(st:List qcU)(t:TS):Prop :=
 ∀(pins:List (l_×qbW)) (s:v_) (σ:St) (H:Hp) (D:Ends),Inv X pins σ H s->t D σ H->F_ (model X.prog X.w) X.A (execs st X.env) (SP X pins D) X.xe s
theorem dm{Q Q':α->v_->Prop}(h:F_ M A t Q E s)(hQ:∀a s,Q a s->Q' a s):F_ M A t Q' E s:=qaC h hQ λ_ _ x=>x
end
section
section
variable{X:Cx}
def Qi(i:Nat):TE:=λσ H Q=>∃v,σ[i]? =some (some v)/\Q v H
def tC(v:V):TE:=λ_ H Q=>Q v H
theorem Ob{i:Nat}{x:w_}{pos:qc5}(hN:X.N[i]? =some x)(hv:TR X.env.scope x)(hd:(x==("__debug__" :w_))=false:=by decide)(hcd:(x==("__classdict__" :w_))=false:=by decide):PE X (.Name x pos) (Qi i):=by
 intro pins s σ H Q I h;obtain⟨v,e,h⟩:=h;obtain⟨m,hn,hl⟩:=I.loc;obtain⟨u,r,l⟩:=hl i x v hN e hv;have fin:EP X pins σ Q u s:=#[v,H,I,r,h];rcases l with⟨hk,hm⟩|⟨hk,c,hc,hcell⟩
 ·exact wpAny_Name (wpAny_loadName_local I.ok.kind hk hn hm fin) hd
 ·rcases hk with hk|hk
  ·exact wpAny_Name (wpAny_loadName_cell I.ok.kind hk hc hcell fin) hd
  ·exact wpAny_Name (wpAny_loadName_free I.ok.kind hk hc hcell fin hcd) hd
theorem aq:PE X (.Constant (.int i) j pos) (tC (.int i)):=λ_ _ _ H _ I h=>wpAny_Constant_int #[.int i,H,I.tok _,#[_,rfl],h]
theorem iF:PE X (.Constant (.bool b) j pos) (tC (.bl b)):=λ_ _ _ H _ I h=>Constant_bool #[.bl b,H,I,rfl,h]
theorem k9:PE X (.Constant .none j pos) (tC .dX):=λ_ _ _ H _ I h=>Constant_none #[.dX,H,I,rfl,h]
theorem bE:PE X (.Constant (.str x) j pos) (tC (.str x)):=λ_ _ _ H _ I h=>Calls.Constant_str #[.str x,H,I.tok _,#[_,rfl],h]
def Gl(X:Cx)(x:w_):Prop:=X.env.kindOf x=some .globalImplicit
theorem jC{E:n_->v_->Prop}{pins:List (l_×qbW)}{s:v_}{σ:St}{H:Hp}{x:w_}{u:n_}{pos:qc5}{Q:n_->v_->Prop}(I:Inv X pins σ H s)(hg:Gl X x)(hm:X.mg x=some u)(h:Q u s)
  (hd:(x==("__debug__" :w_))=false:=by decide):F_ (model X.prog X.w) X.A (eval (.Name x pos) X.env) Q E s :=
 Calls.Name_function_global I.ok.kind hg (Calls.loadGlobal_global (by rw[I.ok.glob];exact I.mod.glob.keeps I.bk) hm h) hd
theorem kr{E:n_->v_->Prop}{pins:List (l_×qbW)}{s:v_}{σ:St}{H:Hp}{x:w_}{u:n_}{pos:qc5}{Q:n_->v_->Prop}(I:Inv X pins σ H s)(hg:Gl X x)(hm:X.mg x=none)(hv:bootBuiltins x=some u)(h:Q u s)
  (hn:x≠ "__name__" :=by decide) (hd:(x==("__debug__" :w_))=false:=by decide):F_ (model X.prog X.w) X.A (eval (.Name x pos) X.env) Q E s:=by
 obtain⟨mb,h1,h2⟩:=I.mod.blt;exact Calls.Name_function_global I.ok.kind hg (Calls.loadGlobal_builtin (by rw[I.ok.glob];exact I.mod.glob.keeps I.bk) hm (by rw[I.ok.blt];exact h1.keeps I.bk) ((h2 x hn).trans hv) h) hd
theorem bS{x:w_}{v:V}{u:n_}{pos:qc5}(hg:Gl X x)(hm:X.mg x=some u)(r:RelV v u)(hd:(x==("__debug__" :w_))=false:=by decide):PE X (.Name x pos) (tC v) :=
 λ_ _ _ H _ I h=>jC I hg hm #[v,H,I,r,h] hd
theorem ua{x:w_}{v:V}{u:n_}{pos:qc5}(hg:Gl X x)(hm:X.mg x=none)(hv:bootBuiltins x=some u)(r:RelV v u)(hn:x≠ "__name__" :=by decide)(hd:(x==("__debug__" :w_))=false:=by decide):PE X (.Name x pos) (tC v) :=
 λ_ _ _ H _ I h=>kr I hg hm hv #[v,H,I,r,h] hn hd
variable{a b:Expr}{ta tb:TE}{pos:qc5}
def tB(t:TE):TT:=λσ H Q=>t σ H λx H1=>∃c,x= .bl c/\Q c H1
theorem fh{e:Expr}{t:TE}(h:PE X e t)(he:∀whole,isTrue e X.env whole=(do let v ←whole;standAt e.pos;holding [v] (truthy v)):=by intro _;rfl):PT X e (tB t):=by
 intro pins s σ H Q I hw;refine isTrue_plain (dm (h pins s σ H _ I hw) λv s1 ⟨x,H1,I1,r1,q1⟩=>?_) (he _);obtain⟨d,rfl,q⟩:=q1;cases r1;exact qa2 #[H1,I1,q]
variable{tA SJ:TT}{rest:List Expr}
def Uq(t u:TT):TT:=λσ H Q=>t σ H λc H1=>if c=true then u σ H1 Q else Q false H1
def Yp(t u:TT):TT:=λσ H Q=>t σ H λc H1=>if c=true then Q true H1 else u σ H1 Q
def Uh(t:TT):TT:=λσ H Q=>t σ H λc H1=>Q (!c) H1
theorem yL(ha:PT X a tA):PW X (.BoolOp .And [a] pos) tA:=by
 intro wh pins s σ H Q I h;refine isTrue_and (dm (ha pins s σ H Q I h) λc s1 e=>?_)
 cases c with
 |true=>exact isTrue_and_nil e
 |false=>exact e
theorem uR(ha:PT X a tA):PW X (.BoolOp .Or [a] pos) tA:=by
 intro wh pins s σ H Q I h;refine isTrue_or (dm (ha pins s σ H Q I h) λc s1 e=>?_)
 cases c with
 |false=>exact isTrue_or_nil e
 |true=>exact e
theorem C8(ha:PT X a tA)(hb:PW X (.BoolOp .And (b::rest) pos) SJ):PW X (.BoolOp .And (a::b::rest) pos) (Uq tA SJ):=by
 intro wh pins s σ H Q I h;refine isTrue_and (dm (ha pins s σ H _ I h) λc s1 ⟨H1,I1,q1⟩=>?_)
 cases c with
 |true=>exact hb wh pins s1 σ H1 Q I1 q1
 |false=>exact#[H1,I1,q1]
theorem A0(ha:PT X a tA)(hb:PW X (.BoolOp .Or (b::rest) pos) SJ):PW X (.BoolOp .Or (a::b::rest) pos) (Yp tA SJ):=by
 intro wh pins s σ H Q I h;refine isTrue_or (dm (ha pins s σ H _ I h) λc s1 ⟨H1,I1,q1⟩=>?_)
 cases c with
 |true=>exact#[H1,I1,q1]
 |false=>exact hb wh pins s1 σ H1 Q I1 q1
theorem jo(ha:PT X a tA):PT X (.UnaryOp .Not a pos) (Uh tA):=by
 intro pins s σ H Q I h;exact isTrue_not (ha pins s σ H (λc H1=>Q (!c) H1) I h)
def Qt(ta tb:TE):TE:=λσ H Q=>ta σ H λx H1=>∃c,x= .bl c/\if c=true then tb σ H1 Q else Q (.bl false) H1
def Ug(ta tb:TE):TE:=λσ H Q=>ta σ H λx H1=>∃c,x= .bl c/\if c=true then Q (.bl true) H1 else tb σ H1 Q
def Qk(ta:TE):TE:=λσ H Q=>ta σ H λx H1=>∃c,x= .bl c/\Q (.bl (!c)) H1
theorem rO(h:PE X a t):PE X (.BoolOp op [a] pos) t:=λpins s σ H Q I hw=>BoolOp_one (h pins s σ H Q I hw)
theorem uT(ha:PE X a ta)(hb:PE X (.BoolOp .And (b::rest) pos) tb):PE X (.BoolOp .And (a::b::rest) pos) (Qt ta tb):=by
 intro pins s σ H Q I h;refine BoolOp_and (dm (ha pins s σ H _ I h) λv s1 ⟨x,H1,I1,r1,q1⟩=>?_);obtain⟨c,rfl,q1⟩:=q1;cases r1;refine qa2 ?_
 cases c with
 |true=>exact hb pins s1 σ H1 Q I1 q1
 |false=>exact#[.bl false,H1,I1,Y,q1]
theorem QS(ha:PE X a ta)(hb:PE X (.BoolOp .Or (b::rest) pos) tb):PE X (.BoolOp .Or (a::b::rest) pos) (Ug ta tb):=by
 intro pins s σ H Q I h;refine BoolOp_or (dm (ha pins s σ H _ I h) λv s1 ⟨x,H1,I1,r1,q1⟩=>?_);obtain⟨c,rfl,q1⟩:=q1;cases r1;refine qa2 ?_
 cases c with
 |false=>exact hb pins s1 σ H1 Q I1 q1
 |true=>exact#[.bl true,H1,I1,Y,q1]
theorem Oc(ha:PE X a ta):PE X (.UnaryOp .Not a pos) (Qk ta):=by
 intro pins s σ H Q I h;refine UnaryOp_ (dm (ha pins s σ H _ I h) λv s1 ⟨x,H1,I1,r1,q1⟩=>?_);obtain⟨c,rfl,q1⟩:=q1;cases r1;exact not_of (qa2 #[.bl (!c),H1,I1,Y,q1])
def Yq(t:TT)(ta tb:TE):TE:=λσ H Q=>t σ H λc H1=>if c=true then ta σ H1 Q else tb σ H1 Q
theorem ia(hc:PT X c tA)(ha:PE X a ta)(hb:PE X b tb):PE X (.IfExp c a b pos) (Yq tA ta tb):=by
 intro pins s σ H Q I h;refine wpAny_IfExp (dm (hc pins s σ H _ I h) λd s1 ⟨H1,I1,q1⟩=>?_)
 cases d with
 |true=>exact ha pins s1 σ H1 Q I1 q1
 |false=>exact hb pins s1 σ H1 Q I1 q1
end
end
section
def bq(K:zaa)(H:Hp)(a:l_)(xs:List V):Prop :=
 Rd H a (.lst xs) ∨
  iG λ(o:qbW) (its:Array n_) (n:Nat)=>K.lookup a=some o/\o.cls= .type "list" /\o.dict=none/\o.data= .seq its n/\its.size<=A_/\Vals xs its.toList
def bV(K:zaa)(H:Hp)(a:l_)(xs:List V):Prop :=
 Rd H a (.tup xs) ∨
  iG λ(o:qbW) (its:Array n_) (n:Nat)=>K.lookup a=some o/\o.cls= .type "tuple" /\o.data= .seq its n/\its.size<=A_/\Vals xs its.toList
noncomputable def Wt:n_->Option V
 | .none=>some .dX
 | .bool b=>some (.bl b)
 | .int i _=>some (.int i)
 | .str x _=>some (.str x)
 | .bytes b _=>some (.E8 b)
 | .float b _=>some (.O2 b)
 | .ref a=>some (.ref a)
 | .type n=>some (.ty n)
 |_=>none
theorem RelV.abs(r:RelV x u):Wt u=some x:=by
 cases x with
 |dX=>cases r;rfl
 |bl _=>cases r;rfl
 |int _=>obtain⟨t,rfl⟩:=r;rfl
 |str _=>obtain⟨t,rfl⟩:=r;rfl
 |E8 _=>obtain⟨t,rfl⟩:=r;rfl
 |O2 _=>obtain⟨t,rfl⟩:=r;rfl
 |ref _=>cases r;rfl
 |ty _=>cases r;rfl
theorem RelV.inj(r:RelV x u)(q:RelV y u):x=y:=Z_ (r.abs.symm.trans q.abs)
theorem Vals.inj:∀{xs ys:List V} {us:List n_},Vals xs us->Vals ys us->xs=ys
 |_,_,_,.nil,.nil=>rfl
 |_,_,_,.cons r t,.cons r' t'=>by rw[r.inj r',Vals.inj t t']
section
variable{X:Cx}{pins:List (l_×qbW)}{σ:St}{H:Hp}{s:v_}{a:l_}{xs ys:List V}
theorem bq.of {K:zaa}(h:H a=some (.lst xs)):bq K H a xs:=.inl (.inl h)
theorem bV.of {K:zaa}(h:H a=some (.tup xs)):bV K H a xs:=.inl (.inl h)
theorem Inv.list(I:Inv X pins σ H s)(h:bq X.K H a xs):∃its:List n_,Vals xs its/\PlainL s.heap a its.toArray/\xs.length<=A_:=by
 rcases h with h|⟨o,its,n,hk,hc,hd,hs,hz,r⟩
 ·obtain⟨z,its,n,r,e⟩:=h.ok I.hok;exact#[its,r,#[_,n,e,Y,Y,Y],z]
 ·refine#[its.toList,r,#[o,n,I.nu a o hk,hc,hd,by simpa using hs],?_];have e:=r.length;simp only[k_]at e;omega
theorem Inv.tuple(I:Inv X pins σ H s)(h:bV X.K H a xs):∃its:List n_,Vals xs its/\IsTup s.heap a its.toArray/\xs.length<=A_:=by
 rcases h with h|⟨o,its,n,hk,hc,hs,hz,r⟩
 ·obtain⟨z,its,r,p⟩:=h.ok I.hok;exact#[its,r,p,z]
 ·refine#[its.toList,r,#[o,I.nu a o hk,hc,n,by simpa using hs],?_];have e:=r.length;simp only[k_]at e;omega
theorem Inv.vz(I:Inv X pins σ H s)(h:bq X.K H a xs)(h':bq X.K H a ys):xs=ys:=by
 obtain⟨its,r,⟨o,n,e,_,_,d⟩,_⟩:=I.list h;obtain⟨its',r',⟨o',n',e',_,_,d'⟩,_⟩:=I.list h';rw[e]at e';cases e';rw[d]at d';injection d' with d1 _;have:its=its':=by simpa using congrArg Array.toList d1
 subst this;exact r.inj r'
theorem Inv.xD(I:Inv X pins σ H s)(h:bV X.K H a xs)(h':bV X.K H a ys):xs=ys:=by
 obtain⟨its,r,⟨o,e,_,n,d⟩,_⟩:=I.tuple h;obtain⟨its',r',⟨o',e',_,n',d'⟩,_⟩:=I.tuple h';rw[e]at e';cases e';rw[d]at d';injection d' with d1 _;have:its=its':=by simpa using congrArg Array.toList d1
 subst this;exact r.inj r'
end
noncomputable abbrev Cx.vZ(X:Cx)(E:n_->v_->Prop):Cx:={ X with xe:=E }
noncomputable abbrev Cx.Pz(X:Cx):Cx:=X.vZ λ_ _=>False
theorem Cx.Ok.vZ{X:Cx}(ok:X.Ok)(E:n_->v_->Prop):(X.vZ E).Ok :=
 #[ok.mod,ok.kind,ok.glob,ok.blt,ok.above,ok.inj,ok.has,ok.Mh,ok.hd,ok.frames,ok.stk,ok.Tz,ok.bs,ok.Jv,ok.Du,ok.Gn,ok.qf,ok.LU,ok.tk]
theorem Cx.Ok.nN{X:Cx}(ok:(X.vZ E).Ok):X.Ok :=
 #[ok.mod,ok.kind,ok.glob,ok.blt,ok.above,ok.inj,ok.has,ok.Mh,ok.hd,ok.frames,ok.stk,ok.Tz,ok.bs,ok.Jv,ok.Du,ok.Gn,ok.qf,ok.LU,ok.tk]
section
variable{X:Cx}{pins:List (l_×qbW)}{σ:St}{H:Hp}{s:v_}{E:n_->v_->Prop}
theorem Inv.vZ(I:Inv X pins σ H s)(E:n_->v_->Prop):Inv (X.vZ E) pins σ H s:=#[I.ok.vZ E,I.os,I.bare,I.base,I.loc,I.cell,I.free,I.ir,I.pin,I.hok,I.len,I.up]
theorem Inv.nN(I:Inv (X.vZ E) pins σ H s):Inv X pins σ H s:=#[I.ok.nN,I.os,I.bare,I.base,I.loc,I.cell,I.free,I.ir,I.pin,I.hok,I.len,I.up]
theorem SP.nN(h:SP (X.vZ E) pins D f s'):SP X pins D f s':=by
 cases f with
 |next=>obtain⟨σ',H',I,q⟩:=h;exact#[σ',H',I.nN,q]
 |brk=>obtain⟨σ',H',I,q⟩:=h;exact#[σ',H',I.nN,q]
 |cont=>obtain⟨σ',H',I,q⟩:=h;exact#[σ',H',I.nN,q]
 |ret u=>obtain⟨v,σ',H',I,r,q⟩:=h;exact#[v,σ',H',I.nN,r,q]
theorem xh.Pz{st:List qcU}(h:xh X.Pz st t):xh X st t:=λpins s σ H D I hw =>
 qaC (h pins s σ H D (I.vZ _) hw) (λ_ _ q=>q.nN) λ_ _ z=>qaI z
end
section
variable{X:Cx}{st:qcU}{rest:List qcU}{t u:TS}{e:Expr}{te:TE}{pos:qc5}
def Ql:TS:=λD σ H=>D.nx σ H
def Ud(t u:TS):TS:=λD σ H=>t { D with nx:=u D } σ H
theorem aP:xh X [] Ql:=λ_ _ σ H _ I h=>qcM #[σ,H,I,h]
theorem ak(h1:PS X st t)(h2:xh X rest u):xh X (st::rest) (Ud t u):=by
 intro pins s σ H D I h;refine wpAny_execs_cons (dm (h1 pins s σ H { D with nx:=u D } I h) λf s1 q=>?_)
 cases f with
 |next =>
  obtain⟨σ',H',I',q⟩:=q;exact h2 pins s1 σ' H' D I' q
 |ret v=>exact q
 |brk=>exact q
 |cont=>exact q
theorem ao(h1:PS X st t):xh X [st] t:=by
 intro pins s σ H D I h;refine wpAny_execs_cons (dm (h1 pins s σ H D I h) λf s1 q=>?_)
 cases f with
 |next=>exact qcM q
 |ret v=>exact q
 |brk=>exact q
 |cont=>exact q
def Nv:TS:=λD σ H=>D.bk σ H
theorem Ic:PS X (.Break pos) Nv:=λ_ _ σ H _ I h=>wpAny_Break #[σ,H,I,h]
theorem Inv.quiet{σ:St}(I:Inv X pins σ H s):interactive X.env=false:=by simp[interactive,I.ok.kind]
def Qo(te:TE):TS:=λD σ H=>te σ H λ_ H1=>D.nx σ H1
theorem bD(he:PE X e te)(hs:swapsWith e none pos.line X.env=pure false:=by rfl):PS X (.Expr e pos) (Qo te):=by
 intro pins s σ H D I h;exact wpAny_Expr_any (dm (he pins s σ H _ I h) λv s1 ⟨x,H1,I1,r1,q1⟩=>#[σ,H1,I1,q1]) I.quiet hs
def Ue(te:TE):TS:=λD σ H=>te σ H D.rt
theorem aE(he:PE X e te):PS X (.Return (some e) pos) (Ue te):=by
 intro pins s σ H D I h;exact wpAny_Return_some (dm (he pins s σ H _ I h) λv s1 ⟨x,H1,I1,r1,q1⟩=>#[x,σ,H1,I1,r1,q1])
def Ul(c:TT)(t u:TS):TS:=λD σ H=>c σ H λb H1=>if b=true then t D σ H1 else u D σ H1
theorem bC(hc:PT X c tc)(ha:xh X a t)(hb:xh X b u):PS X (.If c a b pos) (Ul tc t u):=by
 intro pins s σ H D I h;refine wpAny_If (dm (hc pins s σ H _ I h) λd s1 ⟨H1,I1,q1⟩=>?_)
 cases d with
 |true=>exact ha pins s1 σ H1 D I1 q1
 |false=>exact hb pins s1 σ H1 D I1 q1
def Nq:TS:=λ_ _ _=>False
theorem bO:xh X sts Nq:=λ_ _ _ _ _ _ h=>h.elim
end
abbrev TG:=V->St->Hp->(St->Hp->Prop)->Prop
abbrev M7:=List V->St->Hp->(St->Hp->Prop)->Prop
def PG(X:Cx)(target:Expr)(t:TG):Prop :=
 ∀(pins:List (l_×qbW)) (s:v_) (σ:St) (H:Hp) (v:V) (u:n_) (Q:St->Hp->Prop),Inv X pins σ H s->RelV v u->t v σ H Q →
  F_ (model X.prog X.w) X.A (assign target X.env u) (λ_ s'=>bU λσ' H'=>Inv X pins σ' H' s'/\Q σ' H') X.xe s
def Si(X:Cx)(ts:List Expr)(t:M7):Prop :=
 ∀(pins:List (l_×qbW)) (s:v_) (σ:St) (H:Hp) (vs:List V) (us:List n_) (Q:St->Hp->Prop),Inv X pins σ H s->Vals vs us->t vs σ H Q →
  F_ (model X.prog X.w) X.A (assignInOrder ((assignEach ts X.env).map (·.2)) us) (λ_ s'=>bU λσ' H'=>Inv X pins σ' H' s'/\Q σ' H') X.xe s
abbrev Pg:=V->V->V->Hp->(Hp->Prop)->Prop
def Sh(X:Cx)(t:Pg):Prop :=
 ∀(pins:List (l_×qbW)) (s:v_) (σ:St) (H:Hp) (o i v:V) (ov iv u:n_) (Q:Hp->Prop),Inv X pins σ H s->RelV o ov->RelV i iv->RelV v u->t o i v H Q →
  F_ (model X.prog X.w) X.A (setItem ov iv u) (λ_ s'=>∃H',Inv X pins σ H' s'/\Q H') X.xe s
section
variable{X:Cx}{pos:qc5}
def BI(i:Nat):TG:=λv σ H Q=>Q (σ.set i (some v)) H
theorem aY{i:Nat}{x:w_}(hN:X.N.Nodup)(hi:X.N[i]? =some x)(hx:Loc X.env.scope x)(hf:X.fn x=true\/X.env.scope.names.lookup x=some .local:=by first|exact .inl rfl|exact .inr rfl|assumption):PG X (.Name x pos) (BI i):=by
 intro pins s σ H v u Q I r h;exact wpAny_assign_Name (uB I hN hi hx r (λs' I'=>#[_,H,I',h]) hf)
def Wa:M7:=λvs σ H Q=>vs=[]/\Q σ H
def RW(t:TG)(u:M7):M7:=λvs σ H Q=>bU λv r=>vs=v::r/\t v σ H λσ' H'=>u r σ' H' Q
theorem gK:Si X [] Wa:=by
 intro pins s σ H vs us Q I r h;obtain⟨e,h⟩:=h;subst e;cases r;exact assignInOrder_nil #[σ,H,I,h]
theorem bQ{e:Expr}{es:List Expr}{t:TG}{u:M7}(h1:PG X e t)(h2:Si X es u)
  (hs:(assignEach (e::es) X.env).map (·.2)=assign e X.env::(assignEach es X.env).map (·.2):=by rfl):Si X (e::es) (RW t u):=by
 intro pins s σ H vs us Q I r h;obtain⟨v,vr,e1,h⟩:=h;subst e1
 cases r with
 |cons r rr =>
  rw[hs];refine assignInOrder_cons (dm (h1 pins s σ H _ _ _ I r h) λ_ s1 ⟨σ1,H1,I1,q1⟩=>?_);exact h2 pins s1 σ1 H1 _ _ Q I1 rr q1
def RV(K:zaa)(n:Nat)(t:M7):TG:=λv σ H Q=>bU λa xs=>v= .ref a/\bV K H a xs/\xs.length=n/\t xs σ H Q
theorem kc{es:List Expr}{k:Nat}{t:M7}{n:Nat}(hc:X.calm=true)(h:Si X es t)
  (hn:(assignEach es X.env).length=n:=by rfl) (hst:(assignEach es X.env).findIdx? (·.1)=none:=by rfl):PG X (.Tuple es k pos) (RV X.K n t):=by
 intro pins s σ H v u Q I r hw;obtain⟨a,xs,e1,hq,hl,hw⟩:=hw;subst e1;cases r;obtain⟨its,rv,ht,hz⟩:=I.tuple hq;refine assign_Tuple_tuple (I.ok.hd hc) ht (by simp[hn,←hl,rv.length]) hst λh' hx=>?_;have I1:Inv X pins σ H { s with heap:=h' }:=I.kept (t':=s.toks) λb o e=>hx b o (V_ (C_ e)) e;exact h pins _ σ H xs _ Q I1 (by simpa using rv) hw
def V9(to ti:TE)(t:Pg):TG:=λv σ H Q=>to σ H λo H1=>ti σ H1 λi H2=>t o i v H2 λH3=>Q σ H3
theorem yO{o i:Expr}{to ti:TE}{t:Pg}(ho:PE X o to)(hi:PE X i ti)(hs:Sh X t)
  (ha:∀v,assign (.Subscript o i pos) X.env v=(do
   let ov ←holding [v] (eval o X.env)
   let iv ←holding [v,ov] (eval i X.env)
   standAt pos
   holding [v,ov,iv] (setItem ov iv v)
   release [v,ov,iv] []):=by intro _;rfl):PG X (.Subscript o i pos) (V9 to ti t):=by
 intro pins s σ H v u Q I r h;rw[ha];refine f_ (qaw (dm (ho pins s σ H _ I h) λov s1 ⟨x,H1,I1,r1,q1⟩=>?_));refine f_ (qaw (dm (hi pins s1 σ H1 _ I1 q1) λiv s2 ⟨y,H2,I2,r2,q2⟩=>?_));refine f_ (qcJ (f_ (qaw (dm (hs pins s2 σ H2 x y v ov iv u _ I2 r1 r2 r q2) λ_ s3 ⟨H3,I3,q3⟩=>?_))));exact wpAny_release #[σ,H3,I3,q3]
def Kl(te:TE)(g:TG):TS:=λD σ H=>te σ H λx H1=>g x σ H1 D.nx
theorem rM{tg e:Expr}{te:TE}{g:TG}(he:PE X e te)(hg:PG X tg g)(hs:swapsWithSole [tg] e pos.line X.env=pure false:=by rfl)(hw:swappedStores [tg] e X.env=pure none:=by rfl)
  (h1:(assignEach [tg] X.env).map (·.2)=[assign tg X.env]:=by rfl):PS X (.Assign [tg] e pos) (Kl te g):=by
 intro pins s σ H D I h;refine wpAny_Assign_stores (dm (he pins s σ H _ I h) λv s1 ⟨x,H1,I1,r1,q1⟩=>?_) hs hw;rw[h1];exact dm (hg pins s1 σ H1 x v _ I1 r1 q1) λ_ s2 q=>q
theorem az{i:Nat}{x:w_}{e:Expr}{te:TE}{pos':qc5}(hN:X.N.Nodup)(hi:X.N[i]? =some x)(hx:Loc X.env.scope x)(he:PE X e te)(hs:swapsWith e (some (.Name x pos')) pos.line X.env=pure false:=by rfl)(hf:X.fn x=true\/X.env.scope.names.lookup x=some .local:=by first|exact .inl rfl|exact .inr rfl|assumption):
  PS X (.Assign [.Name x pos'] e pos) (Kl te (BI i)):=by
 intro pins s σ H D I h;refine wpAny_Assign_Name (dm (he pins s σ H _ I h) λv s1 ⟨y,H1,I1,r1,q1⟩=>?_) hs;exact uB I1 hN hi hx r1 (λs2 I2=>#[_,H1,I2,q1]) hf
end
section
variable{X:Cx}{pos:qc5}
def Nn(c:TT)(tb:TS):TS:=λD σ H=>∃W:Nat->St->Hp->Prop,(∃m,W m σ H)/\∀m σ H,W m σ H →
 c σ H λb H1=>if b=true then ∃N:St->Hp->Prop,(∀ σ' H',N σ' H'->∃m',m'<m/\W m' σ' H')/\tb { D with nx:=N,ct:=N,bk:=D.nx } σ H1 else D.nx σ H1
theorem nU(hp:PassesOwn (model X.prog X.w) X.A X.env X.xe)(hc:PT X c tc)(hb:xh X body tb):PS X (.While c body [] pos) (Nn tc tb):=by
 intro pins s σ H D I h;obtain⟨W,⟨m0,w0⟩,turn⟩:=h;refine wpAny_While (codeAny_whileLoop (λn s'=>bU λσ' H'=>Inv X pins σ' H' s'/\W n σ' H') ?_ m0 #[σ,H,I,w0]);rintro n s1 ⟨σ1,H1,I1,w1⟩;refine qbI hp (dm (hc pins s1 σ1 H1 _ I1 (turn n σ1 H1 w1)) λb s2 ⟨H2,I2,q2⟩=>?_)
 cases b with
 |true =>
  obtain⟨N,hN,q2⟩:=q2;rw[if_pos rfl];refine qbI hp (dm (hb pins s2 σ1 H2 _ I2 q2) λf s3 q3=>?_)
  cases f with
  |next =>
   obtain⟨σ3,H3,I3,n3⟩:=q3;obtain⟨m',hm,w3⟩:=hN σ3 H3 n3;exact#[m',hm,σ3,H3,I3,w3]
  |cont =>
   obtain⟨σ3,H3,I3,n3⟩:=q3;obtain⟨m',hm,w3⟩:=hN σ3 H3 n3;exact#[m',hm,σ3,H3,I3,w3]
  |brk=>exact q3
  |ret v=>exact q3
 |false =>
  rw[if_neg K_];exact qcM #[σ1,H2,I2,q2]
end
structure It where
 go:Nat->Hp->Prop
 Ai:Nat->Hp->V->Hp->Prop
 stop:Nat->Hp->Prop
def oQ(X:Cx)(pins:List (l_×qbW))(H:Hp)(b:l_):Prop :=
 H b=none/\b≠X.env.locals/\b∉X.fs/\(b∈X.ex\/X.s₀.heap.objs.size<=b)/\(∀x c,X.env.cells.lookup x=some c->c≠b)/\∀p∈X.pn++pins,p.1≠b
theorem Inv.sG{σ:St}{b:l_}(I:Inv X pins σ H s)(hb:s.heap.objs.size<=b)(hn:H' b=none):oQ X pins H' b:=by
 refine#[hn,qaU (J_ I.lt hb),I.UQ hb,.inr (gc I.sz hb),λx c e z=>?_,λp hp z=>?_]
 ·obtain⟨v,q⟩:=I.cell x c e;exact absurd (J_ q.lt (by rw[z];exact hb)) (qav _)
 ·exact absurd (J_ (C_ (I.pin p hp).1) (by rw[z];exact hb)) (qav _)
structure Turn(P:qal)(w:qaG)(K:zaa)(tg:Expr)(J:It)(fp:List l_)(it:l_)(tn:Nat->qaE->Prop):Prop where
 mem:it∈fp
 obj:∀i h,tn i h->∀b∈fp,∃o,h.get? b=some o/\∀v,o.data≠ .cell v
 keep:∀i h h',tn i h->(∀b∈fp,∀o,h.get? b=some o->h'.get? b=some o)->tn i h'
 item:∀(X:Cx),X.prog=P->X.w=w->X.K=K->X.calm=true->∀(i:Nat) (pins:List (l_×qbW)) (s:v_) (σ:St) (H:Hp) (E:n_->v_->Prop),Inv X pins σ H s->(∀b∈fp,oQ X pins H b)->tn i s.heap->J.go i H →
  F_ (model P w) X.A (pyNext (.ref it)) (λr s1=>∃u,r=some u ∧
   F_ (model P w) X.A (letOwnedTupleGo tg (.ref it) u) (λ_ s2=>bU λx H'=>Inv X pins σ H' s2/\RelV x u/\J.Ai i H x H'/\tn (i+1) s2.heap/\∀b∈fp,H' b=none) E s1) E s
 done:∀(X:Cx),X.prog=P->X.w=w->X.K=K->X.calm=true->∀(i:Nat) (pins:List (l_×qbW)) (s:v_) (σ:St) (H:Hp) (E:n_->v_->Prop),Inv X pins σ H s->(∀b∈fp,oQ X pins H b)->tn i s.heap->J.stop i H →
  F_ (model P w) X.A (pyNext (.ref it)) (λr s1=>r=none/\Inv X pins σ H s1) E s
 self:∀(A:qaP) (i:Nat) (s:v_) (Q:n_->v_->Prop) (E:n_->v_->Prop),tn i s.heap->Q (.ref it) s->F_ (model P w) A (pyIter (.ref it)) Q E s
abbrev TI:=St->Hp->(It->Hp->Prop)->Prop
def Wx(X:Cx)(pins:List (l_×qbW))(σ:St)(tg:Expr)(R:It->Hp->Prop)(itv:n_)(s2:v_):Prop :=
 tW λ(it:l_) (fp:List l_) (tn:Nat->qaE->Prop) (J:It) (H':Hp)=>itv= .ref it/\Inv X pins σ H' s2/\Turn X.prog X.w X.K tg J fp it tn/\tn 0 s2.heap/\(∀b∈fp,oQ X pins H' b)/\R J H'
def PI(X:Cx)(tg iter:Expr)(wi:TI):Prop :=
 ∀(pins:List (l_×qbW)) (s:v_) (σ:St) (H:Hp) (R:It->Hp->Prop),Inv X pins σ H s->wi σ H R →
  F_ (model X.prog X.w) X.A (eval iter X.env) (λv s1=>F_ (model X.prog X.w) X.A (pyIter v) (Wx X pins σ tg R) X.xe s1) X.xe s
theorem xX{s:v_}{n:String}(ho:s.heap.get? it=some o)(hc:o.cls= .type n)(hd:o.data= .fields vs)
  (hn:["enumerate","zip","dict_itemiterator","dict_reverseitemiterator","odict_iterator","itertools.zip_longest","itertools.pairwise"].contains n=false) (hQ:Q () s):F_ M A (letOwnedTupleGo tg (.ref it) u) Q E s:=by
 unfold letOwnedTupleGo
 cases tg<;>first
  |exact q_ hQ
  |(cases u<;>first
    |exact q_ hQ
    |(refine f_ (wpAny_load ho ?_)
      rw[hc,hd]
      show F_ M A (if(["enumerate","zip","dict_itemiterator","dict_reverseitemiterator","odict_iterator","itertools.zip_longest","itertools.pairwise"].contains n&&vs[0]? ==some (rawInt _))=true then _ else _) Q E s
      rw[if_neg (by intro h;rw[hn,Bool.false_and]at h;cases h)];exact q_ hQ))
noncomputable def Ss(K:zaa)(a:l_):It :=
 #[λi H=>bU λxs x=>bq K H a xs/\xs[i]? =some x,λi H x H'=>H'=H/\∀xs,bq K H a xs->xs[i]? =some x,λi H=>∃xs,bq K H a xs/\xs.length<=i]
noncomputable def Itt(K:zaa)(a:l_):It :=
 #[λi H=>bU λxs x=>bV K H a xs/\xs[i]? =some x,λi H x H'=>H'=H/\∀xs,bV K H a xs->xs[i]? =some x,λi H=>∃xs,bV K H a xs/\xs.length<=i]
noncomputable def Po(lo:Int)(n:Nat):It:=#[λi _=>i<n,λi H x H'=>H'=H/\x= .int (lo+i),λi _=>n<=i]
theorem xB{K:zaa}(a it:l_):Turn P w K tg (Ss K a) [it] it (λi h=>h.IsListIter it a i) where
 mem:=by simp
 obj:=λi h st b hb=>by
  have e:b=it:=by simpa using hb
  subst e;obtain⟨o,e,c,d⟩:=st;exact#[o,e,λv z=>by rw[d]at z;cases z]
 keep:=λi h h' st k=>st.at λo e=>k it (by simp) o e
 item:=by
  intro X hP hw hK hc i pins s σ H E I hf st hg;subst hP hw hK;obtain⟨xs,x,hq,hx⟩:=hg;obtain⟨its,rv,p,hz⟩:=I.list hq;obtain⟨u,hu,ru⟩:=rv.get hx;obtain⟨f0,f1,f2,f3,f4,f5⟩:=hf it (by simp);refine wpAny_pyNext_list_item st p.isList (x:=u) (by simpa using hu) λh' st' sb=>?_;have I1:Inv X pins σ H { s with heap:=h' }:=I.turned (t':=s.toks) (λb o hb e=>(sb.2 b hb).trans e) f0 f1 f3 f4 f5;obtain⟨o,e,c,d⟩:=id st';exact#[u,Y,xX (s:={ s with heap:=h' }) e c d (by decide) #[x,H,I1,ru,#[Y,λys hy=>by rw[I.vz hy hq];exact hx],st',λb hb=>(hf b hb).1]]
 done:=by
  intro X hP hw hK hc i pins s σ H E I hf st hg;subst hP hw hK;obtain⟨xs,hq,hx⟩:=hg;obtain⟨its,rv,p,hz⟩:=I.list hq;obtain⟨f0,f1,f2,f3,f4,f5⟩:=hf it (by simp);have hl:=rv.length;exact wpAny_pyNext_list_end (I.ok.hd hc) st p.isList (by simp;omega) λh' eb=>#[Y,I.turned (t':=s.toks) (λb o hb e=>eb b o hb e) f0 f1 f3 f4 f5]
 self:=λ_ _ _ _ _ st h=>wpAny_pyIter_listiter st h
theorem Cy{K:zaa}(a it:l_):Turn P w K tg (Itt K a) [it] it (λi h=>h.IsTupleIter it a i) where
 mem:=by simp
 obj:=λi h st b hb=>by
  have e:b=it:=by simpa using hb
  subst e;obtain⟨o,e,c,d⟩:=st;exact#[o,e,λv z=>by rw[d]at z;cases z]
 keep:=λi h h' st k=>st.at λo e=>k it (by simp) o e
 item:=by
  intro X hP hw hK hc i pins s σ H E I hf st hg;subst hP hw hK;obtain⟨xs,x,hq,hx⟩:=hg;obtain⟨its,rv,p,hz⟩:=I.tuple hq;obtain⟨u,hu,ru⟩:=rv.get hx;obtain⟨f0,f1,f2,f3,f4,f5⟩:=hf it (by simp);refine wpAny_pyNext_tuple_item st (show s.heap.IsTuple a its.toArray from p) (x:=u) (by simpa using hu) λh' st' sb=>?_;have I1:Inv X pins σ H { s with heap:=h' }:=I.turned (t':=s.toks) (λb o hb e=>(sb.2 b hb).trans e) f0 f1 f3 f4 f5;obtain⟨o,e,c,d⟩:=id st';exact#[u,Y,xX (s:={ s with heap:=h' }) e c d (by decide) #[x,H,I1,ru,#[Y,λys hy=>by rw[I.xD hy hq];exact hx],st',λb hb=>(hf b hb).1]]
 done:=by
  intro X hP hw hK hc i pins s σ H E I hf st hg;subst hP hw hK;obtain⟨xs,hq,hx⟩:=hg;obtain⟨its,rv,p,hz⟩:=I.tuple hq;obtain⟨f0,f1,f2,f3,f4,f5⟩:=hf it (by simp);have hl:=rv.length;exact wpAny_pyNext_tuple_end (I.ok.hd hc) st (show s.heap.IsTuple a its.toArray from p) (by simp;omega) λh' eb=>#[Y,I.turned (t':=s.toks) (λb o hb e=>eb b o hb e) f0 f1 f3 f4 f5]
 self:=λ_ _ _ _ _ st h=>wpAny_pyIter_tupleiter st h
theorem Cz{K:zaa}(it:l_)(lo:Int)(n:Nat):Turn P w K tg (Po lo n) [it] it (λi h=>IsRangeIter h it (lo+(i:Nat)*1) ((n:Int)-(i:Nat)) 1) where
 mem:=by simp
 obj:=λi h st b hb=>by
  have e:b=it:=by simpa using hb
  subst e;exact#[_,st,λv z=>by
   have z':Data.fields _=Data.cell v:=z;cases z']
 keep:=λi h h' st k=>k it (by simp) _ st
 item:=by
  intro X hP hw hK hc i pins s σ H E I hf st hg;subst hP hw hK;obtain⟨f0,f1,f2,f3,f4,f5⟩:=hf it (by simp);have W:=Walks.range (prog:=X.prog) (w:=X.w) (I.ok.hd hc) it lo 1 n;refine TK.bP (i_ s.toks) (W.item i s _ _ hg st λv h' tk hv st' kk hup=>?_);obtain⟨t,rfl⟩:=hv;have I1:Inv X pins σ H { s with heap:=h',toks:=tk }:=I.turned (λb o hb e=>kk b o (by simpa using hb) e) f0 f1 f3 f4 f5;refine#[_,Y,xX (s:={ s with heap:=h',toks:=tk }) (n:= "range_iterator") st' Y Y (by decide) #[.int (lo+i),H,I1,#[t,?_],#[Y,Y],st',λb hb=>(hf b hb).1]];rw[Int.mul_one]
 done:=by
  intro X hP hw hK hc i pins s σ H E I hf st hg;subst hP hw hK;obtain⟨f0,f1,f2,f3,f4,f5⟩:=hf it (by simp);exact wpAny_pyNext_range_end (I.ok.hd hc) st (by have:n<=i:=hg;omega) λh' eb=>#[Y,I.turned (t':=s.toks) (λb o hb e=>eb b o hb e) f0 f1 f3 f4 f5]
 self:=λ_ _ _ _ _ st h=>wpAny_pyIter_rangeiter st h
end
section
section
variable{X:Cx}{tg:Expr}
def Rm(K:zaa)(tl:TE):TI:=λσ H R=>tl σ H λx H1=>∃a,x= .ref a/\(∃xs,bq K H1 a xs)/\R (Ss K a) H1
theorem cQ(hl:PE X l tl):PI X tg l (Rm X.K tl):=by
 intro pins s σ H R I h;refine dm (hl pins s σ H _ I h) λv s1 ⟨x,H1,I1,r1,q1⟩=>?_;obtain⟨a,e,⟨xs,hq⟩,q⟩:=q1;subst e;cases r1;obtain⟨its,rv,p,hz⟩:=I1.list hq;refine qcq p.isList ?_;refine#[s1.heap.objs.size,[s1.heap.objs.size],_,_,H1,Y,I1.kept (t':=s1.toks) λb o e=>g_ _ e,xB a _,#[_,I_ _ Y,Y,Y],λb hb=>?_,q];have e:b=s1.heap.objs.size:=by simpa using hb
 subst e;exact I1.sG (i_ _) (I1.hok.fresh (i_ _))
theorem AZ{pins:List (l_×qbW)}{σ:St}{H:Hp}{s:v_}{R:It->Hp->Prop}{E:n_->v_->Prop}{lo hi:Int}{t u v:Tok}{tk:Nat}(I:Inv X pins σ H s)(h1: -(2 ^ 62)<=lo)(h2:lo<2 ^ 62)(h3: -(2 ^ 62)<=hi)(h4:hi<2 ^ 62)
  (q:R (Po lo (hi-lo).toNat) H) (htk:s.toks<=tk:=by first|exact i_ _|exact qaA _|assumption|omega):F_ (model X.prog X.w) X.A (pyIter (.ref s.heap.objs.size)) (Wx X pins σ tg R) E { s with heap:=s.heap.push { cls:=.type "range",data:=.fields (List.toArray [.int lo t,.int hi u,.int 1 v]) },toks:=tk }:=by
 refine wpAny_pyIter_range (IsRange.new ..) (small_one h1 h2 h3 h4) ?_;have I1:Inv X pins σ H { s with heap:=s.heap.push { cls:=.type "range",data:=.fields (List.toArray [.int lo t,.int hi u,.int 1 v]) },toks:=tk }:=I.kept λb o e=>g_ _ e;refine#[(s.heap.push { cls:=.type "range",data:=.fields (List.toArray [.int lo t,.int hi u,.int 1 v]) }).objs.size,[(s.heap.push { cls:=.type "range",data:=.fields (List.toArray [.int lo t,.int hi u,.int 1 v]) }).objs.size],_,_,H,Y,
  I1.kept (t':=tk) λb o e=>g_ _ e,Cz _ lo (hi-lo).toNat,?_,λb hb=>?_,q]
 ·have e1:lo+((0:Nat):Int)*1=lo:=by simp
  have e2:(((hi-lo).toNat:Nat):Int)-((0:Nat):Int)=qbZ lo hi 1:=by rw[rangeSize_one];split<;>omega
  show IsRangeIter _ _ (lo+((0:Nat):Int)*1) ((((hi-lo).toNat:Nat):Int)-((0:Nat):Int)) 1;rw[e1,e2];exact I_ _ Y
 ·have e:b=(s.heap.push { cls:=.type "range",data:=.fields (List.toArray [.int lo t,.int hi u,.int 1 v]) }).objs.size:=by simpa using hb
  subst e;exact I1.sG (i_ _) (I1.hok.fresh (i_ _))
def Rl(ta:TA):TI:=λσ H R=>ta σ H λvs H1=>∃j:Int,vs=[.int j]/\ -(2 ^ 62)<=j/\j<2 ^ 62/\R (Po 0 j.toNat) H1
def Rk(ta:TA):TI:=λσ H R=>ta σ H λvs H1=>bU λi j:Int=>vs=[.int i,.int j]/\(-(2 ^ 62)<=i/\i<2 ^ 62/\ -(2 ^ 62)<=j/\j<2 ^ 62)/\R (Po i (j-i).toNat) H1
theorem c8{a:Expr}{ta:TA}{p pos:qc5}(hg:Gl X "range")(hm:X.mg "range" =none)(ha:PA X [a] ta)(hs:qaa [a] X.env=[(false,eval a X.env)]:=by rfl):PI X tg (.Call (.Name "range" p) [a] [] pos) (Rl ta):=by
 intro pins s σ H R I h;refine Call_ (kr I hg hm boot_range (qau (dm (ha pos pins s σ H _ I h) λus s1 ⟨vs,H1,I1,r1,q1⟩=>?_) hs Y));obtain⟨j,e,q1,q2,q⟩:=q1;subst e
 cases r1 with
 |cons r rr =>
  cases rr;obtain⟨t,rfl⟩:=r;exact call_range_1 (AZ I1 (by omega) (by omega) q1 q2 (by simpa using q))
theorem rN{a b:Expr}{ta:TA}{p pos:qc5}(hg:Gl X "range")(hm:X.mg "range" =none)(ha:PA X [a,b] ta)(hs:qaa [a,b] X.env=[(false,eval a X.env),(false,eval b X.env)]:=by rfl)(hs2:qaa [b] X.env=[(false,eval b X.env)]:=by rfl) :
  PI X tg (.Call (.Name "range" p) [a,b] [] pos) (Rk ta):=by
 intro pins s σ H R I h;refine Call_ (kr I hg hm boot_range (qau (dm (ha pos pins s σ H _ I h) λus s1 ⟨vs,H1,I1,r1,q1⟩=>?_) (by rw[hs,hs2]) (by rw[hs2];rfl)));obtain⟨i,j,e,⟨q1,q2,q3,q4⟩,q⟩:=q1;subst e
 cases r1 with
 |cons r rr =>
  cases rr with
  |cons r' rr =>
   cases rr;obtain⟨t,rfl⟩:=r;obtain⟨t',rfl⟩:=r';exact call_range_2 (AZ I1 q1 q2 q3 q4 q)
def Um(wi:TI)(g:TG)(tb:TS):TS:=λD σ H=>wi σ H λJ H1=>∃W:Nat->Nat->St->Hp->Prop,(∃m,W 0 m σ H1)/\∀i m σ H,W i m σ H →
 (J.stop i H/\D.nx σ H)\/(J.go i H/\∃N:St->Hp->Prop,(∀ σ' H',N σ' H'->∃m',m'<m/\W (i+1) m' σ' H')/\∀x H',J.Ai i H x H'->g x σ H' λσ2 H2=>tb { D with nx:=N,ct:=N,bk:=D.nx } σ2 H2)
noncomputable def yN(fp:List l_)(h:qaE):List (l_×qbW):=fp.filterMap λb=>(h.get? b).map λo=>(b,o)
theorem iK(hb:b∈fp)(e:h.get? b=some o):(b,o)∈yN fp h:=List.mem_filterMap.mpr #[b,hb,by rw[e];rfl]
theorem F2(hp:p∈yN fp h):p.1∈fp/\h.get? p.1=some p.2:=by
 obtain⟨b,hb,e⟩:=List.mem_filterMap.mp hp
 cases q:h.get? b with
 |none=>rw[q]at e;cases e
 |some o =>
  rw[q]at e;have e':(b,o)=p:=Z_ e;subst e';exact#[hb,q]
theorem Inv.pinned{σ:St}(I:Inv X pins σ H s)(hf:∀b∈fp,oQ X pins H b)(ho:∀b∈fp,∃o,s.heap.get? b=some o/\∀v,o.data≠ .cell v):Inv X (pins++yN fp s.heap) σ H s :=
 I.yM λp hp=>(S_.mp hp).elim (λz=>I.pin p (qac _ z)) λz=>by
  obtain⟨hb,e⟩:=F2 z;obtain⟨f0,f1,f2,_⟩:=hf p.1 hb;obtain⟨o,e',d⟩:=ho p.1 hb;rw[e]at e';cases e';exact#[e,f0,f1,f2,d]
theorem Inv.ur{σ:St}(I:Inv X (pins++pl) σ H s):Inv X pins σ H s:=I.yM λp hp=>I.pin p (qac _ (qbm _ hp))
theorem bK{iter:Expr}{body:List qcU}{wi:TI}{g:TG}{tb:TS}{pos:qc5}(hp:PassesOwn (model X.prog X.w) X.A X.env X.xe)(hc:X.calm=true)(hi:PI X tg iter wi)(hg:PG X tg g)(hb:xh X body tb)
  (hs:∀x,foldedSetIterable iter X.env x=pure x:=by intro _;rfl):PS X (.For tg iter body [] pos) (Um wi g tb):=by
 intro pins s σ H D I h;refine wpAny_For (dm (hi pins s σ H _ I h) λv s1 h1=>dm h1 λitv s2 h2=>?_) hs;obtain⟨it,fp,tn,J,H2,e,I2,T,st2,f2,W,⟨m0,w0⟩,turn⟩:=h2;subst e;have stat:∀{H':Hp},(∀b∈fp,H' b=none)->∀b∈fp,oQ X pins H' b:=λhn b hb=>#[hn b hb,(f2 b hb).2];refine codeAny_forLoop_any (λn s'=>iG λi σ' H'=>Inv X pins σ' H' s'/\tn i s'.heap/\(∀b∈fp,H' b=none)/\W i n σ' H') ?_ m0 #[0,σ,H2,I2,st2,λb hb=>(f2 b hb).1,w0];rintro n s3 ⟨i,σ3,H3,I3,st3,X8,w3⟩;rcases turn i n σ3 H3 w3 with⟨stop,qn⟩|⟨go,N,hN,step⟩
 ·refine qbI hp (dm (T.done X Y Y Y hc i pins s3 σ3 H3 X.xe I3 (stat X8) st3 stop) λr s4 ⟨hr,I4⟩=>?_);subst hr;exact qcM #[σ3,H3,I4,qn]
 ·refine qbI hp (dm (T.item X Y Y Y hc i pins s3 σ3 H3 X.xe I3 (stat X8) st3 go) λr s4 ⟨u,hr,h4⟩=>?_);subst hr;refine qbI hp (dm h4 λ_ s5 ⟨x,H5,I5,r5,y5,Ur,fr5⟩=>?_);have I5':=I5.pinned (stat fr5) (T.obj _ _ Ur);refine qbI hp (dm (hg _ s5 σ3 H5 x u _ I5' r5 (step x H5 y5)) λ_ s6 ⟨Yk,H6,I6,q6⟩=>?_);refine qbI hp (dm (hb _ s6 Yk H6 _ I6 q6) λf s7 q7=>?_);have again:∀{Cs:St} {H7:Hp},Inv X (pins++yN fp s5.heap) Cs H7 s7->N Cs H7->∃m,m<n/\iG λi σ' H'=>Inv X pins σ' H' s7/\tn i s7.heap/\(∀b∈fp,H' b=none)/\W i m σ' H':=λ{Cs H7} I7 n7=>by
   obtain⟨m',hm,w7⟩:=hN Cs H7 n7;refine#[m',hm,i+1,Cs,H7,I7.ur,T.keep _ _ _ Ur λb hb o e=>(I7.pin (b,o) (qac _ (qac _ (iK hb e)))).1,λb hb=>?_,w7];obtain⟨o,e,d⟩:=T.obj _ _ Ur b hb;exact(I7.pin (b,o) (qac _ (qac _ (iK hb e)))).2.1
  cases f with
  |next=>obtain⟨Cs,H7,I7,n7⟩:=q7;exact again I7 n7
  |cont=>obtain⟨Cs,H7,I7,n7⟩:=q7;exact again I7 n7
  |brk=>obtain⟨Cs,H7,I7,q7⟩:=q7;exact#[Cs,H7,I7.ur,q7]
  |ret v=>obtain⟨x7,Cs,H7,I7,r7,q7⟩:=q7;exact#[x7,Cs,H7,I7.ur,r7,q7]
end
theorem kI{K:zaa}{a:l_}{xs:List V}{g:TG}{tb:TS}{D:Ends}(Pv:Nat->St->Hp->Prop)(h0:Pv 0 σ H)(hl:∀i σ H,i<=xs.length->Pv i σ H->bq K H a xs)
  (hs:∀i x σ H,xs[i]? =some x->Pv i σ H->g x σ H λσ2 H2=>tb { D with nx:=Pv (i+1),ct:=Pv (i+1),bk:=D.nx } σ2 H2) (hd:∀ σ H,Pv xs.length σ H->D.nx σ H) :
  ∃W:Nat->Nat->St->Hp->Prop,(∃m,W 0 m σ H)/\∀i m σ H,W i m σ H →
   ((Ss K a).stop i H/\D.nx σ H)\/((Ss K a).go i H/\∃N:St->Hp->Prop,(∀ σ' H',N σ' H'->∃m',m'<m/\W (i+1) m' σ' H')/\∀x H',(Ss K a).Ai i H x H'->g x σ H' λσ2 H2=>tb { D with nx:=N,ct:=N,bk:=D.nx } σ2 H2):=by
 refine#[λi m σ H=>m=xs.length-i/\i<=xs.length/\Pv i σ H,#[xs.length,by simp,O_ _,h0],?_];rintro i m σ H ⟨rfl,hi,p⟩;have q:=hl i σ H hi p;by_cases hlt:i<xs.length
 ·refine .inr #[#[xs,xs[i],q,by simp[hlt]],Pv (i+1),λσ' H' p'=>#[xs.length-(i+1),by omega,Y,hlt,p'],λx H' y=>?_];obtain⟨e,y⟩:=y;subst e;exact hs i x σ _ (y xs q) p
 ·have e:i=xs.length:=by omega
  subst e;exact .inl #[#[xs,q,i_ _],hd σ H p]
theorem c9{lo:Int}{n:Nat}{g:TG}{tb:TS}{D:Ends}(Pv:Nat->St->Hp->Prop)(h0:Pv 0 σ H)
  (hs:∀i σ H,i<n->Pv i σ H->g (.int (lo+i)) σ H λσ2 H2=>tb { D with nx:=Pv (i+1),ct:=Pv (i+1),bk:=D.nx } σ2 H2) (hd:∀ σ H,Pv n σ H->D.nx σ H) :
  ∃W:Nat->Nat->St->Hp->Prop,(∃m,W 0 m σ H)/\∀i m σ H,W i m σ H →
   ((Po lo n).stop i H/\D.nx σ H)\/((Po lo n).go i H/\∃N:St->Hp->Prop,(∀ σ' H',N σ' H'->∃m',m'<m/\W (i+1) m' σ' H')/\∀x H',(Po lo n).Ai i H x H'->g x σ H' λσ2 H2=>tb { D with nx:=N,ct:=N,bk:=D.nx } σ2 H2):=by
 refine#[λi m σ H=>m=n-i/\i<=n/\Pv i σ H,#[n,by simp,O_ _,h0],?_];rintro i m σ H ⟨rfl,hi,p⟩;by_cases hlt:i<n
 ·refine .inr #[hlt,Pv (i+1),λσ' H' p'=>#[n-(i+1),by omega,Y,hlt,p'],λx H' y=>?_];obtain⟨e,y⟩:=y;subst e y;exact hs i σ _ hlt p
 ·have e:i=n:=by omega
  subst e;exact .inl #[i_ _,hd σ H p]
end
section
abbrev R2:=V->V->Hp->VK->Prop
def jW(X:Cx)(f:n_->n_->Sem n_)(r:R2):Prop :=
 ∀(pins:List (l_×qbW)) (s:v_) (σ:St) (H:Hp) (x y:V) (v u:n_) (Q:VK),Inv X pins σ H s->RelV x v->RelV y u->r x y H Q →
  F_ (model X.prog X.w) X.A (f v u) (EP X pins σ Q) X.xe s
def Ww(X:Cx)(f:n_->Sem n_)(r:V->Hp->VK->Prop):Prop :=
 ∀(pins:List (l_×qbW)) (s:v_) (σ:St) (H:Hp) (x:V) (v:n_) (Q:VK),Inv X pins σ H s->RelV x v->r x H Q →
  F_ (model X.prog X.w) X.A (f v) (EP X pins σ Q) X.xe s
def g7(X:Cx)(f:n_)(r:List V->Hp->VK->Prop):Prop :=
 ∀(pins:List (l_×qbW)) (s:v_) (σ:St) (H:Hp) (xs:List V) (us:List n_) (Q:VK),Inv X pins σ H s->Vals xs us->r xs H Q →
  F_ (model X.prog X.w) X.A (call f us) (EP X pins σ Q) X.xe s
def SI(r:R2)(ta tb:TE):TE:=λσ H Q=>ta σ H λx H1=>tb σ H1 λy H2=>r x y H2 Q
def Yn(r:V->Hp->VK->Prop)(ta:TE):TE:=λσ H Q=>ta σ H λx H1=>r x H1 Q
def rI(C:Int->Int->Prop)(g:Int->Int->V):R2:=λx y H Q=>bU λi j=>x= .int i/\y= .int j/\C i j/\Q (g i j) H
def MA(g:Int->Int->V):R2:=λx y H Q=>bU λi j=>x= .int i/\y= .int j/\Q (g i j) H
def rU(g:Int->V):V->Hp->VK->Prop:=λx H Q=>∃i,x= .int i/\Q (g i) H
section
variable{X:Cx}{a b c:Expr}{ta tb tc:TE}{pos:qc5}
theorem O6(ha:PE X a ta)(hb:PE X b tb){σ:St}{R:V->V->Hp->Prop}(I:Inv X pins σ H s)
  (h:ta σ H λx H1=>tb σ H1 λy H2=>R x y H2) {f:n_->n_->Sem n_}
  (hf:∀v u s2 x y H2,Inv X pins σ H2 s2->RelV x v->RelV y u->R x y H2->F_ (model X.prog X.w) X.A (f v u) Q X.xe s2) :
  F_ (model X.prog X.w) X.A (eval a X.env) (λv s₁=>F_ (model X.prog X.w) X.A (eval b X.env) (λu s₂=>F_ (model X.prog X.w) X.A (f v u) Q X.xe s₂) X.xe s₁) X.xe s:=by
 refine dm (ha pins s σ H _ I h) λv s1 ⟨x,H1,I1,r1,q1⟩=>?_;refine dm (hb pins s1 σ H1 _ I1 q1) λu s2 ⟨y,H2,I2,r2,q2⟩=>?_;exact hf v u s2 x y H2 I2 r1 r2 q2
theorem aI(ho:jW X (binaryOp op) r)(ha:PE X a ta)(hb:PE X b tb):PE X (.BinOp a op b pos) (SI r ta tb):=by
 intro pins s σ H Q I h;exact wpAny_BinOp (O6 ha hb I h λv u s2 x y H2 I2 rx ry q=>ho pins s2 σ H2 x y v u Q I2 rx ry q)
theorem xO(ho:Ww X (unaryOp op) r)(ha:PE X a ta):PE X (.UnaryOp op a pos) (Yn r ta):=by
 intro pins s σ H Q I h;exact UnaryOp_ (dm (ha pins s σ H _ I h) λv s1 ⟨x,H1,I1,r1,q1⟩=>ho pins s1 σ H1 x v Q I1 r1 q1)
theorem Px{f:n_->n_->Sem n_}{C:Int->Int->Prop}{g:Int->Int->Int}
  (rule:∀(i j:Int) (t u:Tok) (s:v_) (Q:n_->v_->Prop) (E:n_->v_->Prop),C i j->Q (.int (g i j) s.toks) { s with toks:=s.toks+1 }->F_ (model X.prog X.w) X.A (f (.int i t) (.int j u)) Q E s) :
  jW X f (rI C λi j=>.int (g i j)):=by
 intro pins s σ H x y v u Q I rx ry h;obtain⟨i,j,rfl,rfl,hc,q⟩:=h;obtain⟨t,rfl⟩:=rx;obtain⟨t',rfl⟩:=ry;exact rule i j t t' s _ _ hc #[.int (g i j),H,I.tok _,#[_,Y],q]
theorem QT{f:n_->n_->Sem n_}{g:Int->Int->Int}
  (rule:∀(i j:Int) (t u:Tok) (s:v_) (Q:n_->v_->Prop) (E:n_->v_->Prop),Q (.int (g i j) s.toks) { s with toks:=s.toks+1 }->F_ (model X.prog X.w) X.A (f (.int i t) (.int j u)) Q E s) :
  jW X f (MA λi j=>.int (g i j)):=by
 intro pins s σ H x y v u Q I rx ry h;obtain⟨i,j,rfl,rfl,q⟩:=h;obtain⟨t,rfl⟩:=rx;obtain⟨t',rfl⟩:=ry;exact rule i j t t' s _ _ #[.int (g i j),H,I.tok _,#[_,Y],q]
theorem Li{f:n_->n_->Sem n_}{g:Int->Int->Bool}
  (rule:∀(i j:Int) (t u:Tok) (s:v_) (Q:n_->v_->Prop) (E:n_->v_->Prop),Q (.bool (g i j)) s->F_ (model X.prog X.w) X.A (f (.int i t) (.int j u)) Q E s) :
  jW X f (MA λi j=>.bl (g i j)):=by
 intro pins s σ H x y v u Q I rx ry h;obtain⟨i,j,rfl,rfl,q⟩:=h;obtain⟨t,rfl⟩:=rx;obtain⟨t',rfl⟩:=ry;exact rule i j t t' s _ _ #[.bl (g i j),H,I,Y,q]
def WC(i j:Int):Prop:=0<j/\j<1073741824
def WB(i j:Int):Prop:=0<=j/\j<=1000000/\i.natAbs<2 ^ 64
def Pr(i j:Int):Prop:=(-(2 ^ 64)<i/\i<2 ^ 64)\/(-(2 ^ 64)<j/\j<2 ^ 64)
theorem Pr.ok(h:Pr i j):IntMulOk i j:=by
 rcases h with⟨h1,h2⟩|⟨h1,h2⟩
 ·exact .of_left (intBits_le_64 h1 h2)
 ·exact .of_right (intBits_le_64 h1 h2)
theorem bZ:jW X (binaryOp .Add) (MA λi j=>.int (i+j)):=QT λ_ _ _ _ _ _ _ q=>add_int q
theorem rQ:jW X (binaryOp .Sub) (MA λi j=>.int (i-j)):=QT λ_ _ _ _ _ _ _ q=>sub_int q
theorem jq:jW X (binaryOp .Mult) (rI Pr λi j=>.int (i*j)):=Px λ_ _ _ _ _ _ _ hc q=>mul_int q hc.ok
theorem d8:jW X (binaryOp .FloorDiv) (rI WC λi j=>.int (i / j)):=Px λi j _ _ _ _ _ hc q=>by
 have h1:(0:Int)<j:=hc.1;have h2:j<1073741824:=hc.2;exact floordiv_int (by omega) (by rw[Int.fdiv_eq_ediv_of_nonneg i (by omega)];exact q) (.inl (PyProof.noPylong_small (by omega)))
theorem cT:jW X (binaryOp .Mod) (rI (λ_ j=>0<j) λi j=>.int (i % j)):=Px λi j _ _ _ _ _ hc q=>by
 have h1:(0:Int)<j:=hc;exact mod_int' (by omega) (by rw[Int.fmod_eq_emod_of_nonneg i (by omega)];exact q)
theorem Dg:jW X (binaryOp .Pow) (rI WB λi j=>.int (i ^ j.toNat)):=Px λ_ _ _ _ _ _ _ hc q=>pow_int_small hc.1 hc.2.1 hc.2.2 q
theorem Ym{f:n_->Sem n_}{g:Int->Int}
  (rule:∀(i:Int) (t:Tok) (s:v_) (Q:n_->v_->Prop) (E:n_->v_->Prop),Q (.int (g i) s.toks) { s with toks:=s.toks+1 }->F_ (model X.prog X.w) X.A (f (.int i t)) Q E s) :
  Ww X f (rU λi=>.int (g i)):=by
 intro pins s σ H x v Q I rx h;obtain⟨i,rfl,q⟩:=h;obtain⟨t,rfl⟩:=rx;exact rule i t s _ _ #[.int (g i),H,I.tok _,#[_,Y],q]
theorem rq:Ww X (unaryOp .USub) (rU λi=>.int (-i)):=Ym λ_ _ _ _ _ q=>neg_int q
end
noncomputable def QH:V->V->Bool
 | .dX,.dX=>true| .dX,.int _=>true| .int _,.dX=>true| .dX,.bl _=>true| .bl _,.dX=>true| .dX,.str _=>true| .str _,.dX=>true
 | .int _,.int _=>true| .bl _,.bl _=>true| .str _,.str _=>true| .E8 _,.E8 _=>true
 | .int _,.str _=>true| .str _,.int _=>true| .bl _,.str _=>true| .str _,.bl _=>true
 |_,_=>false
def Yy:R2:=λx y H Q=>QH x y=true/\Q (.bl (decide (x=y))) H
def Yw:R2:=λx y H Q=>QH x y=true/\Q (.bl (!decide (x=y))) H
theorem o5:decide (V.int i=V.int j)=(i==j):=by
 rw[qa6];simp
theorem Jh:decide (V.bl i=V.bl j)=(i==j):=by
 rw[qa6];simp
theorem EY:decide (V.str i=V.str j)=(i==j):=by
 rw[qa6];simp
theorem EZ:decide (V.E8 i=V.E8 j)=(i.toList==j.toList):=by
 rw[qa6];cases i;cases j;simp
section
variable{X:Cx}{a b c:Expr}{ta tb tc:TE}{pos:qc5}
theorem b9{σ:St}(I:Inv X pins σ H s)(q:Q (.bl k) H)(e:k=k'):EP X pins σ Q (.bool k') s:=by
 subst e;exact#[.bl k,H,I,Y,q]
theorem dO:jW X (compareOp .Eq) Yy:=by
 intro pins s σ H x y v u Q I rx ry h;obtain⟨hs,q⟩:=h
 cases x with
 |dX =>
  cases rx
  cases y with
  |dX=>cases ry;exact PySem.EqNone.eq_none_none (b9 I q (by simp))
  |bl j=>cases ry;exact PySem.EqNone.eq_none_bool (b9 I q (by simp))
  |int j=>obtain⟨t',rfl⟩:=ry;exact PySem.EqNone.eq_none_int (b9 I q (by simp))
  |str j=>obtain⟨t',rfl⟩:=ry;exact PySem.EqNone.eq_none_str (b9 I q (by simp))
  |_=>exact absurd (show false=true from hs) K_
 |bl i =>
  cases rx
  cases y with
  |dX=>cases ry;exact PySem.EqNone.eq_bool_none (b9 I q (by simp))
  |bl j=>cases ry;exact eq_bool (b9 I q Jh)
  |str j=>obtain⟨t',rfl⟩:=ry;exact PySem.EqMixed.eq_bool_str (b9 I q (by simp))
  |_=>exact absurd (show false=true from hs) K_
 |int i =>
  obtain⟨t,rfl⟩:=rx
  cases y with
  |dX=>cases ry;exact PySem.EqNone.eq_int_none (b9 I q (by simp))
  |int j=>obtain⟨t',rfl⟩:=ry;exact eq_int (b9 I q o5)
  |str j=>obtain⟨t',rfl⟩:=ry;exact PySem.EqMixed.eq_int_str (b9 I q (by simp))
  |_=>exact absurd (show false=true from hs) K_
 |str i =>
  obtain⟨t,rfl⟩:=rx
  cases y with
  |dX=>cases ry;exact PySem.EqNone.eq_str_none (b9 I q (by simp))
  |bl j=>cases ry;exact PySem.EqMixed.eq_str_bool (b9 I q (by simp))
  |int j=>obtain⟨t',rfl⟩:=ry;exact PySem.EqMixed.eq_str_int (b9 I q (by simp))
  |str j=>obtain⟨t',rfl⟩:=ry;exact eq_str (b9 I q EY)
  |_=>exact absurd (show false=true from hs) K_
 |E8 i =>
  obtain⟨t,rfl⟩:=rx
  cases y with
  |E8 j=>obtain⟨t',rfl⟩:=ry;exact PySem.W.eq_bytes (b9 I q EZ)
  |_=>exact absurd (show false=true from hs) K_
 |_=>cases y<;>exact absurd (show false=true from hs) K_
theorem nj:jW X (compareOp .NotEq) Yw:=by
 intro pins s σ H x y v u Q I rx ry h;obtain⟨hs,q⟩:=h
 cases x with
 |dX =>
  cases rx
  cases y with
  |dX=>cases ry;exact PySem.EqNone.ne_none_none (b9 I q (by simp))
  |bl j=>cases ry;exact PySem.EqNone.ne_none_bool (b9 I q (by simp))
  |int j=>obtain⟨t',rfl⟩:=ry;exact PySem.EqNone.ne_none_int (b9 I q (by simp))
  |str j=>obtain⟨t',rfl⟩:=ry;exact PySem.EqNone.ne_none_str (b9 I q (by simp))
  |_=>exact absurd (show false=true from hs) K_
 |bl i =>
  cases rx
  cases y with
  |dX=>cases ry;exact PySem.EqNone.ne_bool_none (b9 I q (by simp))
  |bl j=>cases ry;exact ne_bool (b9 I q (congrArg not Jh))
  |str j=>obtain⟨t',rfl⟩:=ry;exact PySem.EqMixed.ne_bool_str (b9 I q (by simp))
  |_=>exact absurd (show false=true from hs) K_
 |int i =>
  obtain⟨t,rfl⟩:=rx
  cases y with
  |dX=>cases ry;exact PySem.EqNone.ne_int_none (b9 I q (by simp))
  |int j=>obtain⟨t',rfl⟩:=ry;exact ne_int (b9 I q (congrArg not o5))
  |str j=>obtain⟨t',rfl⟩:=ry;exact PySem.EqMixed.ne_int_str (b9 I q (by simp))
  |_=>exact absurd (show false=true from hs) K_
 |str i =>
  obtain⟨t,rfl⟩:=rx
  cases y with
  |dX=>cases ry;exact PySem.EqNone.ne_str_none (b9 I q (by simp))
  |bl j=>cases ry;exact PySem.EqMixed.ne_str_bool (b9 I q (by simp))
  |int j=>obtain⟨t',rfl⟩:=ry;exact PySem.EqMixed.ne_str_int (b9 I q (by simp))
  |str j=>obtain⟨t',rfl⟩:=ry;exact ne_str (b9 I q (congrArg not EY))
  |_=>exact absurd (show false=true from hs) K_
 |E8 i =>
  obtain⟨t,rfl⟩:=rx
  cases y with
  |E8 j=>obtain⟨t',rfl⟩:=ry;exact PySem.W.ne_bytes (b9 I q (congrArg not EZ))
  |_=>exact absurd (show false=true from hs) K_
 |_=>cases y<;>exact absurd (show false=true from hs) K_
theorem nX:jW X (compareOp .Lt) (MA λi j=>.bl (decide (i<j))):=Li λ_ _ _ _ _ _ _ q=>lt_int q
theorem uU:jW X (compareOp .LtE) (MA λi j=>.bl (decide (i<=j))):=Li λ_ _ _ _ _ _ _ q=>le_int q
theorem pN:jW X (compareOp .Gt) (MA λi j=>.bl (decide (j<i))):=Li λ_ _ _ _ _ _ _ q=>gt_int q
theorem ME:jW X (compareOp .GtE) (MA λi j=>.bl (decide (j<=i))):=Li λ_ _ _ _ _ _ _ q=>ge_int q
theorem FW:jW X (compareOp .In) (λx y H Q=>bU λi j=>x= .str i/\y= .str j/\Q (.bl (!(qaB j i 0 j.length 1).isEmpty)) H):=by
 intro pins s σ H x y v u Q I rx ry h;obtain⟨i,j,rfl,rfl,q⟩:=h;obtain⟨t,rfl⟩:=rx;obtain⟨t',rfl⟩:=ry;exact in_str (b9 I q Y)
theorem Dj:jW X (compareOp .Is) (λx y H Q=>y= .dX/\Q (.bl (decide (x= .dX))) H):=by
 intro pins s σ H x y v u Q I rx ry h;obtain⟨rfl,q⟩:=h;cases ry;refine is_none_gen (b9 I q ?_)
 cases x<;>first
  |(cases rx;rfl)
  |(obtain⟨t,rfl⟩:=rx;rfl)
theorem jW.or(h:jW X f r)(h':jW X f r'):jW X f (λx y H Q=>r x y H Q\/r' x y H Q):=by
 intro pins s σ H x y v u Q I rx ry q;rcases q with q|q
 ·exact h pins s σ H x y v u Q I rx ry q
 ·exact h' pins s σ H x y v u Q I rx ry q
theorem aW(b:Expr){op:CmpOp}(h:op≠ .In:=by decide)(h2:op≠ .NotIn:=by decide):behindInMarks op b=false:=by
 have e1:(op==CmpOp.In)=false:=by cases op<;>first|rfl|exact absurd Y h
 have e2:(op==CmpOp.NotIn)=false:=by cases op<;>first|rfl|exact absurd Y h2
 cases b<;>simp[behindInMarks,e1,e2]
theorem iT(ho:jW X (compareOp op) r)(ha:PE X a ta)(hb:PE X b tb)(hm:behindInMarks op b=false):PE X (.Compare a [op] [b] pos) (SI r ta tb):=by
 intro pins s σ H Q I h;exact wpAny_Compare1 (O6 ha hb I h λv u s2 x y H2 I2 rx ry q=>ho pins s2 σ H2 x y v u Q I2 rx ry q) hm
def Mv(t:TE):TT:=λσ H Q=>t σ H λx H'=>∃k,x= .bl k/\Q k H'
theorem aM(ho:jW X (compareOp op) r)(ha:PE X a ta)(hb:PE X b tb)(hm:behindInMarks op b=false):PT X (.Compare a [op] [b] pos) (Mv (SI r ta tb)):=by
 intro pins s σ H Q I h;refine wpAny_isTrue_Compare1 (dm (ha pins s σ H _ I h) λv s1 ⟨x,H1,I1,r1,q1⟩=>dm (hb pins s1 σ H1 _ I1 q1) λu s2 ⟨y,H2,I2,r2,q2⟩ =>
  dm (ho pins s2 σ H2 x y v u _ I2 r1 r2 q2) λc s3 ⟨z,H3,I3,r3,k,e,q3⟩=>?_) hm
 subst e;cases r3;exact qa2 #[H3,I3,q3]
def Ho(r r':R2)(ta tb tc:TE):TE:=λσ H Q=>ta σ H λx H1=>tb σ H1 λy H2=>r x y H2 λz H3=>∃k,z= .bl k ∧
 (if k=true then tc σ H3 λw' H4=>r' y w' H4 Q else Q (.bl false) H3)
theorem Be{op op':CmpOp}{r r':R2}(ho:jW X (compareOp op) r)(ho':jW X (compareOp op') r')(ha:PE X a ta)(hb:PE X b tb)(hc:PE X c tc)
  (hm:lastMarks [op,op'] [b,c]=false:=by with_unfolding_all rfl):PE X (.Compare a [op,op'] [b,c] pos) (Ho r r' ta tb tc):=by
 intro pins s σ H Q I h;refine Compare_chain (dm (ha pins s σ H _ I h) λv s1 ⟨x,H1,I1,r1,q1⟩=>chain_link (dm (hb pins s1 σ H1 _ I1 q1) λu s2 ⟨y,H2,I2,r2,q2⟩ =>
  dm (ho pins s2 σ H2 x y v u _ I2 r1 r2 q2) λd s3 ⟨z,H3,I3,r3,k,e,q3⟩=>?_)) hm
 subst e;cases r3;refine qa2 ?_
 cases k with
 |false=>exact ite_ff #[.bl false,H3,I3,Y,q3]
 |true=>exact ite_tt (chain_last (dm (hc pins s3 σ H3 _ I3 q3) λw' s4 ⟨z',H4,I4,r4,q4⟩=>ho' pins s4 σ H4 y z' u w' Q I4 r2 r4 q4))
theorem Bb{op op':CmpOp}{r r':R2}(ho:jW X (compareOp op) r)(ho':jW X (compareOp op') r')(ha:PE X a ta)(hb:PE X b tb)(hc:PE X c tc)
  (hm:lastMarks [op,op'] [b,c]=false:=by with_unfolding_all rfl):PT X (.Compare a [op,op'] [b,c] pos) (Mv (Ho r r' ta tb tc)):=by
 intro pins s σ H Q I h;refine isTrue_chain (dm (ha pins s σ H _ I h) λv s1 ⟨x,H1,I1,r1,q1⟩=>test_link (dm (hb pins s1 σ H1 _ I1 q1) λu s2 ⟨y,H2,I2,r2,q2⟩ =>
  dm (ho pins s2 σ H2 x y v u _ I2 r1 r2 q2) λd s3 ⟨z,H3,I3,r3,k,e,q3⟩=>?_)) hm
 subst e;cases r3;refine qa2 ?_
 cases k with
 |false =>
  obtain⟨k',e',q'⟩:=q3;cases e';exact ite_ff #[H3,I3,q']
 |true =>
  refine ite_tt (test_last (dm (hc pins s3 σ H3 _ I3 q3) λw' s4 ⟨z',H4,I4,r4,q4⟩=>dm (ho' pins s4 σ H4 y z' u w' _ I4 r2 r4 q4) λd' s5 ⟨z2,H5,I5,r5,k2,e2,q5⟩=>?_));subst e2;cases r5;exact qa2 #[H5,I5,q5]
theorem vA:(A_:Nat)<2 ^ 63:=by rw[qb5];decide
theorem bW:jW X (binaryOp .Add) (λx y H Q=>bU λi j=>x= .str i/\y= .str j/\i.length+j.length<=A_/\Q (.str (i++j)) H):=by
 intro pins s σ H x y v u Q I rx ry h;obtain⟨i,j,rfl,rfl,hz,q⟩:=h;obtain⟨t,rfl⟩:=rx;obtain⟨t',rfl⟩:=ry;exact TK.bP (i_ _) (add_str (λt' tk hup=>#[.str (i++j),H,I.tok _,#[_,Y],q]) hz)
theorem vals1(r:Vals [x] us):∃u,us=[u]/\RelV x u:=by
 cases r with
 |cons r1 r2=>cases r2;exact#[_,Y,r1]
theorem vals2(r:Vals [x,y] us):bU λu w'=>us=[u,w']/\RelV x u/\RelV y w':=by
 cases r with
 |cons r1 r2 =>
  cases r2 with
  |cons r3 r4=>cases r4;exact#[_,_,Y,r1,r3]
theorem B8:g7 X (.builtin "abs") (λxs H Q=>∃i,xs=[.int i]/\Q (.int (if i<0 then -i else i)) H):=by
 intro pins s σ H xs us Q I r h;obtain⟨i,rfl,q⟩:=h;obtain⟨u,rfl,t,rfl⟩:=vals1 r
 exact TK.bP (i_ _) (call_abs_int λu tk hup=>#[.int (if i<0 then -i else i),H,I.tok _,#[_,Y],q])
theorem yf(hc:X.calm=true):g7 X (.builtin "min") (λxs H Q=>bU λi j=>xs=[.int i,.int j]/\Q (.int (if j<i then j else i)) H):=by
 intro pins s σ H xs us Q I r h;obtain⟨i,j,rfl,q⟩:=h;obtain⟨u,w',rfl,⟨t,rfl⟩,⟨t',rfl⟩⟩:=vals2 r;refine TK.bP (i_ _) (min_two_ints (I.ok.hd hc) λh' tk k hup=>#[_,H,I.kept k,?_,q]);by_cases hj:j<i
 ·rw[if_pos hj,if_pos hj];exact#[_,Y]
 ·rw[if_neg hj,if_neg hj];exact#[_,Y]
theorem GA:g7 X (.type "int") (λxs H Q=>(∃i,xs=[.int i]/\Q (.int i) H)\/∃k,xs=[.bl k]/\Q (.int (if k then 1 else 0)) H):=by
 intro pins s σ H xs us Q I r h;rcases h with⟨i,rfl,q⟩|⟨k,rfl,q⟩
 ·obtain⟨u,rfl,t,rfl⟩:=vals1 r;exact call_int_int #[.int i,H,I,#[_,Y],q]
 ·obtain⟨u,rfl,r1⟩:=vals1 r;cases r1
  exact call_int_bool #[.int (if k then 1 else 0),H,I.tok _,#[_,Y],q]
theorem iu:g7 X (.type "str") (λxs H Q=>∃i,xs=[.int i]/\i.natAbs.log2<1920/\Q (.str (toString i)) H):=by
 intro pins s σ H xs us Q I r h;obtain⟨i,rfl,hz,q⟩:=h;obtain⟨u,rfl,t,rfl⟩:=vals1 r;exact PySem.P.str_of_int hz #[.str _,H,I.tok _,#[_,Y],q]
theorem Jt:g7 X (.builtin "ord") (λxs H Q=>∃x,xs=[.str x]/\x.length=1/\Q (.int (x.cps.getD 0 0:Nat)) H):=by
 intro pins s σ H xs us Q I r h;obtain⟨x,rfl,hz,q⟩:=h;obtain⟨u,rfl,t,rfl⟩:=vals1 r;exact ord_of_one hz #[.int _,H,I.tok _,#[_,Y],q]
def JJ(K:zaa)(x:V)(H:Hp)(n:Nat):Prop :=
 match x with
 | .str y=>y.length<=A_/\n=y.length
 | .E8 y=>y.size<=A_/\n=y.size
 | .ref p=>(∃xs,bq K H p xs/\n=xs.length)\/∃xs,bV K H p xs/\n=xs.length
 |_=>False
theorem aK:g7 X (.builtin "len") (λxs H Q=>bU λx n=>xs=[x]/\JJ X.K x H n/\Q (.int n) H):=by
 intro pins s σ H xs us Q I r h;obtain⟨x,n,rfl,e,q⟩:=h;obtain⟨u,rfl,rx⟩:=vals1 r;have hl:=vA;have hs:A_=16777216:=qb5
 cases x with
 |str y =>
  obtain⟨t,rfl⟩:=rx;obtain⟨hy,e'⟩:y.length<=A_/\n=y.length:=e;subst e';exact len_str (by omega) #[.int _,H,I.tok _,#[_,Y],q]
 |E8 y =>
  obtain⟨t,rfl⟩:=rx;obtain⟨hy,e'⟩:y.size<=A_/\n=y.size:=e;subst e';exact PySem.W.len_bytes (by omega) #[.int _,H,I.tok _,#[_,Y],q]
 |ref p =>
  cases rx;have e':(∃xs,bq X.K H p xs/\n=xs.length)\/∃xs,bV X.K H p xs/\n=xs.length:=e;rcases e' with⟨xs,hx,e'⟩|⟨xs,hx,e'⟩
  ·subst e';obtain⟨its,r',pl,hz⟩:=I.list hx;have hlen:=r'.length;exact Calls.call_len_list pl.isList (by simp only[y_];omega) #[.int xs.length,H,I.tok _,#[_,by simp only[y_];rw[hlen]],q]
  ·subst e';obtain⟨its,r',pl,hz⟩:=I.tuple hx;have hlen:=r'.length;exact len_tuple pl (by simp only[y_];omega) #[.int xs.length,H,I.tok _,#[_,by simp only[y_];rw[hlen]],q]
 |_=>exact(show False from e).elim
end
end
section
structure GG(h:qaE)(x dx C:l_)(mA:w_->Option n_):Prop where
 obj:h.get? x=some (zan C dx)
 ns:h.Ns1 dx mA
 ne:dx≠x
theorem sy{h:qaE}(n:h.Ns1 dx mA):∃od,h.get? dx=some od/\∀name,zaz name od=some (mA name):=by
 obtain⟨o,es,ep,ho,hd,hk,_,hm⟩:=n;refine#[o,ho,λname=>?_];have e:=hm name;unfold nsFind findBy at e;rw[←Array.find?_toList]at e;unfold zaz;rw[hd];dsimp only;split
 ·rename_i y q
  rw[q]at e;exact congrArg some e
 ·rename_i q
  rw[q]at e;have a:es.toList.any (·.refKey)=false:=by
   rw[List.any_eq_false];intro y hy;obtain⟨z,t,hkey⟩:=hk y (Array.mem_toList_iff.mp hy);simp[DictEntry.refKey,hkey]
  have a':¬es.toList.any (·.refKey)=true:=by rw[a];exact K_
  rw[if_neg a'];exact congrArg some e
theorem GG.look(I:GG h x dx C mA):∃od,zao h x (zan C dx) C (some od)/\∀name,zaz name od=some (mA name) :=
 let ⟨od,ho,hl⟩:=sy I.ns
 #[od,#[I.obj,rfl,rfl,ho],hl]
section
variable{prog:qal}{w:qaG}{A:qaP}{E:n_->v_->Prop}{s:v_}{K:zaa}{x dx C f:l_}{mA:w_->Option n_}{name:w_}{v:n_}
theorem get_map(X:K.In s.heap)(I:GG s.heap x dx C mA)(hg:za_ K C name=true)(hh:zaq K C=true)
  (ha:zaf K (.ref C) name=some none) (hv:mA name=some v) (hv':zba v=true) (h:Q v { s with toks:=s.toks+1 }) :
  F_ (model prog w) A (getAttr (.ref x) name expr) Q E s:=by
 obtain⟨od,J,hl⟩:=I.look;exact PySem.W.get_value X J (PySem.W.plainGet_of hg).1 (PySem.W.findObj_own hh ha Y (by rw[hl,hv])) hv' h
theorem K2{Q:Unit->v_->Prop}(X:K.In s.heap)(I:GG s.heap x dx C mA)
  (hs:zaf K (.ref C) "__setattr__" =some (some (.builtin "object.__setattr__"))) (hp:zbl K C=true) (ht:zar K C name=some none) (hh:zaq K C=true)
  (hw:PySem.Within mA ns) (hsz:ns.length<=A_)
  (h:∀h',GG h' x dx C (λy=>if y=name then some v else mA y)->qbj dx s.heap h'->Q () { s with heap:=h',toks:=s.toks+2 }) :
  F_ (model prog w) A (setAttr (.ref x) name v) Q E s:=by
 obtain⟨od,J,hl⟩:=I.look;refine zbb X J hs (PySem.W.osa_open (s:={ s with toks:=s.toks+1 }) (r:=none) X J hp ht λb=>?_);obtain⟨cd,hc,hd'⟩:=zak hh;have hx:s.heap.get? x=some #[.ref C,some dx,.plain,#[]]:=I.obj;refine f_ (q_ (f_ (f_ (qcV hx (f_ (PySem.W.Looks.here (s:={ s with toks:=s.toks+1 }) (za0 X hc) ?_))))));rw[hd'];refine q_ (a:=some dx) (f_ (q_ (f_ ?_)));refine wpAny_nsSet1 (s:={ s with toks:=s.toks+1 }) I.ns λh' hn2 hs2=>?_;obtain⟨oD,esD,Yc,Ry,RK,RL⟩:=hn2.count (PySem.Within.cons name v hw);refine f_ (wpAny_lookBehind Ry (by rw[RK];exact pastItsLine_dict (gc RL (by rw[Q_];omega))) ?_);exact q_ (h _ #[(hs2.2 _ (Ne.symm I.ne)).trans I.obj,hn2,I.ne] hs2)
theorem Iw(X:K.In s.heap)(hm:zbm K C=true)
  (hi:zaf K (.ref C) "__init__" =some (some (.ref f))) (hf:zbc K (.ref f)=some (.type "function"))
  (h:codeAny (model prog w) (A.under (.builtin "type.__call__" #[.ref C::vs,kw])) (.call (.ref f) #[.ref (s.heap.objs.size+1)::vs,kw]) (PySem.W.InitBack (s.heap.objs.size+1) R)
   { s with heap:=(s.heap.push zac).push (zan C s.heap.objs.size) }) :
  codeAny (model prog w) A (.call (.ref C) #[vs,kw]) R s:=by
 obtain⟨hh,g,d,t,os⟩:=s;exact PySem.W.make_core (PySem.W.makes_of X hm) (zas X hi) (λself=>PySem.W.bind_fn X self hf) (.inl Y) h
end
noncomputable def aQ(f:w_)(v:V):List (w_×V)->List (w_×V)
 |[]=>[(f,v)]
 |(g,x)::r=>if g=f then(g,v)::r else(g,x)::aQ f v r
theorem au(f g:w_)(v:V):∀fs:List (w_×V),(aQ f v fs).lookup g=if g=f then some v else fs.lookup g
 |[]=>by
  show qb6 g [(f,v)]=_;by_cases h:g=f
  ·have hb:(g==f)=true:=beq_iff_eq.mpr h;simp only[qb6,hb,if_pos h]
  ·have hb:(g==f)=false:=beq_eq_false_iff_ne.mpr h;simp only[qb6,hb,if_neg h]
 |(k,x)::r=>by
  have ih:=au f g v r
  rw[show aQ f v ((k,x)::r)=(if k=f then(k,v)::r else(k,x)::aQ f v r) from rfl]
  by_cases hk:k=f
  ·rw[if_pos hk];by_cases h:g=k
   ·have hb:(g==k)=true:=beq_iff_eq.mpr h;simp only[qb6,hb,if_pos (h.trans hk)]
   ·have hb:(g==k)=false:=beq_eq_false_iff_ne.mpr h;simp only[qb6,hb,if_neg (λe:g=f=>h (e.trans hk.symm))]
  ·rw[if_neg hk];by_cases h:g=k
   ·have hb:(g==k)=true:=beq_iff_eq.mpr h;simp only[qb6,hb,if_neg (λe:g=f=>hk (h.symm.trans e))]
   ·have hb:(g==k)=false:=beq_eq_false_iff_ne.mpr h;simp only[qb6,hb];exact ih
theorem lW(f:w_)(v:V):∀fs:List (w_×V),f∈(aQ f v fs).map (·.1)/\∀g,g∈fs.map (·.1)->g∈(aQ f v fs).map (·.1)
 |[]=>#[by simp[aQ],λg h=>by simp at h]
 |(k,x)::r=>by
  obtain⟨i1,i2⟩:=lW f v r
  rw[show aQ f v ((k,x)::r)=(if k=f then(k,v)::r else(k,x)::aQ f v r) from rfl]
  by_cases hk:k=f
  ·rw[if_pos hk];subst hk;exact#[by simp,λg h=>by simpa using h]
  ·rw[if_neg hk];refine#[?_,λg h=>?_]
   ·rw[qag];exact s_ _ i1
   ·rw[qag]at h ⊢;rcases B_.mp h with e|e
    ·exact B_.mpr (.inl e)
    ·exact s_ _ (i2 g e)
theorem om(f:w_)(v:V):∀fs:List (w_×V),(aQ f v fs).length<=fs.length+1
 |[]=>by simp[aQ]
 |(k,x)::r=>by
  have ih:=om f v r
  rw[show aQ f v ((k,x)::r)=(if k=f then(k,v)::r else(k,x)::aQ f v r) from rfl]
  by_cases hk:k=f
  ·rw[if_pos hk,Q_,Q_];omega
  ·rw[if_neg hk,Q_,Q_];omega
theorem m5.some_of (r:m5 (some v) o):∃u,o=some u/\RelV v u:=by
 cases o with
 |none=>exact(show False from r).elim
 |some u=>exact#[u,Y,r]
theorem Gi(r:RelV v u):zba u=true:=by
 cases v with
 |dX=>cases (show u=Value.none from r);rfl
 |bl b=>cases (show u=Value.bool b from r);rfl
 |int i=>obtain⟨t,e⟩:=(show ∃t,u=Value.int i t from r);cases e;rfl
 |str x=>obtain⟨t,e⟩:=(show ∃t,u=Value.str x t from r);cases e;rfl
 |E8 b=>obtain⟨t,e⟩:=(show ∃t,u=Value.bytes b t from r);cases e;rfl
 |O2 b=>obtain⟨t,e⟩:=(show ∃t,u=Value.float b t from r);cases e;rfl
 |ref a=>cases (show u=Value.ref a from r);rfl
 |ty n=>cases (show u=Value.type n from r);rfl
section
variable{P:qal}{w:qaG}{H H':Hp}{h h':qaE}{a C dx:l_}{fs fs':List (w_×V)}
theorem zJ(hok:mF P w H h)(e:H a=some (.ins C dx fs)):∃mA,GG h a dx C mA/\(∀f,m5 (fs.lookup f) (mA f))/\PySem.Within mA (fs.map (·.1))/\fs.length<=1000/\H dx=some (.own a):=by
 obtain⟨d,z,ne,ob,mA,n,r,q⟩:=(show cE P w H h a (.ins C dx fs) from hok a _ e);exact#[mA,#[ob,n,ne],r,q,z,d]
end
structure JX(K:zaa)(C:l_):Prop where
 pg:za_ K C Str.empty=true
 hd:zaq K C=true
 po:zbl K C=true
 sa:zaf K (.ref C) "__setattr__" =some (some (.builtin "object.__setattr__"))
theorem JX.get{K:zaa}(c:JX K C)(f:w_):za_ K C f=true:=c.pg
def cL(K:zaa)(C:l_)(f:w_):Prop:=zaf K (.ref C) f=some none
theorem cL.Hj{K:zaa}(n:cL K C f):zar K C f=some none:=by
 unfold zar;rw[show zaf K (.ref C) f=some none from n];rfl
section
variable{X:Cx}{pins:List (l_×qbW)}{σ:St}{H:Hp}{s:v_}{a C dx:l_}{fs:List (w_×V)}{f:w_}{v:V}{A:qaP}{E:n_->v_->Prop}
theorem DN(I:Inv X pins σ H s)(e:H a=some (.ins C dx fs))(c:JX X.K C)(n:cL X.K C f)(l:fs.lookup f=some v)
  (h:∀u s',Inv X pins σ H s'->RelV v u->Q u s'):F_ (model X.prog X.w) A (getAttr (.ref a) f b) Q E s:=by
 obtain⟨mA,O,r,_,_,_⟩:=zJ I.hok e;obtain⟨u,hu,ru⟩:=m5.some_of (v:=v) (o:=mA f) (by rw[←l];exact r f);exact get_map I.nu O (c.get f) c.hd n hu (Gi ru) (h u _ (I.tok _) ru)
theorem CY{Q:Unit->v_->Prop}(I:Inv X pins σ H s)(e:H a=some (.ins C dx fs))(c:JX X.K C)(n:cL X.K C f)(hl:fs.length<1000)(ry:RelV y u)
  (h:∀s',Inv X pins σ (upd H a (.ins C dx (aQ f y fs))) s'->Q () s'):F_ (model X.prog X.w) A (setAttr (.ref a) f u) Q E s:=by
 obtain⟨mA,O,r,wi,_,ho⟩:=zJ I.hok e;have hz:(fs.map (·.1)).length<=A_:=by rw[e_,qb5];omega
 refine K2 I.nu O c.sa c.po n.Hj c.hd wi hz λh' O' sb=>h _ ?_
 have hd:∃o,h'.get? dx=some o:=let ⟨o,_,_,e',_⟩:=O'.ns;#[o,e']
 refine I.write (x:=a) (e:=dx) (by rw[e];exact True.intro) (.inr ho) (λb q hb z=>(sb.2 b hb).trans z) hd ?_;refine#[by rw[ay O.ne];exact ho,?_,O.ne,O'.obj,_,O'.ns,λg=>?_,λg hg=>?_]
 ·have:=om f y fs;omega
 ·show m5 ((aQ f y fs).lookup g) (if g=f then some u else mA g)
  rw[au];by_cases q:g=f
  ·rw[if_pos q,if_pos q];exact ry
  ·rw[if_neg q,if_neg q];exact r g
 ·by_cases q:g=f
  ·rw[q];exact(lW f y fs).1
  ·refine(lW f y fs).2 g (wi g λz=>hg ?_)
   show(if g=f then some u else mA g)=none
   rw[if_neg q];exact z
theorem Inv.made(I:Inv X pins σ H s):Inv X pins σ (upd (upd H s.heap.objs.size (.own (s.heap.objs.size+1))) (s.heap.objs.size+1) (.ins C s.heap.objs.size []))
  { s with heap:=(s.heap.push zac).push (zan C s.heap.objs.size) }:=by
 have e1:(s.heap.push zac).get? s.heap.objs.size=some zac:=I_ s.heap rfl;have e2:((s.heap.push zac).push (zan C s.heap.objs.size)).get? (s.heap.objs.size+1)=some (zan C s.heap.objs.size):=by
  have:=I_ (s.heap.push zac) (o:=zan C s.heap.objs.size) rfl
  rwa [qaX]at this
 have e3:(s.heap.push zac).Ns s.heap.objs.size (λ_=>none):=#[zac,#[],_,e1,rfl,(λe he=>absurd he (by simp)),λ_=>rfl];have I1:=I.laid (a:=s.heap.objs.size) (o:=.own (s.heap.objs.size+1)) (h':=s.heap.push zac) (t':=s.toks) (λb u q=>g_ _ q) (i_ _) #[_,e1];refine I1.laid (a:=s.heap.objs.size+1) (o:=.ins C s.heap.objs.size []) (t':=s.toks) (λb u q=>g_ _ q) (qb8 (qaX _ _)) ?_;have ne:s.heap.objs.size≠s.heap.objs.size+1:=V_ (qa8 _);refine#[by rw[ay ne,ai],O_ _,ne,e2,λ_=>none,(Heap.Ns1.of_empty e3).at λo q=>g_ _ q,λ_=>True.intro,λy hy=>absurd Y hy]
theorem Fb(hb:attributeBase e f env (eval e env)=eval e env)
  (h:F_ (model prog w) A (eval e env) (λo s₁=>F_ (model prog w) A (getAttr o f true) Q E s₁) E s):F_ (model prog w) A (eval (.Attribute e f pos) env) Q E s :=
 Attribute_any_ h (by rw[arm_eval_Attribute,hb])
end
def Uo(K:zaa)(ta:TE)(f:w_):TE:=λσ H Q=>ta σ H λx H1=>tW λa C dx fs v=>x= .ref a/\H1 a=some (.ins C dx fs)/\JX K C/\cL K C f/\fs.lookup f=some v/\Q v H1
def Uv(K:zaa)(ta tv:TE)(f:w_):TS:=λD σ H=>tv σ H λy H1=>ta σ H1 λx H2=>mZ λa C dx fs=>x= .ref a/\H2 a=some (.ins C dx fs)/\JX K C/\cL K C f/\fs.length<1000 ∧
 D.nx σ (upd H2 a (.ins C dx (aQ f y fs)))
section
variable{X:Cx}{o e value:Expr}{f:w_}{pos pos' tpos:qc5}{ta tv:TE}
theorem aT(he:PE X e ta)(hb:attributeBase e f X.env (eval e X.env)=eval e X.env):PE X (.Attribute e f pos) (Uo X.K ta f):=by
 intro pins s σ H Q I h;refine Fb hb (dm (he pins s σ H _ I h) λu s1 ⟨x,H1,I1,rx,a,C,dx,fs,v,ex,ea,c,n,l,q⟩=>?_);subst ex;obtain rfl:u=Value.ref a:=rx;exact DN I1 ea c n l λu' s2 I2 ru=>#[v,H1,I2,ru,q]
theorem fM(ha:PE X o ta)(hv:PE X value tv)(hs:swapsWith value (some (.Attribute o f pos')) pos.line X.env=pure false):PS X (.Assign [.Attribute o f pos'] value pos) (Uv X.K ta tv f):=by
 intro pins s σ H D I h;refine plainObj_wpAny_Assign_Attribute (dm (hv pins s σ H _ I h) λu s1 ⟨y,H1,I1,ry,q⟩=>dm (ha pins s1 σ H1 _ I1 q) λov s2 ⟨x,H2,I2,rx,a,C,dx,fs,ex,ea,c,n,l,q2⟩=>?_) hs;subst ex;obtain rfl:ov=Value.ref a:=rx;exact CY I2 ea c n l ry λs3 I3=>#[σ,_,I3,q2]
end
section
variable{X:Cx}{pins:List (l_×qbW)}{σ:St}{H:Hp}{s:v_}{A:qaP}{E:n_->v_->Prop}{Q:n_->v_->Prop}{c:n_}{b:Bool}
inductive sQ(K:zaa)(H:Hp):V->n_->Prop where
 |dX:sQ K H .dX (.type "NoneType")
 |bl (x:Bool):sQ K H (.bl x) (.type "bool")
 |int (i:Int):sQ K H (.int i) (.type "int")
 |str (x:w_):sQ K H (.str x) (.type "str")
 |O2 (x:UInt64):sQ K H (.O2 x) (.type "float")
 |lst {a:l_} {xs:List V} (e:H a=some (.lst xs)):sQ K H (.ref a) (.type "list")
 |DQ {a:l_} {o:qbW} {xs:List V} (e:H a=some (.DQ o (.lst xs))):sQ K H (.ref a) (.type "list")
 |tup {a:l_} {xs:List V} (e:H a=some (.tup xs)):sQ K H (.ref a) (.type "tuple")
 |dK {a:l_} {kvs:List (Key×V)} (e:H a=some (.dK kvs)):sQ K H (.ref a) (.type "dict")
 |dT {a:l_} {kvs:List (List Key×V)} (e:H a=some (.dT kvs)):sQ K H (.ref a) (.type "dict")
 |ins {a C dx:l_} {fs:List (w_×V)} (e:H a=some (.ins C dx fs)) (cl:JX K C) (ha:zaf K (.ref C) "__class__" =some (some (.builtin "object.__class__")))
   (hn:zbd K (.builtin "object.__class__") "__get__" =some (some (.builtin "getset_descriptor.__get__"))) (htk:zbn K (.builtin "object.__class__")=some true)
   (hm:zav K C (.type "object")=some true):sQ K H (.ref a) (.ref C)
theorem Ge(I:Inv X pins σ H s)(rx:RelV x u)(ty:sQ X.K H x t)(e:zad X.K t c=some b)(h:∀tk,Q (.bool b) { s with toks:=tk }):
  F_ (model X.prog X.w) A (call (.builtin "isinstance") [u,c]) Q E s:=by
 cases ty with
 |dX=>cases (show u=Value.none from rx);exact zai PySem.W.kitx_none I.nu True.intro e (λz=>nomatch z) h
 |bl y=>cases (show u=Value.bool y from rx);exact zai PySem.W.kitx_bool I.nu True.intro e (λz=>nomatch z) h
 |int i=>obtain⟨t,q⟩:=(show ∃t,u=Value.int i t from rx);cases q;exact zai PySem.W.kitx_int I.nu True.intro e (λz=>nomatch z) h
 |str y=>obtain⟨t,q⟩:=(show ∃t,u=Value.str y t from rx);cases q;exact zai PySem.W.kitx_str I.nu True.intro e (λz=>nomatch z) h
 |O2 y=>obtain⟨t,q⟩:=(show ∃t,u=Value.float y t from rx);cases q;exact zai PySem.W.kitx_float I.nu True.intro e (λz=>nomatch z) h
 | @lst a xs ea =>
  cases (show u=Value.ref a from rx);obtain⟨_,_,n,_,h1⟩:=(show cE X.prog X.w H s.heap a (.lst xs) from I.hok a _ ea)
  exact zai zbo I.nu #[_,h1,Y] e (λz=>nomatch z) h
 | @DQ a ob xs ea =>
  cases (show u=Value.ref a from rx);obtain⟨_,_,_,n,_,h1⟩:=(show cE X.prog X.w H s.heap a (.DQ ob (.lst xs)) from I.hok a _ ea)
  exact zai zbo I.nu #[_,h1,Y] e (λz=>nomatch z) h
 | @tup a xs ea =>
  cases (show u=Value.ref a from rx);obtain⟨_,_,_,p⟩:=(show cE X.prog X.w H s.heap a (.tup xs) from I.hok a _ ea);obtain⟨o,h1,h2,_⟩:=p
  exact zai PySem.W.kitx_tuple I.nu #[o,h1,h2] e (λz=>nomatch z) h
 | @dK a kvs ea =>
  cases (show u=Value.ref a from rx);obtain⟨_,_,vs,_,p⟩:=(show cE X.prog X.w H s.heap a (.dK kvs) from I.hok a _ ea);obtain⟨o,es,ep,h1,h2,_⟩:=p
  exact zai zbp I.nu #[o,h1,h2.1] e (λz=>nomatch z) h
 | @dT a kvs ea =>
  cases (show u=Value.ref a from rx);obtain⟨_,_,xs,_,o,es,ep,h1,h2,_⟩:=(show cE X.prog X.w H s.heap a (.dT kvs) from I.hok a _ ea)
  exact zai zbp I.nu #[o,h1,h2.1] e (λz=>nomatch z) h
 | @ins a C dx fs ea cl ha hn htk hm =>
  cases (show u=Value.ref a from rx);obtain⟨mA,O,_⟩:=zJ I.hok ea;obtain⟨od,J,_⟩:=O.look
  exact zai (PySem.W.kitx_own (cl.get _) cl.hd ha hn htk hm) I.nu J e (λz=>nomatch z) h
end
end
section
structure g8(k:Nat)(A:qaP):Prop where
 hd:A.handled=none
 dp:A.depth+3*k+5<recursionLimit
 un:A.units+16*k+200<cLine
theorem g8.mono(r:g8 k A)(h:j<=k):g8 j A:=#[r.hd,by have:=r.dp;omega,by have:=r.un;omega]
theorem g8.deeper(r:g8 (k+1) A)(env:Env):g8 k (A.deeper env) :=
 #[r.hd,by have:=r.dp;show A.depth+1+3*k+5<_;omega,by have:=r.un;show A.units+3+16*k+200<_;omega]
theorem DF{A:qaP}:(A.under (.builtin "type.__call__" #[.ref C::us,kw])).depth=A.depth+1:=by
 first|rfl|simp[Around.under,Code.weight,Code.isCreation,Code.isGuard,Code.isCaller,Code.frames,Code.isFrame,guardIds]
theorem DE{A:qaP}:(A.under (.builtin "type.__call__" #[.ref C::us,kw])).units=A.units+1:=by
 first|rfl|simp[Around.under,Code.cUnits,Code.frames,Code.isFrame]
theorem g8.make(r:g8 (k+1) A)(C:l_)(us:List n_)(kw:List (w_×n_)):g8 k (A.under (.builtin "type.__call__" #[.ref C::us,kw])) :=
 #[r.hd,by have:=r.dp;rw[DF];omega,by have:=r.un;rw[DE];omega]
theorem g8.depth(r:g8 k A):A.depth<recursionLimit:=by have:=r.dp;omega
theorem g8.units(r:g8 k A):A.units+64<cLine:=by have:=r.un;omega
def Ui:TA:=λ_ H Q=>Q [] H
def Qq(ta:TE)(tr:TA):TA:=λσ H Q=>ta σ H λx H1=>tr σ H1 λxs H2=>Q (x::xs) H2
section
variable{X:Cx}{e:Expr}{es:List Expr}{te:TE}{t:TA}{pos:qc5}
theorem ah:PA X [] Ui:=λ_ _ _ _ H Q I h=>Calls.spliced_nil #[[],H,I,.nil,h]
theorem aa(ha:PE X e te)(hr:PA X es t)(hs:qaa (e::es) X.env=(false,eval e X.env)::qaa es X.env:=by rfl):PA X (e::es) (Qq te t):=by
 intro pos pins s σ H Q I h;rw[hs];show F_ _ _ (spliced ((false,eval e X.env)::backTo pos (qaa es X.env))) _ _ s;refine qcO (dm (ha pins s σ H _ I h) λu s1 ⟨x,H1,I1,r1,q1⟩=>?_);exact dm (hr pos pins s1 σ H1 _ I1 q1) λus s2 ⟨xs,H2,I2,r2,q2⟩=>#[x::xs,H2,I2,.cons r1 r2,q2]
def Ub(t:TA):TE:=λσ H Q=>t σ H λxs H1=>xs.length<=A_/\∀p,H1 p=none->Q (.ref p) (upd H1 p (.tup xs))
def Uk(t:TA):TE:=λσ H Q=>t σ H λxs H1=>xs.length<=A_/\∀p,H1 p=none->Q (.ref p) (upd H1 p (.lst xs))
theorem ck(h:PA X es t):PE X (.Tuple es x1 pos) (Ub t):=by
 intro pins s σ H Q I hq;refine wpAny_Tuple_spliced (dm (h pos pins s σ H _ I hq) λus s1 ⟨xs,H1,I1,r,z,q⟩=>#[by rw[←r.length];exact z,?_]);have hf:H1 s1.heap.objs.size=none:=I1.hok.fresh (i_ _);refine#[.ref s1.heap.objs.size,upd H1 s1.heap.objs.size (.tup xs),I1.laid (t':=s1.toks) (λb u e=>g_ _ e) (i_ _) ?_,Y,q _ hf];exact#[z,us,r,#[_,I_ _ Y,Y,_,Y]]
theorem dY(h:PA X es t):PE X (.List es pos) (Uk t):=by
 intro pins s σ H Q I hq;refine wpAny_List_spliced (dm (h pos pins s σ H _ I hq) λus s1 ⟨xs,H1,I1,r,z,q⟩=>#[by rw[←r.length];exact z,?_]);have hf:H1 s1.heap.objs.size=none:=I1.hok.fresh (i_ _);refine#[.ref s1.heap.objs.size,upd H1 s1.heap.objs.size (.lst xs),I1.laid (t':=s1.toks) (λb u e=>g_ _ e) (i_ _) ?_,Y,q _ hf];exact#[z,us,0,r,I_ _ Y]
end
abbrev Sp:=List V->Hp->VK->XK->Prop
abbrev Ei:=List Env->Hp->v_->XK->n_->v_->Prop
structure Eg(P:qal)(w:qaG)(K:zaa)(mg:w_->Option n_)(base:qaE)(A:qaP)(outer:List Env)(s:v_)(H:Hp):Prop where
 frames:A.frames=some outer
 mod:Mod K mg base
 bs:∀b o,base.get? b=some o->s.heap.get? b=some o/\H b=none
 Jv:base.objs.size<=s.heap.objs.size
 qf:s.heap.FunFrames base outer
 LU:∀b∈frs outer,H b=none
 hok:mF P w H s.heap
 bare:AllBare s.gens
 tk:Cg mg s.toks
def CE(outer:List Env)(P:qal)(w:qaG)(H:Hp)(s:v_)(Q:VK)(u:n_)(s':v_):Prop :=
 bU λv H'=>s'.os=s.os/\AllBare s'.gens/\Un (frs outer) [] H H' s.heap s'.heap/\mF P w H' s'.heap/\RelV v u/\s.toks<=s'.toks/\Q v H'
def CR(CX:Ei)(outer:List Env)(P:qal)(w:qaG)(H:Hp)(s:v_)(Q:VK)(E:XK)(r:Result)(s':v_):Prop :=
 match r with
 | .ok (.ret u)=>CE outer P w H s Q u s'
 | .ok _=>False
 | .error e=>CX outer H s E e s'
structure nI(P:qal)(w:qaG)(K:zaa)(mg:w_->Option n_)(base:qaE)(CX:Ei)(k:Nat)(f:l_)(fd:qce)(ps:List w_)(sp:Sp):Prop where
 len:∀vs H Q E,sp vs H Q E->vs.length=ps.length
 run:∀(A:qaP) (outer:List Env) (s:v_) (H:Hp) (args:Args) (us:List n_) (vs:List V) (Q:VK) (E:XK),g8 k A->Eg P w K mg base A outer s H->BindsTo s fd args (ps.zip us)->Vals vs us->sp vs H Q E →
  codeAny (model P w) A (.call (.ref f) args) (CR CX outer P w H s Q E) s
theorem Eg.make{K:zaa}(e:Eg P w K mg base A outer s H)(C:l_)(us:List n_)(kw:List (w_×n_)):
  Eg P w K mg base (A.under (.builtin "type.__call__" #[.ref C::us,kw])) outer s H:=#[by first|exact e.frames|(simpa[Around.under,Code.envs,Code.isFrame,pushEnvs]using e.frames),e.mod,e.bs,e.Jv,e.qf,e.LU,e.hok,e.bare,e.tk]
section
variable{X:Cx}{pins:List (l_×qbW)}{σ:St}{H:Hp}{s s':v_}
theorem Inv.L6(I:Inv X pins σ H s):Eg X.prog X.w X.K X.mg X.base X.A X.stack s H :=
 #[I.ok.frames,I.ok.mod,I.bs,gc I.ok.Jv I.sz,I.stack,I.yy,I.hok,I.bare,I.tk]
theorem Inv.after(I:Inv X pins σ H s)(h:CE X.stack X.prog X.w H s Q u s'):EP X pins σ Q u s':=by
 obtain⟨v,H',os,bare,un,hok,r,tt,q⟩:=h;obtain⟨hh,g,d,t,os'⟩:=s';obtain rfl:os'=s.os:=os;exact#[v,H',I.call (h':=hh) (g':=g) (d':=d) (t':=t) (ch:=[]) un hok bare (λb z=>absurd z (by simp)) (gc I.up tt),r,q]
end
def Mx(sp:Sp)(vX:List V)(E:XK)(t:TA):TE:=λσ H Q=>t σ H λvs H1=>sp (vs++vX) H1 Q E
def Mw(C:l_)(sp:Sp)(vX:List V)(E:XK)(t:TA):TE:=λσ H Q=>t σ H λvs H1=>∀x dx,H1 x=none->H1 dx=none->dx≠x →
 sp (.ref x::(vs++vX)) (upd (upd H1 dx (.own x)) x (.ins C dx [])) (λv H2=>v= .dX/\Q (.ref x) H2) E
def Binds(K:zaa)(fd:qce)(ps:List w_)(ds:List n_):Prop :=
 ∀(s:v_) (us:List n_),K.In s.heap->(us++ds).length=ps.length->BindsTo s fd #[us,[]] (ps.zip (us++ds))
theorem Binds.all{K:zaa}(h:∀us:List n_,us.length=ps.length->bindArgs fd #[us,[]]=pure (ps.zip us)):Binds K fd ps []:=λs us _ hl=>by
 rw[qaQ]at hl ⊢;exact .of_eq (h us hl)
def Passes(CX:Ei)(X:Cx)(E:XK):Prop:=∀(pins:List (l_×qbW)) (σ:St) (H:Hp) (s:v_) (e:n_) (s':v_),Inv X pins σ H s->CX X.stack H s E e s'->X.xe e s'
section
variable{X:Cx}{CX:Ei}{k:Nat}{f C:l_}{fd:qce}{ps:List w_}{sp:Sp}{vX:List V}{ds:List n_}{E:XK}{x m:w_}{p pos apos:qc5}{e o:Expr}{es:List Expr}{ta:TE}{t:TA}
theorem N4{σ:St}(F:nI X.prog X.w X.K X.mg X.base CX k f fd ps sp)(hr:g8 k X.A)(hb:Binds X.K fd ps ds)(hd:Vals vX ds)(hx:Passes CX X E)
  (I:Inv X pins σ H s) (r:Vals vs us) (h:sp (vs++vX) H Q E):F_ (model X.prog X.w) X.A (call (.ref f) us) (EP X pins σ Q) X.xe s:=by
 have r2:Vals (vs++vX) (us++ds):=r.append hd;have hl:(us++ds).length=ps.length:=by rw[←r2.length];exact F.len _ _ _ _ h
 refine qb9 (qbM (F.run X.A X.stack s H #[us,[]] (us++ds) (vs++vX) Q E hr I.L6 (hb s us I.nu hl) r2 h) λr s' hq=>?_)
 cases r with
 |error e=>exact hx pins σ H s e s' I hq
 |ok fl =>
  cases fl with
  |ret u=>exact I.after hq
  |next=>exact qaI hq
  |brk=>exact qaI hq
  |cont=>exact qaI hq
theorem oX(F:nI X.prog X.w X.K X.mg X.base CX k f fd ps sp)(hr:g8 k X.A)(hg:Gl X x)(hm:X.mg x=some (.ref f))(hk:zap X.K (.ref f)=true)(hb:Binds X.K fd ps ds)(hd:Vals vX ds)(hx:Passes CX X E)
  (ha:PA X (e::es) t) (hdb:(x==("__debug__" :w_))=false:=by decide) (he:qaa (e::es) X.env=(false,eval e X.env)::qaa es X.env:=by rfl) (hpl:(backTo pos (qaa es X.env)).any (·.1)=false:=by rfl) :
  PE X (.Call (.Name x p) (e::es) [] pos) (Mx sp vX E t):=by
 intro pins s σ H Q I h;refine qbg (jC I hg hm ?_ hdb);refine za1 (h₀:=X.base) I.ok.mod.MH hk (dm (ha pos pins s σ H _ I h) λus s1 ⟨vs,H1,I1,r,q⟩=>#[I1.nu,?_]) he hpl;exact N4 F hr hb hd hx I1 r q
structure Mk(K:zaa)(C f:l_):Prop where
 makes:zbm K C=true
 init:zaf K (.ref C) "__init__" =some (some (.ref f))
 fn:zbq K (.ref f)=true
 kp:zap K (.ref C)=true
theorem HV{σ:St}{Q:VK}(M:Mk X.K C f)(F:nI X.prog X.w X.K X.mg X.base CX k f fd ps sp)(hr:g8 (k+1) X.A)(hb:Binds X.K fd ps ds)(hd:Vals vX ds)
  (hx:Passes CX X E) (I:Inv X pins σ H s) (r:Vals vs us)
  (h:∀x dx,H x=none->H dx=none->dx≠x->sp (.ref x::(vs++vX)) (upd (upd H dx (.own x)) x (.ins C dx [])) (λv H2=>v= .dX/\Q (.ref x) H2) E) :
  F_ (model X.prog X.w) X.A (call (.ref C) us) (EP X pins σ Q) X.xe s:=by
 have hq:=h (s.heap.objs.size+1) s.heap.objs.size (I.hok.fresh (qaA _)) (I.hok.fresh (i_ _)) (V_ (qa8 _));have I2:=Inv.made (C:=C) I;have r2:Vals (V.ref (s.heap.objs.size+1)::(vs++vX)) (Value.ref (s.heap.objs.size+1)::(us++ds)):=.cons rfl (r.append hd);have hl:(Value.ref (s.heap.objs.size+1)::us++ds).length=ps.length:=by
  have e:=r2.length;rw[F.len _ _ _ _ hq]at e;exact e.symm
 refine qb9 (Iw (f:=f) I.nu M.makes M.init (beq_iff_eq.mp M.fn) (qbM (F.run _ X.stack _ _ #[Value.ref (s.heap.objs.size+1)::us,[]] (Value.ref (s.heap.objs.size+1)::(us++ds)) _ _ E (hr.make C us [])
  (I2.L6.make C us []) (hb _ (Value.ref (s.heap.objs.size+1)::us) I2.nu hl) r2 hq) λr s' hq'=>?_))
 cases r with
 |error e=>exact hx pins σ _ _ e s' I2 hq'
 |ok fl =>
  cases fl with
  |ret u =>
   obtain⟨v,H',I3,rv,ev,q3⟩:=I2.after hq';subst ev;exact#[rv,#[V.ref (s.heap.objs.size+1),H',I3,Y,q3]]
  |next=>exact qaI hq'
  |brk=>exact qaI hq'
  |cont=>exact qaI hq'
theorem K9(M:Mk X.K C f)(F:nI X.prog X.w X.K X.mg X.base CX k f fd ps sp)(hr:g8 (k+1) X.A)(hg:Gl X x)(hm:X.mg x=some (.ref C))(hb:Binds X.K fd ps ds)(hd:Vals vX ds)(hx:Passes CX X E)
  (ha:PA X (e::es) t) (hdb:(x==("__debug__" :w_))=false:=by decide) (he:qaa (e::es) X.env=(false,eval e X.env)::qaa es X.env:=by rfl) (hpl:(backTo pos (qaa es X.env)).any (·.1)=false:=by rfl) :
  PE X (.Call (.Name x p) (e::es) [] pos) (Mw C sp vX E t):=by
 intro pins s σ H Q I h;refine qbg (jC I hg hm ?_ hdb);refine za1 (h₀:=X.base) I.ok.mod.MH M.kp (dm (ha pos pins s σ H _ I h) λus s1 ⟨vs,H1,I1,r,q⟩=>#[I1.nu,?_]) he hpl;exact HV M F hr hb hd hx I1 r q
end
section
variable{X:Cx}{CX:Ei}{k:Nat}{f C:l_}{fd:qce}{ps ks:List w_}{sp:Sp}{E:XK}{x m:w_}{p pos apos kpos:qc5}{e o:Expr}{es:List Expr}{kws:List Keyword}{te ta:TE}{t tk:TA}{nm:Option w_}
variable{g:List n_->List n_->List n_}{gV:List V->List V->List V}
end
structure m7(N P:List w_)(sc:qcT):Prop where
 kind:sc.kind= .function
 co:sc.isCoroutine=false
 gen:sc.isGenerator=false
 nd:N.Nodup
 pre:N.take P.length=P
 par:∀x∈P,sc.names.lookup x=some .local\/sc.names.lookup x=some .cell
 Oj:∀y∈sc.names,y.2≠ .free
theorem yk{kindOf:w_->Option qbN}:∀{binds:List (w_×n_)} {m:w_->Option n_},(∀v,(x,v)∉binds)->bindL kindOf binds m x=m x
 |[],_,_=>rfl
 |(n,v)::r,m,h=>by
  unfold bindL;rw[yk λw hw=>h w (s_ _ hw)];split
  ·have:x≠n:=by rintro rfl;exact h v r_
   simp[this]
  ·rfl
theorem ym{kindOf:w_->Option qbN}:∀{binds:List (w_×n_)} {m:w_->Option n_},(∀v,(x,v)∉binds)->bindC kindOf binds m x=m x
 |[],_,_=>rfl
 |(n,v)::r,m,h=>by
  unfold bindC;rw[ym λw hw=>h w (s_ _ hw)];split
  ·rfl
  ·have:x≠n:=by rintro rfl;exact h v r_
   simp[this]
theorem yl{kindOf:w_->Option qbN}:∀{P:List w_} {vs:List n_} {i:Nat} {m:w_->Option n_},P.Nodup->P[i]? =some x->vs[i]? =some v->kindOf x=some .local →
  bindL kindOf (P.zip vs) m x=some v
 |[],_,_,_,_,h,_,_=>by simp at h
 |_::_,[],_,_,_,_,h,_=>by simp at h
 |p::P,w::vs,0,m,nd,h1,h2,hk=>by
  simp at h1 h2;subst h1;subst h2;show bindL kindOf ((p,w)::P.zip vs) m p=_;unfold bindL;rw[yk λv hv=>(qcf.mp nd).1 (List.of_mem_zip hv).1,if_pos hk];simp
 |p::P,w::vs,i+1,m,nd,h1,h2,hk=>by
  show bindL kindOf ((p,w)::P.zip vs) m x=_;unfold bindL;exact yl (i:=i) (qcf.mp nd).2 (by simpa using h1) (by simpa using h2) hk
theorem yo{kindOf:w_->Option qbN}:∀{P:List w_} {vs:List n_} {i:Nat} {m:w_->Option n_},P.Nodup->P[i]? =some x->vs[i]? =some v->kindOf x≠some .local →
  bindC kindOf (P.zip vs) m x=some v
 |[],_,_,_,_,h,_,_=>by simp at h
 |_::_,[],_,_,_,_,h,_=>by simp at h
 |p::P,w::vs,0,m,nd,h1,h2,hk=>by
  simp at h1 h2;subst h1;subst h2;show bindC kindOf ((p,w)::P.zip vs) m p=_;unfold bindC;rw[ym λv hv=>(qcf.mp nd).1 (List.of_mem_zip hv).1,if_neg hk];simp
 |p::P,w::vs,i+1,m,nd,h1,h2,hk=>by
  show bindC kindOf ((p,w)::P.zip vs) m x=_;unfold bindC;exact yo (i:=i) (qcf.mp nd).2 (by simpa using h1) (by simpa using h2) hk
noncomputable def start(N:List w_)(vs:List V):St:=vs.map some++G_ (N.length-vs.length) none
noncomputable def qm(CX:Ei)(P:qal)(w:qaG)(K:zaa)(mg:w_->Option n_)(base:qaE)(N:List w_)(qual:w_)(scope:qcT)(f:l_)(cd:n_)(A:qaP)(outer:List Env)(s:v_)(H:Hp)(E:XK):Cx where
 prog:=P
 w:=w
 K:=K
 mg:=mg
 base:=base
 A:=A.deeper (envOfC qual scope s.heap.objs.size f cd)
 N:=N
 s₀:=s
 H₀:=H
 env:=envOfC qual scope s.heap.objs.size f cd
 outer:=outer
 stack:=envOfC qual scope s.heap.objs.size f cd::outer
 ex:=[]
 calm:=true
 fn:=λ_=>true
 pn:=[]
 xe:=λe s'=>F_ (model P w) (A.deeper (envOfC qual scope s.heap.objs.size f cd)) (leaving (envOfC qual scope s.heap.objs.size f cd) e) (λ_ s''=>CX outer H s E e s'') (λe' s''=>CX outer H s E e' s'') s'
theorem B5{sc:qcT}{n:Nat}(h:sc.names.lookup x=some .cell):∃c,(cellsFrom n sc.names []).lookup x=some c:=by
 have q:=zbe sc.names n [] (.inl h);exact qbQ.mp q
theorem Gf{K:zaa}
  (S:m7 N ps scope) (hd:A.handled=none) (e0:Eg P w K mg base A outer s H) (hl:vs.length=ps.length) (r:Vals vs us)
  (x:InCallC s s.heap.objs.size (bindL (envOfC qual scope s.heap.objs.size f cd).kindOf (ps.zip us) λ_=>none) (cellsFrom (s.heap.objs.size+1) scope.names []) (bindC (envOfC qual scope s.heap.objs.size f cd).kindOf (ps.zip us) λ_=>none) s1) (hup:s.toks<=s1.toks) :
  Inv (qm CX P w K mg base N qual scope f cd A outer s H E) [] (start N vs) H s1:=by
 have hpl:ps.length<=N.length:=by have:=congrArg qaR S.pre;rw[W_]at this;omega
 obtain⟨h1,tk,rfl,hk⟩:=x.done;have htk:s.toks<=tk:=hup;have QZ:∀b:l_,b∉(qm CX P w K mg base N qual scope f cd A outer s H E).ex:=λb z=>absurd (show b∈([]:List l_) from z) (by simp);refine#[#[e0.mod,S.kind,Y,Y,i_ _,λy z c h1 h2=>?_,λy hy=>?_,λy c _ h=>?_,λ_=>hd,Around.frames_deeper e0.frames,.inr #[Y,Y],λb z=>absurd z (QZ b),e0.bs,e0.Jv,λb _ _=>QZ b,λb z=>absurd z (QZ b),e0.qf,e0.LU,e0.tk],
  rfl,e0.bare,Un.kept hk,#[_,x.toInCall.ns,λi y v h1 h2 h3=>?_],λy c h=>#[_,x.cell y c h],e0.hok.fresh (i_ _),λy c h=>?_,λp hp=>absurd (show p∈([]:List (l_×qbW)) from hp) (by simp),e0.hok.kept hk,?_,htk]
 ·exact name_of_addr x.apart (PySem.mem_of_lookup h1) (PySem.mem_of_lookup h2)
 ·have hy:scope.names.lookup y=some .cell\/scope.names.lookup y=some .free:=hy;rcases hy with hy|hy
  ·exact B5 hy
  ·exact absurd Y (S.Oj _ (PySem.mem_of_lookup hy))
 ·exact qa5 (x.above y c (PySem.mem_of_lookup h))
 ·have hi:i<vs.length:=by
   unfold start at h2;by_cases hi:i<vs.length
   ·exact hi
   ·rw[qab (by simpa using hi)]at h2;rw[qb0]at h2;split at h2<;>cases h2
  have ha:vs[i]? =some v:=by
   unfold start at h2;rw[qad (by simpa using hi),j_]at h2
   cases e:vs[i]? with
   |none=>rw[e]at h2;cases h2
   |some a=>rw[e]at h2;cases h2;rfl
  obtain⟨u,hu,rv⟩:=r.get ha;have hp:ps[i]? =some y:=by
   rw[←S.pre,List.getElem?_take_of_lt (by omega)];exact h1
  have W9:ps.Nodup:=by rw[←S.pre];exact S.nd.sublist (List.take_sublist _ _)
  refine#[u,rv,?_];rcases S.par y (h_ hp)with k|k
  ·exact .inl #[k,yl W9 hp hu k]
  ·obtain⟨c,e⟩:=B5 (n:=s.heap.objs.size+1) k;refine .inr #[.inl k,c,e,?_];have q:=x.cell y c e;rw[yo W9 hp hu (by show scope.names.lookup y≠_;rw[k];decide)]at q;exact q
 ·exact e0.hok.fresh (qa5 (x.above y c (PySem.mem_of_lookup h)))
 ·unfold start;show _=N.length;rw[t_,e_,qaz];omega
theorem M0{K:zaa}{dV kV doc pm cdv ct oc:n_}
  (lk:K.lookup f=some #[oc,od,.func (zaj name qual params body scope dV kV doc pm an cdv ct),osl]) (hcd:zaw K cdv qual=true) (S:m7 N ps scope)
  (len:∀vs H Q E,sp vs H Q E->vs.length=ps.length)
  (hbody:∀(A:qaP) (outer:List Env) (s:v_) (H:Hp) (vs:List V) (Q:VK) (E:XK),g8 k (A.deeper (envOfC qual scope s.heap.objs.size f cdv))->sp vs H Q E →
   ∃t,xh (qm CX P w K mg base N qual scope f cdv A outer s H E) body t/\t { nx:=λ_ H'=>Q .dX H',rt:=Q } (start N vs) H) :
  nI P w K mg base CX (k+1) f (zaj name qual params body scope dV kV doc pm an cdv ct) ps sp:=by
 refine#[len,λA outer s H args us vs Q E hr e0 hb r Co=>?_];have hl:=len _ _ _ _ Co;have KX:K.In s.heap:=e0.mod.MH.keeps λb o e=>(e0.bs b o e).1;have lim:s.heap.NoLimit:=e0.mod.nolimit.keeps λb o e=>(e0.bs b o e).1;have hkind:∀y∈ps.zip us,scope.names.lookup y.1=some .local\/(scope.names.lookup y.1=some .cell/\((cellsFrom (s.heap.objs.size+1) scope.names []).lookup y.1).isSome=true):=λ⟨n,v⟩ hy=>by
  rcases S.par n (List.of_mem_zip hy).1 with q|q
  ·exact .inl q
  ·exact .inr #[q,zbe _ _ _ (.inl q)]
 refine TK.D4 (i_ _) ?_;refine codeAny_call_function hr.depth (KX _ _ lk) Y S.co S.gen Y (PySem.W.codeRec_of KX hcd) (hb _ _ _ _ ?_);refine TK.bP (i_ _) (wpAny_newFunctionEnv_cells S.kind hkind λenv he s1 x hup=>?_);subst he;refine#[lim.keeps x.toInCall.keep,codeAny_func ?_];obtain⟨t,ht,hq⟩:=hbody A outer s H vs Q E (hr.deeper _) Co;have I:Inv (qm CX P w K mg base N qual scope f cdv A outer s H E) [] (start N vs) H s1:=Gf S hr.hd e0 hl r x hup;refine qaC (ht [] s1 (start N vs) H _ I hq) (λfl s' hs Vh=>?_) λe s' hs=>qaC hs (λ_ _ z _=>z) λ_ _ z _=>z;have fin:∀{σ':St} {H':Hp} {v:V} {u:n_},Inv (qm CX P w K mg base N qual scope f cdv A outer s H E) [] σ' H' s'->RelV v u->Q v H'->CE outer P w H s Q u s' :=
  λ{σ' H' v u} J rv q=>#[v,H',J.os,J.bare,J.base,J.hok,rv,Vh,q]
 cases fl with
 |ret u =>
  obtain⟨v,σ',H',J,rv,q⟩:=hs;exact fin J rv q
 |next =>
  obtain⟨σ',H',J,q⟩:=hs;exact fin (v:=V.dX) (u:=Value.none) J Y q
 |brk =>
  obtain⟨_,_,_,q⟩:=hs;exact qaI q
 |cont =>
  obtain⟨_,_,_,q⟩:=hs;exact qaI q
end
section
section
variable{X:Cx}{x:w_}{p pos:qc5}{e:Expr}{es:List Expr}{t:TA}{id T:String}{r:List V->Hp->VK->Prop}
def WM(r:List V->Hp->VK->Prop)(t:TA):TE:=λσ H Q=>t σ H λvs H1=>r vs H1 Q
theorem av(hc:g7 X (.builtin id) r)(hg:Gl X x)(hm:X.mg x=none)(hv:bootBuiltins x=some (.builtin id))(ha:PA X (e::es) t)(hn:x≠ "__name__" :=by decide)(hdb:(x==("__debug__" :w_))=false:=by decide)
  (he:qaa (e::es) X.env=(false,eval e X.env)::qaa es X.env:=by rfl) (hpl:(backTo pos (qaa es X.env)).any (·.1)=false:=by rfl):PE X (.Call (.Name x p) (e::es) [] pos) (WM r t):=by
 intro pins s σ H Q I h;refine qbg (kr I hg hm hv ?_ hn hdb);exact PyProof.Rows.callWith_builtin1 (dm (ha pos pins s σ H _ I h) λus s1 ⟨vs,H1,I1,r1,q1⟩=>hc pins s1 σ H1 vs us Q I1 r1 q1) he hpl
theorem cR(hc:g7 X (.type T) r)(hg:Gl X x)(hm:X.mg x=none)(hv:bootBuiltins x=some (.type T))(ha:PA X (e::es) t)(hn:x≠ "__name__" :=by decide)(hdb:(x==("__debug__" :w_))=false:=by decide)
  (he:qaa (e::es) X.env=(false,eval e X.env)::qaa es X.env:=by rfl) (hpl:(backTo pos (qaa es X.env)).any (·.1)=false:=by rfl):PE X (.Call (.Name x p) (e::es) [] pos) (WM r t):=by
 intro pins s σ H Q I h;refine qbg (kr I hg hm hv ?_ hn hdb);exact qau (dm (ha pos pins s σ H _ I h) λus s1 ⟨vs,H1,I1,r1,q1⟩=>hc pins s1 σ H1 vs us Q I1 r1 q1) he hpl
end
end
end L2
namespace HT
open PySem PyProof.Rows
section
open PySem.SeqAt
open PySem.AutoSeq1 (wpAny_loadPart')
open PySem.MeetsSeq PySem.MeetsSeq2 PySem.MeetsSeq3
end
section
variable{prog:qal}{w:qaG}{A:qaP}{E:n_->v_->Prop}{s:v_}
theorem Mg(ht:IsTup s.heap t vs.toArray)(hb:IsTup s.heap b ws.toArray)(hv:vs≠[])
  (h1:ws=[]->Q (.ref t) s) (h2:ws≠[]->Q (.ref s.heap.objs.size) { s with heap:=s.heap.push { cls:=.type "tuple",data:=.seq (vs++ws).toArray } })
  (hsz:vs.length+ws.length<=A_):F_ (model prog w) A (binaryOp .Add (.ref t) (.ref b)) Q E s:=by
 obtain⟨⟨cls,dd,data,sl⟩,ho,hc,n,hd⟩:=id ht;obtain⟨⟨Wm,dd2,data2,sl2⟩,ho2,hc2,n2,hd2⟩:=id hb;simp only at hc hd hc2 hd2;subst hc hd hc2 hd2;have e:vs.toArray++ws.toArray=(vs++ws).toArray:=by simp
 by_cases hw:ws=[]
 ·exact concat_meets #[_,ho,Y] #[_,ho2,Y] noFill_tuple_add seq_tuple_add zbf zbg (zbh _ _)
   (tuple_addW1 t b vs.toArray ws.toArray n n2 dd dd2 sl sl2 (by simpa using hv) (by simp[hw])) #[ho,ho2,h1 hw]
 ·refine concat_meets #[_,ho,Y] #[_,ho2,Y] noFill_tuple_add seq_tuple_add zbf zbg (zbh _ _)
   (tuple_addW2 t b vs.toArray ws.toArray n n2 dd dd2 sl sl2 (by simpa using hv) (by simpa using hw) (by rw[y_,y_];exact hsz)) #[ho,ho2,?_]
  rw[e];exact h2 hw
noncomputable def iS(n d:Nat):Option Int->Nat
 |none=>d
 |some v=>if v<0 then(v+(n:Int)).toNat else min v.toNat n
theorem nQ(n d:Nat):iS n d none=d:=rfl
theorem jA(n d k:Nat):iS n d (some (k:Int))=min k n:=by
 show(if(k:Int)<0 then((k:Int)+(n:Int)).toNat else min (k:Int).toNat n)=min k n
 rw[if_neg (by omega),qax]
theorem NU(n d:Nat)(hd:d<=n)(o:Option Int):iS n d o<=n:=by
 cases o with
 |none=>exact hd
 |some v =>
  show(if v<0 then(v+(n:Int)).toNat else min v.toNat n)<=n
  by_cases hv:v<0
  ·rw[if_pos hv];omega
  ·rw[if_neg hv];exact Nat.min_le_right _ _
theorem E6(v:Int)(n d:Nat):(if v<0 then max (v+(n:Int)) 0 else min v (n:Int))=((iS n d (some v):Nat):Int):=by
 show(if v<0 then max (v+(n:Int)) 0 else min v (n:Int))=(((if v<0 then(v+(n:Int)).toNat else min v.toNat n):Nat):Int)
 by_cases hv:v<0
 ·simp only[if_pos hv];omega
 ·simp only[if_neg hv];omega
theorem Ec(lo hi:Option Int)(n:Nat):qcE lo hi 1 (n:Int)=(((iS n 0 lo:Nat):Int),((iS n n hi:Nat):Int)):=by
 have h1:¬((1:Int)<0):=by omega
 unfold qcE;simp only[h1,if_false];refine Prod.ext ?_ ?_
 ·cases lo with
  |none=>rfl
  |some v=>exact E6 v n 0
 ·cases hi with
  |none=>rfl
  |some v=>exact E6 v n n
theorem Dc(i j:Nat):qbG (i:Int) (j:Int) 1=j-i:=by
 unfold qbG;have h1:(1:Int)>0:=by omega
 simp only[h1,if_true,Int.ediv_one];split<;>omega
theorem uH(p:IsPart v o)(h:Q o s):F_ (model prog w) A (Builtin.Slice.slicePartIndex v) Q E s:=by
 cases p with
 |none=>exact slicePart_none h
 |int i t=>exact slicePart_int h
theorem rJ{lo hi:Option Int}{Q:Int×Int×Nat->v_->Prop}(hs:s.heap.IsSliceOf sl vl vu .none)(pl:IsPart vl lo)(pu:IsPart vu hi)
  (h:Q (((iS n 0 lo:Nat):Int),1,iS n n hi-iS n 0 lo) s):F_ (model prog w) A (Builtin.Slice.sliceApplied (.ref sl) (pure (n:Int))) Q E s:=by
 obtain⟨os,hos,hcs,hds⟩:=id hs;unfold Builtin.Slice.sliceApplied Builtin.Slice.sliceFields;refine f_ (f_ (qao hos hds (x:=vl) Y (f_ (qao hos hds (x:=vu) Y (f_ (qao hos hds (x:=.none) Y (q_ ?_)))))));refine f_ (slicePart_none ?_)
 show F_ _ _ (if((1:Int)==0)=true then _ else _) _ _ s
 rw[if_neg (by decide)];refine f_ (uH pl (f_ (uH pu (f_ (q_ ?_)))))
 show F_ _ _ (match qcE lo hi 1 (n:Int)with|(lo,hi)=>pure (lo,(1:Int),qbG lo hi 1)) _ _ s
 rw[Ec lo hi n];show F_ _ _ (pure (((iS n 0 lo:Nat):Int),(1:Int),qbG ((iS n 0 lo:Nat):Int) ((iS n n hi:Nat):Int) 1)) _ _ s;rw[Dc];exact q_ h
theorem Ie(xs:Array n_)(i k:Nat):((H_ k).filterMap λ(m:Nat)=>xs[((i:Int)+(m:Int)*1).toNat]?).toArray=((xs.toList.drop i).take k).toArray:=by
 have e:(λ(m:Nat)=>xs[((i:Int)+(m:Int)*1).toNat]?)=λm=>xs[i+m]? :=by
  funext m;have:((i:Int)+(m:Int)*1).toNat=i+m:=by omega
  rw[this]
 rw[e];have:=pick_run xs i k;rw[List.filterMap_map]at this;have e2:((λx=>xs[x]?) ∘ λx=>i+x)=λm=>xs[i+m]? :=rfl;rw[e2]at this;rw[this]
theorem qR{lo hi:Option Int}(ht:IsTup s.heap t items)(hs:s.heap.IsSliceOf sl vl vu .none)(pl:IsPart vl lo)(pu:IsPart vu hi)
  (hw:¬(iS items.size 0 lo=0/\iS items.size items.size hi=items.size))
  (h:Q (.ref s.heap.objs.size) { s with heap:=s.heap.push { cls:=.type "tuple",data:=.seq ((items.toList.drop (iS items.size 0 lo)).take (iS items.size items.size hi-iS items.size 0 lo)).toArray } })
  (hsz:items.size<=A_):F_ (model prog w) A (getItem (.ref t) (.ref sl)) Q E s:=by
 have EK:sizeOk (.seq ((items.toList.drop (iS items.size 0 lo)).take (iS items.size items.size hi-iS items.size 0 lo)).toArray):=by
  show((items.toList.drop (iS items.size 0 lo)).take (iS items.size items.size hi-iS items.size 0 lo)).toArray.size<=A_;rw[y_,W_,qaY,k_];omega
 have hj:iS items.size items.size hi<=items.size:=NU _ _ (i_ _) hi;obtain⟨os,hos,hcs,hds⟩:=id hs;have ZN:s.TypeIs (.ref sl) "slice" :=#[os,hos,hcs];unfold getItem
 try with_reducible refine qaw ?_
 first|refine f_ (q_ ?_)|skip
 refine f_ (wpAny_sequenceKey ht.typeIs (by decide) ?_);refine f_ (qaJ (name:=p_ "__getitem__") ht.typeIs zbr
  (qa9 zbr ht.typeIs entry_tuple_getitem ?_ (args_tuple_getitem _ _)))
 show F_ _ _ (Builtin.Tuple.tupleItemsOf (.ref t) >>= _) _ _ s;refine f_ (tupleItemsOf_ ht ?_);refine f_ (wpAny_typeOf ZN ?_);rw[if_pos (by decide)];refine f_ (rJ hs pl pu ?_);have hno:¬((((iS items.size 0 lo:Nat):Int)==0&&(1:Int)==1&&(iS items.size items.size hi-iS items.size 0 lo)==items.size)=true):=by
  intro q;rw[N_,N_]at q;have q1:((iS items.size 0 lo:Nat):Int)=0:=eq_of_beq q.1.1;have q2:iS items.size items.size hi-iS items.size 0 lo=items.size:=eq_of_beq q.2;exact hw #[by omega,by omega]
 show F_ _ _ (if(((iS items.size 0 lo:Nat):Int)==0&&(1:Int)==1&&(iS items.size items.size hi-iS items.size 0 lo)==items.size)=true then _ else _) _ _ s
 rw[if_neg hno,Ie]
 first
  |exact f_ (m:=qbR _) (qa3 (q_ #[_,Y,q_ h]) EK)
  |exact f_ (m:=qbR _) (qa3 (f_ (q_ (q_ #[_,Y,q_ h]))) EK)
  |exact f_ (f_ (m:=qbR _) (qa3 (q_ (q_ #[_,Y,q_ h])) EK))
  |exact f_ (f_ (m:=qbR _) (qa3 (q_ #[_,Y,q_ h]) EK))
end
end HT
namespace L2
open PySem PySem.Spec PyProof.Rows
section
abbrev TO:=St->Hp->(Option Int->Hp->Prop)->Prop
def PO(X:Cx)(e:Option Expr)(t:TO):Prop :=
 ∀(pins:List (l_×qbW)) (s:v_) (σ:St) (H:Hp) (Q:Option Int->Hp->Prop),Inv X pins σ H s->t σ H Q →
  F_ (model X.prog X.w) X.A (evalPart e X.env) (λu s'=>bU λo H'=>Inv X pins σ H' s'/\IsPart u o/\Q o H') X.xe s
def Kh:TO:=λ_ H Q=>Q none H
def Qj(t:TE):TO:=λσ H Q=>t σ H λx H1=>∃i,x= .int i/\Q (some i) H1
section
variable{X:Cx}{e:Expr}{te:TE}{lo hi:Option Expr}{tl th:TO}{pos p2:qc5}
theorem gJ:PO X none Kh:=by
 intro pins s σ H Q I h;rw[evalPart_none];exact q_ #[none,H,I,.none,h]
theorem fO(h:PE X e te):PO X (some e) (Qj te):=by
 intro pins s σ H Q I hw;rw[evalPart_some];refine dm (h pins s σ H _ I hw) λu s1 ⟨x,H1,I1,r1,q1⟩=>?_;obtain⟨i,rfl,q⟩:=q1;obtain⟨t,rfl⟩:=r1;exact#[some i,H1,I1,.int i t,q]
def TX(X:Cx)(r:V->Option Int->Option Int->Hp->VK->Prop):Prop :=
 ∀(pins:List (l_×qbW)) (s:v_) (σ:St) (H:Hp) (x:V) (v vl vu:n_) (lo hi:Option Int) (sl:l_) (Q:VK),Inv X pins σ H s->RelV x v->s.heap.IsSliceOf sl vl vu .none->IsPart vl lo->IsPart vu hi->r x lo hi H Q →
  bU λT id=>typeLookup (.type T) "__getitem__" =pure (some (.builtin id))/\s.TypeIs v T/\F_ (model X.prog X.w) X.A (getItem v (.ref sl)) (EP X pins σ Q) X.xe s
def Yo(r:V->Option Int->Option Int->Hp->VK->Prop)(te:TE)(tl th:TO):TE:=λσ H Q=>te σ H λx H1=>tl σ H1 λl H2=>th σ H2 λu H3=>r x l u H3 Q
theorem eE(hr:TX X r)(he:PE X e te)(hl:PO X lo tl)(hu:PO X hi th):PE X (.Subscript e (.Slice lo hi none p2) pos) (Yo r te tl th):=by
 intro pins s σ H Q I h;refine Subscript_ (dm (he pins s σ H _ I h) λv s1 ⟨x,H1,I1,r1,q1⟩=>?_);refine wpAny_Slice (dm (hl pins s1 σ H1 _ I1 q1) λvl s2 ⟨l,H2,I2,pl,q2⟩=>dm (hu pins s2 σ H2 _ I2 q2) λvu s3 ⟨u,H3,I3,pu,q3⟩=>?_);rw[evalPart_none];refine q_ ?_;have I4:Inv X pins σ H3 { s3 with heap:=s3.heap.push { cls:=.type "slice",data:=.fields (List.toArray [vl,vu,.none]) } }:=I3.kept (t':=s3.toks) λb ob q=>g_ _ q;obtain⟨T,id,hT,ht,hg⟩:=hr pins { s3 with heap:=s3.heap.push { cls:=.type "slice",data:=.fields (List.toArray [vl,vu,.none]) } } σ H3 x v vl vu l u s3.heap.objs.size Q I4 r1 (Heap.IsSliceOf.new ..) pl pu q3;show F_ (model X.prog X.w) X.A (subscriptTail e (.Slice lo hi none p2) v (.ref s3.heap.objs.size)) (EP X pins σ Q) X.xe { s3 with heap:=s3.heap.push { cls:=.type "slice",data:=.fields (List.toArray [vl,vu,.none]) } }
 exact tail_any (ops:=[.ref s3.heap.objs.size,v]) ht hT hg (by with_unfolding_all rfl)
noncomputable def lA(xs:List V)(lo hi:Option Int):List V:=(xs.drop (HT.iS xs.length 0 lo)).take (HT.iS xs.length xs.length hi-HT.iS xs.length 0 lo)
theorem oG(xs:List V)(lo hi:Option Int):(lA xs lo hi).length<=xs.length:=by
 unfold lA;rw[W_,qaY];omega
def UC(K:zaa):V->Option Int->Option Int->Hp->VK->Prop:=λx lo hi H Q=>bU λa xs=>x= .ref a/\bV K H a xs ∧
 ¬(HT.iS xs.length 0 lo=0/\HT.iS xs.length xs.length hi=xs.length)/\∀p,H p=none->Q (.ref p) (upd H p (.tup (lA xs lo hi)))
theorem uI:TX X (UC X.K):=by
 intro pins s σ H x v vl vu lo hi sl Q I rx hs pl pu h;obtain⟨a,xs,rfl,hx,hw,q⟩:=h;cases rx;obtain⟨its,r,ht,hz⟩:=I.tuple hx;have hlen:its.toArray.size=xs.length:=by rw[y_];exact r.length.symm
 refine#["tuple",_,PyProof.Rows.slot_tuple_getitem.lookup,ht.typeIs,?_];refine HT.qR ht hs pl pu (by rw[hlen];exact hw) ?_ (by rw[hlen];exact hz);rw[hlen];refine#[.ref s.heap.objs.size,_,I.laid (t':=s.toks) (o:=.tup (lA xs lo hi)) (λb ob q=>g_ _ q) (i_ _) ?_,Y,q _ (I.hok.fresh (i_ _))];exact#[gc (oG xs lo hi) hz,_,(r.drop (HT.iS xs.length 0 lo)).take (HT.iS xs.length xs.length hi-HT.iS xs.length 0 lo),IsTup.new _ _]
def HY(K:zaa):R2:=λx y H Q=>mZ λa b xs ys=>x= .ref a/\y= .ref b/\bV K H a xs/\bV K H b ys/\xs≠[]/\xs.length+ys.length<=A_ ∧
 (ys=[]->Q (.ref a) H)/\(ys≠[]->∀p,H p=none->Q (.ref p) (upd H p (.tup (xs++ys))))
theorem Vals.zq(r:Vals xs us):us=[]↔xs=[]:=by
 cases r with
 |nil=>simp
 |cons _ _=>simp
theorem EC:jW X (binaryOp .Add) (HY X.K):=by
 intro pins s σ H x y v u Q I rx ry h;obtain⟨a,b,xs,ys,rfl,rfl,ha,hb,hx,hz,q1,q2⟩:=h;cases rx;cases ry;obtain⟨its,r1,p1,_⟩:=I.tuple ha;obtain⟨its2,r2,p2,_⟩:=I.tuple hb;refine HT.Mg p1 p2 (λz=>hx (r1.zq.mp z)) (λz=>#[.ref a,H,I,Y,q1 (r2.zq.mp z)]) (λz=>?_) (by rw[←r1.length,←r2.length];exact hz);refine#[.ref s.heap.objs.size,_,I.laid (t':=s.toks) (o:=.tup (xs++ys)) (λb ob q=>g_ _ q) (i_ _) ?_,Y,q2 (λw=>z (r2.zq.mpr w)) _ (I.hok.fresh (i_ _))];exact#[by rw[t_];exact hz,_,r1.append r2,IsTup.new _ _]
end
end
section
noncomputable def EH(n:Nat)(i:Int):Option Nat:=if 0<=i then(if i<n then some i.toNat else none)else if -(n:Int)<=i then some (i+n).toNat else none
noncomputable def Ea{α:Type}(xs:List α)(i:Int):Option α:=(EH xs.length i).bind λj=>xs[j]?
theorem EG(h:EH n i=some j):seqIndex? i n=some j/\j<n/\ -(n:Int)<=i/\i<n:=by
 unfold EH at h;by_cases h0:0<=i
 ·rw[if_pos h0]at h;by_cases h1:i<n
  ·rw[if_pos h1]at h;have e:i.toNat=j:=Z_ h;exact#[by rw[seqIndex_of h0 h1,e],by omega,by omega,h1]
  ·rw[if_neg h1]at h;cases h
 ·rw[if_neg h0]at h;by_cases h1: -(n:Int)<=i
  ·rw[if_pos h1]at h;have e:(i+n).toNat=j:=Z_ h;exact#[by rw[seqIndex_neg (by omega) h1,e],by omega,h1,by omega]
  ·rw[if_neg h1]at h;cases h
theorem Ae{v:α}(h:Ea xs i=some v):∃j,seqIndex? i xs.length=some j/\xs[j]? =some v/\j<xs.length/\ -(xs.length:Int)<=i/\i<xs.length:=by
 unfold Ea at h
 cases e:EH xs.length i with
 |none=>rw[e]at h;cases h
 |some j =>
  rw[e]at h;obtain⟨h1,h2,h3,h4⟩:=EG e;exact#[j,h1,h,h2,h3,h4]
theorem bx{j:Nat}{v:α}(h:xs[j]? =some v):Ea xs (j:Int)=some v:=by
 have hj:j<xs.length:=(m_.mp h).1;have e:EH xs.length (j:Int)=some j:=by
  unfold EH;rw[if_pos (by omega),if_pos (by omega)];simp
 unfold Ea;rw[e];exact h
theorem Cd(xs:List α)(v:α):Ea (xs++[v]) (-1)=some v:=by
 have hl:(xs++[v]).length=xs.length+1:=by simp
 have e:EH (xs++[v]).length (-1)=some xs.length:=by
  unfold EH;rw[hl,if_neg (by decide),if_pos (by omega)];congr 1;omega
 unfold Ea;rw[e];show(xs++[v])[xs.length]? =some v;simp
def Mr(b:Expr):Prop:=∀o i,subscripted b false o i=operate [o,i] (getItem o i)
def JU(X:Cx)(r:R2):Prop :=
 ∀(value slice:Expr) (pins:List (l_×qbW)) (s:v_) (σ:St) (H:Hp) (x y:V) (v u:n_) (Q:VK),Inv X pins σ H s->RelV x v->RelV y u->r x y H Q →
  subscripted slice false v u=operate [v,u] (getItem v u)->F_ (model X.prog X.w) X.A (subscriptTail value slice v u) (EP X pins σ Q) X.xe s
def Nb(X:Cx)(id:String)(r:V->List V->Hp->VK->Prop):Prop :=
 ∀(pins:List (l_×qbW)) (s:v_) (σ:St) (H:Hp) (x:V) (xs:List V) (v:n_) (us:List n_) (Q:VK),Inv X pins σ H s->RelV x v->Vals xs us->r x xs H Q →
  F_ (model X.prog X.w) X.A (call (.builtin id) (v::us)) (EP X pins σ Q) X.xe s
section
variable{X:Cx}{a b:Expr}{ta tb:TE}{pos:qc5}
theorem JU.or(h:JU X r)(h':JU X r'):JU X (λx y H Q=>r x y H Q\/r' x y H Q):=by
 intro value slice pins s σ H x y v u Q I rx ry q hs;rcases q with q|q
 ·exact h value slice pins s σ H x y v u Q I rx ry q hs
 ·exact h' value slice pins s σ H x y v u Q I rx ry q hs
theorem aR(hr:JU X r)(ha:PE X a ta)(hb:PE X b tb)(hs:Mr b):PE X (.Subscript a b pos) (SI r ta tb):=by
 intro pins s σ H Q I h;exact Subscript_ (O6 ha hb I h λv u s2 x y H2 I2 rx ry q=>hr a b pins s2 σ H2 x y v u Q I2 rx ry q (hs _ _))
def QM(K:zaa):R2:=λx y H Q=>mZ λp xs i v=>x= .ref p/\y= .int i/\bq K H p xs/\Ea xs i=some v/\Q v H
def N6(K:zaa):R2:=λx y H Q=>mZ λp xs i v=>x= .ref p/\y= .int i/\bV K H p xs/\Ea xs i=some v/\Q v H
def QL:R2:=λx y H Q=>iG λz i c=>x= .str z/\y= .int i/\z.length<=A_/\Ea z.cps.toList i=some c/\Q (.str ⟨#[c]⟩) H
theorem bu:JU X (QM X.K):=by
 intro value slice pins s σ H x y v u Q I rx ry h hs;obtain⟨p,xs,i,z,rfl,rfl,hq,he,q⟩:=h;cases rx;obtain⟨t,rfl⟩:=ry;obtain⟨its,r,pl,hz⟩:=I.list hq;obtain⟨j,h1,h2,h3,h4,h5⟩:=Ae he;obtain⟨w,ew,rw'⟩:=r.get h2;have hl:=r.length;have hn:=vA;have fin:EP X pins σ Q w s:=#[z,H,I,rw',q];by_cases h0:0<=i
 ·have hj:i.toNat=j:=by
   rw[seqIndex_of h0 h5]at h1;exact Z_ h1
  exact item_listR pl.isList h0 (by omega) (by rw[hj];simpa using ew) fin hs
 ·have hj:(i+(its.toArray.size:Int)).toNat=j:=by
   rw[seqIndex_neg (by omega) h4]at h1;rw[y_,←hl];exact Z_ h1
  exact subscriptTail_builtinR (x:=w) pl.isList.typeIs slot_list_getitem.lookup
   (wpAny_getItem_list_neg (Q:=λr s'=>r=w/\EP X pins σ Q r s') pl.isList (by omega) (by rw[y_]<;>omega) (by omega) (by rw[hj];simpa using ew) #[rfl,fin]) hs
theorem bG:JU X (N6 X.K):=by
 intro value slice pins s σ H x y v u Q I rx ry h hs;obtain⟨p,xs,i,z,rfl,rfl,hq,he,q⟩:=h;cases rx;obtain⟨t,rfl⟩:=ry;obtain⟨its,r,pl,hz⟩:=I.tuple hq;obtain⟨j,h1,h2,h3,h4,h5⟩:=Ae he;obtain⟨w,ew,rw'⟩:=r.get h2;have hl:=r.length;have hn:=vA;have fin:EP X pins σ Q w s:=#[z,H,I,rw',q];exact subscriptTail_builtinR (x:=w) pl.typeIs slot_tuple_getitem.lookup
  (getItem_tuple (j:=j) (Q:=λr s'=>r=w/\EP X pins σ Q r s') pl (by omega) (by omega) (by rw[y_,←hl];exact h1) (by simpa using ew) #[rfl,fin]) hs
theorem oq:JU X QL:=by
 intro value slice pins s σ H x y v u Q I rx ry h hs;obtain⟨z,i,c,rfl,rfl,hz,he,q⟩:=h;obtain⟨t,rfl⟩:=rx;obtain⟨t',rfl⟩:=ry;obtain⟨j,h1,h2,h3,h4,h5⟩:=Ae he;have hl:z.cps.toList.length=z.length:=by simp[Str.length]
 rw[hl]at h1 h4 h5;have hn:=vA;exact tail_any (typeIs_str s z t) slot_str_getitem.lookup (getItem_str (c:=c) (by
  have e1:decide (i< -(2 ^ 63:Int))=false:=decide_eq_false (by omega);have e2:decide (i>=2 ^ 63)=false:=decide_eq_false (by omega);rw[e1,e2,Bool.or_false]) (by rw[h1];simpa using h2) #[.str ⟨#[c]⟩,H,I.tok _,#[_,rfl],q]) hs
def UH(K:zaa):R2:=λx y H Q=>QM K x y H Q\/N6 K x y H Q\/QL x y H Q
theorem sE:JU X (UH X.K):=bu.or (bG.or oq)
theorem DC(its:List n_)(n j:Nat)(u:n_):qay (·.setIfInBounds j u) { cls:=.type "list",data:=.seq its.toArray n }={ cls:=.type "list",data:=.seq (its.set j u).toArray n }:=by
 simp[qay]
theorem Inv.lst{σ:St}(I:Inv X pins σ H s)(h:H p=some (.lst xs)):
  bU λ(its:List n_) (n:Nat)=>Vals xs its/\s.heap.get? p=some { cls:=.type "list",data:=.seq its.toArray n }/\xs.length<=A_:=by
 obtain⟨z,its,n,r,e⟩:=I.hok p _ h;exact#[its,n,r,e,z]
theorem Inv.Oq{pins:List (l_×qbW)}{σ:St}{H:Hp}{s:v_}{p:l_}{xs ys:List V}{its its':List n_}{n n':Nat}{f:qbW->qbW}(I:Inv X pins σ H s)(h:H p=some (.lst xs))
  (ho:s.heap.get? p=some { cls:=.type "list",data:=.seq its.toArray n }) (hf:f { cls:=.type "list",data:=.seq its.toArray n }={ cls:=.type "list",data:=.seq its'.toArray n' }) (r:Vals ys its') (hz:ys.length<=A_) (t:Nat) (ht:s.toks<=t:=by first|exact i_ _|exact qaA _|assumption|omega) :
  Inv X pins σ (upd H p (.lst ys)) { s with heap:=s.heap.update p f,toks:=t }:=by
 have e:(s.heap.update p f).get? p=some { cls:=.type "list",data:=.seq its'.toArray n' }:=by
  rw[qaq f ho (by rw[hf]<;>rfl),hf]
 refine I.write (x:=p) (e:=p) (by rw[h];trivial) (.inl Y) (λb u hb q=>(qaj _ _ (Ne.symm hb)).trans q) #[_,e] ?_;exact#[hz,its',n',r,e]
def QK:V->V->V->Hp->(Hp->Prop)->Prop:=λo i v H Q=>mZ λp xs k j=>o= .ref p/\i= .int k/\H p=some (.lst xs)/\EH xs.length k=some j/\Q (upd H p (.lst (xs.set j v)))
theorem set_list:Sh X QK:=by
 intro pins s σ H o i v ov iv u Q I ro ri rv h;obtain⟨p,xs,k,j,rfl,rfl,hp,hj,q⟩:=h;cases ro;obtain⟨t,rfl⟩:=ri;obtain⟨its,n,r,ho,hz⟩:=I.lst hp;obtain⟨h1,h2,h3,h4⟩:=EG hj;have hl:=r.length;have hn:=vA;have I':Inv X pins σ (upd H p (.lst (xs.set j v))) { s with heap:=s.heap.update p (qay (·.setIfInBounds j u)) } :=
  I.Oq hp ho (DC its n j u) (r.set rv j) (by rw[qcg];exact hz) s.toks
 by_cases h0:0<=k
 ·have hk:k.toNat=j:=by
   rw[seqIndex_of h0 h4]at h1;exact Z_ h1
  exact PySem.W.ki_setAt ho h0 (by omega) (by rw[y_,←hl];exact h4) (by rw[hk];exact#[_,I',q])
 ·have hk:(k+(its.toArray.size:Int)).toNat=j:=by
   rw[seqIndex_neg (by omega) h3]at h1;rw[y_,←hl];exact Z_ h1
  exact PySem.W.ki_setBack ho (by omega) (by rw[y_,←hl];exact h3) (by omega) (by rw[hk];exact#[_,I',q])
theorem yF(lo hi:Option Int)(n:Nat):(sliceBounds lo hi none n).1=((HT.iS n 0 lo:Nat):Int)/\(sliceBounds lo hi none n).2.1=((HT.iS n n hi:Nat):Int)/\(sliceBounds lo hi none n).2.2=1:=by
 refine#[?_,?_,Y]
 ·cases lo with
  |none=>simp[sliceBounds,HT.iS]
  |some i =>
   simp only[sliceBounds,HT.iS,Option.getD_none,show(1:Int)>0 by decide,if_true];by_cases h:i<0
   ·simp only[h,if_true]<;>omega
   ·simp only[h,if_false]<;>omega
 ·cases hi with
  |none=>simp[sliceBounds,HT.iS]
  |some i =>
   simp only[sliceBounds,HT.iS,Option.getD_none,show(1:Int)>0 by decide,if_true];by_cases h:i<0
   ·simp only[h,if_true]<;>omega
   ·simp only[h,if_false]<;>omega
theorem wc(its:List n_)(lo hi:Option Int):slicePick its.toArray lo hi none=((its.drop (HT.iS its.length 0 lo)).take (HT.iS its.length its.length hi-HT.iS its.length 0 lo)).toArray:=by
 obtain⟨h1,h2,h3⟩:=yF lo hi its.toArray.size;unfold slicePick;rw[h1,h2,h3];simp only[sliceRange_one,pick_run,y_]<;>rfl
def UD(K:zaa):V->Option Int->Option Int->Hp->VK->Prop:=λx lo hi H Q=>bU λa xs=>x= .ref a/\bq K H a xs/\∀p,H p=none->Q (.ref p) (upd H p (.lst (lA xs lo hi)))
theorem Er:TX X (UD X.K):=by
 intro pins s σ H x v vl vu lo hi sl Q I rx hs pl pu h;obtain⟨a,xs,rfl,hx,q⟩:=h;cases rx;obtain⟨its,r,ht,hz⟩:=I.list hx;have hlen:=r.length;refine#["list",_,slot_list_getitem.lookup,ht.isList.typeIs,?_];refine wpAny_getItem_list_slice ht.isList hs pl pu .none (by simp) ?_ (by rw[y_]<;>omega);rw[wc,←hlen];refine#[.ref s.heap.objs.size,_,I.laid (t':=s.toks) (o:=.lst (lA xs lo hi)) (λb ob q=>g_ _ q) (i_ _) ?_,Y,q _ (I.hok.fresh (i_ _))];exact#[gc (oG xs lo hi) hz,_,0,(r.drop (HT.iS xs.length 0 lo)).take (HT.iS xs.length xs.length hi-HT.iS xs.length 0 lo),I_ _ Y]
noncomputable def mj:V->Bool
 | .dX=>true
 | .bl _=>true
 | .int _=>true
 | .str _=>true
 |_=>false
noncomputable def EW:V->V->Bool
 | .dX,.dX=>true
 | .bl a,.bl b=>a==b
 | .bl a,.int b=>(if a then 1 else 0)==b
 | .int a,.bl b=>a==(if b then 1 else 0)
 | .int a,.int b=>a==b
 | .str a,.str b=>a==b
 |_,_=>false
theorem Jc(ry:RelV y u)(rx:RelV x v)(fy:mj y=true)(fx:mj x=true):qbS A s u v (EW y x):=by
 cases y with
 |dX =>
  cases ry
  cases x with
  |dX=>cases rx;exact SeqAt.EqAt.same _
  |bl b=>cases rx;exact SeqAt.EqAt.none_bool b
  |int b=>obtain⟨t,rfl⟩:=rx;exact SeqAt.EqAt.none_int b t
  |str b=>obtain⟨t,rfl⟩:=rx;exact SeqAt.EqAt.none_str b t
  |_=>exact absurd (show false=true from fx) K_
 |bl a =>
  cases ry
  cases x with
  |dX=>cases rx;exact SeqAt.EqAt.bool_none a
  |bl b=>cases rx;exact SeqAt.EqAt.bool_bool a b
  |int b=>obtain⟨t,rfl⟩:=rx;exact SeqAt.EqAt.bool_int a b t
  |str b=>obtain⟨t,rfl⟩:=rx;exact SeqAt.EqAt.bool_str a b t
  |_=>exact absurd (show false=true from fx) K_
 |int a =>
  obtain⟨t',rfl⟩:=ry
  cases x with
  |dX=>cases rx;exact SeqAt.EqAt.int_none a t'
  |bl b=>cases rx;exact SeqAt.EqAt.int_bool a t' b
  |int b=>obtain⟨t,rfl⟩:=rx;exact SeqAt.EqAt.int_int a t' b t
  |str b=>obtain⟨t,rfl⟩:=rx;exact SeqAt.EqAt.int_str a t' b t
  |_=>exact absurd (show false=true from fx) K_
 |str a =>
  obtain⟨t',rfl⟩:=ry
  cases x with
  |dX=>cases rx;exact SeqAt.EqAt.str_none a t'
  |bl b=>cases rx;exact SeqAt.EqAt.str_bool a t' b
  |int b=>obtain⟨t,rfl⟩:=rx;exact SeqAt.EqAt.str_int a t' b t
  |str b=>obtain⟨t,rfl⟩:=rx;exact SeqAt.EqAt.str_str a t' b t
  |_=>exact absurd (show false=true from fx) K_
 |_=>exact absurd (show false=true from fy) K_
noncomputable def L5(x:V)(u:n_):Bool:=match u with
 | .none=>EW .dX x
 | .bool b=>EW (.bl b) x
 | .int i _=>EW (.int i) x
 | .str z _=>EW (.str z) x
 |_=>false
theorem Jb(r:RelV y u)(f:mj y=true):L5 x u=EW y x:=by
 cases y with
 |dX=>cases r;rfl
 |bl b=>cases r;rfl
 |int i=>obtain⟨t,rfl⟩:=r;rfl
 |str z=>obtain⟨t,rfl⟩:=r;rfl
 |_=>exact absurd (show false=true from f) K_
theorem Af:∀{xs:List V} {us:List n_},Vals xs us->xs.all mj=true->us.any (L5 x)=xs.any λy=>EW y x
 |_,_,.nil,_=>rfl
 |y::xs,u::us,.cons r t,f=>by
  rw[List.all_cons,N_]at f;rw[qc8,qc8,Jb r f.1,Af t f.2]
theorem vo(rx:RelV x v)(fx:mj x=true):∀{xs:List V} {us:List n_},Vals xs us->xs.all mj=true->∀u∈us,qbS A s u v (L5 x u)
 |_,_,.nil,_=>λu hu=>by cases hu
 |y::xs,u::us,.cons r t,f=>λu' hu=>by
  rw[List.all_cons,N_]at f;rcases B_.mp hu with rfl|hu
  ·rw[Jb r f.1];exact Jc r rx f.1 fx
  ·exact vo rx fx t f.2 u' hu
noncomputable def S7(x:V)(xs:List V):Bool:=xs.any λy=>EW y x
def Yx(K:zaa)(neg:Bool):R2:=λx y H Q=>bU λp xs=>y= .ref p/\(bq K H p xs\/bV K H p xs)/\mj x=true/\xs.all mj=true/\Q (.bl (if neg then !S7 x xs else S7 x xs)) H
theorem yT:jW X (compareOp .NotIn) (Yx X.K true):=by
 intro pins s σ H x y v u Q I rx ry h;obtain⟨p,xs,rfl,hq,fx,fs,q⟩:=h;cases ry;rcases hq with hq|hq
 ·obtain⟨its,r,pl,hz⟩:=I.list hq;refine SeqAt.notIn_listAt (L5 x) pl.isList (λw hw=>vo rx fx r fs w (by simpa using hw)) #[.bl _,H,I,Y,?_];rw[show its.toArray.any (L5 x)=its.any (L5 x) by simp,Af r fs];exact q
 ·obtain⟨its,r,pl,hz⟩:=I.tuple hq;refine SeqAt.notIn_tupleAt (L5 x) pl (λw hw=>vo rx fx r fs w (by simpa using hw)) #[.bl _,H,I,Y,?_];rw[show its.toArray.any (L5 x)=its.any (L5 x) by simp,Af r fs];exact q
theorem yS:jW X (compareOp .NotIn) (λx y H Q=>bU λi j=>x= .str i/\y= .str j/\Q (.bl (!(!(qaB j i 0 j.length 1).isEmpty))) H):=by
 intro pins s σ H x y v u Q I rx ry h;obtain⟨i,j,rfl,rfl,q⟩:=h;obtain⟨t,rfl⟩:=rx;obtain⟨t',rfl⟩:=ry;exact notIn_str #[.bl _,H,I,Y,q]
theorem iV:g7 X (.type "tuple") (λxs H Q=>bU λp ys=>xs=[.ref p]/\((bq X.K H p ys/\∀l,H l=none->Q (.ref l) (upd H l (.tup ys)))\/(bV X.K H p ys/\Q (.ref p) H))):=by
 intro pins s σ H xs us Q I r h;obtain⟨p,ys,rfl,h⟩:=h;obtain⟨u,rfl,rx⟩:=vals1 r;cases rx;rcases h with⟨hq,q⟩|⟨hq,q⟩
 ·obtain⟨its,r',pl,hz⟩:=I.list hq;have hlen:=r'.length;refine call_tuple_list pl.isList (λh' kp=>?_) (by simp only[y_]<;>omega);have I1:Inv X pins σ H { s with heap:=h' }:=I.kept (t':=s.toks) kp;have I2:Inv X pins σ (upd H h'.objs.size (.tup ys)) { s with heap:=h'.push { cls:=.type "tuple",data:=.seq its.toArray } } :=
   I1.laid (t':=s.toks) (λb o e=>g_ _ e) (i_ _) (show cE X.prog X.w _ _ _ (.tup ys) from#[hz,its,r',IsTup.new _ _])
  exact#[.ref h'.objs.size,_,I2,Y,q _ (I1.hok.fresh (i_ _))]
 ·obtain⟨its,r',pl,hz⟩:=I.tuple hq;exact call_tuple_same pl #[.ref p,H,I,Y,q]
def Ua(K:zaa)(T:String)(x:V)(H:Hp):Prop:=match x with
 | .str _=>T= "str"
 | .int _=>T= "int"
 | .ref p=>(T= "list" /\∃xs,bq K H p xs)\/(T= "tuple" /\∃o,K.lookup p=some o/\o.cls= .type "tuple" /\o.dict=none) ∨
   (T= "dict" /\((∃kvs,H p=some (.dK kvs))\/∃kvs,H p=some (.dT kvs)))\/(T= "set" /\bU λS n=>H p=some (.set S n))
 |_=>False
theorem Cw{σ:St}{T:String}(I:Inv X pins σ H s)(r:RelV x v)(ty:Ua X.K T x H):
  s.TypeIs v T/\∀a,v= .ref a->∃ob,s.heap.get? a=some ob/\ob.dict=none:=by
 cases x with
 |str z =>
  obtain⟨t,rfl⟩:=r;cases (show T= "str" from ty)
  exact#[typeIs_str s z t,λ_ e=>nomatch e]
 |int i =>
  obtain⟨t,rfl⟩:=r;cases (show T= "int" from ty)
  exact#[typeIs_int s i t,λ_ e=>nomatch e]
 |ref p =>
  cases r;rcases ty with⟨rfl,xs,hq⟩|⟨rfl,o,hk,hc,hd⟩|⟨rfl,hk⟩|⟨rfl,S,n,hk⟩
  ·obtain⟨its,_,pl,_⟩:=I.list hq;refine#[pl.isList.typeIs,λa e=>?_];cases e;obtain⟨o,n,e,c,hd,_⟩:=pl;exact#[o,e,hd]
  ·refine#[#[o,I.nu p o hk,hc],λa e=>?_];cases e;exact#[o,I.nu _ o hk,hd]
  ·have z:∃o,s.heap.get? p=some o/\o.ExactDict:=by
    rcases hk with⟨kvs,hk⟩|⟨kvs,hk⟩
    ·obtain⟨_,_,_,_,o,_,_,e,ex,_⟩:=I.hok p _ hk;exact#[o,e,ex]
    ·obtain⟨_,_,_,_,o,_,_,e,ex,_⟩:=I.hok p _ hk;exact#[o,e,ex]
   obtain⟨o,e,ex⟩:=z;refine#[#[o,e,ex.1],λa e2=>?_];cases e2;exact#[o,e,ex.2.1]
  ·obtain⟨o,_,_,_,e,ex,_⟩:=I.hok p _ hk;refine#[#[o,e,ex.1],λa e2=>?_];cases e2;exact#[o,e,ex.2.1]
 |_=>exact qaI ty
def Up(K:zaa)(T:String)(r:V->List V->Hp->VK->Prop)(to:TE):TE:=λσ H Q=>to σ H λx H1=>Ua K T x H1/\r x [] H1 Q
def Yr(K:zaa)(T:String)(r:V->List V->Hp->VK->Prop)(to:TE)(t:TA):TE:=λσ H Q=>to σ H λx H1=>Ua K T x H1/\t σ H1 λxs H2=>r x xs H2 Q
variable{o e:Expr}{es:List Expr}{to:TE}{t:TA}{name:w_}{apos cpos:qc5}{T id:String}{r:V->List V->Hp->VK->Prop}
theorem p7(pa:PlainAttrs T)(slot:Slot T name id)(hty:typeOf (.builtin id)=pure (.type "method_descriptor"))(hm:Nb X id r)(ho:PE X o to)
  (hbase:attributeBase o name X.env (eval o X.env)=eval o X.env:=by rfl) (hline:(apos.endLine==cpos.line)=true:=by rfl):PE X (.Call (.Attribute o name apos) [] [] cpos) (Up X.K T r to):=by
 intro pins s σ H Q I h;refine wpAny_Call_method0_late hbase hline (dm (ho pins s σ H _ I h) λv s1 ⟨x,H1,I1,r1,ty,q1⟩=>?_);obtain⟨h1,h2⟩:=Cw I1 r1 ty;exact#[T,id,pa,slot,hty,h1,h2,qb_ Y (PySem.evalArgs_none (hm pins s1 σ H1 x [] v [] Q I1 r1 .nil q1))]
theorem cW(pa:PlainAttrs T)(slot:Slot T name id)(hty:typeOf (.builtin id)=pure (.type "method_descriptor"))(hm:Nb X id r)(ho:PE X o to)(ha:PA X (e::es) t)
  (hbase:attributeBase o name X.env (eval o X.env)=eval o X.env:=by rfl)
  (hfew:((backTo cpos (qaa (e::es) X.env)).all (λx=>!x.1)&&(backToKw cpos (keywordEach [] X.env)).all (λx=>x.1.isSome)
   && decide ((e::es).length+([]:List Keyword).length+(if([]:List Keyword).isEmpty then 0 else 1)<30))=true:=by rfl)
  (hline:(apos.endLine==cpos.line)=true:=by rfl) (hs:qaa (e::es) X.env=(false,eval e X.env)::qaa es X.env:=by rfl) (hplain:(backTo cpos (qaa es X.env)).any (·.1)=false:=by rfl) :
  PE X (.Call (.Attribute o name apos) (e::es) [] cpos) (Yr X.K T r to t):=by
 intro pins s σ H Q I h;refine wpAny_Call_method_late hbase hfew hline Y (dm (ho pins s σ H _ I h) λv s1 ⟨x,H1,I1,r1,ty,q1⟩=>?_);obtain⟨h1,h2⟩:=Cw I1 r1 ty;refine#[T,id,pa,slot,hty,h1,h2,?_];have hA:=ha cpos pins s1 σ H1 _ I1 q1;rw[hs]at hA ⊢;refine qb_ (by show(false||(backTo cpos (qaa es X.env)).any (·.1))=false;rw[hplain]<;>rfl) (qcw ?_);exact dm hA λus s2 ⟨vs,H2,I2,r2,q2⟩=>hm pins s2 σ H2 x vs v us Q I2 r1 r2 q2
end
end
section
def Sl(X:Cx)(id:String)(r:V->List V->Hp->VK->Prop):Prop :=
 ∀(pins:List (l_×qbW)) (s:v_) (σ:St) (H:Hp) (x:V) (xs:List V) (v:n_) (us:List n_) (Q:VK),Inv X pins σ H s->RelV x v->Vals xs us->r x xs H Q →
  F_ (model X.prog X.w) X.A (call (.builtin id) (v::us)) (EP X pins σ Q) X.xe s
theorem Vals.one:∀{x:V} {us:List n_},Vals [x] us->∃u,us=[u]/\RelV x u
 |_,_,.cons r .nil=>#[_,rfl,r]
theorem Vals.zero:∀{us:List n_},Vals [] us->us=[]
 |_,.nil=>rfl
theorem Vals.dropLast(h:Vals xs us):Vals xs.dropLast us.dropLast:=by
 induction h with
 |nil=>exact .nil
 |cons r t ih =>
  cases t with
  |nil=>exact .nil
  |cons q t'=>exact .cons r ih
theorem Vals.reverse(h:Vals xs us):Vals xs.reverse us.reverse:=by
 induction h with
 |nil=>exact .nil
 |cons r t ih=>rw[List.reverse_cons,List.reverse_cons];exact Vals.append ih (.cons r .nil)
theorem Vals.rep(h:Vals xs us):∀k:Nat,Vals (G_ k xs).flatten (G_ k us).flatten
 | 0=>.nil
 |k+1=>by
  rw[qas,qas,qaV,qaV];exact Vals.append h (Vals.rep h k)
theorem DV{α:Type}(l:List α):l.eraseIdx (l.length-1)=l.dropLast:=by
 induction l with
 |nil=>rfl
 |cons a r ih =>
  cases r with
  |nil=>rfl
  |cons b r =>
   have e:(a::b::r).length-1=((b::r).length-1)+1:=by
    have h1:(a::b::r).length=r.length+2:=rfl;have h2:(b::r).length=r.length+1:=rfl;omega
   rw[e,List.eraseIdx_cons_succ,ih]
   all_goals rfl
theorem foldl_rep(its:List n_):∀(k:Nat) (acc:List n_),
  List.foldl (λx1 x2=>x1++x2) acc.toArray (G_ k its.toArray)=(acc++(G_ k its).flatten).toArray
 | 0,acc=>by simp
 |k+1,acc=>by
  have e:acc.toArray++its.toArray=(acc++its).toArray:=by simp
  have e2:(acc++its)++(G_ k its).flatten=acc++(G_ (k+1) its).flatten:=by
   rw[qas,qaV,qat]
  rw[←e2,←foldl_rep its k (acc++its),←e,qas,qch]
section
variable{X:Cx}{pins:List (l_×qbW)}{σ:St}{H:Hp}{s:v_}{l b:l_}{xs ys zs:List V}
theorem Inv.Iz{its its':List n_}{n:Nat}{f:Array n_->Array n_}{t':Nat}(I:Inv X pins σ H s)(hH:H l=some (.lst xs))
  (e:s.heap.get? l=some { cls:=.type "list",data:=.seq its.toArray n }) (hf:f its.toArray=its'.toArray) (hv:Vals ys its') (hz:ys.length<=A_) (ht:s.toks<=t':=by first|exact i_ _|exact qaA _|assumption|omega) :
  Inv X pins σ (upd H l (.lst ys)) { s with heap:=s.heap.update l (qay f),toks:=t' }:=by
 have q:=PySem.IsL.update e f;rw[hf]at q;refine I.write (x:=l) (e:=l) (by rw[hH];exact trivial) (.inl Y) (λb' u hb hu=>(qaj s.heap (qay f) (Ne.symm hb)).trans hu) #[_,q] ?_;exact#[hz,its',_,hv,q]
theorem Inv.IA{its:List n_}{t':Nat}(I:Inv X pins σ H s)(hv:Vals ys its)(hz:ys.length<=A_)(ht:s.toks<=t':=by first|exact i_ _|exact qaA _|assumption|omega):
  Inv X pins σ (upd H s.heap.objs.size (.lst ys)) { s with heap:=s.heap.push { cls:=.type "list",data:=.seq its.toArray },toks:=t' } :=
 I.laid (λ_ _ q=>g_ _ q) (i_ _) #[hz,its,0,hv,I_ _ rfl]
theorem Inv.fresh(I:Inv X pins σ H s):H s.heap.objs.size=none:=I.hok.fresh (i_ _)
theorem Inv.zw(I:Inv X pins σ H s)(hH:H l=some (.lst xs)):xs.length<=A_/\bU λ(its:List n_) (n:Nat)=>Vals xs its/\xs.length=its.length/\s.heap.get? l=some { cls:=.type "list",data:=.seq its.toArray n }:=by
 obtain⟨z,its,n,r,e⟩:=I.hok l _ hH;exact#[z,its,n,r,r.length,e]
theorem vj(h:n<=A_):qa4 n=false:=by
 unfold qa4;exact decide_eq_false (by omega)
end
section
variable{X:Cx}
def K7:V->List V->Hp->VK->Prop:=λx vs H Q=>iG λl xs y=>x= .ref l/\vs=[y]/\H l=some (.lst xs)/\xs.length<A_/\Q .dX (upd H l (.lst (xs++[y])))
theorem cK:Sl X "list.append" K7:=by
 intro pins s σ H x vs v us Q I rx rv h;obtain⟨l,xs,y,rfl,rfl,hH,hz,q⟩:=h;cases rx;obtain⟨u,rfl,ru⟩:=rv.one;obtain⟨z,its,n,r,hl,e⟩:=I.zw hH;refine qca F.slot_list_append #[_,e,Y] F.entry_list_append (F.args_list_append_2 _ _) (PySem.list_append l its.toArray n u (by rw[y_];omega)) #[e,?_];refine#[.dX,_,I.Iz (its':=its++[u]) hH e (by simp) (r.append (.cons ru .nil)) ?_,Y,q];rw[t_,qbf];omega
def K6:V->List V->Hp->VK->Prop:=λx vs H Q=>mZ λl b xs zs=>x= .ref l/\vs=[.ref b]/\H l=some (.lst xs)/\H b=some (.lst zs)/\xs.length+zs.length<=A_/\Q .dX (upd H l (.lst (xs++zs)))
theorem F5:Sl X "list.extend" K6:=by
 intro pins s σ H x vs v us Q I rx rv h;obtain⟨l,b,xs,zs,rfl,rfl,hH,hB,hz,q⟩:=h;cases rx;obtain⟨u,rfl,ru⟩:=rv.one;cases ru;obtain⟨z,its,n,r,hl,e⟩:=I.zw hH;obtain⟨z2,its2,n2,r2,hl2,e2⟩:=I.zw hB;have hsz:its.toArray.size+its2.toArray.size<=A_:=by rw[y_,y_];omega
 have BG:¬(!its.toArray.isEmpty&&qa4 (its.toArray.size+its2.toArray.size))=true:=by
  rw[vj hsz,Bool.and_false];exact K_
 refine qca F.slot_list_extend #[_,e,Y] F.entry_list_extend (F.args_list_extend_2 _ _)
  (AutoSeq1.list_extend_list_list_0 l its.toArray n b its2.toArray n2 BG (by rw[y_];omega) (by omega)) #[e,e2,?_]
 refine#[.dX,_,I.Iz (its':=its++its2) hH e (by simp) (r.append r2) ?_,Y,q];rw[t_];omega
def UG:V->List V->Hp->VK->Prop:=λx vs H Q=>iG λl xs y=>x= .ref l/\vs=[]/\H l=some (.lst xs)/\xs[xs.length-1]? =some y/\Q y (upd H l (.lst xs.dropLast))
theorem Dy:Sl X "list.pop" UG:=by
 intro pins s σ H x vs v us Q I rx rv h;obtain⟨l,xs,y,rfl,rfl,hH,hy,q⟩:=h;cases rx;have Vg:=rv.zero;subst Vg;obtain⟨z,its,n,r,hl,e⟩:=I.zw hH;obtain⟨u,hu,ru⟩:=r.get hy;have hy':its.toArray[its.toArray.size-1]? =some u:=by
  show its.toArray[its.length-1]? =some u;rw[←P_,←hl];exact hu
 refine qca F.slot_list_pop #[_,e,Y] F.entry_list_pop (F.args_list_pop_1 _) (MeetsSeq.list_pop_last l its.toArray n u hy' (by rw[y_];omega)) #[e,?_];refine#[y,_,I.Iz (its':=its.dropLast) hH e ?_ r.dropLast ?_,ru,q]
 ·show its.toArray.eraseIdxIfInBounds (its.toArray.size-1)=its.dropLast.toArray;rw[y_,List.eraseIdxIfInBounds_toArray,DV]
 ·rw[List.length_dropLast];omega
def HX:V->List V->Hp->VK->Prop:=λx vs H Q=>bU λl xs=>x= .ref l/\vs=[]/\H l=some (.lst xs)/\Q .dX (upd H l (.lst xs.reverse))
theorem mQ:Sl X "list.reverse" HX:=by
 intro pins s σ H x vs v us Q I rx rv h;obtain⟨l,xs,rfl,rfl,hH,q⟩:=h;cases rx;have Vg:=rv.zero;subst Vg;obtain⟨z,its,n,r,hl,e⟩:=I.zw hH;refine qca F.slot_list_reverse #[_,e,Y] F.entry_list_reverse (F.args_list_reverse_1 _) (AutoSeq1.list_reverse_list_0 l its.toArray n (by rw[y_];omega)) #[e,?_];refine#[.dX,_,I.Iz (its':=its.reverse) hH e (by simp) r.reverse ?_,Y,q];rw[qbX];omega
def UJ:R2:=λx y H Q=>mZ λl b xs zs=>x= .ref l/\y= .ref b/\H l=some (.lst xs)/\H b=some (.lst zs)/\xs.length+zs.length<=A_/\∀p,H p=none->Q (.ref p) (upd H p (.lst (xs++zs)))
theorem Oh:jW X (binaryOp .Add) UJ:=by
 intro pins s σ H x y v u Q I rx ry h;obtain⟨l,b,xs,zs,rfl,rfl,hH,hB,hz,q⟩:=h;cases rx;cases ry;obtain⟨z,its,n,r,hl,e⟩:=I.zw hH;obtain⟨z2,its2,n2,r2,hl2,e2⟩:=I.zw hB;refine PySem.P.add_list e e2 ?_ (by rw[y_,y_];omega);have ea:its.toArray++its2.toArray=(its++its2).toArray:=by simp
 rw[ea];exact#[.ref _,_,I.IA (t':=s.toks) (r.append r2) (by rw[t_];omega),Y,q _ I.fresh]
def UE:R2:=λx y H Q=>iG λl k xs=>x= .ref l/\y= .int k/\H l=some (.lst xs)/\ -(2 ^ 63)<=k/\k<2 ^ 63/\xs.length*k.toNat<=A_ ∧
 ∀p,H p=none->Q (.ref p) (upd H p (.lst (G_ k.toNat xs).flatten))
theorem len_rep{α:Type}(xs:List α)(k:Nat):(G_ k xs).flatten.length=k*xs.length:=by
 induction k with
 |zero=>simp
 |succ k ih=>rw[qas,qaV,t_,ih,qcW,Nat.add_comm]
theorem Oe:jW X (binaryOp .Mult) UE:=by
 intro pins s σ H x y v u Q I rx ry h;obtain⟨l,k,xs,rfl,rfl,hH,h1,h2,hz,q⟩:=h;cases rx;obtain⟨t,rfl⟩:=ry;obtain⟨z,its,n,r,hl,e⟩:=I.zw hH;have hlen:its.toArray.size*k.toNat<=A_:=by rw[y_,←hl];exact hz
 have hcap:¬its.toArray.size*k.toNat>(2 ^ 63-1) / 8:=by
  have:(A_:Nat)<=(2 ^ 63-1) / 8:=by decide
  omega
 have hfit:¬(!Builtin.List.listFitsIndex k)=true:=by
  rw[fitsIndex_both h1 h2];exact K_
 have BG:¬qa4 (its.toArray.size*k.toNat)=true:=by
  rw[vj hlen];exact K_
 have hnew:List.foldl (λx1 x2=>x1++x2) #[] (G_ (if its.toArray.isEmpty=true then 0 else k.toNat) its.toArray)=(G_ k.toNat its).flatten.toArray:=by
  have f0:∀m:Nat,List.foldl (λx1 x2=>x1++x2) #[] (G_ m its.toArray)=(G_ m its).flatten.toArray:=λm=>by
   have:=foldl_rep its m [];rw[List.nil_append]at this;exact this
  rw[f0]
  cases its with
  |nil=>simp
  |cons a r'=>rw[if_neg (by simp)]
 refine wpAny_binaryOp_repeat_ref (T:= "list") (U:= "int") (by decide) #[_,e,Y] (λs'=>typeIs_int s' k t) noFill_list_mul F.fills_int_mul F.slot_int_rmul repeat_list F.slot_int_index.lookup
  (qca F.slot_int_rmul (typeIs_int s k t) F.entry_int_rmul (F.args_int_rmul_2 _ _) (int___rmul___int_list k t l its.toArray n)
   #[e,rfl,#[_,e,rfl],qca F.slot_list_mul #[_,e,rfl] F.entry_list_mul (F.args_list_mul_2 _ _) (AutoListH.list___mul___list_int_3 l its.toArray n k t hfit hcap BG) #[e,?_]])
 rw[hnew];exact#[.ref _,_,I.IA (t':=s.toks) (r.rep k.toNat) (by rw[len_rep,Nat.mul_comm];exact hz),Y,q _ I.fresh]
end
section
variable{prog:qal}{w:qaG}{A:qaP}{E:n_->v_->Prop}{s:v_}
end
section
variable{X:Cx}
end
end
section
section
variable{κ:Type}[DecidableEq κ]
noncomputable def eZ(kvs:List (κ×V))(k:κ):Option V:=(kvs.find? λkv=>decide (kv.1=k)).map (·.2)
noncomputable def putK(kvs:List (κ×V))(k:κ)(v:V):List (κ×V) :=
 if(kvs.any λkv=>decide (kv.1=k))=true then kvs.map (λkv=>if kv.1=k then(kv.1,v)else kv)else kvs++[(k,v)]
theorem cO{p:κ×V}{k:κ}(e:p.1=k):eZ (p::r) k=some p.2:=by simp[eZ,qci,e]
theorem cP{p:κ×V}{k:κ}(e:¬p.1=k):eZ (p::r) k=eZ r k:=by simp[eZ,qci,e]
theorem nM(k:κ):∀kvs:List (κ×V),(kvs.any λkv=>decide (kv.1=k))=(eZ kvs k).isSome
 |[]=>rfl
 |p::r=>by
  rw[qc8];by_cases e:p.1=k
  ·simp only[cO e,decide_eq_true e,Bool.true_or,Option.isSome_some]
  ·rw[cP e,decide_eq_false e,Bool.false_or];exact nM k r
theorem Az(k j:κ)(y:V):∀kvs:List (κ×V),eZ (kvs.map λkv=>if kv.1=k then(kv.1,y)else kv) j=(eZ kvs j).map λx=>if j=k then y else x
 |[]=>rfl
 |p::r=>by
  have ih:=Az k j y r;rw[qag];by_cases h:p.1=k
  ·rw[if_pos h];by_cases e:p.1=j
   ·rw[cO (p:=(p.1,y)) e,cO e,Option.map_some,if_pos (e.symm.trans h)]
   ·rw[cP (p:=(p.1,y)) e,cP e,ih]
  ·rw[if_neg h];by_cases e:p.1=j
   ·rw[cO (p:=p) e,cO e,Option.map_some,if_neg (λz=>h (e.trans z))]
   ·rw[cP (p:=p) e,cP e,ih]
theorem xA(k j:κ)(y:V):∀kvs:List (κ×V),eZ kvs k=none->eZ (kvs++[(k,y)]) j=if j=k then some y else eZ kvs j
 |[],_=>by
  by_cases e:k=j
  ·rw[if_pos e.symm];exact cO (p:=(k,y)) e
  ·rw[if_neg (λz=>e z.symm)];exact cP (p:=(k,y)) e
 |p::r,hn=>by
  rw[List.cons_append];have hk:¬p.1=k:=λz=>by rw[cO z]at hn;cases hn
  rw[cP hk]at hn;have ih:=xA k j y r hn;by_cases e:p.1=j
  ·rw[cO e,cO e,if_neg (λz=>hk (e.trans z))]
  ·rw[cP e,cP e,ih]
theorem nK(kvs:List (κ×V))(k j:κ)(y:V):eZ (putK kvs k y) j=if j=k then some y else eZ kvs j:=by
 unfold putK;by_cases a:(kvs.any λkv=>decide (kv.1=k))=true
 ·rw[if_pos a,Az];rw[nM]at a;by_cases e:j=k
  ·obtain⟨x,hx⟩:=qbQ.mp a;rw[if_pos e,e,hx,Option.map_some,if_pos rfl]
  ·rw[if_neg e]
   cases eZ kvs j with
   |none=>rfl
   |some x=>rw[Option.map_some,if_neg e]
 ·rw[if_neg a];refine xA k j y kvs ?_;rw[nM]at a
  cases q:eZ kvs k with
  |none=>rfl
  |some x=>rw[q]at a;exact(a Y).elim
theorem jd(kvs:List (κ×V))(k:κ)(v:V):(putK kvs k v).length<=kvs.length+1:=by
 unfold putK;split
 ·rw[e_];omega
 ·rw[t_,Q_,qcj];omega
theorem HZ{k:κ}(v:V)(h:eZ kvs k=none):putK kvs k v=kvs++[(k,v)]:=by
 unfold putK;rw[nM,h];exact if_neg (by decide)
theorem m5.jT(r:m5 o u):o.isSome=u.isSome:=by
 cases o with
 |none=>cases u with
  |none=>rfl
  |some _=>exact(show False from r).elim
 |some _=>cases u with
  |none=>exact(show False from r).elim
  |some _=>rfl
theorem KV.val(r:KV kvs vs)(k:κ):m5 (eZ kvs k) (valueAt vs k):=by
 unfold KV at r
 induction r with
 |nil=>exact True.intro
 | @cons p q ps qs h t ih =>
  obtain⟨h1,h2⟩:=h;by_cases e:p.1=k
  ·have e':q.1=k:=h1.symm.trans e;have b:valueAt (q::qs) k=some q.2:=by simp[valueAt,qci,e']
   rw[cO e,b];exact h2
  ·have e':¬q.1=k:=λz=>e (h1.trans z);have b:valueAt (q::qs) k=valueAt qs k:=by simp[valueAt,qci,e']
   rw[cP e,b];exact ih
theorem KV.any(r:KV kvs vs)(k:κ):(kvs.any λkv=>decide (kv.1=k))=vs.any λkv=>decide (kv.1=k):=by
 unfold KV at r
 induction r with
 |nil=>rfl
 |cons h t ih=>rw[qc8,qc8,ih,h.1]
theorem KV.repl(r:KV kvs vs)(k:κ)(ry:RelV y u):
  KV (kvs.map λkv=>if kv.1=k then(kv.1,y)else kv) (vs.map λkv=>if kv.1=k then(kv.1,u)else kv):=by
 unfold KV at r ⊢
 induction r with
 |nil=>exact .nil
 | @cons p q ps qs h t ih =>
  rw[qag,qag];refine .cons ?_ ih;obtain⟨h1,h2⟩:=h;by_cases e:p.1=k
  ·rw[if_pos e,if_pos (h1.symm.trans e)];exact#[h1,ry]
  ·rw[if_neg e,if_neg (λz=>e (h1.trans z))];exact#[h1,h2]
theorem KV.put(r:KV kvs vs)(k:κ)(ry:RelV y u):KV (putK kvs k y) (stored vs k u):=by
 unfold putK stored;rw[r.any k];by_cases e:(vs.any λkv=>decide (kv.1=k))=true
 ·rw[if_pos e,if_pos e];exact r.repl k ry
 ·rw[if_neg e,if_neg e];exact Paired.snoc r #[Y,ry]
theorem KV.length{kvs:List (κ×V)}{vs:List (κ×n_)}(r:KV kvs vs):kvs.length=vs.length:=Paired.length r
end
theorem vD(r:RelV (kV k) u):(fP P w).is k u=true:=by
 cases k with
 |inl i=>obtain⟨t,e⟩:=(show ∃t,u=Value.int i t from r);subst e;exact Bw P w i t
 |inr x=>obtain⟨t,e⟩:=(show ∃t,u=Value.str x t from r);subst e;exact nZ P w x t
theorem xV:∀{ks:List Key} {us:List n_},Vals (ks.map kV) us->ItemsAre (fP P w) ks us
 |[],_,r=>by rw[List.map_nil]at r;cases r;exact .nil
 |k::ks,_,r=>by
  rw[qag]at r
  cases r with
  |cons h t=>exact .cons (vD h) (xV t)
abbrev KT(H:Hp):List (List Key×V)->List (List Key×l_×n_)->Prop:=Paired λp q=>p.1=q.1/\H q.2.1=some (.tup (p.1.map kV))/\RelV p.2 q.2.2
theorem KT.val(r:KT H kvs xs)(k:List Key):m5 (eZ kvs k) ((atKey xs k).map (·.2)):=by
 induction r with
 |nil=>exact True.intro
 | @cons p q ps qs h t ih =>
  obtain⟨h1,_,h2⟩:=h;by_cases e:p.1=k
  ·have e':q.1=k:=h1.symm.trans e;have b:atKey (q::qs) k=some q.2:=by simp[atKey,qci,e']
   rw[cO e,b];exact h2
  ·have e':¬q.1=k:=λz=>e (h1.trans z);have b:atKey (q::qs) k=atKey qs k:=by simp[atKey,qci,e']
   rw[cP e,b];exact ih
theorem KT.repl(r:KT H kvs xs)(k:List Key)(ry:RelV y u):
  KT H (kvs.map λkv=>if kv.1=k then(kv.1,y)else kv) (xs.map (putAt k u)):=by
 induction r with
 |nil=>exact .nil
 | @cons p q ps qs h t ih =>
  rw[qag,qag];refine .cons ?_ ih;obtain⟨h1,h2,h3⟩:=h;unfold putAt;by_cases e:p.1=k
  ·rw[if_pos e,if_pos (h1.symm.trans e)];exact#[h1,h2,ry]
  ·rw[if_neg e,if_neg (λz=>e (h1.trans z))];exact#[h1,h2,h3]
theorem KT.put(r:KT H kvs xs)(k:List Key)(hb:H b=some (.tup (k.map kV)))(ry:RelV y u):
  KT H (putK kvs k y) (storedH xs k b u):=by
 have e:(kvs.any λkv=>decide (kv.1=k))=(atKey xs k).isSome:=by
  rw[nM,(r.val k).jT,Option.isSome_map]
 unfold putK storedH;rw[e];by_cases q:(atKey xs k).isSome=true
 ·rw[if_pos q,if_pos q];exact r.repl k ry
 ·rw[if_neg q,if_neg q];exact Paired.snoc r #[Y,hb,ry]
theorem KT.keeps(r:KT H kvs xs)(ht:∀b ys,H b=some (.tup ys)->H' b=some (.tup ys)):KT H' kvs xs :=
 Paired.jr r λ_ _ z=>#[z.1,ht _ _ z.2.1,z.2.2]
section
variable{P:qal}{w:qaG}{H:Hp}{h:qaE}{a:l_}
theorem Mz(ok:mF P w H h)(e:Rd H a u):cE P w H h a u:=e.ok ok
theorem yb(ok:mF P w H h)(e:Rd H a (.dK kvs)):kvs.length<=A_/\(a==sysModules)=false/\∃vs,KV kvs vs/\h.DictOf (fP P w) a vs :=
 show cE P w H h a (.dK kvs) from Mz ok e
theorem R0(ok:mF P w H h)(e:H a=some (.dK kvs)):kvs.length<=A_/\(a==sysModules)=false/\∃vs,KV kvs vs/\h.DictOf (fP P w) a vs:=yb ok (.inl e)
theorem vC(ok:mF P w H h)(e:H a=some (.tup (ks.map kV))):(tupleKind (fP P w)).is h ks a:=by
 obtain⟨_,its,r,o,h1,h2,n,h3⟩:=(show cE P w H h a (.tup (ks.map kV)) from ok a _ e);exact#[o,its.toArray,n,h1,h2,h3,by simpa using xV r]
theorem BV(ok:mF P w H h)(e:Rd H a (.dT kvs)):kvs.length<=A_/\(a==sysModules)=false ∧
  ∃xs,KT H kvs xs/\h.DictOfH (tupleKind (fP P w)) a xs:=by
 obtain⟨z,y,xs,r,o,es,ep,h1,h2,h3,h4,h5⟩:=(show cE P w H h a (.dT kvs) from Mz ok e);refine#[z,y,xs,r,o,es,ep,h1,h2,h3,h4,λx hx=>?_,h5];have all:∀{l:List (List Key×V)} {m:List (List Key×l_×n_)},KT H l m->∀x∈m,(tupleKind (fP P w)).is h x.1 x.2.1:=by
  intro l m q
  induction q with
  |nil=>intro x hx;exact nomatch hx
  | @cons p q ps qs hq t ih =>
   intro x hx;rcases B_.mp hx with e|hx
   ·subst e;exact vC ok (by rw[←hq.1];exact hq.2.1)
   ·exact ih x hx
 exact all r x hx
theorem RZ(ok:mF P w H h)(e:H a=some (.dT kvs)):kvs.length<=A_/\(a==sysModules)=false ∧
  ∃xs,KT H kvs xs/\h.DictOfH (tupleKind (fP P w)) a xs:=BV ok (.inl e)
end
def pH(H:Hp)(a:l_)(y:V)(r:Option V):Prop :=
 (bU λkvs k=>Rd H a (.dK kvs)/\y=kV k/\r=eZ kvs k)\/iG λkvs k b=>Rd H a (.dT kvs)/\y= .ref b/\H b=some (.tup (k.map kV))/\r=eZ kvs k
def xm(H:Hp)(a:l_)(y v:V)(H':Hp):Prop :=
 (bU λkvs k=>H a=some (.dK kvs)/\y=kV k/\kvs.length<A_/\H'=upd H a (.dK (putK kvs k v))) ∨
 iG λkvs k b=>H a=some (.dT kvs)/\y= .ref b/\H b=some (.tup (k.map kV))/\kvs.length<A_/\H'=upd H a (.dT (putK kvs k v))
theorem pH.k{k:Key}(e:H a=some (.dK kvs)):pH H a (kV k) (eZ kvs k):=.inl #[kvs,k,.inl e,rfl,rfl]
theorem pH.t{k:List Key}(e:H a=some (.dT kvs))(eb:H b=some (.tup (k.map kV))):pH H a (.ref b) (eZ kvs k):=.inr #[kvs,k,b,.inl e,rfl,eb,rfl]
theorem xm.k{k:Key}(e:H a=some (.dK kvs))(hl:kvs.length<A_):xm H a (kV k) v (upd H a (.dK (putK kvs k v))):=.inl #[kvs,k,e,rfl,hl,rfl]
theorem xm.t{k:List Key}(e:H a=some (.dT kvs))(eb:H b=some (.tup (k.map kV)))(hl:kvs.length<A_):
  xm H a (.ref b) v (upd H a (.dT (putK kvs k v))):=.inr #[kvs,k,b,e,rfl,eb,hl,rfl]
section
variable{X:Cx}{pins:List (l_×qbW)}{σ:St}{H:Hp}{s:v_}{a:l_}{y v:V}{u r:n_}{o:Option V}{A:qaP}{E:n_->v_->Prop}
theorem Inv.big(I:Inv X pins σ H s):sysModules<s.heap.objs.size:=by
 have h:qa7<s.heap.objs.size:=(I.mod.glob.keeps I.bk).lt;exact qcA (by decide) h
theorem Gw{Q:n_->v_->Prop}(hu:A.units+1<cLine)(I:Inv X pins σ H s)(g:pH H a y (some v))(ry:RelV y u)(h:∀w' s',Inv X pins σ H s'->RelV v w'->Q w' s'):
  F_ (model X.prog X.w) A (getItem (.ref a) u) Q E s:=by
 rcases g with⟨kvs,k,e,ey,l⟩|⟨kvs,k,b,e,ey,eb,l⟩
 ·subst ey;obtain⟨z,hd,vs,rel,dd⟩:=yb I.hok e;obtain⟨w',hw,rw'⟩:=m5.some_of (v:=v) (o:=valueAt vs k) (by rw[l];exact rel.val k);exact wpAny_getItem_of (vD ry) dd.mapOf hw (h w' _ (I.tok _) rw')
 ·subst ey;cases (show u=Value.ref b from ry);obtain⟨z,hd,xs,rel,dd⟩:=BV I.hok e;obtain⟨w',hw,rw'⟩:=m5.some_of (v:=v) (o:=(atKey xs k).map (·.2)) (by rw[l];exact rel.val k);obtain⟨p,hp,hp2⟩:=qby.mp hw;refine wpAny_getItem_heap (qcP hu) (vC I.hok eb) dd hp ?_;rw[hp2];exact h w' _ (I.tok _) rw'
theorem Wj{Q:n_->v_->Prop}(hu:A.units+1<cLine)(I:Inv X pins σ H s)(g:pH H a y o)(ry:RelV y u)(h:∀s',Inv X pins σ H s'->Q (.bool o.isSome) s'):
  F_ (model X.prog X.w) A (compareOp .In u (.ref a)) Q E s:=by
 rcases g with⟨kvs,k,e,ey,l⟩|⟨kvs,k,b,e,ey,eb,l⟩
 ·subst ey;obtain⟨z,hd,vs,rel,dd⟩:=yb I.hok e;refine wpAny_in_of (vD ry) hd dd.mapOf ?_;rw[←(rel.val k).jT,←l];exact h _ (I.tok _)
 ·subst ey;cases (show u=Value.ref b from ry);obtain⟨z,hd,xs,rel,dd⟩:=BV I.hok e;refine wpAny_in_heap (qcP hu) (vC I.hok eb) hd dd ?_;have q:=(rel.val k).jT;rw[Option.isSome_map]at q;rw[←q,←l];exact h _ (I.tok _)
theorem L8{Q:n_->v_->Prop}(hu:A.units+1<cLine)(I:Inv X pins σ H s)(g:pH H a y o)(ry:RelV y u)(h:∀s',Inv X pins σ H s'->Q (.bool (!o.isSome)) s'):
  F_ (model X.prog X.w) A (compareOp .NotIn u (.ref a)) Q E s:=by
 rcases g with⟨kvs,k,e,ey,l⟩|⟨kvs,k,b,e,ey,eb,l⟩
 ·subst ey;obtain⟨z,hd,vs,rel,dd⟩:=yb I.hok e;refine wpAny_notIn_of (vD ry) hd dd.mapOf ?_;rw[←(rel.val k).jT,←l];exact h _ (I.tok _)
 ·subst ey;cases (show u=Value.ref b from ry);obtain⟨z,hd,xs,rel,dd⟩:=BV I.hok e;refine wpAny_notIn_heap (qcP hu) (vC I.hok eb) hd dd ?_;have q:=(rel.val k).jT;rw[Option.isSome_map]at q;rw[←q,←l];exact h _ (I.tok _)
theorem E2{h':qaE}{t':Nat}{ob:HO}(I:Inv X pins σ H s)(mu:Sk (H a))(hs:qbj a s.heap h')(he:∃q,h'.get? a=some q)(new:cE X.prog X.w (upd H a ob) h' a ob)(ht:s.toks<=t':=by first|exact i_ _|exact qaA _|assumption|omega):
  Inv X pins σ (upd H a ob) { s with heap:=h',toks:=t' } :=
 I.write (x:=a) (e:=a) mu (.inl rfl) (λb q hb z=>(hs.2 b hb).trans z) he new
theorem O3(z:kvs.length<=A_)(hd:(a==sysModules)=false)(rel:KV kvs vs)(dd:h'.DictOf (fP P w) a vs):
  cE P w H' h' a (.dK kvs):=#[z,hd,vs,rel,dd]
theorem Gv{Q:Unit->v_->Prop}(hu:A.units+1<cLine)(I:Inv X pins σ H s)(g:xm H a y v H')(ry:RelV y u)(rv:RelV v r)(h:∀s',Inv X pins σ H' s'->Q () s'):
  F_ (model X.prog X.w) A (setItem (.ref a) u r) Q E s:=by
 rcases g with⟨kvs,k,e,ey,l,eH⟩|⟨kvs,k,b,e,ey,eb,l,eH⟩
 ·subst ey eH;obtain⟨z,hd,vs,rel,dd⟩:=R0 I.hok e;have hz:vs.length<=A_:=by rw[←rel.length];exact z
  have hl:(putK kvs k v).length<=A_:=by have:=jd kvs k v;omega
  refine wpAny_setItem_pairs (hsz:=hz) (vD ry) dd λh' TN hs=>h _ ?_
  have he:∃q,h'.get? a=some q:=let ⟨q,_,_,hq,_⟩:=TN;#[q,hq]
  exact E2 I (by rw[e];exact True.intro) hs he (O3 hl hd (rel.put k rv) TN)
 ·subst ey eH;cases (show u=Value.ref b from ry);obtain⟨z,hd,xs,rel,dd⟩:=RZ I.hok e;have hz:xs.length<=A_:=by rw[←Paired.length rel];exact z
  have hl:(putK kvs k v).length<=A_:=by have:=jd kvs k v;omega
  refine wpAny_setItem_heap (hsz:=hz) (qcP hu) (vC I.hok eb) dd λh' TN hs=>h _ ?_;obtain⟨q,es,ep,hq,h2,h3,h4,_,h5⟩:=TN;refine E2 I (by rw[e];exact True.intro) hs #[q,hq] #[hl,hd,_,(rel.put k eb rv).keeps λc ys ec=>?_,q,es,ep,hq,h2,h3,h4,h5]
  rw[ay (kg ec e (λz=>nomatch z))]
  exact ec
end
section
variable{X:Cx}{pins:List (l_×qbW)}{σ:St}{H:Hp}{s:v_}{a:l_}{kvs:List (Key×V)}{k:Key}{u:n_}{A:qaP}{E:n_->v_->Prop}
theorem R5{Q:n_->v_->Prop}(I:Inv X pins σ H s)(e:Rd H a (.dK kvs))(h:∀t s',Inv X pins σ H s'->Q (.int kvs.length t) s'):F_ (model X.prog X.w) A (call (.builtin "len") [.ref a]) Q E s:=by
 obtain⟨z,hd,vs,rel,dd⟩:=yb I.hok e;refine call_len_dict hd dd (by rw[←rel.length];rw[qb5]at z;omega) ?_;rw[←rel.length];exact h _ _ (I.tok _)
end
def Pk(i:Expr):Prop:=∀ov iv,subscripted i false ov iv=operate [ov,iv] (getItem ov iv)
theorem El{T id:String}
  (hl:typeLookup (.type T) "__getitem__" =pure (some (.builtin id))) (hs:Pk slice)
  (h:F_ (model prog w) A (eval value env) (λo s₁=>F_ (model prog w) A (eval slice env) (λi s₂=>s₂.TypeIs o T/\F_ (model prog w) A (getItem o i) Q E s₂) E s₁) E s) :
  F_ (model prog w) A (eval (.Subscript value slice pos) env) Q E s:=by
 refine Subscript_ (qaC h (λo s₁ h₁=>qaC h₁ (λi s₂ h₂=>?_) λ_ _ x=>x) λ_ _ x=>x);obtain⟨hT,h₂⟩:=h₂;unfold subscriptTail;refine f_ ?_;rw[getitemInPython_of_ne hT.not_modules];refine f_ (wpAny_specialOf hT hl ?_);have fin:F_ (model prog w) A (subscripted slice false o i) (λr s₃=>F_ (model prog w) A (letTemporaryGo value o r >>= λ_=>pure r) Q E s₃) E s₂:=by
  rw[hs o i];exact wpAny_operating (qaC h₂ (λr s₃ h₃=>f_ (wpAny_letTemporaryGo (q_ h₃))) λ_ _ x=>x)
 first
  |exact q_ (f_ fin)
  |exact f_ (q_ (f_ fin))
  |exact f_ fin
theorem BX{σ:St}(I:Inv X pins σ H s)(g:pH H a y o):s.TypeIs (.ref a) "dict" :=by
 rcases g with⟨kvs,k,e,_,_⟩|⟨kvs,k,b,e,_,_,_⟩
 ·obtain⟨_,_,vs,_,dd⟩:=yb I.hok e;exact dd.typeIs
 ·obtain⟨_,_,xs,_,dd⟩:=BV I.hok e;exact dd.typeIs
def Qp(td ty:TE):TE:=λσ H Q=>td σ H λx H1=>ty σ H1 λy H2=>bU λa v=>x= .ref a/\pH H2 a y (some v)/\Q v H2
def QJ(td ty tv:TE):TS:=λD σ H=>tv σ H λv H1=>td σ H1 λx H2=>ty σ H2 λy H3=>bU λa H4=>x= .ref a/\xm H3 a y v H4/\D.nx σ H4
section
variable{X:Cx}{o i e value:Expr}{pos pos' tpos:qc5}{td ty tv:TE}
theorem yP(hu:X.A.units+1<cLine)(ho:PE X o td)(hi:PE X i ty)(hs:Pk i):PE X (.Subscript o i pos) (Qp td ty):=by
 intro pins s σ H Q I h;refine El PySem.F.slot_dict_getitem.lookup hs (dm (ho pins s σ H _ I h) λu s1 ⟨x,H1,I1,rx,q1⟩=>dm (hi pins s1 σ H1 _ I1 q1) λiv s2 ⟨y,H2,I2,ry,a,v,ex,g,q2⟩=>?_);subst ex;obtain rfl:u=Value.ref a:=rx;exact#[BX I2 g,Gw hu I2 g ry λw' s3 I3 rw'=>#[v,H2,I3,rw',q2]]
theorem t8(hu:X.A.units+1<cLine)(ho:PE X o td)(hi:PE X i ty)(hv:PE X value tv)(hs:swapsWith value (some (.Subscript o i pos')) pos.line X.env=pure false):
  PS X (.Assign [.Subscript o i pos'] value pos) (QJ td ty tv):=by
 intro pins s σ H D I h;refine wpAny_Assign_Subscript (dm (hv pins s σ H _ I h) λr s1 ⟨v,H1,I1,rv,q1⟩=>dm (ho pins s1 σ H1 _ I1 q1) λu s2 ⟨x,H2,I2,rx,q2⟩=>dm (hi pins s2 σ H2 _ I2 q2) λiv s3 ⟨y,H3,I3,ry,a,H4,ex,g,q3⟩=>?_) hs;subst ex;obtain rfl:u=Value.ref a:=rx;exact Gv hu I3 g ry rv λs4 I4=>#[σ,H4,I4,q3]
end
theorem Jg(h:qaE)(hb:sysModules<h.objs.size):cE P w H (h.push { cls:=.type "dict",data:=.dict #[] }) h.objs.size (.dK []) :=
 #[O_ _,beq_eq_false_iff_ne.mpr (Ne.symm (V_ hb)),[],.nil,Heap.DictOf.new h]
theorem Jf(h:qaE)(hb:sysModules<h.objs.size):cE P w H (h.push { cls:=.type "dict",data:=.dict #[] }) h.objs.size (.dT []) :=
 #[O_ _,beq_eq_false_iff_ne.mpr (Ne.symm (V_ hb)),[],.nil,_,#[],0,I_ _ rfl,#[rfl,rfl,rfl],rfl,rfl,List.nodup_nil]
def Nt:TE:=λ_ H Q=>∀p,H p=none->Q (.ref p) (upd H p (.dK []))
def Nr:TE:=λ_ H Q=>∀p,H p=none->Q (.ref p) (upd H p (.dT []))
section
variable{X:Cx}{pos:qc5}
theorem uS:PE X (.Dict [] [] pos) Nt:=λpins s σ H Q I h =>
 wpAny_Dict_empty #[.ref s.heap.objs.size,_,I.laid (a:=s.heap.objs.size) (o:=.dK []) (t':=s.toks) (λ_ _ q=>g_ _ q) (i_ _) (Jg s.heap I.big),rfl,h _ (I.hok.fresh (i_ _))]
theorem Ii:PE X (.Dict [] [] pos) Nr:=λpins s σ H Q I h =>
 wpAny_Dict_empty #[.ref s.heap.objs.size,_,I.laid (a:=s.heap.objs.size) (o:=.dT []) (t':=s.toks) (λ_ _ q=>g_ _ q) (i_ _) (Jf s.heap I.big),rfl,h _ (I.hok.fresh (i_ _))]
end
section
variable{X:Cx}{pins:List (l_×qbW)}{σ:St}{H:Hp}{s:v_}{a:l_}{y d:V}{u r:n_}{o:Option V}{A:qaP}{E:n_->v_->Prop}
end
section
variable{X:Cx}{o e f:Expr}{apos cpos:qc5}{td ty tx:TE}
end
section
variable{X:Cx}{pins:List (l_×qbW)}{σ:St}{H:Hp}{s:v_}{a:l_}{kvs:List (Key×V)}{A:qaP}{E:n_->v_->Prop}
end
section
variable{X:Cx}{pins:List (l_×qbW)}{σ:St}{H:Hp}{s:v_}{a:l_}{y:V}{u:n_}{A:qaP}{E:n_->v_->Prop}
end
end
end L2
namespace WD
open PySem PySem.W PySem.Calls PyProof.Rows
theorem tU:∀(ns:List Int) (vs:List n_),WellAll P h vs (ns.map WData.int)->IntsAre vs ns:=by
 intro ns
 induction ns with
 |nil =>
  intro vs w;rw[List.map_nil]at w;cases w;exact .nil
 |cons n ns ih =>
  intro vs w;rw[qag]at w
  cases w with
  |cons a b =>
   cases a;exact .cons _ _ (ih _ b)
theorem FF{l:OpenLaw}(hn:l.most=some n)
  (hpre:l.row.toRowW.claim.pre args=true) (hwl:WellAll P h vals args) :
  iG λa vs ns=>vals=[Value.ref a]/\args=[WData.list (ns.map WData.int)]/\h.get? a=some { cls:=.type "list",data:=.seq vs.toArray }/\IntsAre vs ns/\ns.length<=n:=by
 have hsh:WShape.hasAll [] args [.list .int]=true:=(pre_splitW hpre).1;have hc:l.pre.holds [] { args:=args }=true:=(pre_splitW hpre).2;obtain⟨d,r,rfl,h1,h2⟩:=hasAllW_cons hsh;obtain rfl:=hasAllW_nil h2;obtain⟨xs,rfl,h3⟩:=hasW_list h1;obtain⟨ns,rfl⟩:=items_int h3;have hlen:ns.length<=n:=by
  unfold OpenLaw.pre at hc;have h4:(WTm.not (.lt (.lit (.int (n:Int))) (.len (.arg 0)))).holds [] { args:=[.list (ns.map .int)] }=true:=by
   have h4:=(holds_andW hc).1;rw[hn]at h4;exact h4
  have h5:=condW_of h4 (w_not (w_lt w_lit (w_len_list (w_arg rfl))));rw[e_]at h5;refine Nat.le_of_not_lt λq=>?_;have q':(n:Int)<((ns.length:Nat):Int):=by omega
  first
   |(rw[decide_eq_true q']at h5;exact absurd h5 (by decide))
   |(simp at h5;omega)
 cases hwl with
 |cons w1 w2 =>
  cases w2
  cases w1 with
  |list ho hall=>exact#[_,_,ns,Y,Y,ho,tU ns _ hall,hlen]
theorem FQ(l:OpenLaw)(args:List WData):l.row.toRowW.claim.post args (.bool true) args=true :=
 postW_of (r:=l.row.toRowW) (X:=(true==true))
  (show WShape.has [] (.bool true) .bool=true by first|rfl|decide|simp[WShape.has,WShape.arms,WShape.armsAll])
  (show(WTm.eq .res (.lit (.bool true))).value [] { args:=args,res:=some (.bool true),after:=args }=some (.bool (true==true)) from w_eq_bool (w_res rfl) w_lit) rfl
section
variable{prog:qal}{w:qaG}{A:qaP}{E:n_->v_->Prop}{s:v_}{K:Frag}
end
end WD
namespace L2
open PySem PySem.Spec PyProof.Rows
section
theorem xy:∀{vs:List n_} {ns:List Int},IntsAre vs ns->Vals (ns.map V.int) vs
 |_,_,.nil=>.nil
 |_,_,.cons n t h=>.cons #[t,rfl] (xy h)
def Pj(H:Hp):Prop:=∀b,H b=none\/bU λo xs=>H b=some (.DQ o (.lst xs))
theorem IC{K:zaa}
  (KX:K.In s₁.heap) (hns:s₁.heap.Ns qa7 mg) (hb:s₁.heap.Ns builtinsNs mb) (OV:∀x:w_,x≠ "__name__" ->mb x=bootBuiltins x) (hlim:s₁.heap.NoLimit) (hg:s₁.gens= #[]) (htk:Cg mg s₁.toks)
  (ha:s₁.heap.get? a=some { cls:=.type "list",data:=.seq vs.toArray }) (hi:IntsAre vs ns) (hl:ns.length<=A_) (hr:g8 k callerA)
  (F:∀base:qaE,K.In base->base.Ns qa7 mg->nI P w K mg base CX k fa fd [x] sp) (hbind:∀(s:v_) (u:n_),BindsTo s fd #[[u],[]] [(x,u)])
  (Co:∀H:Hp,Pj H->bq K H a (ns.map V.int)->sp [.ref a] H (λv _=>v= .bl true) λ_ _ _=>False)
  (V6:∀H e s',CX [] H s₁ (λ_ _ _=>False) e s'->False) :
  codeAny (model P w) callerA (.call (.ref fa) #[[.ref a],[]]) (λr s'=>r= .ok (.ret (.bool true))/\OldK s₁.heap s'.heap/\s'.os=s₁.os/\AllBare s'.gens) s₁:=by
 have rv:=xy hi;have UW:=hi.length;have core:∀H:Hp,Pj H->bq K H a (ns.map V.int)->mF P w H s₁.heap->(∀b,H b≠none->b=a)->(H a≠none->K.lookup a=none) →
   codeAny (model P w) callerA (.call (.ref fa) #[[.ref a],[]]) (λr s'=>r= .ok (.ret (.bool true))/\OldK s₁.heap s'.heap/\s'.os=s₁.os/\AllBare s'.gens) s₁:=by
  intro H hO hS hok hA hK;have E9:∀{b:l_} {o:qbW},s₁.heap.get? b=some o->H b=none->(zM s₁.heap H).get? b=some o:=λe n=>IQ e n;have QZ:∀{b:l_} {o:qbW} {es:Array DictEntry} {ep:Nat},s₁.heap.get? b=some o->o.data= .dict es ep->H b=none:=λ{b o es ep} e d=>by
   cases q:H b with
   |none=>rfl
   |some u =>
    have e':b=a:=hA b (by rw[q];simp);subst e';rw[ha]at e;cases e;have d':Data.seq vs.toArray _=Data.dict es ep:=d;cases d'
  have SV:∀{b:l_} {m:w_->Option n_},s₁.heap.Ns b m->(zM s₁.heap H).Ns b m:=λ{b m} ⟨o,es,ep,e,d,r⟩=>#[o,es,ep,E9 e (QZ e d),d,r];have XZ:K.In (zM s₁.heap H):=λb o e=>E9 (KX b o e) (by
   cases q:H b with
   |none=>rfl
   |some u =>
    have e':b=a:=hA b (by rw[q];simp);subst e';rw[hK (by rw[q];simp)]at e;cases e)
  have hM:Mod K mg (zM s₁.heap H):=#[XZ,SV hns,#[mb,SV hb,OV],let ⟨mc,h1,h2⟩:=hlim;#[mc,SV h1,h2]]
  have e0:Eg P w K mg (zM s₁.heap H) callerA [] s₁ H:=#[rfl,hM,λb o e=>Lm e,qb8 (Gh _ _),trivial,λb hb=>absurd (show b∈([]:List l_) from hb) (by simp),hok,.of_eq hg,htk];refine qbM ((F _ XZ (SV hns)).run callerA [] s₁ H #[[.ref a],[]] [.ref a] [.ref a] _ _ hr e0 (hbind s₁ (.ref a)) (.cons Y .nil) (Co H hO hS)) λr s' h=>?_
  cases r with
  |error e=>exact(V6 H e s' h).elim
  |ok fl =>
   cases fl with
   |next=>exact qaI h
   |brk=>exact qaI h
   |cont=>exact qaI h
   |ret u =>
    obtain⟨v,H',os,bare,un,IM,r',_,q⟩:=h;have q':v= .bl true:=q;subst q';obtain rfl:u=Value.bool true:=r';refine#[Y,OldK.of_keep λb o e=>?_,os,bare]
    cases q:H b with
    |none=>exact un.keep b o e q (by intro z;exact absurd (show b∈([]:List l_) from z) (by simp)) (by simp)
    |some u =>
     rcases hO b with z|⟨ob,xs,z⟩
     ·rw[q]at z;cases z
     ·have z2:=un.qg b ob _ z;obtain⟨e1,_⟩:=hok b _ z;obtain⟨e2,_⟩:=IM b _ z2;rw[e]at e1;cases e1;exact e2
 cases hk:K.lookup a with
 |some o =>
  have e:=KX a o hk;rw[ha]at e;cases e;refine core (λ_=>none) (λ_=>.inl Y) (.inr #[_,vs.toArray,_,hk,Y,Y,Y,by rw[y_,UW];exact hl,by simpa using rv]) (λb u z=>by have z':(none:Option HO)=some u:=z;cases z') (λb z=>absurd Y z) λz=>absurd Y z
 |none =>
  refine core (λb=>if b=a then some (.DQ { cls:=.type "list",data:=.seq vs.toArray } (.lst (ns.map V.int)))else none) (λb=>?_) (.inl (.inr #[{ cls:=.type "list",data:=.seq vs.toArray },if_pos Y])) (λb u z=>?_) (λb z=>?_) λ_=>hk
  ·by_cases hb:b=a
   ·exact .inr #[_,_,if_pos hb]
   ·exact .inl (if_neg hb)
  ·by_cases hb:b=a
   ·have z':=(if_pos hb).symm.trans z;cases z';subst hb;exact#[ha,by rw[e_];exact hl,vs,_,rv,ha]
   ·have z':=(if_neg hb).symm.trans z;cases z'
  ·by_cases hb:b=a
   ·exact hb
   ·exact absurd (if_neg hb) z
end
section
end
section
noncomputable def inClass(s:qcU)(j:Nat):qcU:=match s with
 | .ClassDef _ _ _ body _ _ _ _ _ _ _=>body.getD j (.Pass #[0,0,0,0])
 |_=>.Pass #[0,0,0,0]
noncomputable def jG(s:qcU):Arguments:=match s with
 | .FunctionDef _ a _ _ _ _ _ _ _ _=>a
 |_=>{ posonlyargs:=[],args:=[],vararg:=none,kwonlyargs:=[],kw_defaults:=[],kwarg:=none,defaults:=[] }
noncomputable def gq(s:qcU):List qcU:=match s with
 | .FunctionDef _ _ b _ _ _ _ _ _ _=>b
 |_=>[]
noncomputable def cj(s:qcU):qcT:=match s with
 | .FunctionDef _ _ _ _ _ _ sc _ _ _=>sc
 |_=>{ kind:=.function,names:=[],isGenerator:=false,isCoroutine:=false }
noncomputable abbrev cZ:Ei:=λ_ _ _ _ _ _=>False
noncomputable abbrev E0:XK:=λ_ _ _=>False
theorem MD:Passes cZ X E0:=λ_ _ _ _ _ _ _ h=>h.elim
structure Nd(K:zaa)(x qual:w_)(st:qcU)(f:l_)(fd:qce):Prop where
 ex:M6 λ(oc:n_) (od:Option l_) (kV doc pm:n_) (an:Option l_) (cdv ct:n_) (osl:Array (Option n_)) =>
  fd=zaj x qual (jG st) (gq st) (cj st) .none kV doc pm an cdv ct/\K.lookup f=some #[oc,od,.func fd,osl]/\zaw K cdv qual=true
 kp:zap K (.ref f)=true
section
variable{P:qal}{w:qaG}{K:zaa}{mg:w_->Option n_}{base:qaE}
theorem Nd.ok{st:qcU}(F:Nd K x qual st f fd)(S:m7 N ps (cj st))(len:∀vs H Q E,sp vs H Q E->vs.length=ps.length)
  (hbody:∀(cdv:n_) (A:qaP) (outer:List Env) (s:v_) (H:Hp) (vs:List V) (Q:VK) (E:XK),g8 k (A.deeper (envOfC qual (cj st) s.heap.objs.size f cdv))->sp vs H Q E →
   ∃t,xh (qm cZ P w K mg base N qual (cj st) f cdv A outer s H E).Pz (gq st) t/\t { nx:=λ_ H'=>Q .dX H',rt:=Q } (start N vs) H):nI P w K mg base cZ (k+1) f fd ps sp:=by
 obtain⟨oc,od,kV,doc,pm,an,cdv,ct,osl,rfl,lk,hcd⟩:=F.ex;refine M0 lk hcd S len λA outer s H vs Q E hr Co=>?_;obtain⟨t,h,q⟩:=hbody cdv A outer s H vs Q E hr Co;exact#[t,h.Pz,q]
theorem Nd.binds{st:qcU}{ps:List w_}(F:Nd K x qual st f fd)
  (h:∀(kV doc pm:n_) (an:Option l_) (cdv ct:n_) (us:List n_),us.length=ps.length->bindArgs (zaj x qual (jG st) (gq st) (cj st) .none kV doc pm an cdv ct) #[us,[]]=pure (ps.zip us)):Binds K fd ps []:=by
 obtain⟨oc,od,kV,doc,pm,an,cdv,ct,osl,rfl,lk,hcd⟩:=F.ex;exact .all (h kV doc pm an cdv ct)
theorem IZ{st:qcU}{kV doc pm cdv ct:n_}(l:K.lookup f=some #[oc,od,.func (zaj x qual (jG st) (gq st) (cj st) .none kV doc pm an cdv ct),osl])
  (c:zaw K cdv qual=true) (k:zap K (.ref f)=true):Nd K x qual st f (zaj x qual (jG st) (gq st) (cj st) .none kV doc pm an cdv ct):=#[#[oc,od,kV,doc,pm,an,cdv,ct,osl,rfl,l,c],k]
end
theorem jh(hr:g8 k A):A.units+1<cLine:=o_ (qcH (by decide:1<=64) _) hr.units
section
variable{X:Cx}
theorem pv(i:Nat){x:w_}{pos:qc5}(hN:X.N[i]? =some x:=by rfl)(hv:TR X.env.scope x:=by first|exact Or.inl rfl|exact Or.inr (Or.inl Y)|exact Or.inr (Or.inr Y))(hd:(x==("__debug__" :w_))=false:=by decide)
  (hcd:(x==("__classdict__" :w_))=false:=by decide):PE X (.Name x pos) (Qi i):=Ob hN hv hd hcd
end
theorem eX{A B:Prop}(h:B):if false=true then A else B:=by
 rw[if_neg K_];exact h
theorem gU{A B:Prop}(h:A):if true=true then A else B:=by
 rw[if_pos rfl];exact h
def aj(H H':Hp):Prop:=∀b o,H b=some o->H' b=some o
theorem aj.refl(H:Hp):aj H H:=λ_ _ h=>h
theorem aj.trans(a:aj H H1)(b:aj H1 H2):aj H H2:=λc o h=>b c o (a c o h)
theorem aj.free(e:aj H H')(h:H' l=Option.none):H l=Option.none:=by
 cases q:H l with
 |none=>rfl
 |some o =>
  rw[e l o q]at h;cases h
theorem aj.seq{K:zaa}(e:aj H H')(h:bq K H a xs):bq K H' a xs:=by
 rcases h with(h|⟨o,h⟩)|h
 ·exact .inl (.inl (e _ _ h))
 ·exact .inl (.inr #[o,e _ _ h])
 ·exact .inr h
section
variable{κ:Type}[DecidableEq κ]
end
end
end L2
namespace GP
theorem Rc{α:Type}:∀{l:List α},l.length=1->∃a,l=[a]
 |[a],_=>#[a,rfl]
theorem BC{α:Type}:∀{l:List α},l.length=n+1->∃a r,l=a::r/\r.length=n
 |a::r,h=>#[a,r,rfl,Nat.succ.inj h]
theorem Rb{α:Type}{l:List α}(h:l.length=2):∃a b,l=[a,b]:=by
 obtain⟨a,r,rfl,k⟩:=BC h;obtain⟨b,rfl⟩:=Rc k;exact#[a,b,Y]
theorem Ra{α:Type}{l:List α}(h:l.length=3):∃a b c,l=[a,b,c]:=by
 obtain⟨a,r,rfl,k⟩:=BC h;obtain⟨b,c,rfl⟩:=Rb k;exact#[a,b,c,Y]
theorem Q9{α:Type}{l:List α}(h:l.length=4):∃a b c d,l=[a,b,c,d]:=by
 obtain⟨a,r,rfl,k⟩:=BC h;obtain⟨b,c,d,rfl⟩:=Ra k;exact#[a,b,c,d,Y]
theorem Q8{α:Type}{l:List α}(h:l.length=5):∃a b c d e,l=[a,b,c,d,e]:=by
 obtain⟨a,r,rfl,k⟩:=BC h;obtain⟨b,c,d,e,rfl⟩:=Q9 k;exact#[a,b,c,d,e,Y]
theorem UY{α:Type}{l:List α}(h:l.length=6):∃a b c d e f,l=[a,b,c,d,e,f]:=by
 obtain⟨a,r,rfl,k⟩:=BC h;obtain⟨b,c,d,e,f,rfl⟩:=Q8 k;exact#[a,b,c,d,e,f,Y]
end GP
namespace L2
open PySem PySem.Spec PyProof.Rows
section
section
variable{X:Cx}
theorem kO:g7 X (.builtin "isinstance") (λxs H Q=>mZ λx n t b=>xs=[x,.ty n]/\sQ X.K H x t/\zad X.K t (.type n)=some b/\Q (.bl b) H):=by
 intro pins s σ H xs us Q I r h;obtain⟨x,n,t,b,rfl,ty,e,q⟩:=h;obtain⟨u,w',rfl,rx,rn⟩:=vals2 r;cases rn;exact TK.bP (i_ _) (Ge I rx ty e λtk hup=>#[.bl b,H,I.tok _,Y,q])
theorem yi:∀{bs:List Bool} {us:List n_},Vals (bs.map V.bl) us->∀(i:Nat) (v:n_),us[i]? =some v->∃b,bs[i]? =some b/\v= .bool b
 |[],_,r,i,v,e=>by
  cases r;simp at e
 |b::bs,_,r,i,v,e=>by
  cases r with
  |cons r1 r2 =>
   cases i with
   |zero =>
    simp at e;subst e;exact#[b,Y,r1]
   |succ i =>
    obtain⟨c,h1,h2⟩:=yi r2 i v (by simpa using e);exact#[c,by simpa using h1,h2]
theorem C6(bs:List Bool):((H_ bs.length).all λi=>(bs[i]?).getD true)=bs.all id:=by
 rw[qa6,x_,x_];constructor
 ·intro h b hb;obtain⟨i,hi,rfl⟩:=qbd hb;have:=h i (qam.mpr hi);simpa only[d_ hi,qaZ,id]using this
 ·intro h i hi;have hi':=qam.mp hi;simpa only[d_ hi',qaZ,id]using h _ (D_ hi')
theorem kQ(hc:X.calm=true):g7 X (.builtin "all") (λxs H Q=>bU λ(l:l_) (bs:List Bool)=>xs=[.ref l]/\bq X.K H l (bs.map V.bl)/\Q (.bl (bs.all id)) H):=by
 intro pins s σ H xs us Q I r h;obtain⟨l,bs,rfl,hl,q⟩:=h;obtain⟨u,rfl,ru⟩:=vals1 r;cases ru;obtain⟨its,rv,p,hz⟩:=I.list hl;have pl:s.heap.IsList l its.toArray:=p.isList;have hlt:l<s.heap.objs.size:=by obtain⟨_,e,_⟩:=pl;exact C_ e
 have hlen:bs.length=its.length:=by rw[←rv.length,e_]
 refine TK.bP (i_ s.toks) ?_;refine call_all_walk (qcq pl ?_);refine#[s.heap.objs.size,[s.heap.objs.size,l],[s.heap.objs.size],its.toArray.size,_,_,λi=>(bs[i]?).getD true,Y,Walks.list (A:=X.A.in1) (I.ok.hd hc) _ l (V_ hlt) its.toArray,
  #[#[_,I_ _ rfl,rfl,rfl],pl.push _],λi v s' Q' E' hP hQ=>?_,λh' tk hk hup=>?_]
 ·obtain⟨b,e,rfl⟩:=yi rv i v (by simpa using hP);simp only[e,qaZ]at hQ;exact qa2 hQ
 ·have e:((H_ its.toArray.size).all λi=>(bs[i]?).getD true)=bs.all id:=by
   rw[y_,←hlen];exact C6 bs
  rw[e];refine#[.bl (bs.all id),H,I.kept (t':=tk) (λb x e=>hk b x (λhm=>?_) (g_ _ e)),Y,q];rw[u_.mp hm]at e;exact qav _ (C_ e)
end
theorem Ew{X:Cx}{K':zaa}{es:List Expr}{k:Nat}{t:M7}{n:Nat}{pos:qc5}(hK:X.K=K')(hc:X.calm=true)(h:Si X es t)
  (hn:(assignEach es X.env).length=n:=by rfl) (hst:(assignEach es X.env).findIdx? (·.1)=none:=by rfl):PG X (.Tuple es k pos) (RV K' n t):=by
 subst hK;exact kc hc h hn hst
def Uj(t u:TS):TS:=λD σ H=>∃Mid:St->Hp->Prop,t { D with nx:=Mid } σ H/\∀ σ' H',Mid σ' H'->u D σ' H'
theorem aX{st:qcU}(h1:PS X st t)(h2:xh X rest u):xh X (st::rest) (Uj t u):=by
 intro pins s σ H D I h;obtain⟨Mid,h,hm⟩:=h;refine wpAny_execs_cons (dm (h1 pins s σ H { D with nx:=Mid } I h) λf s1 q=>?_)
 cases f with
 |next =>
  obtain⟨σ',H',I',q⟩:=q;exact h2 pins s1 σ' H' D I' (hm σ' H' q)
 |ret v=>exact q
 |brk=>exact q
 |cont=>exact q
noncomputable def eG(X:Cx)(scope:qcT)(cl:List (w_×l_))(C:l_)(N:List w_)(s:v_)(H:Hp)(ex:List l_)(pn:List (l_×qbW))(E:n_->v_->Prop):Cx :=
 { X with N:=N,s₀:=s,H₀:=H,env:=compEnvC scope cl C X.env,outer:=X.stack,ex:=ex,fn:=λx=>scope.names.lookup x==some .cell,pn:=pn,xe:=E }
structure eT(X:Cx)(scope:qcT)(cl:List (w_×l_))(N:List w_)(lG:St->St):Prop where
 clos:closureFor scope X.env=pure cl
 kind:scope.kind= .function
 cell:∀y∈scope.names,y.2= .cell->cl.lookup y.1=none
 names:∀y∈scope.names,y.2= .local->scope.names.lookup y.1=some .local
 sub:∀x c,cl.lookup x=some c->X.env.cells.lookup x=some c
 has:∀x,((relabel scope X.env).names.lookup x=some .cell\/(relabel scope X.env).names.lookup x=some .free)->scope.names.lookup x=some .cell\/∃c,cl.lookup x=some c
 len:∀ σ,(lG σ).length=N.length
 fv:∀(σ:St) (i:Nat) (x:w_) (v:V),N[i]? =some x->(lG σ)[i]? =some (some v)->TR (relabel scope X.env) x →
  bU λ(j:Nat) (c:l_)=>X.N[j]? =some x/\σ[j]? =some (some v)/\X.env.kindOf x=some .cell/\((relabel scope X.env).names.lookup x=some .cell\/(relabel scope X.env).names.lookup x=some .free)/\cl.lookup x=some c
structure JN(cl D5:List (w_×l_))(scope:qcT)(n:Nat)(h₁:qaE):Prop where
 look:∀x c,D5.lookup x=some c->(n<c/\h₁.IsCell c none)\/cl.lookup x=some c
 inj:∀x y c,n<c->D5.lookup x=some c->D5.lookup y=some c->(∀x,cl.lookup x≠some c)->x=y
 keep:∀x c,cl.lookup x=some c->D5.lookup x=some c
 own:∀x,scope.names.lookup x=some .cell->∃c,D5.lookup x=some c
theorem fL:∀(names:List (w_×qbN)) (n:Nat) (acc:List (w_×l_)),cellsFrom n names acc=cellsFrom n names []++acc
 |[],_,_=>rfl
 |(y,k)::r,n,acc=>by
  unfold cellsFrom;split
  ·rw[fL r _ ((y,n)::acc),fL r _ [(y,n)],qat];rfl
  ·exact fL r n acc
theorem lB:∀(names:List (w_×qbN)) (n:Nat) (acc:List (w_×l_)) (x:w_) (c:l_),(x,c)∈cellsFrom n names acc->(x,qck)∈names\/(x,c)∈acc
 |[],_,_,_,_,h=>.inr h
 |(y,k)::r,n,acc,x,c,h=>by
  unfold cellsFrom at h;split at h
  next hk =>
   rcases lB r _ _ x c h with z|z
   ·exact .inl (s_ _ z)
   ·rcases B_.mp z with e|e
    ·cases e;have hk':k= .cell:=by simpa using hk
     rw[hk'];exact .inl r_
    ·exact .inr e
  next=>exact(lB r _ _ x c h).imp (s_ _) id
theorem Jp{X:Cx}{scope:qcT}{cl:List (w_×l_)}{N:List w_}{lG:St->St}(S:eT X scope cl N lG){M:Model}{A:qaP}{E:n_->v_->Prop}{s:v_}{Q:Env->v_->Prop}
  (h:∀D5 h₁,JN cl D5 scope s.heap.objs.size h₁->h₁.Ns s.heap.objs.size (λ_=>none)->(∀b o,s.heap.get? b=some o->h₁.get? b=some o)->Q { compEnvC scope D5 s.heap.objs.size X.env with scope:=scope } { s with heap:=h₁ }) :
  F_ M A (newFunctionEnv scope X.env.globals cl [] X.env.qual none .none (some X.env)) Q E s:=by
 simp only[newFunctionEnv,Option.isSome_some,if_true];refine f_ (wpAny_alloc ?_);refine f_ (wpAny_layCells _ (λname kind cells=>by cases hkc:kind==qck<;>simp[hkc]) _ _ _ _ ?_);have hz:(s.heap.push { cls:=.type "dict",data:=.dict #[] }).objs.size=s.heap.objs.size+1:=qaX ..
 have ok:=cellsFrom_ok scope.names (s.heap.push { cls:=.type "dict",data:=.dict #[] }) (s.heap.objs.size+1) [] #[λ_ _ hm=>(nomatch hm),List.Pairwise.nil] (by rw[hz];exact i_ _)
 simp only[qcX];refine f_ (q_ (q_ (h (cellsFrom (s.heap.push { cls:=.type "dict",data:=.dict #[] }).objs.size scope.names cl) _ #[λx c e=>?_,λx y c _ ex ey hn=>?_,λx c e=>?_,λx e=>?_] ((Heap.Ns.new s.heap (.type "dict")).keeps λb o e=>pushCells_keeps _ _ _ _ e) λb o e=>pushCells_keeps _ _ _ _ (g_ _ e))))
 ·rw[fL,List.lookup_append]at e
  cases q:(cellsFrom (s.heap.push { cls:=.type "dict",data:=.dict #[] }).objs.size scope.names []).lookup x with
  |none=>rw[q]at e;exact .inr e
  |some d =>
   rw[q]at e;cases e;exact .inl ((ok.empty x c (mem_of_lookup q)).symm)
 ·rw[fL,List.lookup_append]at ex ey
  cases qx:(cellsFrom (s.heap.push { cls:=.type "dict",data:=.dict #[] }).objs.size scope.names []).lookup x with
  |none=>rw[qx]at ex;exact absurd ex (hn x)
  |some d =>
   rw[qx]at ex;cases ex
   cases qy:(cellsFrom (s.heap.push { cls:=.type "dict",data:=.dict #[] }).objs.size scope.names []).lookup y with
   |none=>rw[qy]at ey;exact absurd ey (hn y)
   |some d =>
    rw[qy]at ey;cases ey;exact name_of_addr ok.apart (mem_of_lookup qx) (mem_of_lookup qy)
 ·rw[fL,List.lookup_append]
  cases q:(cellsFrom (s.heap.push { cls:=.type "dict",data:=.dict #[] }).objs.size scope.names []).lookup x with
  |none=>exact e
  |some d =>
   rcases lB _ _ _ _ _ (mem_of_lookup q)with z|z
   ·rw[S.cell _ z rfl]at e;cases e
   ·cases z
 ·exact qbQ.mp (zbe _ _ _ (.inl e))
theorem eT.plain(hfree:∀x∈scope.names,x.2≠ .free)(kind:scope.kind= .function)(_:∀y∈scope.names,y.2= .cell->(y.1,qak)∉scope.names)
  (names:∀y∈scope.names,y.2= .local->scope.names.lookup y.1=some .local):eT X scope [] N (λ_=>G_ N.length none):=by
 have hr:(relabel scope X.env).names=scope.names:=by
  unfold relabel;exact map_eq_self λx hx=>by
   obtain⟨n,k⟩:=x;have:(k==qak)=false:=by simpa using hfree _ hx
   simp[this]
 refine#[closureFor_none hfree,kind,λ_ _ _=>rfl,names,λx c e=>by simp at e,λx hx=>?_,λσ=>qaz,λσ i x v _ e _=>?_]
 ·rw[hr]at hx;rcases hx with hx|hx
  ·exact .inl hx
  ·exact absurd Y (hfree _ (PySem.mem_of_lookup hx))
 ·rw[qb0]at e;split at e
  ·cases e
  ·cases e
noncomputable def qp(look:w_->Option l_):List (w_×qbN)->List (w_×l_)->List (w_×l_)
 |[],acc=>acc
 |(n,k)::r,acc=>if(k==qak)=true then(match look n with|some a=>qp look r ((n,a)::acc)|none=>qp look r acc)else qp look r acc
theorem qo:∀(names:List (w_×qbN)) (acc:List (w_×l_)),(∀x∈names,x.2= .free->∃a,env.cells.lookup x.1=some a) →
  (forIn names acc (λ(x:w_×qbN) (r:List (w_×l_))=>match x with|(name,kind)=>if(kind==qak)=true then do let c ←cellOf env name;pure (ForInStep.yield ((name,c)::r))else pure (ForInStep.yield r)):Sem (List (w_×l_)))=pure (qp (env.cells.lookup ·) names acc)
 |[],acc,_=>rfl
 |(n,k)::r,acc,h=>by
  rw[qbJ];dsimp only;unfold qp;by_cases hk:(k==qak)=true
  ·obtain⟨a,ha⟩:=h (n,k) r_ (by simpa using hk);have ha':env.cells.lookup n=some a:=ha;rw[if_pos hk,if_pos hk,ha'];have hc:cellOf env n=pure a:=by unfold cellOf;rw[ha']
   rw[hc];exact qo r _ λx hx=>h x (s_ _ hx)
  ·rw[if_neg hk,if_neg hk];exact qo r _ λx hx=>h x (s_ _ hx)
theorem qU:∀(names:List (w_×qbN)) (acc:List (w_×l_)),(∀x c,acc.lookup x=some c->look x=some c)->∀x c,(qp look names acc).lookup x=some c->look x=some c
 |[],acc,h=>h
 |(n,k)::r,acc,h=>by
  unfold qp;by_cases hk:(k==qak)=true
  ·rw[if_pos hk]
   cases e:look n with
   |none=>exact qU r acc h
   |some a =>
    refine qU r _ λx c q=>?_;rw[qb1]at q;by_cases hx:(x==n)=true
    ·rw[hx]at q;have:x=n:=by simpa using hx
     rw[this,e];exact q
    ·have hx':(x==n)=false:=by simpa using hx
     rw[hx']at q;exact h x c q
  ·rw[if_neg hk];exact qU r acc h
theorem mT:∀(names:List (w_×qbN)) (acc:List (w_×l_)) (x:w_),(∃c,acc.lookup x=some c)->∃c,(qp look names acc).lookup x=some c
 |[],_,_,h=>h
 |(n,k)::r,acc,x,h=>by
  unfold qp;by_cases hk:(k==qak)=true
  ·rw[if_pos hk]
   cases e:look n with
   |none=>exact mT r acc x h
   |some a =>
    refine mT r _ x ?_;rw[qb1]
    cases hx:x==n with
    |true=>exact#[a,Y]
    |false=>exact h
  ·rw[if_neg hk];exact mT r acc x h
theorem oH{look:w_->Option l_}:∀(names:List (w_×qbN)) (acc:List (w_×l_)) (x:w_),(x,qak)∈names->(∃a,look x=some a)->∃c,(qp look names acc).lookup x=some c
 |[],_,_,h,_=>by cases h
 |(n,k)::r,acc,x,h,ha=>by
  unfold qp;rcases B_.mp h with e|e
  ·obtain⟨a,ha⟩:=ha;have e1:x=n:=congrArg Prod.fst e;have e2:k=qak:=(congrArg Prod.snd e).symm;subst e1 e2;rw[if_pos (by decide),ha];refine mT r _ x #[a,?_];rw[qb1];simp
  ·by_cases hk:(k==qak)=true
   ·rw[if_pos hk]
    cases e2:look n with
    |none=>exact oH r acc x e ha
    |some a=>exact oH r _ x e ha
   ·rw[if_neg hk];exact oH r acc x e ha
theorem qV:∀(names:List (w_×qbN)) (acc:List (w_×l_)) (x:w_) (c:l_),(qp look names acc).lookup x=some c->(x,qak)∈names\/acc.lookup x=some c
 |[],_,_,_,h=>.inr h
 |(n,k)::r,acc,x,c,h=>by
  unfold qp at h;by_cases hk:(k==qak)=true
  ·rw[if_pos hk]at h
   cases e:look n with
   |none=>rw[e]at h;exact(qV r acc x c h).imp (s_ _) id
   |some a =>
    rw[e]at h;rcases qV r _ x c h with z|z
    ·exact .inl (s_ _ z)
    ·rw[qb1]at z
     cases hx:x==n with
     |true =>
      have e1:x=n:=by simpa using hx
      have e2:k= .free:=by simpa using hk
      rw[e1,e2];exact .inl r_
     |false=>rw[hx]at z;exact .inr z
  ·rw[if_neg hk]at h;exact(qV r acc x c h).imp (s_ _) id
theorem mO{env:Env}:∀{names:List (w_×qbN)} {x:w_} {k:qbN},
  (names.map λ(n,k)=>if(k==qak&&env.scope.kind== .function&&env.kindOf n==some .cell)then(n,qck)else(n,k)).lookup x=some k →
  (k= .cell\/k= .free)->names.lookup x=some .cell\/(x,qak)∈names
 |[],_,_,h,_=>by simp at h
 |(n,j)::r,x,k,h,hk=>by
  rw[qag,qb1]at h;rw[qb1];by_cases hj:(j==qak&&env.scope.kind== .function&&env.kindOf n==some .cell)=true
  ·simp only[hj,if_true]at h;by_cases hx:(x==n)=true
   ·have e:x=n:=by simpa using hx
    have ej:j= .free:=by
     rw[N_,N_]at hj;simpa using hj.1.1
    rw[e,←ej];exact .inr r_
   ·have hx':(x==n)=false:=by simpa using hx
    rw[hx']at h ⊢;exact(mO h hk).imp id (s_ _)
  ·simp only[hj]at h;by_cases hx:(x==n)=true
   ·have e:x=n:=by simpa using hx
    rw[e]at h;simp at h;subst h;rw[hx];rcases hk with q|q
    ·rw[q];exact .inl Y
    ·rw[e,←q];exact .inr r_
   ·have hx':(x==n)=false:=by simpa using hx
    simp[hx']at h;rw[hx'];exact(mO (by simpa using h) hk).imp id (s_ _)
noncomputable def Qu(nt:Nat)(ix:List Nat)(σ:St):St:=G_ nt none++ix.map λj=>(σ[j]?).join
theorem eT.free(kind:scope.kind= .function)(cell:∀y∈scope.names,y.2= .cell->(y.1,qak)∉scope.names)
  (names:∀y∈scope.names,y.2= .local->scope.names.lookup y.1=some .local) (hf:∀y∈scope.names,y.2= .free->X.env.kindOf y.1=some .cell)
  (hl:N.length=nt+ix.length) (hx:∀(k j:Nat),ix[k]? =some j->∃x,N[nt+k]? =some x/\X.N[j]? =some x/\(x,qak)∈scope.names/\(relabel scope X.env).names.lookup x=some .cell) (ok:X.Ok) :
  ∃cl,eT X scope cl N (Qu nt ix):=by
 have hcl:∀y∈scope.names,y.2= .free->∃a,X.env.cells.lookup y.1=some a:=λy hy hk=>ok.has y.1 (.inl (hf y hy hk));refine#[qp (X.env.cells.lookup ·) scope.names [],?_,kind,λy hy hk=>?_,names,qU scope.names [] (λx c e=>by simp at e),λx h=>?_,λσ=>?_,λσ i x v e1 e2 e3=>?_]
 ·have z:=qo scope.names [] hcl;unfold closureFor;dsimp only;rw[z];rfl
 ·cases q:(qp (X.env.cells.lookup ·) scope.names []).lookup y.1 with
  |none=>rfl
  |some c =>
   rcases qV _ _ _ _ q with z|z
   ·exact absurd z (cell y hy hk)
   ·cases z
 ·have hm:scope.names.lookup x=some .cell\/(x,qak)∈scope.names:=by
   rcases h with h|h
   ·exact mO h (.inl Y)
   ·exact mO h (.inr Y)
  exact hm.imp id λhm=>oH scope.names [] x hm (hcl _ hm Y)
 ·unfold Qu;rw[t_,qaz,e_,hl]
 ·unfold Qu at e2;by_cases hi:i<nt
  ·rw[qad (by rw[qaz];exact hi),qb0]at e2;split at e2
   ·cases e2
   ·cases e2
  ·rw[qab (by rw[qaz];omega),qaz,j_]at e2
   cases ej:ix[i-nt]? with
   |none=>rw[ej]at e2;cases e2
   |some j =>
    rw[ej]at e2;have TM:(σ[j]?).join=some v:=Z_ e2;obtain⟨x',n1,n2,n3,n4⟩:=hx (i-nt) j ej;rw[show nt+(i-nt)=i by omega,e1]at n1;cases n1;obtain⟨c,hc⟩:=oH (look:=(X.env.cells.lookup ·)) scope.names [] x n3 (hcl _ n3 rfl);refine#[j,c,n2,?_,hf _ n3 Y,.inl n4,hc]
    cases es:σ[j]? with
    |none=>rw[es]at TM;cases TM
    |some o=>rw[es]at TM;rw[show o=some v from TM]
def Kp(a b:St):Prop:=∀(i:Nat) (v:V),a[i]? =some (some v)->b[i]? =some (some v)
theorem Kp.rep(n:Nat)(b:St):Kp (G_ n none) b:=λi v e=>by
 rw[qb0]at e;split at e
 ·cases e
 ·cases e
def AK(wi:TI)(g:TG)(te:TE)(lG:St->St):TE:=λσ H Q=>wi σ H λJ H1=>∀l,H1 l=none->∃W:Nat->Nat->List V->Hp->Prop,(∃m,W 0 m [] (upd H1 l (.lst []))) ∧
 ∀i m ys H2,W i m ys H2->(J.stop i H2/\Q (.ref l) H2) ∨
  (J.go i H2/\∀x H3,J.Ai i H2 x H3->g x (lG σ) H3 λxq H4=>Kp (lG σ) xq/\te xq H4 λy H5=>H5 l=some (.lst ys)/\ys.length<A_/\∃m',m'<m/\W (i+1) m' (ys++[y]) (upd H5 l (.lst (ys++[y]))))
theorem Inv.Mt{σ:St}(I:Inv X pins σ H s):Inv X [] σ H s:=I.yM λ_ hp=>nomatch hp
theorem mF.but(x:mF P w H h)(hC:H C=none)(sb:qbj C h h'):mF P w H h':=λb u e =>
 (x b u e).stay (λc v hc q=>(sb.2 c (by
  rintro rfl;rcases hc with z|z
  ·rw[z,e]at hC;cases hC
  ·rw[hC]at z;cases z)).trans q) (λ_ q=>q) λ_ _ q=>q
section
variable{X:Cx}{pins:List (l_×qbW)}{σ:St}{H:Hp}{s:v_}{scope:qcT}{cl:List (w_×l_)}{N:List w_}{lG:St->St}{fp:List l_}{h₁:qaE}{m:w_->Option n_}{E:n_->v_->Prop}
theorem IE{D5:List (w_×l_)}(S:eT X scope cl N lG)(G:JN cl D5 scope s.heap.objs.size h₁)(I:Inv X pins σ H s)(hf:∀b∈fp,oQ X pins H b/\b<s.heap.objs.size)(kp:∀b o,s.heap.get? b=some o->h₁.get? b=some o)(hns:h₁.Ns s.heap.objs.size m)(t':Nat)(ht:s.toks<=t':=by first|exact i_ _|exact qaA _|assumption|omega):
  Inv (eG X scope D5 s.heap.objs.size N s H fp (X.pn++pins) E) [] (lG σ) H { s with heap:=h₁,toks:=t' }:=by
 have QW:∀b,b≠X.env.locals->b∉X.fs->b∉frs X.stack:=λb h1 h2 z=>by
  rcases B_.mp (I.rF b z)with q|q
  ·exact h1 q
  ·exact h2 q
 have Mh:∀x c,cl.lookup x=some c->c<s.heap.objs.size:=λx c e=>by
  obtain⟨v,o,ho,_⟩:=I.cell x c (S.sub x c e);exact C_ ho
 refine#[#[I.mod,S.kind,I.ok.glob,I.ok.blt,i_ _,λx y c a b=>?_,λx h=>(S.has x h).elim (G.own x) λ⟨c,e⟩=>#[c,G.keep x c e],λx c z e=>?_,I.ok.hd,I.ok.frames,.inl Y,λb hb=>?_,I.bs,gc I.ok.Jv I.sz,λb o e hb=>?_,λb hb=>?_,I.stack,I.yy,I.tk],
  rfl,I.bare,Un.kept kp,#[m,hns,λi x v e1 e2 e3=>?_],λx c e=>?_,I.hok.fresh (i_ _),λx c e=>(G.look x c e).elim (λz=>I.hok.fresh (qa5 z.1)) λz=>I.ir x c (S.sub x c z),λp hp=>?_,I.hok.kept kp,S.len σ,ht]
 ·by_cases hc:s.heap.objs.size<c
  ·exact G.inj x y c hc a b λz e=>Nat.lt_asymm hc (Mh z c e)
  ·exact I.ok.inj x y c (S.sub x c ((G.look x c a).elim (λz=>absurd z.1 hc) id)) (S.sub y c ((G.look y c b).elim (λz=>absurd z.1 hc) id))
 ·rcases G.look x c e with q|q
  ·exact qa5 q.1
  ·have z2:(scope.names.lookup x==some qck)=true:=z;have z':scope.names.lookup x=some .cell:=by simpa using z2
   rw[S.cell _ (mem_of_lookup z') rfl]at q;cases q
 ·obtain⟨⟨_,_,_,_,f4,_⟩,lt⟩:=hf b hb;exact#[V_ lt,λx c e=>(G.look x c e).elim (λz=>qaU (qcA lt z.1)) λz=>f4 x c (S.sub x c z)]
 ·obtain⟨⟨f0,_,_,f3,_⟩,_⟩:=hf b hb;rcases f3 with z|z
  ·exact I.ok.Du b o e z
  ·exact absurd (J_ (C_ e) (gc I.ok.Jv z)) (qav _)
 ·obtain⟨⟨_,f1,f2,_⟩,_⟩:=hf b hb;exact QW b f1 f2
 ·obtain⟨j,c,n1,n2,n3,n4,n5⟩:=S.fv σ i x v e1 e2 e3;obtain⟨mX,_,hl⟩:=I.loc;obtain⟨u,r,l⟩:=hl j x v n1 n2 (.inr (.inl n3));refine#[u,r,.inr #[n4,c,G.keep x c n5,?_]];rcases l with⟨k,_⟩|⟨_,c',ec,o,ho,hd⟩
  ·have k':X.env.scope.names.lookup x=some .local:=k;have Xb:X.env.scope.names.lookup x=some .cell:=n3;rw[k']at Xb;cases Xb
  ·have q:=S.sub x c n5;rw[q]at ec;cases ec;exact#[o,kp _ _ ho,hd]
 ·rcases G.look x c e with z|z
  ·exact#[none,z.2]
  ·obtain⟨v,o,ho,hd⟩:=I.cell x c (S.sub x c z);exact#[v,o,kp _ _ ho,hd]
 ·have Zs:p∈X.pn++pins:=by
   rcases S_.mp hp with z|z
   ·exact z
   ·cases z
  obtain⟨a,b,c,d,e⟩:=I.pin p Zs;exact#[kp _ _ a,b,V_ (C_ a),QW _ c d,e]
end
end
section
inductive Cp where
 |lst (a:l_)|tup (a:l_)|txt (x:w_)
noncomputable def dw(x:w_):List V:=x.cps.toList.map λc=>V.str ⟨#[c]⟩
noncomputable def Cp.val:Cp->V
 | .lst a=>.ref a
 | .tup a=>.ref a
 | .txt x=>.str x
def Cp.at(K:zaa)(H:Hp):Cp->List V->Prop
 | .lst a=>bq K H a
 | .tup a=>bV K H a
 | .txt x=>λxs=>xs=dw x
def Cp.Ak(h:qaE)(it:l_)(i:Nat):Cp->Prop
 | .lst a=>h.IsListIter it a i
 | .tup a=>h.IsTupleIter it a i
 | .txt x=>∃t,h.IsStrIter it (strIterType x) x t i
def Cp.src(h:qaE):Cp->List V->Prop
 | .lst a=>λxs=>∃its,Vals xs its/\h.IsList a its.toArray
 | .tup a=>λxs=>∃its,Vals xs its/\h.IsTuple a its.toArray
 | .txt x=>λxs=>xs=dw x
def Cp.off(b:l_):Cp->Prop
 | .lst a=>a≠b
 | .tup a=>a≠b
 | .txt _=>True
section
variable{X:Cx}{pins:List (l_×qbW)}{σ:St}{H:Hp}{s:v_}{c d:Cp}{xs ys:List V}
theorem Cp.jY(I:Inv X pins σ H s)(h:c.at X.K H xs):c.src s.heap xs:=by
 cases c with
 |lst a=>obtain⟨its,r,p,_⟩:=I.list h;exact#[its,r,p.isList]
 |tup a=>obtain⟨its,r,p,_⟩:=I.tuple h;exact#[its,r,p]
 |txt x=>exact h
theorem Cp.D9(I:Inv X pins σ H s)(h:c.at X.K H xs)(h':c.at X.K H ys):xs=ys:=by
 cases c with
 |lst a=>exact I.vz h h'
 |tup a=>exact I.xD h h'
 |txt x=>exact(show xs=dw x from h).trans (show ys=dw x from h').symm
theorem Cp.fZ(hs:c.src h xs)(hb:h.get? b=some o)(hc:o.cls= .type T)(n1:T≠ "list")(n2:T≠ "tuple"):c.off b:=by
 cases c with
 |lst a =>
  obtain⟨its,_,o',ho,hc',_⟩:=hs;intro e;rw[e,hb]at ho;cases ho;rw[hc]at hc';injection hc' with q;exact n1 q
 |tup a =>
  obtain⟨its,_,o',ho,hc',_⟩:=hs;intro e;rw[e,hb]at ho;cases ho;rw[hc]at hc';injection hc' with q;exact n2 q
 |txt x=>trivial
theorem Cp.qL{b:l_}(hs:c.src h xs)(hb:h.objs.size<=b):c.off b:=by
 cases c with
 |lst a =>
  obtain⟨its,_,o',ho,_⟩:=hs;exact V_ (J_ (C_ ho) hb)
 |tup a =>
  obtain⟨its,_,o',ho,_⟩:=hs;exact V_ (J_ (C_ ho) hb)
 |txt x=>trivial
theorem Cp.fN(hs:c.src h xs)(hx:Heap.ExtBut b h h')(ho:c.off b):c.src h' xs:=by
 cases c with
 |lst a=>obtain⟨its,r,p⟩:=hs;exact#[its,r,p.extBut hx ho]
 |tup a=>obtain⟨its,r,p⟩:=hs;exact#[its,r,p.extBut hx ho]
 |txt x=>exact hs
theorem Cp.uD{h h':qaE}(hs:c.src h xs)(hx:∀b o,h.get? b=some o->h'.get? b=some o):c.src h' xs:=by
 cases c with
 |lst a=>obtain⟨its,r,o,ho,q⟩:=hs;exact#[its,r,o,hx _ _ ho,q]
 |tup a=>obtain⟨its,r,o,ho,q⟩:=hs;exact#[its,r,o,hx _ _ ho,q]
 |txt x=>exact hs
theorem Cp.fz(q:c.Ak h it i):iG λo T vs=>h.get? it=some o/\o.cls= .type T/\o.data= .fields vs/\T≠ "list" /\T≠ "tuple" :=by
 cases c with
 |lst a=>obtain⟨o,ho,hc,hd⟩:=q;exact#[o,_,_,ho,hc,hd,by decide,by decide]
 |tup a=>obtain⟨o,ho,hc,hd⟩:=q;exact#[o,_,_,ho,hc,hd,by decide,by decide]
 |txt x =>
  obtain⟨t,o,ho,hc,hd⟩:=q;refine#[o,_,_,ho,hc,hd,?_,?_]
  ·unfold strIterType;split<;>decide
  ·unfold strIterType;split<;>decide
theorem Cp.cU{h h':qaE}(q:c.Ak h it i)(e:∀o,h.get? it=some o->h'.get? it=some o):c.Ak h' it i:=by
 cases c with
 |lst a=>obtain⟨o,ho,r⟩:=q;exact#[o,e _ ho,r]
 |tup a=>obtain⟨o,ho,r⟩:=q;exact#[o,e _ ho,r]
 |txt x=>obtain⟨t,o,ho,r⟩:=q;exact#[t,o,e _ ho,r]
end
section
variable{prog:qal}{w:qaG}{A:qaP}{E:n_->v_->Prop}{s:v_}{c d:Cp}{xs ys:List V}
theorem qM{it t:l_}{i:Nat}{items}{x:n_}{Q:n_->v_->Prop}(hit:s.heap.IsTupleIter it t i)
  (ht:s.heap.IsTuple t items) (hx:items[i]? =some x)
  (hQ:∀h',h'.IsTupleIter it t (i+1)->qbj it s.heap h'->Q x { s with heap:=h' }) :
  F_ (model prog w) A (qae (.ref it)) Q E s:=by
 obtain⟨o,ho,hc,hd⟩:=id hit;obtain⟨ol,OJ,_,nl,hdl⟩:=ht;unfold qae;refine f_ (qaJ (name:=p_ "__next__") hit.typeIs qbA
  (qa9 qbA hit.typeIs F.entry_tuple_iterator_next ?_ (F.args_tuple_iterator_next_1 _)))
 show F_ _ _ (field (.ref it) 0 >>= _) _ _ s;refine f_ (qao ho hd (x:=.ref t) Y ?_)
 show F_ _ _ (if(Value.ref t==Value.none)=true then _ else _) _ _ s
 rw[if_neg (show ¬((Value.ref t==Value.none)=true) from K_)];show F_ _ _ (field (.ref it) 1 >>= _) _ _ s;refine f_ (qao ho hd (x:=.int i 0) Y ?_);show F_ _ _ (seqItems? (.ref t) >>= _) _ _ s;refine f_ (qba OJ hdl ?_);simp only[qax,hx];refine f_ (qcx ho hd (by simp) (q_ #[x,Y,q_ (hQ _ ?_ (qbY ..))]));exact#[_,qaq _ ho (qcl (qbB hd _)),(Obj.cls_mapFields ..).trans hc,by
  rw[qbB hd];simp[rawInt]]
theorem se(hh:A.handled=none)
  (hit:s.heap.IsTupleIter it t i) (ht:s.heap.IsTuple t items) (hx:items[i]? =none)
  (hE:∀h' e,Heap.ExtBut it s.heap h'->(∃o,h'.get? e=some o/\o.cls= .type "StopIteration")->E (.ref e) { s with heap:=h' }) :
  F_ (model prog w) A (qae (.ref it)) Q E s:=by
 obtain⟨o,ho,hc,hd⟩:=id hit;obtain⟨ol,OJ,_,nl,hdl⟩:=ht;unfold qae;refine f_ (qaJ (name:=p_ "__next__") hit.typeIs qbA
  (qa9 qbA hit.typeIs F.entry_tuple_iterator_next ?_ (F.args_tuple_iterator_next_1 _)))
 show F_ _ _ (field (.ref it) 0 >>= _) _ _ s;refine f_ (qao ho hd (x:=.ref t) Y ?_)
 show F_ _ _ (if(Value.ref t==Value.none)=true then _ else _) _ _ s
 rw[if_neg (show ¬((Value.ref t==Value.none)=true) from K_)];show F_ _ _ (field (.ref it) 1 >>= _) _ _ s;refine f_ (qao ho hd (x:=.int i 0) Y ?_);show F_ _ _ (seqItems? (.ref t) >>= _) _ _ s;refine f_ (qba OJ hdl ?_);simp only[qax,hx];refine f_ (wpAny_rule (f_ (qcx ho hd (by simp) ?_)));show F_ _ _ (newExc (.type "StopIteration") [] >>= _) _ _ _;refine f_ ?_;simp only[newExc,newTuple];refine f_ (qa3 ?_ (by size_fits))
 refine f_ (m:=firstArgMember _ _) (wpAny_of_eq (a:=Value.none) (by first|rfl|(simp only[firstArgMember];rfl)) ?_)
 refine qa3 ?_ (by size_fits);simp only[raiseNew];refine f_ (wpAny_handled ?_)
 first|rw[show A.in1.handled=none from hh]|rw[hh]
 refine f_ (q_ (wpAny_throw ?_));exact hE _ _ (((qbY ..).extBut.push _).push _) #[_,I_ _ Y,Y]
theorem signs_get{i:Nat}(h:(dw x)[i]? =some v):∃k,x.cps[i]? =some k/\v= .str ⟨#[k]⟩:=by
 unfold dw at h;rw[j_]at h
 cases e:x.cps.toList[i]? with
 |none=>rw[e]at h;cases h
 |some k =>
  rw[e]at h;exact#[k,by simpa using e,(Z_ h).symm]
theorem FE{i:Nat}(h:(dw x)[i]? =none):x.cps[i]? =none:=by
 unfold dw at h;rw[j_]at h
 cases e:x.cps.toList[i]? with
 |none=>simpa using e
 |some k=>rw[e]at h;cases h
theorem Cp.item{Q:n_->v_->Prop}(hit:c.Ak s.heap it i)(hs:c.src s.heap xs)(hx:xs[i]? =some x)
  (hQ:∀u h' tk,RelV x u->c.Ak h' it (i+1)->qbj it s.heap h'->Q u { s with heap:=h',toks:=tk }) :
  F_ (model prog w) A (qae (.ref it)) Q E s:=by
 cases c with
 |lst a =>
  obtain⟨its,r,p⟩:=hs;obtain⟨u,hu,ru⟩:=r.get hx;exact wpAny_nextOf_list_item hit p (x:=u) (by simpa using hu) λh' q sb=>hQ u h' s.toks ru q sb
 |tup a =>
  obtain⟨its,r,p⟩:=hs;obtain⟨u,hu,ru⟩:=r.get hx;exact qM hit p (x:=u) (by simpa using hu) λh' q sb=>hQ u h' s.toks ru q sb
 |txt x' =>
  obtain⟨t,q⟩:=hit;rw[show xs=dw x' from hs]at hx;obtain⟨k,hk,rfl⟩:=signs_get hx;unfold strIterType at q;by_cases ha:(x'.cps.all (·<128))=true
  ·rw[if_pos ha]at q;exact wpAny_nextOf_ascii_item q hk λh' q' sb=>hQ _ h' _ #[_,Y] #[t,by unfold strIterType;rw[if_pos ha];exact q'] sb
  ·rw[if_neg ha]at q;exact wpAny_nextOf_wide_item q hk λh' q' sb=>hQ _ h' _ #[_,Y] #[t,by unfold strIterType;rw[if_neg ha];exact q'] sb
theorem Cp.fin(hh:A.handled=none)(hit:c.Ak s.heap it i)(hs:c.src s.heap xs)(hx:xs[i]? =none)
  (hE:∀h' e,Heap.ExtBut it s.heap h'->(∃o,h'.get? e=some o/\o.cls= .type "StopIteration")->E (.ref e) { s with heap:=h' }) :
  F_ (model prog w) A (qae (.ref it)) Q E s:=by
 cases c with
 |lst a =>
  obtain⟨its,r,p⟩:=hs;exact wpAny_nextOf_list_end hh hit p (by simpa using r.none_of hx) hE
 |tup a =>
  obtain⟨its,r,p⟩:=hs;exact se hh hit p (by simpa using r.none_of hx) hE
 |txt x' =>
  obtain⟨t,q⟩:=hit;rw[show xs=dw x' from hs]at hx;have hk:=FE hx;unfold strIterType at q;by_cases ha:(x'.cps.all (·<128))=true
  ·rw[if_pos ha]at q;exact wpAny_nextOf_ascii_end hh q hk hE
  ·rw[if_neg ha]at q;exact wpAny_nextOf_wide_end hh q hk hE
structure kK(z TI TO i1 i2:l_):Prop where
 TIz:TI≠z
 TOz:TO≠z
 i1z:i1≠z
 i2z:i2≠z
 TITO:TI≠TO
 TIi1:TI≠i1
 TIi2:TI≠i2
 TOi1:TO≠i1
 TOi2:TO≠i2
 i12:i1≠i2
structure yp(h:qaE)(z TI TO i1 i2:l_)(c d:Cp)(f0:n_)(i:Nat):Prop where
 zz:IsZip h z TI TO f0
 ti:qcm h TI (.ref i1) (.ref i2)
 to:bU λa b=>qcm h TO a b
 h1:c.Ak h i1 i
 h2:d.Ak h i2 i
 c1:c.off TO
 c2:d.off TO
theorem Aq{z TI TO i1 i2:l_}(D:kK z TI TO i1 i2)(Z:yp s.heap z TI TO i1 i2 c d .none i)
  (sc:c.src s.heap xs) (sd:d.src s.heap ys) (hx:xs[i]? =some x) (hy:ys[i]? =some y)
  (hQ:∀u v h' tk,RelV x u->RelV y v->yp h' z TI TO i1 i2 c d (rawInt s.heap.objs.size) (i+1)->qcm h' s.heap.objs.size u v →
   (∀b o,b≠z->b≠TO->b≠i1->b≠i2->s.heap.get? b=some o->h'.get? b=some o)->Q (some (.ref s.heap.objs.size)) { s with heap:=h',toks:=tk }) :
  F_ (model prog w) A (pyNext (.ref z)) Q E s:=by
 obtain⟨hz,hTI,⟨a,b,hTO⟩,h1,h2,c1,c2⟩:=id Z;have hT:s.TypeIs (.ref z) "zip" :=#[_,hz,rfl];obtain⟨QU,T1,_,hi1,Mf,_,Lp,GK⟩:=Cp.fz h1;obtain⟨SR,T2,_,hi2,Wn,_,UT,US⟩:=Cp.fz h2;have cz:c.off z:=Cp.fZ sc hz rfl (by decide) (by decide);have dz:d.off z:=Cp.fZ sd hz rfl (by decide) (by decide);have ci:c.off i1:=Cp.fZ sc hi1 Mf Lp GK;have di:d.off i1:=Cp.fZ sd hi1 Mf Lp GK;unfold pyNext;refine f_ (qbT (qaJ (name:=p_ "__next__") hT qbt
  (qa9 qbt hT qc6 ?_ (qcY _))))
 show F_ _ _ (field (.ref z) 2 >>= _) _ _ _;refine f_ (qao hz Y (x:=.bool false) Y ?_);show F_ _ _ (field (.ref z) 3 >>= _) _ _ _;refine f_ (qao hz Y (x:=.ref TI) Y ?_);refine f_ (qba hTI Y ?_);show F_ _ _ (qai (.ref z) >>= _) _ _ _;refine f_ ?_;unfold qai;refine f_ (qao hz Y (x:=.none) Y (q_ ?_));simp only[if_true];refine f_ (wpAny_rule ?_);refine f_ (qao hz Y (x:=.ref TO) Y ?_);refine f_ (qbh hz (by simp) λh₁ oB hs₁=>?_);replace oB:IsZip h₁ z TI TO .ellipsis:=oB;refine f_ ?_;simp only[List.zipIdx_cons,List.zipIdx_nil,qbJ,qcX];refine f_ (f_ (wpAny_onRaise ?_));show F_ _ _ (qae (.ref i1) >>= _) _ _ _;refine f_ (Cp.item (c:=c) (Cp.cU h1 λo e=>hs₁.extBut _ _ D.i1z e) (Cp.fN sc hs₁.extBut cz) hx λu h₂ tk₂ ru EN hs₂=>q_ ?_);have vH:qcm h₂ TO a b:=hs₂.extBut _ _ D.TOi1 (hs₁.extBut _ _ D.TOz hTO);refine f_ (qba vH Y ?_);refine f_ (wpAny_updateSeq_pair vH λh₃ zO jx=>?_);replace zO:qcm h₃ TO u b:=zO;refine f_ (wpAny_letGo (q_ ?_));refine f_ (f_ (wpAny_onRaise ?_));show F_ _ _ (qae (.ref i2) >>= _) _ _ _;refine f_ (Cp.item (c:=d) (Cp.cU h2 λo e=>jx.extBut _ _ D.TOi2.symm (hs₂.extBut _ _ D.i12.symm (hs₁.extBut _ _ D.i2z e))) (Cp.fN (Cp.fN (Cp.fN sd hs₁.extBut dz) hs₂.extBut di) jx.extBut c2) hy λv h₄ tk₄ rv IW lY=>q_ ?_);have IU:qcm h₄ TO u b:=lY.extBut _ _ D.TOi2 zO;refine f_ (qba IU Y ?_);refine f_ (wpAny_updateSeq_pair IU λh₅ zN tD=>?_);replace zN:qcm h₅ TO u v:=zN;refine f_ (wpAny_letGo (q_ (q_ ?_)));refine f_ (qba zN Y ?_);refine f_ (wpAny_newTuple ?_);have hsz:h₅.objs.size=s.heap.objs.size:=by rw[tD.1,lY.1,jx.1,hs₂.1,hs₁.1]
 have MI:IsZip h₅ z TI TO .ellipsis:=tD.extBut _ _ D.TOz.symm (lY.extBut _ _ D.i2z.symm (jx.extBut _ _ D.TOz.symm (hs₂.extBut _ _ D.i1z.symm oB)));have MT:∀e o,e≠z->e≠TO->e≠i1->e≠i2->s.heap.get? e=some o->h₅.get? e=some o:=λe o e1 e2 e3 e4 q =>
  tD.extBut _ _ e2 (lY.extBut _ _ e4 (jx.extBut _ _ e2 (hs₂.extBut _ _ e3 (hs₁.extBut _ _ e1 q))))
 have RU:c.Ak h₅ i1 (i+1):=Cp.cU EN λo e=>tD.extBut _ _ D.TOi1.symm (lY.extBut _ _ D.i12 (jx.extBut _ _ D.TOi1.symm e));have RT:d.Ak h₅ i2 (i+1):=Cp.cU IW λo e=>tD.extBut _ _ D.TOi2.symm e;have Rp:z<h₅.objs.size:=C_ MI;show F_ _ _ (Builtin.SmallTypes.ownedTupleHandOut (.ref z) (.ref h₅.objs.size) >>= _) _ _ _;refine f_ ?_;unfold Builtin.SmallTypes.ownedTupleHandOut;have Ro:IsZip (h₅.push { cls:=.type "tuple",data:=.seq (List.toArray [u,v]) }) z TI TO .ellipsis:=g_ _ MI;refine f_ (qbh Ro (by simp) λU9 II MO=>?_);replace II:IsZip U9 z TI TO (rawInt h₅.objs.size):=II;refine qbh II (by simp) λLD EJ MN=>?_;replace EJ:IsZip LD z TI TO (rawInt h₅.objs.size):=EJ;have up:∀e o,e≠z->h₅.get? e=some o->LD.get? e=some o:=λe o e1 q=>MN.extBut _ _ e1 (MO.extBut _ _ e1 (g_ _ q));have MW:qcm LD h₅.objs.size u v:=MN.extBut _ _ (qaU Rp) (MO.extBut _ _ (qaU Rp) (I_ _ rfl));rw[hsz]at EJ MW;refine q_ #[_,Y,q_ ?_];show Q (some (.ref h₅.objs.size)) _;rw[hsz];exact hQ u v LD _ ru rv #[EJ,up _ _ D.TIz (MT _ _ D.TIz D.TITO D.TIi1 D.TIi2 hTI),#[_,_,up _ _ D.TOz zN],Cp.cU RU λo e=>up _ o D.i1z e,Cp.cU RT λo e=>up _ o D.i2z e,c1,c2] MW
  λe o e1 e2 e3 e4 q=>up e o e1 (MT e o e1 e2 e3 e4 q)
theorem Ej{z TI TO i1 i2:l_}(hh:A.handled=none)(D:kK z TI TO i1 i2)(Z:yp s.heap z TI TO i1 i2 c d .none i)
  (sc:c.src s.heap xs) (sd:d.src s.heap ys) (hend:xs[i]? =none\/ys[i]? =none)
  (hQ:∀h' tk,(∀b o,b≠z->b≠TO->b≠i1->b≠i2->s.heap.get? b=some o->h'.get? b=some o)->Q none { s with heap:=h',toks:=tk }) :
  F_ (model prog w) A (pyNext (.ref z)) Q E s:=by
 obtain⟨hz,hTI,⟨a,b,hTO⟩,h1,h2,c1,c2⟩:=id Z;have hT:s.TypeIs (.ref z) "zip" :=#[_,hz,rfl];obtain⟨QU,T1,_,hi1,Mf,_,Lp,GK⟩:=Cp.fz h1;have cz:c.off z:=Cp.fZ sc hz rfl (by decide) (by decide);have dz:d.off z:=Cp.fZ sd hz rfl (by decide) (by decide);have ci:c.off i1:=Cp.fZ sc hi1 Mf Lp GK;have di:d.off i1:=Cp.fZ sd hi1 Mf Lp GK;have stop:∀(h':qaE) (e:l_) (tk:Nat),(∃o,h'.get? e=some o/\o.cls= .type "StopIteration")->(∀b o,b≠z->b≠TO->b≠i1->b≠i2->s.heap.get? b=some o->h'.get? b=some o) →
   F_ (model prog w) A (isInstance (.ref e) (.type "StopIteration") >>= λb=>if b=true then pure (none:Option n_)else throw (.ref e)) Q E { s with heap:=h',toks:=tk }:=by
  intro h' e tk he hk;obtain⟨o,ho,hc⟩:=he;refine f_ (wpAny_isInstance (T:= "StopIteration") (b:=true) #[o,ho,hc] isSubtype_stop ?_);exact q_ (hQ _ _ hk)
 unfold pyNext;refine f_ (qbT (qaJ (name:=p_ "__next__") hT qbt
  (qa9 qbt hT qc6 ?_ (qcY _))))
 show F_ _ _ (field (.ref z) 2 >>= _) _ _ _;refine f_ (qao hz Y (x:=.bool false) Y ?_);show F_ _ _ (field (.ref z) 3 >>= _) _ _ _;refine f_ (qao hz Y (x:=.ref TI) Y ?_);refine f_ (qba hTI Y ?_);show F_ _ _ (qai (.ref z) >>= _) _ _ _;refine f_ ?_;unfold qai;refine f_ (qao hz Y (x:=.none) Y (q_ ?_));simp only[if_true];refine f_ (wpAny_rule ?_);refine f_ (qao hz Y (x:=.ref TO) Y ?_);refine f_ (qbh hz (by simp) λh₁ oB hs₁=>?_);replace oB:IsZip h₁ z TI TO .ellipsis:=oB;refine f_ ?_;simp only[List.zipIdx_cons,List.zipIdx_nil,qbJ,qcX];refine f_ (f_ (wpAny_onRaise ?_));show F_ _ _ (qae (.ref i1) >>= _) _ _ _
 cases hx:xs[i]? with
 |none =>
  refine f_ (Cp.fin (c:=c) hh (Cp.cU h1 λo e=>hs₁.extBut _ _ D.i1z e) (Cp.fN sc hs₁.extBut cz) hx λh₂ e hs₂ he=>?_);obtain⟨oe,LK,hce⟩:=he;have MK:IsZip h₂ z TI TO .ellipsis:=hs₂ _ _ D.i1z.symm oB;have VQ:e≠z:=λx=>by subst x;rw[MK]at LK;cases LK;simp at hce
  refine qbh MK (by simp) λh₃ _ jx=>?_;exact stop h₃ e _ #[oe,jx.extBut _ _ VQ LK,hce] λk o c1 _ c3 _ x=>jx.extBut _ _ c1 (hs₂ _ _ c3 (hs₁.extBut _ _ c1 x))
 |some x =>
  have hy:ys[i]? =none:=by rcases hend with h|h;rw[hx]at h;cases h;exact h
  refine f_ (Cp.item (c:=c) (Cp.cU h1 λo e=>hs₁.extBut _ _ D.i1z e) (Cp.fN sc hs₁.extBut cz) hx λu h₂ tk₂ ru EN hs₂=>q_ ?_);have vH:qcm h₂ TO a b:=hs₂.extBut _ _ D.TOi1 (hs₁.extBut _ _ D.TOz hTO);refine f_ (qba vH Y ?_);refine f_ (wpAny_updateSeq_pair vH λh₃ zO jx=>?_);refine f_ (wpAny_letGo (q_ ?_));refine f_ (f_ (wpAny_onRaise ?_));show F_ _ _ (qae (.ref i2) >>= _) _ _ _;refine f_ (Cp.fin (c:=d) hh (Cp.cU h2 λo e=>jx.extBut _ _ D.TOi2.symm (hs₂.extBut _ _ D.i12.symm (hs₁.extBut _ _ D.i2z e))) (Cp.fN (Cp.fN (Cp.fN sd hs₁.extBut dz) hs₂.extBut di) jx.extBut c2) hy λh₄ e lY he=>?_);obtain⟨oe,LK,hce⟩:=he;have MJ:IsZip h₄ z TI TO .ellipsis:=lY _ _ D.i2z.symm (jx.extBut _ _ D.TOz.symm (hs₂.extBut _ _ D.i1z.symm oB));have VQ:e≠z:=λx=>by subst x;rw[MJ]at LK;cases LK;simp at hce
  refine qbh MJ (by simp) λh₅ _ tD=>?_;exact stop h₅ e _ #[oe,tD.extBut _ _ VQ LK,hce] λk o c1 c2 c3 c4 x=>tD.extBut _ _ c1 (lY _ _ c4 (jx.extBut _ _ c2 (hs₂.extBut _ _ c3 (hs₁.extBut _ _ c1 x))))
noncomputable def Cp.cX(t:Tok):Cp->qbW
 | .lst a=>{ cls:=.type "list_iterator",data:=.fields (List.toArray [.ref a,.int 0 0]) }
 | .tup a=>{ cls:=.type "tuple_iterator",data:=.fields (List.toArray [.ref a,.int 0 0]) }
 | .txt x=>{ cls:=.type (strIterType x),data:=.fields (List.toArray [.str x t,.int 0 0]) }
noncomputable def Cp.value(t:Tok):Cp->n_
 | .lst a=>.ref a
 | .tup a=>.ref a
 | .txt x=>.str x t
theorem Cp.value_of (r:RelV c.val u):∃t,u=c.value t:=by
 cases c with
 |lst a=>exact#[0,r]
 |tup a=>exact#[0,r]
 |txt x=>exact r
theorem Cp.iter(hs:c.src s.heap xs)(hQ:Q (.ref s.heap.objs.size) { s with heap:=s.heap.push (c.cX t) }):F_ (model prog w) A (pyIter (c.value t)) Q E s:=by
 cases c with
 |lst a=>obtain⟨its,_,p⟩:=hs;exact qcq p hQ
 |tup a=>obtain⟨its,_,p⟩:=hs;exact qcb p hQ
 |txt x=>exact qcZ hQ
theorem Cp.EI(e:h.get? it=some (c.cX t)):c.Ak h it 0:=by
 cases c with
 |lst a=>exact#[_,e,Y,Y]
 |tup a=>exact#[_,e,Y,Y]
 |txt x=>exact#[t,_,e,Y,Y]
noncomputable abbrev SE(h:qaE)(o1:qbW):qaE:=h.push o1
noncomputable abbrev SD(h:qaE)(o1 o2:qbW):qaE:=(SE h o1).push o2
noncomputable abbrev SA(h:qaE)(o1 o2:qbW):qaE:=(SD h o1 o2).push { cls:=.type "tuple",data:=.seq (List.toArray [.ref h.objs.size,.ref (SE h o1).objs.size]) }
noncomputable abbrev Sz(h:qaE)(o1 o2:qbW):qaE:=(SA h o1 o2).push { cls:=.type "tuple",data:=.seq (List.toArray [.none,.none]) }
noncomputable abbrev Pu(h:qaE)(o1 o2:qbW):qaE:=(Sz h o1 o2).push { cls:=.type "zip",data:=.fields (List.toArray [.none,.bool false,.bool false,.ref (SD h o1 o2).objs.size,.ref (SA h o1 o2).objs.size]) }
theorem F8(c d:Cp)(t1 t2:Tok)(xs ys:List V):
  Meets (Builtin.«zip.__new__» #[[.type "zip",c.value t1,d.value t2],[]]) (λ_ R s=>c.src s.heap xs/\d.src s.heap ys ∧
   R (.ok (.ret (.ref (Sz s.heap (c.cX t1) (d.cX t2)).objs.size))) { s with heap:=Pu s.heap (c.cX t1) (d.cX t2) }) :=
 .of_wp λprog w A R s h=>by
  obtain⟨hp,g,dd,tk,os⟩:=s;obtain⟨hl1,hl2,h⟩:=h;have hsub:=sub_zip;have ZW:c.src (Shared.heap #[hp,g,dd,tk,os]) xs:=hl1;have ZV:d.src (Shared.heap #[hp.push (c.cX t1),g,dd,tk,os]) ys:=Cp.uD hl2 λb o e=>g_ _ e
  wp_walk using Cp.iter (t:=t1) ZW,Cp.iter (t:=t2) ZV
  exact#[_,Y,h]
theorem ye(sc:c.src s.heap xs)(sd:d.src s.heap ys)
  (h:∀h',IsZip h' (s.heap.objs.size+4) (s.heap.objs.size+2) (s.heap.objs.size+3) .none->qcm h' (s.heap.objs.size+2) (.ref s.heap.objs.size) (.ref (s.heap.objs.size+1)) →
   qcm h' (s.heap.objs.size+3) .none .none->c.Ak h' s.heap.objs.size 0->d.Ak h' (s.heap.objs.size+1) 0->(∀b o,s.heap.get? b=some o->h'.get? b=some o)->Q (.ref (s.heap.objs.size+4)) { s with heap:=h' }) :
  F_ (model prog w) A (call (.type "zip") [c.value t1,d.value t2]) Q E s:=by
 refine callType_new F.called_zip (by decide) (F.typeCall_zip_2 _ _) (F.newCall_zip_2 _ _) (λobj=>F.args_object_init_3 obj _ _) F.entry_zip_new
  (F8 c d t1 t2 xs ys) #[sc,sd,?_]
 have z1:(SE s.heap (c.cX t1)).objs.size=s.heap.objs.size+1:=qaX ..;have z2:(SD s.heap (c.cX t1) (d.cX t2)).objs.size=s.heap.objs.size+2:=by rw[qaX,z1]
 have z3:(SA s.heap (c.cX t1) (d.cX t2)).objs.size=s.heap.objs.size+3:=by rw[qaX,z2]
 have z4:(Sz s.heap (c.cX t1) (d.cX t2)).objs.size=s.heap.objs.size+4:=by rw[qaX,z3]
 have Y3:(c.cX t1).isFreed=false:=by cases c<;>rfl
 have Y0:(d.cX t2).isFreed=false:=by cases d<;>rfl
 have g5:(Pu s.heap (c.cX t1) (d.cX t2)).get? (Sz s.heap (c.cX t1) (d.cX t2)).objs.size=some _:=I_ _ rfl;have g4:(Pu s.heap (c.cX t1) (d.cX t2)).get? (SA s.heap (c.cX t1) (d.cX t2)).objs.size=some _:=g_ _ (I_ _ rfl);have g3:(Pu s.heap (c.cX t1) (d.cX t2)).get? (SD s.heap (c.cX t1) (d.cX t2)).objs.size=some _:=g_ _ (g_ _ (I_ _ rfl));have g2:(Pu s.heap (c.cX t1) (d.cX t2)).get? (SE s.heap (c.cX t1)).objs.size=some _:=g_ _ (g_ _ (g_ _ (I_ _ Y0)));have g1:(Pu s.heap (c.cX t1) (d.cX t2)).get? s.heap.objs.size=some _:=g_ _ (g_ _ (g_ _ (g_ _ (I_ _ Y3))));show _/\_;rw[z2,z3,z4]at g5;rw[z1,z2]at g3;rw[z3]at g4;rw[z1]at g2;rw[z4];exact#[#[_,g5,Y],h _ g5 g3 g4 (Cp.EI g1) (Cp.EI g2) λb o x =>
  g_ _ (g_ _ (g_ _ (g_ _ (g_ _ x))))]
end
section
variable{X:Cx}{pins:List (l_×qbW)}{σ:St}{H:Hp}{s:v_}
theorem Inv.moved{h':qaE}{t':Nat}{ch:List l_}(I:Inv X pins σ H s)(k:∀b o,b∉ch->s.heap.get? b=some o->h'.get? b=some o)(hf:∀b∈ch,oQ X pins H b)(ht:s.toks<=t':=by first|exact i_ _|exact qaA _|assumption|omega):Inv X pins σ H { s with heap:=h',toks:=t' }:=by
 have MG:∀b u,H b=some u->b∉ch:=λb u e z=>by rw[(hf b z).1]at e;cases e
 refine I.step (g':=s.gens) (d':=s.drawn) (ch:=ch) (λb hb=>?_) (λb o _ _ hc e _=>k b o hc e) (λb o _ _ hc e _=>#[o.slots,k b o hc e]) (λ_ _ _ _ n=>n)
  (λb o hc e=>#[o,k b o hc e]) (λ_ _ e=>e) (λ_ _ _ e=>e) (λb ps e=>#[#[],by rw[e];simp]) (λm hm=>?_) (λb u e=>?_) I.bare (gc I.up ht)
 ·obtain⟨_,h1,_,h3,h4,h5⟩:=hf b hb;exact#[h3,h1,h4,h5]
 ·obtain⟨o,es,ep,ho,r⟩:=hm;exact#[o,es,ep,k _ o (λz=>(hf _ z).2.1 Y) ho,r]
 ·refine(I.hok b u e).stay (λc v hc q=>k c v ?_ q) (λ_ q=>q) λ_ _ q=>q;rcases hc with z|z
  ·rw[z];exact MG b u e
  ·exact MG c _ z
theorem Inv.Ek(I:Inv X pins σ H s)(hf:oQ X pins H a)(new:cE X.prog X.w (upd H a o) s.heap a o):Inv X pins σ (upd H a o) s:=by
 have hn:=hf.1;have e:s={ s with heap:=s.heap,gens:=s.gens,drawn:=s.drawn,toks:=s.toks }:=rfl;rw[e];refine I.step (ch:=[a]) (λb hb=>?_) (λ_ _ _ _ _ e _=>e) (λ_ o _ _ _ e _=>#[o.slots,e]) (λb _ hc _ n=>?_)
  (λ_ o _ e=>#[o,e]) (λb _ e=>?_) (λb _ _ e=>?_) (λb ps e=>#[#[],?_]) (λ_ hm=>hm) (λb u q=>?_) I.bare I.up
 ·have eb:b=a:=by simpa using hb
  subst eb;obtain⟨_,h1,_,h3,h4,h5⟩:=hf;exact#[h3,h1,h4,h5]
 ·rw[ay (λz=>hc (by simp[z]))];exact n
 ·rw[ay (bA e hn)];exact e
 ·rw[ay (bA e hn)];exact e
 ·rw[ay (bA e hn),e];simp
 ·by_cases hb:b=a
  ·subst hb;rw[ai]at q;cases q;exact new
  ·rw[ay hb]at q;exact(I.hok b u q).stay (λc v _ r=>r) (λc r=>by rw[ay (bA r hn)];exact r) λc xs r=>by rw[ay (bA r hn)];exact r
noncomputable def So(K:zaa)(c d:Cp):It :=
 #[λi H=>mZ λxs ys x y=>c.at K H xs/\d.at K H ys/\xs[i]? =some x/\ys[i]? =some y,
  λi H v H'=>iG λp x y=>v= .ref p/\H p=none/\H'=upd H p (.tup [x,y])/\∀xs ys,c.at K H xs->d.at K H ys->xs[i]? =some x/\ys[i]? =some y,
  λi H=>bU λxs ys=>c.at K H xs/\d.at K H ys/\(xs.length<=i\/ys.length<=i)]
theorem G9{K:zaa}{z TI TO i1 i2:l_}(D:kK z TI TO i1 i2):
  Turn P w K (.Tuple elts k pos) (So K c d) [z,TI,TO,i1,i2] z (λi h=>yp h z TI TO i1 i2 c d .none i) where
 mem:=by simp
 obj:=λi h Z b hb=>by
  obtain⟨hz,hTI,⟨a,b',hTO⟩,h1,h2,_,_⟩:=Z;obtain⟨QU,T1,v1,hi1,_,d1,_⟩:=Cp.fz h1;obtain⟨SR,T2,v2,hi2,_,d2,_⟩:=Cp.fz h2;simp only[B_,R_,or_false]at hb;rcases hb with rfl|rfl|rfl|rfl|rfl
  ·exact#[_,hz,λv q=>by cases q]
  ·exact#[_,hTI,λv q=>by cases q]
  ·exact#[_,hTO,λv q=>by cases q]
  ·exact#[_,hi1,λv q=>by rw[d1]at q;cases q]
  ·exact#[_,hi2,λv q=>by rw[d2]at q;cases q]
 keep:=λi h h' Z kp=>by
  obtain⟨hz,hTI,⟨a,b',hTO⟩,h1,h2,o1,o2⟩:=Z;exact#[kp z (by simp) _ hz,kp TI (by simp) _ hTI,#[a,b',kp TO (by simp) _ hTO],Cp.cU h1 λo e=>kp i1 (by simp) o e,Cp.cU h2 λo e=>kp i2 (by simp) o e,o1,o2]
 item:=by
  intro X hP hw hK hc i pins s σ H E I hf Z hg;subst hP hw hK;obtain⟨xs,ys,x,y,hx,hy,ex,ey⟩:=hg;have sc:=Cp.jY I hx;have sd:=Cp.jY I hy;refine TK.bP (i_ s.toks) (Aq D Z sc sd ex ey λu v h' tk ru rv Z' hp kk hup=>#[_,Y,?_]);refine wpAny_letOwnedTupleGo_zip Z'.zz λh'' Vc sb=>?_;have hnz:s.heap.objs.size≠z:=qaU (C_ Z.zz);have k2:∀b o,b∉[z,TI,TO,i1,i2]->s.heap.get? b=some o->h''.get? b=some o:=λb o hb e=>by
   simp only[B_,R_,or_false,not_or]at hb;exact sb.extBut _ _ hb.1 (kk b o hb.1 hb.2.2.1 hb.2.2.2.1 hb.2.2.2.2 e)
  have I1:Inv X pins σ H { s with heap:=h'',toks:=tk }:=I.moved k2 hf;have hn:H s.heap.objs.size=none:=I.fresh;have Wd:oQ X pins H s.heap.objs.size:=I.sG (i_ _) hn;have hp2:qcm h'' s.heap.objs.size u v:=sb.extBut _ _ hnz hp;have I2:Inv X pins σ (upd H s.heap.objs.size (.tup [x,y])) { s with heap:=h'',toks:=tk } :=
   I1.Ek Wd #[c_,[u,v],.cons ru (.cons rv .nil),#[_,hp2,rfl,_,rfl]]
  refine#[.ref s.heap.objs.size,_,I2,Y,#[_,x,y,Y,hn,Y,λxs' ys' hx' hy'=>?_],?_,λb hb=>?_]
  ·rw[Cp.D9 I hx' hx,Cp.D9 I hy' hy];exact#[ex,ey]
  ·obtain⟨_,hTI,⟨a,b',hTO⟩,h1,h2,o1,o2⟩:=Z';exact#[Vc,sb.extBut _ _ D.TIz hTI,#[a,b',sb.extBut _ _ D.TOz hTO],Cp.cU h1 λo e=>sb.extBut _ _ D.i1z e,Cp.cU h2 λo e=>sb.extBut _ _ D.i2z e,o1,o2]
  ·have lt:b<s.heap.objs.size:=by
    obtain⟨hz,hTI,⟨a,b',hTO⟩,h1,h2,_,_⟩:=Z;obtain⟨QU,T1,v1,hi1,_,d1,_⟩:=Cp.fz h1;obtain⟨SR,T2,v2,hi2,_,d2,_⟩:=Cp.fz h2;simp only[B_,R_,or_false]at hb;rcases hb with rfl|rfl|rfl|rfl|rfl
    ·exact C_ hz
    ·exact C_ hTI
    ·exact C_ hTO
    ·exact C_ hi1
    ·exact C_ hi2
   rw[ay (V_ lt)];exact(hf b hb).1
 done:=by
  intro X hP hw hK hc i pins s σ H E I hf Z hg;subst hP hw hK;obtain⟨xs,ys,hx,hy,he⟩:=hg;refine TK.bP (i_ s.toks) (Ej (I.ok.hd hc) D Z (Cp.jY I hx) (Cp.jY I hy) (he.imp (λq=>qar q) λq=>qar q) λh' tk kk hup=>#[Y,?_]);exact I.moved (λb o hb e=>by
   simp only[B_,R_,or_false,not_or]at hb;exact kk b o hb.1 hb.2.2.1 hb.2.2.2.1 hb.2.2.2.2 e) hf
 self:=λ_ _ _ _ _ Z h=>wpAny_pyIter_zip Z.zz h
theorem uf(n:Nat):kK (n+4) (n+2) (n+3) n (n+1):=by
 have ne:∀{a b:Nat},a<b->a≠b:=λh=>V_ h;exact#[ne (by omega),ne (by omega),ne (by omega),ne (by omega),ne (by omega),(ne (by omega)).symm,(ne (by omega)).symm,(ne (by omega)).symm,(ne (by omega)).symm,ne (by omega)]
def U6(K:zaa)(ta:TA):TI:=λσ H R=>ta σ H λvs H1=>mZ λc d xs ys=>vs=[c.val,d.val]/\c.at K H1 xs/\d.at K H1 ys/\R (So K c d) H1
theorem Dd{a b:Expr}{ta:TA}{p pos:qc5}{elts:List Expr}{k:Nat}{tpos:qc5}(hc:X.calm=true)(hg:Gl X "zip")(hm:X.mg "zip" =none)(ha:PA X [a,b] ta)
  (hs:qaa [a,b] X.env=[(false,eval a X.env),(false,eval b X.env)]:=by rfl) (hs2:qaa [b] X.env=[(false,eval b X.env)]:=by rfl) :
  PI X (.Tuple elts k tpos) (.Call (.Name "zip" p) [a,b] [] pos) (U6 X.K ta):=by
 intro pins s σ H R I h;refine Call_ (kr I hg hm boot_zip (qau (dm (ha pos pins s σ H _ I h) λus s1 ⟨vs,H1,I1,r1,q1⟩=>?_) (by rw[hs,hs2]) (by rw[hs2];rfl)));obtain⟨c,d,xs,ys,e,hx,hy,q⟩:=q1;subst e;obtain⟨u,v,rfl,ru,rv⟩:=vals2 r1;obtain⟨t1,rfl⟩:=Cp.value_of ru;obtain⟨t2,rfl⟩:=Cp.value_of rv;have sc:=Cp.jY I1 hx;have sd:=Cp.jY I1 hy;refine ye sc sd λh' hz hTI hTO h1 h2 kk=>wpAny_pyIter_zip hz ?_;have D:kK (s1.heap.objs.size+4) (s1.heap.objs.size+2) (s1.heap.objs.size+3) s1.heap.objs.size (s1.heap.objs.size+1) :=
  uf _
 refine#[_,[s1.heap.objs.size+4,s1.heap.objs.size+2,s1.heap.objs.size+3,s1.heap.objs.size,s1.heap.objs.size+1],_,_,H1,Y,I1.kept (t':=s1.toks) kk,G9 D,
  #[hz,hTI,#[_,_,hTO],h1,h2,Cp.qL sc (qan _ 3),Cp.qL sd (qan _ 3)],λb hb=>?_,q]
 have le:s1.heap.objs.size<=b:=by
  simp only[B_,R_,or_false]at hb;rcases hb with rfl|rfl|rfl|rfl|rfl
  ·exact qan _ _
  ·exact qan _ _
  ·exact qan _ _
  ·exact i_ _
  ·exact qan _ _
 exact I1.sG le (I1.hok.fresh le)
end
end
section
noncomputable def Sq(x:w_):It:=#[λi _=>i<x.cps.size,λi H v H'=>H'=H/\∃k,x.cps[i]? =some k/\v= .str ⟨#[k]⟩,λi _=>x.cps.size<=i]
section
variable{prog:qal}{w:qaG}{A:qaP}{E:n_->v_->Prop}{s:v_}
theorem nh(hit:s.heap.IsStrIter it (strIterType x) x t i)(hx:x.cps[i]? =some k)
  (hQ:∀h',h'.IsStrIter it (strIterType x) x t (i+1)->qbj it s.heap h'->Q (some (.str ⟨#[k]⟩ s.toks)) { s with heap:=h',toks:=s.toks+1 }):F_ (model prog w) A (pyNext (.ref it)) Q E s:=by
 unfold strIterType at hit hQ;by_cases ha:(x.cps.all (·<128))=true
 ·rw[if_pos ha]at hit hQ;exact wpAny_pyNext_ascii_item hit hx hQ
 ·rw[if_neg ha]at hit hQ;exact wpAny_pyNext_wide_item hit hx hQ
theorem nR(hh:A.handled=none)(hit:s.heap.IsStrIter it (strIterType x) x t i)(hx:x.cps[i]? =none)
  (hQ:∀h',Heap.ExtBut it s.heap h'->Q none { s with heap:=h' }):F_ (model prog w) A (pyNext (.ref it)) Q E s:=by
 unfold strIterType at hit;by_cases ha:(x.cps.all (·<128))=true
 ·rw[if_pos ha]at hit;exact wpAny_pyNext_ascii_end hh hit hx hQ
 ·rw[if_neg ha]at hit;exact wpAny_pyNext_wide_end hh hit hx hQ
theorem nT(hit:s.heap.IsStrIter it (strIterType x) x t i)(h:Q (.ref it) s):F_ (model prog w) A (pyIter (.ref it)) Q E s:=by
 unfold strIterType at hit;by_cases ha:(x.cps.all (·<128))=true
 ·rw[if_pos ha]at hit;exact wpAny_pyIter_striter_ascii hit h
 ·rw[if_neg ha]at hit;exact wpAny_pyIter_striter_wide hit h
end
theorem rD(x:w_):["enumerate","zip","dict_itemiterator","dict_reverseitemiterator","odict_iterator","itertools.zip_longest","itertools.pairwise"].contains (strIterType x)=false:=by
 unfold strIterType;split<;>decide
theorem AB{K:zaa}(x:w_)(t:Tok)(it:l_):Turn P w K tg (Sq x) [it] it (λi h=>h.IsStrIter it (strIterType x) x t i) where
 mem:=by simp
 obj:=λi h st b hb=>by
  have e:b=it:=by simpa using hb
  subst e;obtain⟨o,e,c,d⟩:=st;exact#[o,e,λv z=>by rw[d]at z;cases z]
 keep:=λi h h' st k=>by
  obtain⟨o,e,r⟩:=st;exact#[o,k it (by simp) o e,r]
 item:=by
  intro X hP hw hK hc i pins s σ H E I hf st hg;subst hP hw hK;have hi:i<x.cps.size:=hg;obtain⟨f0,f1,f2,f3,f4,f5⟩:=hf it (by simp);refine nh st (k:=x.cps[i]) (by simp[hi]) λh' st' sb=>?_;have I1:Inv X pins σ H { s with heap:=h',toks:=s.toks+1 }:=I.turned (λb o hb e=>(sb.2 b hb).trans e) f0 f1 f3 f4 f5;obtain⟨o,e,c,d⟩:=id st';exact#[_,Y,xX (s:={ s with heap:=h',toks:=s.toks+1 }) e c d (rD x) #[.str ⟨#[x.cps[i]]⟩,H,I1,#[_,Y],#[Y,_,by simp[hi],Y],st',λb hb=>(hf b hb).1]]
 done:=by
  intro X hP hw hK hc i pins s σ H E I hf st hg;subst hP hw hK;have hi:x.cps.size<=i:=hg;obtain⟨f0,f1,f2,f3,f4,f5⟩:=hf it (by simp);exact nR (I.ok.hd hc) st (by simp[hi]) λh' eb=>#[Y,I.turned (t':=s.toks) (λb o hb e=>eb b o hb e) f0 f1 f3 f4 f5]
 self:=λ_ _ _ _ _ st h=>nT st h
section
variable{X:Cx}{tg:Expr}
def U7(tl:TE):TI:=λσ H R=>tl σ H λv H1=>∃x,v= .str x/\R (Sq x) H1
theorem j9(hl:PE X l tl):PI X tg l (U7 tl):=by
 intro pins s σ H R I h;refine dm (hl pins s σ H _ I h) λv s1 ⟨y,H1,I1,r1,q1⟩=>?_;obtain⟨x,e,q⟩:=q1;subst e;obtain⟨t,rfl⟩:=r1;refine qcZ ?_;refine#[s1.heap.objs.size,[s1.heap.objs.size],_,_,H1,Y,I1.kept (t':=s1.toks) λb o e=>g_ _ e,AB x t _,#[_,I_ _ Y,Y,Y],λb hb=>?_,q];have e:b=s1.heap.objs.size:=by simpa using hb
 subst e;exact I1.sG (i_ _) (I1.hok.fresh (i_ _))
theorem zP{x:w_}{g:TG}{tb:TS}{D:Ends}(Pv:Nat->St->Hp->Prop)(h0:Pv 0 σ H)
  (hs:∀i k σ H,x.cps[i]? =some k->Pv i σ H->g (.str ⟨#[k]⟩) σ H λσ2 H2=>tb { D with nx:=Pv (i+1),ct:=Pv (i+1),bk:=D.nx } σ2 H2) (hd:∀ σ H,Pv x.cps.size σ H->D.nx σ H) :
  ∃W:Nat->Nat->St->Hp->Prop,(∃m,W 0 m σ H)/\∀i m σ H,W i m σ H →
   ((Sq x).stop i H/\D.nx σ H)\/((Sq x).go i H/\∃N:St->Hp->Prop,(∀ σ' H',N σ' H'->∃m',m'<m/\W (i+1) m' σ' H')/\∀y H',(Sq x).Ai i H y H'->g y σ H' λσ2 H2=>tb { D with nx:=N,ct:=N,bk:=D.nx } σ2 H2):=by
 refine#[λi m σ H=>m=x.cps.size-i/\i<=x.cps.size/\Pv i σ H,#[x.cps.size,by simp,O_ _,h0],?_];rintro i m σ H ⟨rfl,hi,p⟩;by_cases hlt:i<x.cps.size
 ·refine .inr #[hlt,Pv (i+1),λσ' H' p'=>#[x.cps.size-(i+1),by omega,Y,hlt,p'],λy H' q=>?_];obtain⟨e,k,ek,rfl⟩:=q;subst e;exact hs i k σ _ ek p
 ·have e:i=x.cps.size:=by omega
  subst e;exact .inl #[i_ _,hd σ H p]
theorem ER{K:zaa}{c d:Cp}{xs ys:List V}{g:TG}{tb:TS}{D:Ends}{σ:St}{H:Hp}(Pv:Nat->St->Hp->Prop)(h0:Pv 0 σ H)(hl:∀i σ H,i<=min xs.length ys.length->Pv i σ H->c.at K H xs/\d.at K H ys)
  (hs:∀i x y p σ H,xs[i]? =some x->ys[i]? =some y->H p=none->Pv i σ H->g (.ref p) σ (upd H p (.tup [x,y])) λσ2 H2=>tb { D with nx:=Pv (i+1),ct:=Pv (i+1),bk:=D.nx } σ2 H2)
  (hd:∀ σ H,Pv (min xs.length ys.length) σ H->D.nx σ H) :
  ∃W:Nat->Nat->St->Hp->Prop,(∃m,W 0 m σ H)/\∀i m σ H,W i m σ H →
   ((So K c d).stop i H/\D.nx σ H)\/((So K c d).go i H/\∃N:St->Hp->Prop,(∀ σ' H',N σ' H'->∃m',m'<m/\W (i+1) m' σ' H')/\∀y H',(So K c d).Ai i H y H'->g y σ H' λσ2 H2=>tb { D with nx:=N,ct:=N,bk:=D.nx } σ2 H2):=by
 refine#[λi m σ H=>m=min xs.length ys.length-i/\i<=min xs.length ys.length/\Pv i σ H,#[min xs.length ys.length,by simp,O_ _,h0],?_];rintro i m σ H ⟨rfl,hi,p⟩;obtain⟨zx,zy⟩:=hl i σ H hi p;by_cases hlt:i<min xs.length ys.length
 ·have h1:i<xs.length:=by omega
  have h2:i<ys.length:=by omega
  refine .inr #[#[xs,ys,xs[i],ys[i],zx,zy,by simp[h1],by simp[h2]],Pv (i+1),λσ' H' p'=>#[min xs.length ys.length-(i+1),by omega,Y,hlt,p'],λv H' q=>?_];obtain⟨a,x,y,rfl,ha,rfl,e⟩:=q;obtain⟨e1,e2⟩:=e xs ys zx zy;exact hs i x y a σ H e1 e2 ha p
 ·have e:i=min xs.length ys.length:=by omega
  subst e;refine .inl #[#[xs,ys,zx,zy,?_],hd σ H p];rcases Nat.le_total xs.length ys.length with q|q
  ·exact .inl (by rw[qbK q];exact i_ _)
  ·exact .inr (by rw[Nat.min_eq_right q];exact i_ _)
end
end
section
noncomputable def Cp.adr:Cp->List l_
 | .lst a=>[a]
 | .tup a=>[a]
 | .txt _=>[]
theorem Cp.Ll{c:Cp}(h:c.off b):b∉c.adr:=by
 cases c with
 |lst a =>
  intro z;have q:b=a:=by simpa[Cp.adr]using z
  exact h q.symm
 |tup a =>
  intro z;have q:b=a:=by simpa[Cp.adr]using z
  exact h q.symm
 |txt x=>intro z;cases z
theorem Cp.Kn{c:Cp}(hs:c.src h xs)(k:∀b∈c.adr,∀o,h.get? b=some o->h'.get? b=some o):c.src h' xs:=by
 cases c with
 |lst a=>obtain⟨its,r,o,ho,q⟩:=hs;exact#[its,r,o,k a (by simp[Cp.adr]) _ ho,q]
 |tup a=>obtain⟨its,r,o,ho,q⟩:=hs;exact#[its,r,o,k a (by simp[Cp.adr]) _ ho,q]
 |txt x=>exact hs
theorem Cp.draws{c:Cp}(hh:A.handled=none)(it:l_):
  Draws prog w A it (it::c.adr) xs.length (λi v=>∃x,xs[i]? =some x/\RelV x v) (λi h=>c.Ak h it i/\c.src h xs) where
 live:=λi h st=>by
  obtain⟨o,_,_,ho,_⟩:=Cp.fz st.1;exact#[o,ho]
 frame:=λi h h' st k=>#[Cp.cU st.1 λo e=>k it (by simp) o e,Cp.Kn st.2 λb hb o e=>k b (s_ _ hb) o e]
 item:=λi s Q E hi st hQ=>by
  obtain⟨o,T,_,ho,hc,_,n1,n2⟩:=Cp.fz st.1;have off:c.off it:=Cp.fZ st.2 ho hc n1 n2;refine Cp.item st.1 st.2 (x:=xs[i]) (by simp[hi]) λu h' tk ru q sb=>?_;exact hQ u h' tk #[_,by simp[hi],ru] #[q,Cp.fN st.2 sb.extBut off] sb
 done:=λs Q E st hE=>Cp.fin hh st.1 st.2 (by simp) hE
noncomputable def Su(K:zaa)(c:Cp):It :=
 #[λi H=>bU λxs x=>c.at K H xs/\xs[i]? =some x,
  λi H v H'=>bU λp x=>v= .ref p/\H p=none/\H'=upd H p (.tup [.int (i:Int),x])/\∀xs,c.at K H xs->xs[i]? =some x,
  λi H=>∃xs,c.at K H xs/\xs.length<=i]
theorem Fo{K:zaa}(hei:e≠it):
  Turn P w K (.Tuple elts k pos) (Su K c) [e,it] e (λi h=>(∃old,IsEnum h e it i old)/\c.Ak h it i) where
 mem:=by simp
 obj:=λi h Z b hb=>by
  obtain⟨⟨old,he⟩,hi⟩:=Z;obtain⟨o,_,vs,ho,_,d,_⟩:=Cp.fz hi;simp only[B_,R_,or_false]at hb;rcases hb with rfl|rfl
  ·exact#[_,he,λv q=>by cases q]
  ·exact#[_,ho,λv q=>by rw[d]at q;cases q]
 keep:=λi h h' Z kp=>by
  obtain⟨⟨old,he⟩,hi⟩:=Z;exact#[#[old,kp e (by simp) _ he],Cp.cU hi λo q=>kp it (by simp) o q]
 item:=by
  intro X hP hw hK hc i pins s σ H E I hf Z hg;subst hP hw hK;obtain⟨xs,x,hx,ex⟩:=hg;obtain⟨⟨old,he⟩,hi⟩:=id Z;have sc:=Cp.jY I hx;have UM:c.off e:=Cp.fZ sc he rfl (by decide) (by decide);have hlt:i<xs.length:=(m_.mp ex).1;have hh:X.A.in1.handled=none:=I.ok.hd hc;refine TK.bP (i_ s.toks) (wpAny_pyNext_enum_itemD (Cp.draws (c:=c) (xs:=xs) hh it) he #[hi,sc] hlt hei (λz=>?_) λu h' tk hP ho st' hT hsz kk hup=>#[_,Y,?_])
  ·rcases B_.mp z with q|q
   ·exact hei q
   ·exact Cp.Ll UM q
  ·obtain⟨x',ex',ru⟩:=hP;rw[ex]at ex';cases ex';refine wpAny_letOwnedTupleGo_enum ho λh'' VR sb=>?_;have hne:s.heap.objs.size≠e:=qaU (C_ he);have k2:∀b o,b∉[e,it]->s.heap.get? b=some o->h''.get? b=some o:=λb o hb q=>by
    simp only[B_,R_,or_false,not_or]at hb;exact sb.extBut _ _ hb.1 (kk b o hb.1 hb.2 q)
   have I1:Inv X pins σ H { s with heap:=h'',toks:=tk+1 }:=I.moved k2 hf (by have z:s.toks<=tk+1:=hup;exact z);have hn:H s.heap.objs.size=none:=I.fresh;have Wd:oQ X pins H s.heap.objs.size:=I.sG (i_ _) hn;have hp2:h''.get? s.heap.objs.size=some { cls:=.type "tuple",data:=.seq (List.toArray [.int i tk,u]) }:=sb.extBut _ _ hne hT;have I2:Inv X pins σ (upd H s.heap.objs.size (.tup [.int (i:Int),x])) { s with heap:=h'',toks:=tk+1 } :=
    I1.Ek Wd #[c_,[.int i tk,u],.cons #[_,rfl] (.cons ru .nil),#[_,hp2,rfl,_,rfl]]
   refine#[.ref s.heap.objs.size,_,I2,Y,#[_,x,Y,hn,Y,λxs' hx'=>?_],#[#[_,VR],Cp.cU st'.1 λo q=>sb.extBut _ _ (Ne.symm hei) q],λb hb=>?_]
   ·rw[Cp.D9 I hx' hx];exact ex
   ·obtain⟨o,_,vs,Zt,_⟩:=Cp.fz hi;have lt:b<s.heap.objs.size:=by
     have hb':=hb;simp only[B_,R_,or_false]at hb';rcases hb' with rfl|rfl
     ·exact C_ he
     ·exact C_ Zt
    rw[ay (V_ lt)];exact(hf b hb).1
 done:=by
  intro X hP hw hK hc i pins s σ H E I hf Z hg;subst hP hw hK;obtain⟨xs,hx,hle⟩:=hg;obtain⟨⟨old,he⟩,hi⟩:=Z;have hh:X.A.in1.handled=none:=I.ok.hd hc;have hT:s.TypeIs (.ref e) "enumerate" :=#[_,he,rfl];unfold pyNext;refine f_ (qbT (qaJ (name:=p_ "__next__") hT F.slot_enumerate_next
   (qa9 F.slot_enumerate_next hT F.entry_enumerate_next ?_ (F.args_enumerate_next_1 _))))
  show F_ _ _ (field (.ref e) 2 >>= _) _ _ _;refine f_ (qao he Y (x:=.ref it) Y ?_);refine f_ (Cp.fin hh hi (Cp.jY I hx) (qar hle) λh' y eb hy=>?_);obtain⟨o,ho,hcl⟩:=hy;refine f_ (wpAny_isInstance (T:= "StopIteration") (b:=true) #[o,ho,hcl] isSubtype_stop ?_);refine q_ #[Y,I.moved (t':=s.toks) (ch:=[e,it]) (λb o hb q=>eb b o ?_ q) hf];simp only[B_,R_,or_false,not_or]at hb;exact hb.2
 self:=λ_ _ _ _ _ Z h=>by
  obtain⟨⟨old,he⟩,_⟩:=Z;exact wpAny_pyIter_enum he h
section
variable{prog:qal}{w:qaG}{A:qaP}{E:n_->v_->Prop}{s:v_}
set_option maxHeartbeats 1000000 in
theorem vp(l:l_)(items:Array n_)(n:Nat)(dct:Option l_)(sl:Array (Option n_)):
  Meets (Builtin.«enumerate.__new__» #[[.type "enumerate",.ref l],[]]) (λ_ R s=>s.heap.get? l=some { cls:=.type "tuple",dict:=dct,data:=.seq items n,slots:=sl } ∧
   R (.ok (.ret (.ref (s.heap.push { cls:=.type "tuple_iterator",data:=.fields (List.toArray [.ref l,.int 0 0]) }).objs.size)))
    { s with heap:=(s.heap.push { cls:=.type "tuple_iterator",data:=.fields (List.toArray [.ref l,.int 0 0]) }).push { cls:=.type "enumerate",data:=.fields (List.toArray [.none,.bool false,.ref s.heap.objs.size,rawInt 0,.none,.none]) } }) :=
 .of_wp λprog w A R s h=>by
  obtain⟨hp,g,d,tk,os⟩:=s;obtain⟨hl,h⟩:=h;have hsub:=sub_enumerate;have hL:Heap.IsTuple (Shared.heap #[hp,g,d,tk,os]) l items:=#[_,hl,rfl,n,rfl]
  wp_walk using qbU hl
  refine wpAny_stack_any λst=>q_ ?_;split
  ·rename_i c _ _ _ _ _
   cases (c==Value.type "enumerate")
   ·wp_walk using qbU hl,qcb hL
    exact#[_,Y,h]
   ·wp_walk using qbU hl,qcb hL
    exact#[_,Y,h]
  ·wp_walk using qbU hl,qcb hL
   exact#[_,Y,h]
theorem wY(hL:s.heap.IsTuple l items)
  (h:∀h',IsEnum h' (s.heap.objs.size+1) s.heap.objs.size 0 .none->h'.IsTupleIter s.heap.objs.size l 0 →
   (∀b o,s.heap.get? b=some o->h'.get? b=some o)->Q (.ref (s.heap.objs.size+1)) { s with heap:=h' }) :
  F_ (model prog w) A (call (.type "enumerate") [.ref l]) Q E s:=by
 obtain⟨⟨c,dct,dt,sl⟩,hl,hc,n,hd⟩:=hL;replace hc:c= .type "tuple" :=hc;replace hd:dt= .seq items n:=hd;subst hc hd;refine callType_new F.called_enumerate (by decide) (F.typeCall_enumerate_1 _) (F.newCall_enumerate_1 _) (λobj=>F.args_object_init_2 obj _) F.entry_enumerate_new
  (vp l items n dct sl) #[hl,?_]
 have hz:(s.heap.push { cls:=.type "tuple_iterator",data:=.fields (List.toArray [.ref l,.int 0 0]) }).objs.size=s.heap.objs.size+1:=qaX ..;show _/\_;rw[hz];have he:IsEnum ((s.heap.push { cls:=.type "tuple_iterator",data:=.fields (List.toArray [.ref l,.int 0 0]) }).push
   { cls:=.type "enumerate",data:=.fields (List.toArray [.none,.bool false,.ref s.heap.objs.size,rawInt 0,.none,.none]) }) (s.heap.objs.size+1) s.heap.objs.size 0 .none:=by
  have:=I_ (s.heap.push { cls:=.type "tuple_iterator",data:=.fields (List.toArray [.ref l,.int 0 0]) })
   (o:={ cls:=.type "enumerate",data:=.fields (List.toArray [.none,.bool false,.ref s.heap.objs.size,rawInt 0,.none,.none]) }) rfl
  rw[hz]at this;exact this
 exact#[#[_,he,Y],h _ he #[_,g_ _ (I_ _ Y),Y,Y] λb o x=>g_ _ (g_ _ x)]
theorem D6{c:Cp}(sc:c.src s.heap xs)
  (h:∀h',IsEnum h' (s.heap.objs.size+1) s.heap.objs.size 0 .none->c.Ak h' s.heap.objs.size 0->(∀b o,s.heap.get? b=some o->h'.get? b=some o)->Q (.ref (s.heap.objs.size+1)) { s with heap:=h' }) :
  F_ (model prog w) A (call (.type "enumerate") [c.value t]) Q E s:=by
 cases c with
 |lst a=>obtain⟨its,_,p⟩:=sc;exact call_enumerate_list p λh' a b _ k=>h h' a b k
 |tup a=>obtain⟨its,_,p⟩:=sc;exact wY p λh' a b k=>h h' a b k
 |txt x=>exact call_enumerate_str λh' a b _ k=>h h' a #[t,b] k
end
section
variable{X:Cx}
def Rn(K:zaa)(ta:TA):TI:=λσ H R=>ta σ H λvs H1=>bU λc xs=>vs=[c.val]/\c.at K H1 xs/\R (Su K c) H1
theorem oW{a:Expr}{ta:TA}{p pos:qc5}{elts:List Expr}{k:Nat}{tpos:qc5}(hg:Gl X "enumerate")(hm:X.mg "enumerate" =none)(ha:PA X [a] ta)
  (hs:qaa [a] X.env=[(false,eval a X.env)]:=by rfl):PI X (.Tuple elts k tpos) (.Call (.Name "enumerate" p) [a] [] pos) (Rn X.K ta):=by
 intro pins s σ H R I h;refine Call_ (kr I hg hm boot_enumerate (qau (dm (ha pos pins s σ H _ I h) λus s1 ⟨vs,H1,I1,r1,q1⟩=>?_) hs Y));obtain⟨c,xs,e,hx,q⟩:=q1;subst e;obtain⟨u,rfl,ru⟩:=vals1 r1;obtain⟨t,rfl⟩:=Cp.value_of ru;have sc:=Cp.jY I1 hx;refine D6 sc λh' he hi kk=>wpAny_pyIter_enum he ?_;have hei:s1.heap.objs.size+1≠s1.heap.objs.size:=qaU (qa8 _);refine#[_,[s1.heap.objs.size+1,s1.heap.objs.size],_,_,H1,Y,I1.kept (t':=s1.toks) kk,Fo hei,#[#[_,he],hi],λb hb=>?_,q];have le:s1.heap.objs.size<=b:=by
  simp only[B_,R_,or_false]at hb;rcases hb with rfl|rfl
  ·exact qan _ _
  ·exact i_ _
 exact I1.sG le (I1.hok.fresh le)
theorem lZ{K:zaa}{c:Cp}{xs:List V}{g:TG}{tb:TS}{D:Ends}{σ:St}{H:Hp}(Pv:Nat->St->Hp->Prop)(h0:Pv 0 σ H)(hl:∀i σ H,i<=xs.length->Pv i σ H->c.at K H xs)
  (hs:∀(i:Nat) x p σ H,xs[i]? =some x->H p=none->Pv i σ H->g (.ref p) σ (upd H p (.tup [.int (i:Int),x])) λσ2 H2=>tb { D with nx:=Pv (i+1),ct:=Pv (i+1),bk:=D.nx } σ2 H2)
  (hd:∀ σ H,Pv xs.length σ H->D.nx σ H) :
  ∃W:Nat->Nat->St->Hp->Prop,(∃m,W 0 m σ H)/\∀i m σ H,W i m σ H →
   ((Su K c).stop i H/\D.nx σ H)\/((Su K c).go i H/\∃N:St->Hp->Prop,(∀ σ' H',N σ' H'->∃m',m'<m/\W (i+1) m' σ' H')/\∀y H',(Su K c).Ai i H y H'->g y σ H' λσ2 H2=>tb { D with nx:=N,ct:=N,bk:=D.nx } σ2 H2):=by
 refine#[λi m σ H=>m=xs.length-i/\i<=xs.length/\Pv i σ H,#[xs.length,by simp,O_ _,h0],?_];rintro i m σ H ⟨rfl,hi,p⟩;have zx:=hl i σ H hi p;by_cases hlt:i<xs.length
 ·refine .inr #[#[xs,xs[i],zx,by simp[hlt]],Pv (i+1),λσ' H' p'=>#[xs.length-(i+1),by omega,Y,hlt,p'],λv H' q=>?_];obtain⟨a,x,rfl,ha,rfl,e⟩:=q;exact hs i x a σ H (e xs zx) ha p
 ·have e:i=xs.length:=by omega
  subst e;exact .inl #[#[xs,zx,i_ _],hd σ H p]
end
end
section
set_option maxRecDepth 100000
noncomputable def met(val:Nat->w_)(i:Nat):List w_:=((H_ i).map val).foldl qcQ []
theorem vn(val:Nat->w_):met val 0=[]:=rfl
theorem oh(val:Nat->w_)(i:Nat):met val (i+1)=qcQ (met val i) (val i):=by
 unfold met;rw[qbe,E_,qc0];rfl
theorem pO(val:Nat->w_):∀i,(met val i).length<=i
 | 0=>by rw[vn];exact i_ _
 |i+1=>by
  rw[oh];have ih:=pO val i;unfold qcQ;split
  ·omega
  ·rw[t_,qbf];omega
theorem qN(σ:List w_)(v k:w_):(qcQ σ v).any (·==k)=(σ.any (·==k)||decide (k=v)):=by
 unfold qcQ;by_cases h:σ.any (·==v)=true
 ·rw[if_pos h];by_cases e:k=v
  ·subst e;rw[h];simp
  ·simp[e]
 ·rw[if_neg h,List.any_append];by_cases e:k=v
  ·subst e;simp
  ·have hb:(v==k)=false:=by simpa[beq_iff_eq]using(λh':v=k=>e h'.symm)
   simp[hb,e]
theorem nk(σ:List w_)(v:w_):(qcQ σ v).length=if σ.any (·==v)then σ.length else σ.length+1:=by
 unfold qcQ;split<;>simp
section
variable{prog:qal}{w:qaG}{A:qaP}{R:Result->v_->Prop}{I:l_}{fp wr:List l_}{G:Array GenState->Array GenState->Prop}{n:Nat}{P:Nat->n_->Prop}{St:Nat->v_->Prop}
theorem yH(W:WalksS prog w A.in1 I fp wr G n P St)(S:l_)(hSf:S∉fp)(val:Nat->w_)(hval:∀i v,P i v->∃t,v= .str (val i) t)(hb:n+1<scanBound):
  ∀(k i:Nat) (s:v_),n-i=k->i<=n->St i s->s.heap.SetOf (strKind prog w) S (λk'=>(met val i).any (·==k')) (met val i).length →
   (∀s',Moved (S::wr) G s s'->s'.heap.SetOf (strKind prog w) S (λk'=>(met val n).any (·==k')) (met val n).length->R (.ok (.ret .none)) s') →
   codeAny (model prog w) A (.builtin "set.update.loop" #[[.ref S,.ref I],[]]) R s:=by
 have XS:S∉wr:=λh=>hSf (W.sub _ h);have hsub:∀b∈wr,b∈S::wr:=λb hb=>s_ _ hb;intro k
 induction k with
 |zero =>
  intro i s hk hi hst hS hR;have hin:i=n:=by omega
  subst hin;refine qbL zbs ?_;rw[qbn qbw _];show F_ _ A.in1 (pyNext (.ref I) >>= _) _ _ s;refine f_ (W.done s _ _ hst λs' hm=>?_);show F_ _ A.in1 (ret Value.none) _ _ s';exact q_ (hR s' (hm.mono hsub) (by
   obtain⟨o,es,ep,t,ho,rest⟩:=hS;exact#[o,es,ep,t,hm.heap S _ XS ho,rest]))
 |succ k ih =>
  intro i s hk hi hst hS hR;have hlt:i<n:=by omega
  refine qbL zbs ?_;rw[qbn qbw _];show F_ _ A.in1 (pyNext (.ref I) >>= _) _ _ s;refine f_ (W.item i s _ _ hlt hst λv s' hP Vj hm=>?_);obtain⟨t,rfl⟩:=hval i v hP;have hS':s'.heap.SetOf (strKind prog w) S (λk'=>(met val i).any (·==k')) (met val i).length:=by
   obtain⟨o,es,ep,tb,ho,rest⟩:=hS;exact#[o,es,ep,tb,hm.heap S _ XS ho,rest]
  show F_ _ A.in1 (holding [Value.str (val i) t] (setAdd S (.str (val i) t)) >>= _) _ _ s';refine f_ (qaw ?_);unfold setAdd;refine qaw ?_;refine f_ ((strKind prog w).pyHash (k:=val i) (strKind_is _ _ _ _) ?_);have hroom:(met val i).length+1<scanBound:=by have:=pO val i;omega
  refine wpAny_setAddHashed_of (knd:=strKind prog w) (s:={ s' with toks:=s'.toks+1 }) (strKind_is _ _ _ _) Y hS' hroom λh' Xx vW=>?_;have ZP:h'.SetOf (strKind prog w) S (λk'=>(met val (i+1)).any (·==k')) (met val (i+1)).length :=
   SetOf_congr vW (λk'=>by rw[oh,qN]) (by rw[oh,nk])
  refine q_ #[plainId_quiet qbw _,ih (i+1) _ (by omega) hlt (W.frame _ s' _ _ Vj (qaA _) λb hb o e=>?_) ZP λs'' VB V0=>?_]
  ·rw[Xx.2 b (λh:b=S=>hSf (by rw[←h];exact hb))];exact e
  ·refine hR s'' (Moved.trans W.gtrans ((hm.mono hsub).then_heap (qaA _) λb o hb e=>?_) VB) V0;rw[Xx.2 b (λh:b=S=>hb (by rw[h];exact r_))];exact e
end
noncomputable def jy(x:w_)(i:Nat):w_:=⟨#[x.cps.getD i 0]⟩
theorem Fl(hh:A.handled=none)(I:l_)(x:w_)(t:Tok):
  Walks prog w A I [I] [I] x.cps.size (λi v=>∃u,v= .str (jy x i) u) (λi h=>h.IsStrIter I (strIterType x) x t i) where
 sub:=λ_ hb=>hb
 frame:=λ_ _ _ st hk=>let ⟨o,ho,r⟩:=st;#[o,hk I (by simp) o ho,r]
 item:=λi s Q E hi st hQ=>by
  refine nh st (k:=x.cps.getD i 0) (by simp[hi]) λh' VL hs'=>?_;exact hQ _ h' (s.toks+1) #[_,Y] VL λb o hb e=>hs'.extBut b o (λh=>hb (by simp[h])) e
 done:=λs Q E st hQ=>nR hh st (by simp) λh' he'=>hQ h' s.toks λb o hb e=>he' b o (λh=>hb (by simp[h])) e
 self:=λ_ _ _ _ st hQ=>nT st hQ
theorem yw:isSubtype (.type "str") (.type "set")=pure false:=by rw[isSubtype_type];kernel_rfl
theorem pX:isSubtype (.type "str") (.type "frozenset")=pure false:=by rw[isSubtype_type];kernel_rfl
section
variable{prog:qal}{w:qaG}{A:qaP}{E:n_->v_->Prop}{s:v_}
set_option maxHeartbeats 3200000 in
theorem z9{x:w_}{t:Tok}{Q:n_->v_->Prop}(hh:A.handled=none)(hb:x.cps.size+1<scanBound)
  (h:∀(h':qaE) (tk:Nat),h'.SetOf (strKind prog w) s.heap.objs.size (λk'=>(met (jy x) x.cps.size).any (·==k')) (met (jy x) x.cps.size).length →
   (∀b o,b<s.heap.objs.size->s.heap.get? b=some o->h'.get? b=some o)->Q (.ref s.heap.objs.size) { s with heap:=h',toks:=tk }) :
  F_ (model prog w) A (call (.type "set") [.str x t]) Q E s:=by
 obtain⟨c,tl,Zw⟩:=F.called_set.mro;have hmade:=F.called_set.made;have hsub:=F.called_set.sub;refine qb9 (codeAny_of_tree ?_);show F_ _ _ (callAny (.type "set") _) _ _ _;refine q_ #[Code.quiet_builtin _ (by decide +kernel),qbL F.entry_type_call ?_];rw[Around.under_plain (weight_type_call_type "set" [.str x t] []) rfl];have h1:=F.called_set.notType;have h2:=F.called_set.canCreate;have hct:=F.typeCall_set_1 (.str x t)
 repeat (any_goals (first|assumption|wp_step))
 refine qbM (code_set_new_1 (.str x t) (E:=E) (Q₁:=λobj s₁=>∃led:Bool,obj= .ref s.heap.objs.size/\s₁={ s with heap:=s.heap.push { cls:=.type "set",dict:=none,data:=.set #[] 0 (.fresh 0 0 led) } }) λled=>#[led,Y,Y]) λr s₁ hr=>?_
 cases r with
 |error e=>exact hr
 |ok fl =>
  cases fl with
  |ret obj =>
   obtain⟨led,rfl,rfl⟩:=hr;have hS:(s.heap.push { cls:=.type "set",dict:=none,data:=.set #[] 0 (.fresh 0 0 led) }).get? s.heap.objs.size=some { cls:=.type "set",dict:=none,data:=.set #[] 0 (.fresh 0 0 led) }:=I_ _ rfl;have hT:Shared.TypeIs { s with heap:=s.heap.push { cls:=.type "set",dict:=none,data:=.set #[] 0 (.fresh 0 0 led) } } (.ref s.heap.objs.size) "set" :=#[_,hS,rfl];have hli:=F.called_set.init.lookup;have hbi:=F.called_set.init.bind (.ref s.heap.objs.size)
   repeat (any_goals (first|assumption|wp_step))
   refine qbM (qbO (R:=wants (λr s₂=>r= .none/\bU λh' tk=>s₂={ s with heap:=h',toks:=tk } ∧
     h'.SetOf (strKind prog w) s.heap.objs.size (λk'=>(met (jy x) x.cps.size).any (·==k')) (met (jy x) x.cps.size).length ∧
     (∀b o,b<s.heap.objs.size->s.heap.get? b=some o->h'.get? b=some o)) E) F.called_set.init.plain F.entry_set_init (check_set_init_1 hT ?_)) λr₂ s₂ IL=>?_
   ·have Zi:=yw;have Zj:=pX;have hne:(Value.type "str" ==Value.type "dict")=false:=by decide
    unfold Builtin.«set.__init__» noKeywords Builtin.Frozenset.updateFrom;generalize ZU:pyIter=PI
    wp_walk
    subst ZU;refine qcZ ?_;refine f_ (wpAny_runValue ?_);have ZE:A.in1.in1.in1.handled=none:=by simp[hh]
    have hSf:s.heap.objs.size∉[(s.heap.push { cls:=.type "set",dict:=none,data:=.set #[] 0 (.fresh 0 0 led) }).objs.size]:=by
     rw[qaX];simp only[u_];exact V_ (qa8 _)
    refine yH ((Fl ZE _ x t).toS) s.heap.objs.size hSf (jy x) (λi v hv=>hv) hb (x.cps.size-0) 0 _ (by omega) (O_ _)
     #[_,I_ _ rfl,rfl,rfl] ?hS0 ?hR
    case hS0 =>
     have hget:((s.heap.push { cls:=.type "set",dict:=none,data:=.set #[] 0 (.fresh 0 0 led) }).push { cls:=.type (strIterType x),data:=.fields (List.toArray [.str x t,.int 0 0]) }).get? s.heap.objs.size
       = some { cls:=.type "set",dict:=none,data:=.set #[] 0 (.fresh 0 0 led) }:=g_ _ hS
     exact SetOf_congr ((setObjOf_fresh (knd:=strKind prog w) led).setOf hget (by unfold scanBound;omega)) (λ_=>rfl) Y
    case hR =>
     intro s' hm hS';obtain⟨h',g',d',tk',os'⟩:=s';have eg:g'=s.gens:=hm.gens;have ed:d'=s.drawn:=hm.drawn;have eo:os'=s.os:=hm.os;subst eg;subst ed;subst eo;show F_ _ _ _ _ _ _;refine q_ ?_;show F_ _ _ (ret Value.none) _ _ _;refine q_ #[Y,h',tk',Y,hS',λb o hb e=>?_];have hb1:b≠s.heap.objs.size:=V_ hb;have hb2:b≠(s.heap.push { cls:=.type "set",dict:=none,data:=.set #[] 0 (.fresh 0 0 led) }).objs.size:=by
      rw[qaX];exact V_ (qcr hb)
     exact hm.heap b o (by simp only[B_,u_,R_,or_false,not_or];exact#[hb1,hb2]) (g_ _ (g_ _ e))
   ·cases r₂ with
    |error e=>exact IL
    |ok RX =>
     cases RX with
     |ret r =>
      obtain⟨rfl,h',tk,rfl,hS',hk'⟩:=IL
      repeat (any_goals (first|assumption|wp_step))
      exact h _ _ hS' hk'
     |_=>exact IL.elim
  |_=>exact hr.elim
end
end
section
noncomputable def QE(P:qal)(w:qaG)(a:l_)(n:Nat):HO:=.ext λh=>∃S,h.SetOf (strKind P w) a S n
section
variable{X:Cx}
theorem Gy(hc:X.calm=true):g7 X (.type "set") (λxs H Q=>∃x,xs=[.str x]/\x.cps.size+1<scanBound/\∀p,H p=none->Q (.ref p) (upd H p (QE X.prog X.w p (met (jy x) x.cps.size).length))):=by
 intro pins s σ H xs us Q I r h;obtain⟨x,rfl,hb,q⟩:=h;obtain⟨u,rfl,t,rfl⟩:=vals1 r;refine TK.bP (i_ s.toks) (z9 (I.ok.hd hc) hb λh' tk hS kk hup=>?_);have hn:H s.heap.objs.size=none:=I.fresh;have k:∀b o,s.heap.get? b=some o->h'.get? b=some o:=λb o e=>kk b o (C_ e) e;refine#[.ref s.heap.objs.size,_,I.laid (t':=tk) k (i_ _) ?_,Y,q _ hn];refine#[#[_,hS],?_,λh1 h2 p e=>?_]
 ·obtain⟨o,_,_,_,ho,_⟩:=hS;exact#[o,ho]
 ·obtain⟨S,o,es,ep,t,ho,rest⟩:=p;exact#[S,o,es,ep,t,e o ho,rest]
theorem wW:g7 X (.builtin "len") (λxs H Q=>bU λp n=>xs=[.ref p]/\H p=some (QE X.prog X.w p n)/\Q (.int (n:Nat)) H):=by
 intro pins s σ H xs us Q I r h;obtain⟨p,n,rfl,hp,q⟩:=h;obtain⟨u,rfl,ru⟩:=vals1 r;cases ru;obtain⟨⟨S,o,es,ep,t,ho,hex,hd,_,_,hz,hf,hn⟩,_⟩:=I.hok p _ hp;subst hn;have:es.size<4096:=hz;exact call_len_set ho hex hd hf (by omega) #[.int es.size,H,I.tok _,#[_,Y],q]
def Bg(i:Int):Prop:=i.natAbs<2 ^ 9000
theorem Bg.log(h:Bg i):i.natAbs.log2<9000:=by
 rcases Nat.eq_zero_or_pos i.natAbs with h0|hp
 ·rw[h0];decide
 ·exact(Nat.log2_lt (by omega)).mpr h
theorem Bg.bits(h:Bg i):Builtin.Int.intBits i<=2 ^ 20:=by
 have:=h.log;unfold Builtin.Int.intBits;split
 ·exact O_ _
 ·exact gc (show i.natAbs.log2+1<=9000 by omega) (by decide)
theorem Lf:jW X (binaryOp .Mult) (rI (λi j=>Bg i/\Bg j) λi j=>.int (i*j)):=Px λ_ _ _ _ _ _ _ hc q=>mul_int q (IntMulOk.of_bits hc.1.bits hc.2.bits)
theorem uV:jW X (binaryOp .FloorDiv) (rI (λ_ j=>0<j/\Bg j) λi j=>.int (i / j)):=Px λi j _ _ _ _ _ hc q=>by
 have h1:(0:Int)<j:=hc.1;exact floordiv_int (by omega) (by rw[Int.fdiv_eq_ediv_of_nonneg i (by omega)];exact q) (.inl (PyProof.noPylong_of_log2 hc.2.log))
noncomputable def ju(xs ys:List V):Bool:=(H_ (min xs.length ys.length)).all (λj=>EW (xs.getD j .dX) (ys.getD j .dX))&&xs.length==ys.length
theorem LW(rx:Vals xs us)(ry:Vals ys vs)(fx:xs.all mj=true)(fy:ys.all mj=true):
  ∀j (h1:j<us.toArray.size) (h2:j<vs.toArray.size),qbS A s us.toArray[j] vs.toArray[j] (EW (xs.getD j .dX) (ys.getD j .dX)):=by
 intro j h1 h2;have l1:=rx.length;have l2:=ry.length;have oZ:j<xs.length:=by rw[l1];simpa using h1
 have h2':j<ys.length:=by rw[l2];simpa using h2
 obtain⟨u,eu,ru⟩:=rx.get (i:=j) (x:=xs[j]) (by simp[oZ]);obtain⟨v,ev,rv⟩:=ry.get (i:=j) (x:=ys[j]) (by simp[h2']);have e1:us.toArray[j]=u:=by
  rw[d_ (by simpa using h1)]at eu;simpa using Z_ eu
 have e2:vs.toArray[j]=v:=by
  rw[d_ (by simpa using h2)]at ev;simpa using Z_ ev
 rw[e1,e2,M_,M_,d_ oZ,d_ h2',qaZ,qaZ];exact Jc ru rv (x_.mp fx _ (D_ oZ)) (x_.mp fy _ (D_ h2'))
def UI(K:zaa)(neg:Bool):R2:=λx y H Q=>mZ λp q xs ys=>x= .ref p/\y= .ref q/\bV K H p xs/\bV K H q ys/\xs.all mj=true/\ys.all mj=true/\Q (.bl (if neg then !ju xs ys else ju xs ys)) H
theorem Di(hu:X.A.units<cLine):jW X (compareOp .NotEq) (UI X.K true):=by
 intro pins s σ H x y v u Q I rx ry h;obtain⟨p,q,xs,ys,rfl,rfl,hp,hq,fx,fy,k⟩:=h;cases rx;cases ry;obtain⟨us,r1,t1,_⟩:=I.tuple hp;obtain⟨vs,r2,t2,_⟩:=I.tuple hq;refine SeqAt.RcNeAt.tuples (A:=X.A) (s:=s) t1 t2 hu (LW r1 r2 fx fy) X.prog X.w X.xe _ #[.bl (!ju xs ys),H,I,?_,k];unfold ju;rw[r1.length,r2.length,y_,y_];rfl
end
end
section
noncomputable def TZ(K:zaa)(c:Cp):It :=
 #[λi H=>bU λxs x=>c.at K H xs/\xs[i]? =some x,λi H x H'=>H'=H/\∀xs,c.at K H xs->xs[i]? =some x,λi H=>∃xs,c.at K H xs/\xs.length<=i]
theorem Turn.conv{K:zaa}(T:Turn P w K tg J fp it tn)
  (hg:∀i H,J'.go i H->J.go i H) (hy:∀i H x H',J.Ai i H x H'->J'.Ai i H x H') (hs:∀i H,J'.stop i H->J.stop i H):Turn P w K tg J' fp it tn where
 mem:=T.mem
 obj:=T.obj
 keep:=T.keep
 item:=λX hP hw hK hc i pins s σ H E I hf st g=>qaC (T.item X hP hw hK hc i pins s σ H E I hf st (hg i H g)) (λr s1 ⟨u,hr,h⟩=>#[u,hr,qaC h (λ_ s2 ⟨x,H',I',r',y,t',n'⟩=>#[x,H',I',r',hy i H x H' y,t',n']) λ_ _ z=>z]) λ_ _ z=>z
 done:=λX hP hw hK hc i pins s σ H E I hf st g=>T.done X hP hw hK hc i pins s σ H E I hf st (hs i H g)
 self:=T.self
theorem signs_length(x:w_):(dw x).length=x.cps.size:=by simp[dw]
theorem signs_at{i k:Nat}(h:x.cps[i]? =some k):(dw x)[i]? =some (.str ⟨#[k]⟩):=by
 unfold dw;rw[j_];have e:x.cps.toList[i]? =some k:=by simpa using h
 rw[e];rfl
section
variable{X:Cx}{tg:Expr}
def Y4(K:zaa)(tl:TE):TI:=λσ H R=>tl σ H λv H1=>bU λc xs=>v=Cp.val c/\c.at K H1 xs/\R (TZ K c) H1
theorem nV(hl:PE X l tl):PI X tg l (Y4 X.K tl):=by
 intro pins s σ H R I h;refine dm (hl pins s σ H _ I h) λv s1 ⟨y,H1,I1,r1,q1⟩=>?_;obtain⟨c,xs,e,hq,q⟩:=q1;subst e;have Wc:∀b∈[s1.heap.objs.size],oQ X pins H1 b:=λb hb=>by
  have e:b=s1.heap.objs.size:=by simpa using hb
  subst e;exact I1.sG (i_ _) (I1.hok.fresh (i_ _))
 cases c with
 |lst a =>
  cases (show v=Value.ref a from r1);obtain⟨its,rv,p,hz⟩:=I1.list hq;refine qcq p.isList ?_;exact#[s1.heap.objs.size,[s1.heap.objs.size],_,_,H1,Y,I1.kept (t':=s1.toks) λb o e=>g_ _ e,xB a _,#[_,I_ _ Y,Y,Y],Wc,q]
 |tup a =>
  cases (show v=Value.ref a from r1);obtain⟨its,rv,p,hz⟩:=I1.tuple hq;refine qcb (show s1.heap.IsTuple a its.toArray from p) ?_;exact#[s1.heap.objs.size,[s1.heap.objs.size],_,_,H1,Y,I1.kept (t':=s1.toks) λb o e=>g_ _ e,Cy a _,#[_,I_ _ Y,Y,Y],Wc,q]
 |txt x =>
  obtain⟨t,rfl⟩:=(show ∃t,v=Value.str x t from r1);refine qcZ ?_;refine#[s1.heap.objs.size,[s1.heap.objs.size],_,_,H1,Y,I1.kept (t':=s1.toks) λb o e=>g_ _ e,(AB x t _).conv ?_ ?_ ?_,#[_,I_ _ Y,Y,Y],Wc,q]
  ·rintro i H ⟨xs,y,hx,e⟩;rw[show xs=dw x from hx]at e;have:=(m_.mp e).1;rw[signs_length]at this;exact this
  ·rintro i H y H' ⟨rfl,k,e,rfl⟩;refine#[Y,λxs hx=>?_];rw[show xs=dw x from hx];exact signs_at e
  ·rintro i H ⟨xs,hx,e⟩;rw[show xs=dw x from hx,signs_length]at e;exact e
theorem sH{K:zaa}{c:Cp}{xs:List V}{g:TG}{tb:TS}{D:Ends}(Pv:Nat->St->Hp->Prop)(h0:Pv 0 σ H)(hl:∀i σ H,i<=xs.length->Pv i σ H->c.at K H xs)
  (hs:∀i x σ H,xs[i]? =some x->Pv i σ H->g x σ H λσ2 H2=>tb { D with nx:=Pv (i+1),ct:=Pv (i+1),bk:=D.nx } σ2 H2) (hd:∀ σ H,Pv xs.length σ H->D.nx σ H) :
  ∃W:Nat->Nat->St->Hp->Prop,(∃m,W 0 m σ H)/\∀i m σ H,W i m σ H →
   ((TZ K c).stop i H/\D.nx σ H)\/((TZ K c).go i H/\∃N:St->Hp->Prop,(∀ σ' H',N σ' H'->∃m',m'<m/\W (i+1) m' σ' H')/\∀x H',(TZ K c).Ai i H x H'->g x σ H' λσ2 H2=>tb { D with nx:=N,ct:=N,bk:=D.nx } σ2 H2):=by
 refine#[λi m σ H=>m=xs.length-i/\i<=xs.length/\Pv i σ H,#[xs.length,by simp,O_ _,h0],?_];rintro i m σ H ⟨rfl,hi,p⟩;have q:=hl i σ H hi p;by_cases hlt:i<xs.length
 ·refine .inr #[#[xs,xs[i],q,by simp[hlt]],Pv (i+1),λσ' H' p'=>#[xs.length-(i+1),by omega,Y,hlt,p'],λx H' y=>?_];obtain⟨e,y⟩:=y;subst e;exact hs i x σ _ (y xs q) p
 ·have e:i=xs.length:=by omega
  subst e;exact .inl #[#[xs,q,i_ _],hd σ H p]
end
end
end L2
namespace eV
noncomputable def lo(a b:Int):Int×Int:=(a / (qah a b:Int),b / (qah a b:Int))
theorem iU(a:Int)(hb:0<b):0<(qah a b:Int):=by
 have:0<qah a b:=Int.gcd_pos_of_ne_zero_right a (by omega);omega
theorem DO(a:Int)(hb:0<b):(qah a b:Int)<=b:=Int.le_of_dvd hb (qbp ..)
theorem oi(a:Int)(hb:0<b):0<(lo a b).2 :=
 qbC hb (qbb (iU a hb)) (qbp ..)
theorem lo_le(a:Int)(hb:0<b):(lo a b).2<=b:=by
 have h:=iU a hb;exact Int.ediv_le_self _ (qbb hb)
theorem zD(a:Int)(hb:0<b):qah (lo a b).1 (lo a b).2=1 :=
 Int.gcd_ediv_gcd_ediv_gcd (Int.gcd_pos_of_ne_zero_right a (by omega))
theorem vq(a b:Int):(lo a b).1*(qah a b:Int)=a:=Int.ediv_mul_cancel (qcB ..)
theorem zC(a b:Int):(lo a b).2*(qah a b:Int)=b:=Int.ediv_mul_cancel (qbp ..)
theorem vt(a b:Int):(lo a b).1*b=a*(lo a b).2:=by
 have h1:=vq a b;have h2:=zC a b;generalize (lo a b).1=x at *;generalize (lo a b).2=y at *;generalize (qah a b:Int)=g at *;rw[←h1,←h2,qc9,Int.mul_comm y g]
theorem IX(a b:Int):qah b (a % b)=qah a b:=by
 have e:a=a % b+b*(a / b):=(Int.emod_add_mul_ediv a b).symm;have h:qah (a % b+b*(a / b)) b=qah (a % b) b:=Int.gcd_add_mul_left_left ..;rw[←e]at h;rw[h,Int.gcd_comm]
theorem LQ(a:Int):(if a<0 then -a else a)=(qah a 0:Int):=by
 rw[Int.gcd_zero_right];split<;>omega
end eV
namespace GP
open PySem L2 eV
section
noncomputable abbrev bJ:=Int×Int
noncomputable def cM(f:bJ):bJ:=lo f.1 f.2
theorem aj.upd(h:H q=none):aj H (L2.upd H q o):=λb u e=>by rw[ay (bA e h)];exact e
theorem aj.at(e:aj H H2)(h:H t=none):aj H (L2.upd H2 t o):=λb u q=>by rw[ay (bA q h)];exact e b u q
theorem aj.tup(e:aj H H')(h:bV K H a xs):bV K H' a xs:=by
 rcases h with(h|⟨o,h⟩)|h
 ·exact .inl (.inl (e _ _ h))
 ·exact .inl (.inr #[o,e _ _ h])
 ·exact .inr h
theorem aj.cp{c:Cp}(e:aj H H')(h:c.at K H xs):c.at K H' xs:=by
 cases c with
 |lst a=>exact aj.seq e h
 |tup a=>exact aj.tup e h
 |txt x=>exact h
def gI(K:zaa)(H:Hp)(p:l_)(f:bJ):Prop:=bV K H p [.int f.1,.int f.2]
theorem gI.same(e:aj H H')(h:gI K H p f):gI K H' p f:=aj.tup e h
def iH(K:zaa)(H:Hp)(c:Cp)(fs:List bJ):Prop:=∃ps:List l_,c.at K H (ps.map V.ref)/\Paired (gI K H) ps fs
theorem iH.same(e:aj H H')(h:iH K H c fs):iH K H' c fs:=by
 obtain⟨ps,a,b⟩:=h;exact#[ps,aj.cp e a,Paired.jr b λ_ _ z=>z.same e]
def Nc(K:zaa)(H:Hp)(c:Cp)(rows:List (List bJ)):Prop:=∃cs:List Cp,c.at K H (cs.map Cp.val)/\Paired (iH K H) cs rows
theorem Paired.at:∀{l₁:List α} {l₂:List β} {i:Nat} {x:α},Paired F l₁ l₂->l₁[i]? =some x->∃y,l₂[i]? =some y/\F x y
 |_,_,i,_,.nil,e=>by simp at e
 |_,_,0,_,.cons r _,e=>by simp at e;subst e;exact#[_,Y,r]
 |_,_,i+1,x,.cons _ t,e=>by
  obtain⟨y,h1,h2⟩:=Paired.at (i:=i) (x:=x) t (by simpa using e);exact#[y,by simpa using h1,h2]
theorem Paired.at':∀{l₁:List α} {l₂:List β} {i:Nat} {y:β},Paired F l₁ l₂->l₂[i]? =some y->∃x,l₁[i]? =some x/\F x y
 |_,_,i,_,.nil,e=>by simp at e
 |_,_,0,_,.cons r _,e=>by simp at e;subst e;exact#[_,Y,r]
 |_,_,i+1,y,.cons _ t,e=>by
  obtain⟨x,h1,h2⟩:=Paired.at' (i:=i) (y:=y) t (by simpa using e);exact#[x,by simpa using h1,h2]
theorem Paired.len{l₁:List α}{l₂:List β}(h:Paired F l₁ l₂):l₁.length=l₂.length:=Paired.length h
theorem Paired.snoc:∀{l₁:List α} {l₂:List β},Paired F l₁ l₂->F x y->Paired F (l₁++[x]) (l₂++[y])
 |_,_,.nil,h=>.cons h .nil
 |_,_,.cons r t,h=>.cons r (Paired.snoc t h)
theorem take_snoc{α:Type}{l:List α}{x:α}(h:l[i]? =some x):l.take (i+1)=l.take i++[x]:=by
 rw[qc1,h];rfl
theorem pP{α β:Type}{l:List α}{f:α->β}{x:α}(h:l[i]? =some x):(l.map f).take (i+1)=(l.map f).take i++[f x]:=take_snoc (by rw[j_,h];rfl)
theorem ow{A B:Prop}(h1:i≠j->A)(h2:i=j->B):if(!decide (V.int i=V.int j))=true then A else B:=by
 by_cases h:i=j
 ·rw[o5,if_neg (by simp[h])];exact h2 h
 ·rw[o5,if_pos (by simp[h])];exact h1 h
theorem mS{A B:Prop}(h1:i=j->A)(h2:i≠j->B):if(decide (V.int i=V.int j))=true then A else B:=by
 by_cases h:i=j
 ·rw[o5,if_pos (by simp[h])];exact h1 h
 ·rw[o5,if_neg (by simp[h])];exact h2 h
theorem cS[Decidable p]{A B:Prop}(h1:p->A)(h2:¬p->B):if(decide p)=true then A else B:=by
 by_cases h:p
 ·rw[if_pos (decide_eq_true h)];exact h1 h
 ·rw[if_neg (by rw[decide_eq_false h];exact K_)];exact h2 h
theorem xW{A B:Prop}(h:A):if(!false)=true then A else B:=by
 rw[if_pos (show(!false)=true from rfl)];exact h
theorem jw{A B:Prop}(h:B):if(!true)=true then A else B:=by
 rw[if_neg (by decide)];exact h
def QA:Sp:=λvs H Q _=>bU λa b:Int=>vs=[.int a,.int b]/\0<=b/\Q (.int (qah a b)) H
noncomputable def lm(a b:Int):Int:=a / (qah a b:Int)*b
def Ci(f:bJ):Prop:=1<=f.2/\f.2<1073741824
def CO(K:zaa):Sp:=λvs H Q _=>bU λ(p:l_) (f:bJ)=>vs=[.ref p]/\gI K H p f/\Ci f ∧
 ∀q,H q=none->Q (.ref q) (L2.upd H q (.tup [.int (cM f).1,.int (cM f).2]))
def AM(K:zaa):Sp:=λvs H Q _=>bU λ(c:Cp) (fs:List bJ)=>vs=[c.val]/\iH K H c fs/\(∀f∈fs,Ci f)/\fs.length<=1000 ∧
 ∀q H',aj H H'->H q=none->iH K H' (.tup q) (fs.map cM)->Q (.ref q) H'
noncomputable def aC(o m:Int)(rows:List (List bJ)):Int:=(rows.flatten.map (·.2)).foldl lm (lm o m)
noncomputable def i9(fo fm:bJ)(rows:List (List bJ)):List Int:=fo.2::fm.2::rows.flatten.map (·.2)
def Hv(K:zaa):Sp:=λvs H Q _=>Mm λ(P o m:l_) (rows:List (List bJ)) (fo fm:bJ)=>vs=[.ref P,.ref o,.ref m]/\Nc K H (.tup P) rows/\gI K H o fo/\gI K H m fm ∧
 rows.length<=12/\(∀r∈rows,r.length<=12)/\∀l H',aj H H'->H l=none->H' l=some (.lst ((i9 fo fm rows).map V.int))->Q (.ref l) H'
noncomputable def o4(p:List Int×Int)(b:Int):List Int×Int:=if b / (qah p.2 b:Int)>1 then(p.1++[b / (qah p.2 b:Int)],p.2*(b / (qah p.2 b:Int)))else p
noncomputable def mq(ns:List Int):List Int×Int:=ns.foldl o4 ([],1)
def lD(n:Int):Prop:=0<n/\n<1073741824
def Fz(K:zaa):Sp:=λvs H Q _=>bU λ(l:l_) (ns:List Int)=>vs=[.ref l]/\bq K H l (ns.map V.int)/\ns.length<=1000/\(∀n∈ns,lD n) ∧
 ∀q H',aj H H'->H q=none->H' q=some (.lst ((mq ns).1.map V.int))->Q (.ref q) H'
noncomputable def pL(fs:List Int):Int:=fs.foldl (·*·) 1
def ND(K:zaa):Sp:=λvs H Q _=>bU λ(l:l_) (fs:List Int)=>vs=[.ref l]/\bq K H l (fs.map V.int)/\(∀n∈fs,lD n)/\Q (.int (pL fs)) H
def HH(K:zaa):Sp:=λvs H Q _=>iG λ(p:l_) (f:bJ) (u:Int)=>vs=[.ref p,.int u]/\gI K H p f/\Ci f/\Bg f.1/\Bg (u / f.2)/\Q (.int (f.1*(u / f.2))) H
theorem Ot:lm 1 b=b:=by
 unfold lm;rw[Int.gcd_one_left];simp
theorem Ou:lm a b=a*(b / (qah a b:Int)):=by
 unfold lm;rw[←Int.mul_ediv_assoc' b (qcB a b),Int.mul_ediv_assoc a (qbp a b)]
structure Ck(p:List Int×Int)(ns:List Int):Prop where
 small:∀f∈p.1,lD f
 prod:pL p.1=p.2
 unit:p.2=ns.foldl lm 1
 pos:0<p.2
 len:p.1.length<=ns.length
theorem p6(fs:List Int)(f:Int):pL (fs++[f])=pL fs*f:=by
 unfold pL;rw[qc0];rfl
theorem ET{u b:Int}(hb:lD b):0<b / (qah u b:Int)/\b / (qah u b:Int)<=b:=by
 have g1:=iU u hb.1;exact#[qbC hb.1 (qbb g1) (qbp u b),Int.ediv_le_self _ (qbb hb.1)]
theorem Ck.step(h:Ck p ns)(hb:lD b):Ck (o4 p b) (ns++[b]):=by
 obtain⟨d1,d2⟩:=ET (u:=p.2) hb;have e:(ns++[b]).foldl lm 1=p.2*(b / (qah p.2 b:Int)):=by
  rw[qc0,←h.unit];exact Ou
 unfold o4;split
 ·next h1 =>
  refine#[λf hf=>?_,?_,e.symm,Int.mul_pos h.pos d1,?_]
  ·rcases S_.mp hf with hf|hf
   ·exact h.small f hf
   ·rw[u_.mp hf];exact#[d1,Int.lt_of_le_of_lt d2 hb.2]
  ·rw[p6,h.prod]
  ·rw[t_,t_];exact qaM h.len 1
 ·next h1 =>
  have e1:b / (qah p.2 b:Int)=1:=by omega
  refine#[h.small,h.prod,?_,h.pos,?_]
  ·rw[e,e1,Int.mul_one]
  ·rw[t_];exact gc h.len (qan _ _)
theorem vM(ns:List Int)(b:Int):mq (ns++[b])=o4 (mq ns) b:=by
 unfold mq;rw[qc0];rfl
theorem sL{ns:List Int}(h:∀n∈ns,lD n):∀i,i<=ns.length->Ck (mq (ns.take i)) (ns.take i)
 | 0,_=>by
  rw[List.take_zero];exact#[λf hf=>(by cases hf),Y,Y,(by decide),i_ _]
 |i+1,hi=>by
  have e:=d_ (l:=ns) (i:=i) hi;rw[take_snoc e,vM];exact(sL h i (qa5 hi)).step (h _ (D_ hi))
theorem LY(h:∀n∈ns,lD n):Ck (mq ns) ns:=by
 have z:=sL h ns.length (i_ _);rw[qcC]at z;exact z
theorem AA(fo fm:bJ)(rows:List (List bJ)):(i9 fo fm rows).foldl lm 1=aC fo.2 fm.2 rows:=by
 unfold i9 aC;rw[qch,qch,Ot]
end
section
structure Dm(K:zaa)(x qual:w_)(st:qcU)(ps:List w_)(f:l_)(fd:qce):Prop where
 fn:Nd K x qual st f fd
 b:Binds K fd ps []
theorem Z9X{X:Cx}{x:w_}{e:Expr}{te:TE}{pos pos':qc5}(i:Nat)(hN:X.N.Nodup)(he:PE X e te)(hi:X.N[i]? =some x:=by rfl)(hx:Loc X.env.scope x:=by exact Or.inl Y)(hs:swapsWith e (some (.Name x pos')) pos.line X.env=pure false:=by rfl)(hf:X.fn x=true\/X.env.scope.names.lookup x=some .local:=by first|exact .inl rfl|exact .inr rfl|assumption):PS X (.Assign [.Name x pos'] e pos) (Kl te (BI i)):=az hN hi hx he hs hf
theorem Z9Y{X:Cx}{x:w_}{pos:qc5}(i:Nat)(hN:X.N.Nodup)(hi:X.N[i]? =some x:=by rfl)(hx:Loc X.env.scope x:=by exact Or.inl Y)(hf:X.fn x=true\/X.env.scope.names.lookup x=some .local:=by first|exact .inl rfl|exact .inr rfl|assumption):PG X (.Name x pos) (BI i):=aY hN hi hx hf
def Dat(H H':Hp):Prop:=∀b u,(∀C dx fs,u≠HO.ins C dx fs)->H b=some u->H' b=some u
theorem Dat.of (e:aj H H'):Dat H H':=λb u _ h=>e b u h
theorem Dat.trans(e:Dat H H')(f:Dat H' GH):Dat H GH:=λb u n h=>f b u n (e b u n h)
theorem Dat.set(h:H x=some (.ins C dx fs)):Dat H (L2.upd H x (.ins C dx fs')):=λb u n e=>by
 rw[ay (λz=>by subst z;rw[h]at e;cases e;exact n _ _ _ Y)];exact e
theorem Dat.tup(e:Dat H H')(h:bV K H a xs):bV K H' a xs:=by
 rcases h with(h|⟨o,h⟩)|h
 ·exact .inl (.inl (e _ _ (λ_ _ _ z=>by cases z) h))
 ·exact .inl (.inr #[o,e _ _ (λ_ _ _ z=>by cases z) h])
 ·exact .inr h
theorem Dat.lst(e:Dat H H')(h:bq K H a xs):bq K H' a xs:=by
 rcases h with(h|⟨o,h⟩)|h
 ·exact .inl (.inl (e _ _ (λ_ _ _ z=>by cases z) h))
 ·exact .inl (.inr #[o,e _ _ (λ_ _ _ z=>by cases z) h])
 ·exact .inr h
theorem Dat.cp{c:Cp}(e:Dat H H')(h:c.at K H xs):c.at K H' xs:=by
 cases c with
 |lst a=>exact Dat.lst e h
 |tup a=>exact Dat.tup e h
 |txt x=>exact h
theorem gI.dat(e:Dat H H')(h:gI K H p f):gI K H' p f:=Dat.tup e h
theorem iH.dat(e:Dat H H')(h:iH K H c fs):iH K H' c fs:=by
 obtain⟨ps,a,b⟩:=h;exact#[ps,Dat.cp e a,Paired.jr b λ_ _ z=>z.dat e]
def Ag(K:zaa)(H:Hp)(P:l_)(rows:List (List bJ)):Prop:=∃qs:List l_,bV K H P (qs.map V.ref)/\Paired (λq r=>iH K H (.tup q) r) qs rows
theorem Ag.dat(e:Dat H H')(h:Ag K H P rows):Ag K H' P rows:=by
 obtain⟨cs,a,b⟩:=h;exact#[cs,Dat.tup e a,Paired.jr b λ_ _ z=>z.dat e]
theorem p8{g:α->γ}:∀{l₁:List α} {l₂:List β},Paired (λa b=>F (g a) b) l₁ l₂->Paired F (l₁.map g) l₂
 |_,_,.nil=>.nil
 |_,_,.cons r t=>.cons r (p8 t)
theorem Ag.YR(h:Ag K H P rows):Nc K H (.tup P) rows:=by
 obtain⟨qs,a,b⟩:=h;refine#[qs.map Cp.tup,?_,p8 b];rw[U_];exact a
theorem Jm{c:Cp}(h:c.at K H xs)(hx:∀x,c≠ .txt x):JJ K c.val H xs.length:=by
 cases c with
 |lst a=>exact .inl #[_,h,Y]
 |tup a=>exact .inr #[_,h,Y]
 |txt x=>exact absurd Y (hx x)
theorem iH.len(h:iH K H c fs)(hx:∀x,c≠ .txt x):JJ K c.val H fs.length:=by
 obtain⟨ps,a,b⟩:=h;have z:=Jm a hx;rw[e_,Paired.len b]at z;exact z
noncomputable def dS(n:Nat):Bool:=(decide ((32:Int)<=(n:Int))&&decide ((n:Int)<=126))&& !S7 (.int n) [.int 34,.int 37,.int 45]
def mE(x:w_):Prop:=0<x.cps.size/\x.cps.size<=100/\(∀c∈x.cps.toList,dS c=true)/\x.cps.toList.Nodup
theorem fX{x:w_}(h:x.cps.toList.Nodup){i j a b:Nat}(hi:x.cps[i]? =some a)(hj:x.cps[j]? =some b)(hij:i≠j):a≠b:=by
 intro z;subst z;rw[←P_]at hi hj;exact hij ((List.getElem?_inj (m_.mp hi).1 h).mp (hi.trans hj.symm))
theorem ED(val:Nat->w_)(k:w_):∀i,(met val i).any (·==k)=true->∃j,j<i/\val j=k
 | 0,h=>by rw[vn]at h;cases h
 |i+1,h=>by
  rw[oh,qN,Bool.or_eq_true]at h;rcases h with h|h
  ·obtain⟨j,h1,h2⟩:=ED val k i h;exact#[j,by omega,h2]
  ·exact#[i,by omega,(of_decide_eq_true h).symm]
theorem Bx{n:Nat}(h:∀i j,i<n->j<n->i≠j->val i≠val j):∀i,i<=n->(met val i).length=i
 | 0,_=>by rw[vn];rfl
 |i+1,hi=>by
  rw[oh,nk];have e:¬((met val i).any (·==val i)=true):=λz=>by
   obtain⟨j,h1,h2⟩:=ED val _ i z;exact h j i (by omega) (by omega) (by omega) h2
  rw[if_neg e,Bx h i (by omega)]
theorem F7(h:x.cps.toList.Nodup):(met (jy x) x.cps.size).length=x.cps.size:=by
 refine Bx (n:=x.cps.size) (λi j hi hj hij z=>?_) _ (i_ _);unfold jy at z;have e1:x.cps[i]? =some (x.cps.getD i 0):=by simp[hi]
 have e2:x.cps[j]? =some (x.cps.getD j 0):=by simp[hj]
 refine fX h e1 e2 hij ?_;have z2: #[x.cps.getD i 0]= #[x.cps.getD j 0]:=congrArg Str.cps z;simpa using z2
def HF:Sp:=λvs H Q _=>∃c:Nat,vs=[.str ⟨#[c]⟩]/\Q (.bl (dS c)) H
def CW:Sp:=λvs H Q _=>∃x:w_,vs=[.str x]/\x.cps.size<=1000/\∀H',aj H H'->Q (.bl (x.cps.toList.all dS)) H'
def yz:Sp:=λvs H Q _=>∃x:w_,vs=[.str x]/\mE x/\∀H',aj H H'->Q .dX H'
def M8(c:Cp):Prop:=∀x,c≠ .txt x
def Ed(K:zaa)(H:Hp)(c:Cp)(rows:List (List bJ)):Prop:=M8 c/\∃cs:List Cp,(∀d∈cs,M8 d)/\c.at K H (cs.map Cp.val)/\Paired (iH K H) cs rows
theorem Ed.dat(e:Dat H H')(h:Ed K H c rows):Ed K H' c rows:=by
 obtain⟨n,cs,m,a,b⟩:=h;exact#[n,cs,m,Dat.cp e a,Paired.jr b λ_ _ z=>z.dat e]
def GF(n:Nat)(rows:List (List bJ)):Prop:=rows.length=n/\∀r∈rows,r.length=n
def uE(K:zaa):Sp:=λvs H Q _=>iG λ(x:w_) (c:Cp) (rows:List (List bJ))=>vs=[.str x,c.val]/\Ed K H c rows/\x.cps.size<=100/\GF x.cps.size rows/\Q .dX H
def mH(rows:List (List bJ))(i j:Nat)(f:bJ):Prop:=∃r,rows[i]? =some r/\r[j]? =some f
noncomputable def keyOf(a b:Nat):List Key:=[.inr ⟨#[a]⟩,.inr ⟨#[b]⟩]
def Eh(kvs:List (List Key×V))(x:w_)(rows:List (List bJ))(u:Int):Prop :=
 ∀i j a b f,x.cps[i]? =some a->x.cps[j]? =some b->mH rows i j f->eZ kvs (keyOf a b)=some (.int (f.1*(u / f.2)))
def Sm(i:Int):Prop:=i.natAbs<2 ^ 200
def Bu(i:Int):Prop:=i.natAbs<=2 ^ 4380
theorem Sm.bg(h:Sm i):Bg i:=J_ h (qaN (by decide) (by decide))
theorem Bu.bg(h:Bu i):Bg i:=o_ h (Nat.pow_lt_pow_right (by decide) (by decide))
def Sj(u:Int)(f:bJ):Prop:=Ci f/\Sm f.1/\Bu (u / f.2)
def KQ(K:zaa):Sp:=λvs H Q _=>mZ λ(x:w_) (P:l_) (u:Int) (rows:List (List bJ))=>vs=[.str x,.ref P,.int u]/\Ag K H P rows/\x.cps.size<=100/\x.cps.toList.Nodup/\GF x.cps.size rows/\(∀r∈rows,∀f∈r,Sj u f) ∧
 ∀d H' kvs,aj H H'->H d=none->H' d=some (.dT kvs)->Eh kvs x rows u->Q (.ref d) H'
noncomputable def f6(x:w_)(P o m:l_)(u:Int)(d:l_×l_):List (w_×V) :=
 aQ "costs" (.ref d.1) (aQ "unit" (.int u) (aQ "factors" (.ref d.2) (aQ "more" (.ref m) (aQ "opening" (.ref o) (aQ "pairs" (.ref P) (aQ "signs" (.str x) []))))))
theorem BO:(f6 x P o m u d).lookup ("signs" :w_)=some (.str x):=by
 unfold f6;rw[au,if_neg (by decide +kernel),au,if_neg (by decide +kernel),au,if_neg (by decide +kernel),au,if_neg (by decide +kernel),au,if_neg (by decide +kernel),au,if_neg (by decide +kernel),au,if_pos rfl]
theorem BP:(f6 x P o m u d).lookup ("pairs" :w_)=some (.ref P):=by
 unfold f6;rw[au,if_neg (by decide +kernel),au,if_neg (by decide +kernel),au,if_neg (by decide +kernel),au,if_neg (by decide +kernel),au,if_neg (by decide +kernel),au,if_pos rfl]
theorem pU:(f6 x P o m u d).lookup ("opening" :w_)=some (.ref o):=by
 unfold f6;rw[au,if_neg (by decide +kernel),au,if_neg (by decide +kernel),au,if_neg (by decide +kernel),au,if_neg (by decide +kernel),au,if_pos rfl]
theorem vL:(f6 x P o m u d).lookup ("more" :w_)=some (.ref m):=by
 unfold f6;rw[au,if_neg (by decide +kernel),au,if_neg (by decide +kernel),au,if_neg (by decide +kernel),au,if_pos rfl]
theorem wV:(f6 x P o m u d).lookup ("factors" :w_)=some (.ref d.2):=by
 unfold f6;rw[au,if_neg (by decide +kernel),au,if_neg (by decide +kernel),au,if_pos rfl]
theorem vK:(f6 x P o m u d).lookup ("unit" :w_)=some (.int u):=by
 unfold f6;rw[au,if_neg (by decide +kernel),au,if_pos rfl]
theorem BQ:(f6 x P o m u d).lookup ("costs" :w_)=some (.ref d.1):=by
 unfold f6;rw[au,if_pos rfl]
noncomputable def sJ(x:w_)(P o m:l_)(u:Int)(d:l_×l_)(ou mu:Int):List (w_×V) :=
 aQ "more_units" (.int mu) (aQ "opening_units" (.int ou) (f6 x P o m u d))
theorem mh{f:w_}(h1:¬f= "more_units")(h2:¬f= "opening_units"):(sJ x P o m u d ou mu).lookup f=(f6 x P o m u d).lookup f:=by
 unfold sJ;rw[au,if_neg h1,au,if_neg h2]
theorem iL:(sJ x P o m u d ou mu).lookup ("signs" :w_)=some (.str x):=(mh (by decide +kernel) (by decide +kernel)).trans BO
theorem qi:(sJ x P o m u d ou mu).lookup ("pairs" :w_)=some (.ref P):=(mh (by decide +kernel) (by decide +kernel)).trans BP
theorem zQ:(sJ x P o m u d ou mu).lookup ("opening" :w_)=some (.ref o):=(mh (by decide +kernel) (by decide +kernel)).trans pU
theorem Gk:(sJ x P o m u d ou mu).lookup ("more" :w_)=some (.ref m):=(mh (by decide +kernel) (by decide +kernel)).trans vL
theorem jE{x:w_}{P o m:l_}{u:Int}{d:l_×l_}:(sJ x P o m u d ou mu).lookup ("factors" :w_)=some (.ref d.2):=(mh (by decide +kernel) (by decide +kernel)).trans wV
theorem DR:(sJ x P o m u d ou mu).lookup ("costs" :w_)=some (.ref d.1):=(mh (by decide +kernel) (by decide +kernel)).trans BQ
theorem pS{f:w_}(h2:¬f= "opening_units"):(aQ "opening_units" v (f6 x P o m u d)).lookup f=(f6 x P o m u d).lookup f:=by
 rw[au,if_neg h2]
theorem tV:(sJ x P o m u d ou mu).lookup ("more_units" :w_)=some (.int mu):=by
 unfold sJ;rw[au,if_pos rfl]
theorem Iv:(aQ "more" (.ref m) (aQ "opening" (.ref o) (aQ "pairs" (.ref P) (aQ "signs" (.str x) []))):List (w_×V)).lookup ("pairs" :w_)=some (.ref P):=by
 rw[au,if_neg (by decide +kernel),au,if_neg (by decide +kernel),au,if_pos rfl]
theorem DA:(aQ "more" (.ref m) (aQ "opening" (.ref o) (aQ "pairs" (.ref P) (aQ "signs" (.str x) []))):List (w_×V)).lookup ("opening" :w_)=some (.ref o):=by
 rw[au,if_neg (by decide +kernel),au,if_pos rfl]
theorem Ls:(aQ "more" (.ref m) (aQ "opening" (.ref o) (aQ "pairs" (.ref P) (aQ "signs" (.str x) []))):List (w_×V)).lookup ("more" :w_)=some (.ref m):=by
 rw[au,if_pos rfl]
theorem DB:(aQ "factors" (.ref fl) (aQ "more" (.ref m) (aQ "opening" (.ref o) (aQ "pairs" (.ref P) (aQ "signs" (.str x) [])))):List (w_×V)).lookup ("factors" :w_)=some (.ref fl):=by
 rw[au,if_pos rfl]
theorem Iu:(aQ "unit" (.int u) (aQ "factors" (.ref fl) (aQ "more" (.ref m) (aQ "opening" (.ref o) (aQ "pairs" (.ref P) (aQ "signs" (.str x) []))))):List (w_×V)).lookup ("signs" :w_)=some (.str x):=by
 rw[au,if_neg (by decide +kernel),au,if_neg (by decide +kernel),au,if_neg (by decide +kernel),au,if_neg (by decide +kernel),au,if_neg (by decide +kernel),au,if_pos rfl]
theorem F6:(aQ "unit" (.int u) (aQ "factors" (.ref fl) (aQ "more" (.ref m) (aQ "opening" (.ref o) (aQ "pairs" (.ref P) (aQ "signs" (.str x) []))))):List (w_×V)).lookup ("pairs" :w_)=some (.ref P):=by
 rw[au,if_neg (by decide +kernel),au,if_neg (by decide +kernel),au,if_neg (by decide +kernel),au,if_neg (by decide +kernel),au,if_pos rfl]
theorem Lr:(aQ "unit" (.int u) (aQ "factors" (.ref fl) (aQ "more" (.ref m) (aQ "opening" (.ref o) (aQ "pairs" (.ref P) (aQ "signs" (.str x) []))))):List (w_×V)).lookup ("unit" :w_)=some (.int u):=by
 rw[au,if_pos rfl]
theorem aH(h:fs.length<=n):(aQ f v fs).length<=n+1:=by
 have:=om f v fs;omega
structure dI(K:zaa)(C:l_)(H:Hp)(x:l_)(sg:w_)(rows:List (List bJ))(fo fm:bJ):Prop where
 sig:mE sg
 AL:GF sg.cps.size rows
 ok:∀r∈rows,∀f∈r,Sj (aC fo.2 fm.2 rows) f
 yV:Sj (aC fo.2 fm.2 rows) fo
 yW:Sj (aC fo.2 fm.2 rows) fm
 pos:0<aC fo.2 fm.2 rows
 big:Bu (aC fo.2 fm.2 rows)
 ob:mZ λdx P o m=>∃d:l_×l_,∃kvs,H x=some (.ins C dx (sJ sg P o m (aC fo.2 fm.2 rows) d (fo.1*(aC fo.2 fm.2 rows / fo.2)) (fm.1*(aC fo.2 fm.2 rows / fm.2))))/\Ag K H P rows/\gI K H o fo/\gI K H m fm/\H d.1=some (.dT kvs)/\Eh kvs sg rows (aC fo.2 fm.2 rows) ∧
  ∃fs:List Int,(∀f∈fs,lD f)/\pL fs=aC fo.2 fm.2 rows/\H d.2=some (.lst (fs.map V.int))
theorem dI.same(e:aj H H')(h:dI K C H x sg rows fo fm):dI K C H' x sg rows fo fm:=by
 obtain⟨a,b,c,d,f,g,i,dx,P,o,m,dd,kvs,h1,h2,h3,h4,h5,h6,fs,h7,h8,h9⟩:=h;exact#[a,b,c,d,f,g,i,dx,P,o,m,dd,kvs,e _ _ h1,h2.dat (Dat.of e),h3.same e,h4.same e,e _ _ h5,h6,fs,h7,h8,e _ _ h9]
def JI(H:Hp)(x c:l_):Prop:=∀C dx fs,H x=some (.ins C dx fs)->fs.lookup ("factors" :w_)≠some (.ref c)
def P5(f:bJ):Prop:=Ci f/\Sm f.1
noncomputable def nE(rows:List (List bJ)):List (List bJ):=rows.map λr=>r.map cM
def NJ(K:zaa)(C:l_):Sp:=λvs H Q _=>M6 λ(x dx o m:l_) (sg:w_) (c:Cp) (rows:List (List bJ)) (fo fm:bJ)=>vs=[.ref x,.str sg,c.val,.ref o,.ref m]/\H x=some (.ins C dx [])/\mE sg/\sg.cps.size<=12 ∧
 Ed K H c rows/\GF sg.cps.size rows/\(∀r∈rows,∀f∈r,P5 f)/\gI K H o fo/\P5 fo/\gI K H m fm/\P5 fm ∧
 ∀H',dI K C H' x sg (nE rows) (cM fo) (cM fm)->(∀b u,H b=some u->b≠x->H' b=some u)->(∀c,H c≠none->JI H' x c)->Q .dX H'
def CN(K:zaa)(C:l_):Sp:=λvs H Q _=>Pf λ(x:l_) (sg:w_) (rows:List (List bJ)) (fo fm:bJ) (i j a b:Nat) (f:bJ)=>vs=[.ref x,.str ⟨#[a]⟩,.str ⟨#[b]⟩]/\dI K C H x sg rows fo fm ∧
 sg.cps[i]? =some a/\sg.cps[j]? =some b/\mH rows i j f/\∀H',aj H H'->Q (.int (f.1*(aC fo.2 fm.2 rows / f.2))) H'
def NG(K:zaa)(C:l_):Sp:=λvs H Q _=>tW λ(x:l_) (sg:w_) (rows:List (List bJ)) (fo fm:bJ)=>vs=[.ref x]/\dI K C H x sg rows fo fm/\Q (.int (fm.1*(aC fo.2 fm.2 rows / fm.2))) H
def Fy(K:zaa)(C:l_):Sp:=λvs H Q _=>Mm λ(x:l_) (n:Int) (sg:w_) (rows:List (List bJ)) (fo fm:bJ)=>vs=[.ref x,.int n]/\dI K C H x sg rows fo fm ∧
 ∀q H',aj H H'->H q=none->H' q=some (.tup [.int (cM (n,aC fo.2 fm.2 rows)).1,.int (cM (n,aC fo.2 fm.2 rows)).2])->Q (.ref q) H'
def bN(rows:List (List bJ)):Prop:=∀i j f g,mH rows i j f->mH rows j i g->f=g
def NQ(K:zaa)(C:l_):Sp:=λvs H Q _=>tW λ(x:l_) (sg:w_) (rows:List (List bJ)) (fo fm:bJ)=>vs=[.ref x]/\dI K C H x sg rows fo fm/\∀(b:Bool) H',(b=true↔bN rows)->aj H H'->Q (.bl b) H'
end
section
theorem fk{α β:Type}{l:List α}{g:α->β}{i:Nat}{y:β}(h:(l.map g)[i]? =some y):∃x,l[i]? =some x/\y=g x:=by
 rw[j_]at h
 cases e:l[i]? with
 |none=>rw[e]at h;cases h
 |some x=>rw[e]at h;exact#[x,Y,(Z_ h).symm]
def iP(kvs:List (List Key×V))(x:w_)(rows:List (List bJ))(u:Int)(n m:Nat):Prop :=
 ∀i j a b f,(i<n\/(i=n/\j<m))->x.cps[i]? =some a->x.cps[j]? =some b->mH rows i j f->eZ kvs (keyOf a b)=some (.int (f.1*(u / f.2)))
theorem iP.nil(x:w_)(rows:List (List bJ))(u:Int):iP [] x rows u 0 0:=λi j a b f h=>by omega
theorem F9(h:keyOf a b=keyOf c d):a=c/\b=d:=by
 unfold keyOf at h;have h1:=(List.cons.inj h).1;have h2:=(List.cons.inj (List.cons.inj h).2).1;have e1:(⟨#[a]⟩:w_)=⟨#[c]⟩:=Sum.inr.inj h1;have e2:(⟨#[b]⟩:w_)=⟨#[d]⟩:=Sum.inr.inj h2;have z1: #[a]= #[c]:=congrArg Str.cps e1;have z2: #[b]= #[d]:=congrArg Str.cps e2;exact#[by simpa using z1,by simpa using z2]
theorem iP.put(nd:x.cps.toList.Nodup)(h:iP kvs x rows u n m)(ha:x.cps[n]? =some a)(hb:x.cps[m]? =some b)(hf:mH rows n m f):
  iP (putK kvs (keyOf a b) (.int (f.1*(u / f.2)))) x rows u n (m+1):=by
 intro i j c d g hij hc hd hg;rw[nK];by_cases e:i=n/\j=m
 ·obtain⟨rfl,rfl⟩:=e;rw[ha]at hc;rw[hb]at hd;cases hc;cases hd;obtain⟨r,r1,r2⟩:=hf;obtain⟨r',r3,r4⟩:=hg;rw[r1]at r3;cases r3;rw[r2]at r4;cases r4;rw[if_pos rfl]
 ·have hne:¬keyOf c d=keyOf a b:=λz=>by
   obtain⟨z1,z2⟩:=F9 z;subst z1 z2;refine e #[?_,?_]
   ·exact Decidable.byContradiction λq=>fX nd hc ha q Y
   ·exact Decidable.byContradiction λq=>fX nd hd hb q Y
  rw[if_neg hne];exact h i j c d g (by omega) hc hd hg
theorem iP.row(hm:x.cps.size<=m)(h:iP kvs x rows u n m):iP kvs x rows u (n+1) 0:=by
 intro i j a b f hij ha hb hf;refine h i j a b f ?_ ha hb hf;have:j<x.cps.size:=by
  rw[←P_]at hb;have:=(m_.mp hb).1;simpa using this
 omega
theorem iP.all(hn:x.cps.size<=n)(h:iP kvs x rows u n 0):Eh kvs x rows u:=by
 intro i j a b f ha hb hf;refine h i j a b f (.inl ?_) ha hb hf;have:i<x.cps.size:=by
  rw[←P_]at ha;have:=(m_.mp ha).1;simpa using this
 omega
theorem zF(ha:0<a)(hb:0<b):0<lm a b:=by
 have h:=iU a hb;have:=qbC ha (qbb h) (qcB a b);exact Int.mul_pos this hb
theorem iM(a g:Int):(a / g).natAbs<=a.natAbs:=Int.natAbs_ediv_le_natAbs a g
theorem zG(a b:Int):(lm a b).natAbs<=a.natAbs*b.natAbs:=by
 unfold lm;rw[Int.natAbs_mul];exact qaO _ (iM a _)
theorem BK:∀(l:List Int) {u:Int},0<u->(∀b∈l,0<b)->0<l.foldl lm u
 |[],_,h,_=>h
 |b::l,_,h,hb=>BK l (zF h (hb b r_)) λc hc=>hb c (s_ _ hc)
theorem BN{B:Nat}:∀(l:List Int) {u:Int},(∀b∈l,b.natAbs<=B)->(l.foldl lm u).natAbs<=u.natAbs*B ^ l.length
 |[],_,_=>by simp
 |b::l,u,h=>by
  have h1:=BN (B:=B) l (u:=lm u b) λc hc=>h c (s_ _ hc);have h2:=zG u b;have h3:=h b r_;show(l.foldl lm (lm u b)).natAbs<=_;refine gc h1 ?_;rw[Q_,Nat.pow_succ,Nat.mul_comm (B ^ l.length) B,←Nat.mul_assoc];exact qaO _ (gc h2 (Nat.mul_le_mul_left _ h3))
theorem qS:∀{rows:List (List bJ)},(∀r∈rows,r.length=n)->rows.flatten.length=rows.length*n
 |[],_=>by simp
 |r::rows,h=>by
  rw[qaV,t_,h r r_,qS λr' hr=>h r' (s_ _ hr),Q_,qcW,Nat.add_comm]
theorem Ci.abs(h:Ci f):f.2.natAbs<=2 ^ 30:=by
 obtain⟨h1,h2⟩:=h;have:(2:Nat) ^ 30=1073741824:=by decide
 omega
theorem G6(ho:Ci fo)(hm:Ci fm)(h:∀r∈rows,∀f∈r,Ci f):0<aC fo.2 fm.2 rows:=by
 refine BK _ (zF (by have:=ho.1;omega) (by have:=hm.1;omega)) λb hb=>?_;obtain⟨f,hf,rfl⟩:=z_.mp hb;obtain⟨r,hr,hfr⟩:=qb2.mp hf;have:=(h r hr f hfr).1;omega
theorem G8(hn:n<=12)(hs:GF n rows)(ho:Ci fo)(hm:Ci fm)(h:∀r∈rows,∀f∈r,Ci f):Bu (aC fo.2 fm.2 rows):=by
 have h1:(aC fo.2 fm.2 rows).natAbs<=(lm fo.2 fm.2).natAbs*(2 ^ 30) ^ (rows.flatten.map (·.2)).length:=by
  refine BN _ λb hb=>?_;obtain⟨f,hf,rfl⟩:=z_.mp hb;obtain⟨r,hr,hfr⟩:=qb2.mp hf;exact(h r hr f hfr).abs
 have h2:(lm fo.2 fm.2).natAbs<=2 ^ 30*2 ^ 30:=gc (zG _ _) (qaK ho.abs hm.abs);have h3:(rows.flatten.map (·.2)).length<=144:=by
  rw[e_,qS hs.2,hs.1];exact gc (qaK hn hn) (by decide)
 have h4:(2 ^ 30:Nat) ^ (rows.flatten.map (·.2)).length<=(2 ^ 30) ^ 144:=qaN (by decide) h3;have h5:(2 ^ 30:Nat)*2 ^ 30*(2 ^ 30) ^ 144<=2 ^ 4380:=by
  rw[←Nat.pow_mul,←Nat.pow_add,←Nat.pow_add];exact qaN (by decide) (by decide)
 exact gc h1 (gc (qaK h2 h4) h5)
theorem oj(h:Ci f):Ci (cM f):=by
 obtain⟨h1,h2⟩:=h;have h0:0<f.2:=by omega
 have p:=oi f.1 h0;have l:=lo_le f.1 h0;exact#[by show 1<=(lo f.1 f.2).2;omega,by show(lo f.1 f.2).2<_;omega]
theorem Lx(h:Sm f.1):Sm (cM f).1:=o_ (iM _ _) h
theorem Bu.div(h:Bu u)(g:Int):Bu (u / g):=gc (iM _ _) h
theorem Lw(h:GF n rows):GF n (nE rows):=by
 refine#[by unfold nE;rw[e_];exact h.1,λr hr=>?_];obtain⟨r',h',rfl⟩:=z_.mp hr;rw[e_];exact h.2 r' h'
theorem zE{p:bJ->Prop}(h:∀r∈rows,∀f∈r,p (cM f)):∀r∈nE rows,∀f∈r,p f:=by
 intro r hr f hf;obtain⟨r',h',rfl⟩:=z_.mp hr;obtain⟨f',hf',rfl⟩:=z_.mp hf;exact h r' h' f' hf'
theorem mH.mem(h:mH rows i j f):∃r∈rows,f∈r:=by
 obtain⟨r,h1,h2⟩:=h;exact#[r,h_ h1,h_ h2]
end
section
theorem bV.off(hl:H l=some (.lst ys))(h:bV K H a xs):bV K (L2.upd H l o) a xs:=by
 rcases h with(h|⟨u,h⟩)|h
 ·exact .inl (.inl (by rw[ay (kg h hl (by intro z;cases z))];exact h))
 ·exact .inl (.inr #[u,by rw[ay (kg h hl (by intro z;cases z))];exact h])
 ·exact .inr h
theorem iH.off(hl:H l=some (.lst ys))(h:iH K H (.tup q) fs):iH K (L2.upd H l o) (.tup q) fs:=by
 obtain⟨ps,a,b⟩:=h;exact#[ps,bV.off hl a,Paired.jr b λ_ _ z=>bV.off hl z]
def Off(x:l_)(H H':Hp):Prop:=∀b u,H b=some u->b≠x->H' b=some u
theorem Off.of (e:aj H H'):Off x H H':=λb u h _=>e b u h
theorem Off.trans(e:Off x H H')(f:Off x H' GH):Off x H GH:=λb u h n=>f b u (e b u h n) n
theorem Off.set:Off x H (L2.upd H x o):=λb u h n=>by rw[ay n];exact h
theorem Off.dat(hx:H x=some (.ins C dx fs))(e:Off x H H'):Dat H H':=λb u n h=>e b u h λz=>by
 subst z;rw[hx]at h;cases h;exact n _ _ _ Y
theorem WY:(aQ a x []).length<1000:=o_ (aH (i_ 0)) (by decide)
theorem YH:(aQ a x (aQ b y [])).length<1000:=o_ (aH (aH (i_ 0))) (by decide)
theorem YG:(aQ a x (aQ b y (aQ c z []))).length<1000:=o_ (aH (aH (aH (i_ 0)))) (by decide)
theorem YF:(aQ a x (aQ b y (aQ c z (aQ d w [])))).length<1000:=o_ (aH (aH (aH (aH (i_ 0))))) (by decide)
theorem YE:(aQ a x (aQ b y (aQ c z (aQ d w (aQ e v []))))).length<1000:=o_ (aH (aH (aH (aH (aH (i_ 0)))))) (by decide)
theorem YD:(aQ a x (aQ b y (aQ c z (aQ d w (aQ e v (aQ g t [])))))).length<1000:=o_ (aH (aH (aH (aH (aH (aH (i_ 0))))))) (by decide)
theorem YC:(f6 x P o m u d).length<1000:=o_ (aH (aH (aH (aH (aH (aH (aH (i_ 0)))))))) (by decide)
theorem YB:(aQ a v (f6 x P o m u d)).length<1000:=o_ (aH (aH (aH (aH (aH (aH (aH (aH (i_ 0))))))))) (by decide)
theorem xE(f g:bJ):ju [.int f.1,.int f.2] [.int g.1,.int g.2]=true↔f=g:=by
 obtain⟨a,b⟩:=f;obtain⟨c,d⟩:=g;have e:ju [.int a,.int b] [.int c,.int d]=((a==c&&b==d)):=by
  simp[ju,qbe,EW]
 rw[e];simp
end
section
theorem DG{a b:Int}:lm a b*(qah a b:Int)=a*b:=by
 unfold lm;rw[qcc,Int.ediv_mul_cancel (qcB ..)]
theorem Q7(ha:0<a)(hb:0<b):lm a b=(Int.lcm a b:Int):=by
 have h1:=DG (a:=a) (b:=b);have h2:((Int.lcm a b*qah a b:Nat):Int)=((a.natAbs*b.natAbs:Nat):Int):=congrArg _ (Int.lcm_mul_gcd a b);rw[Int.natCast_mul,Int.natCast_mul]at h2;have e1:(a.natAbs:Int)=a:=by omega
 have e2:(b.natAbs:Int)=b:=by omega
 rw[e1,e2,←h1]at h2;exact(qbc (Int.ne_of_gt (iU a hb)) h2).symm
theorem IB(ha:0<a)(hb:0<b):lm a b∣z↔a∣z/\b∣z:=by
 rw[Q7 ha hb];constructor
 ·intro h;exact#[Int.dvd_trans (Int.dvd_lcm_left a b) h,Int.dvd_trans (Int.dvd_lcm_right a b) h]
 ·rintro⟨h1,h2⟩;have z1:a∣(z.natAbs:Int):=Int.dvd_natAbs.mpr h1;have z2:b∣(z.natAbs:Int):=Int.dvd_natAbs.mpr h2;have z3:Int.lcm a b∣z.natAbs:=Int.lcm_dvd z1 z2;exact Int.dvd_natAbs.mp (Int.natCast_dvd_natCast.mpr z3)
theorem BL{z:Int}:∀(l:List Int) {u:Int},0<u->(∀b∈l,0<b)->(l.foldl lm u∣z↔u∣z/\∀b∈l,b∣z)
 |[],u,_,_=>by simp
 |b::l,u,hu,hb=>by
  have hb0:=hb b r_;have ih:=BL (z:=z) l (zF hu hb0) λc hc=>hb c (s_ _ hc);rw[qch,ih,IB hu hb0];constructor
  ·rintro⟨⟨h1,h2⟩,h3⟩;refine#[h1,λc hc=>?_];rcases B_.mp hc with e|hc
   ·subst e;exact h2
   ·exact h3 c hc
  ·rintro⟨h1,h2⟩;exact#[#[h1,h2 b r_],λc hc=>h2 c (s_ _ hc)]
theorem G7{o m:Int}{rows:List (List bJ)}(ho:0<o)(hm:0<m)(h:∀r∈rows,∀f∈r,0<f.2):o∣aC o m rows/\m∣aC o m rows/\∀r∈rows,∀f∈r,f.2∣aC o m rows:=by
 have hp:∀b∈rows.flatten.map (·.2),0<b:=λb hb=>by
  obtain⟨f,hf,rfl⟩:=z_.mp hb;obtain⟨r,hr,hfr⟩:=qb2.mp hf;exact h r hr f hfr
 have q:(o∣aC o m rows/\m∣aC o m rows)/\∀b∈rows.flatten.map (·.2),b∣aC o m rows:=by
  have z:=(BL (z:=aC o m rows) _ (zF ho hm) hp).mp (Int.dvd_refl _);exact#[(IB ho hm).mp z.1,z.2]
 exact#[q.1.1,q.1.2,λr hr f hf=>q.2 _ (z_.mpr #[f,qb2.mpr #[r,hr,hf],Y])]
theorem E3{a b c:Int}(h:qah a b=1)(d:a∣b*c):a∣c:=by
 have d':a.natAbs∣b.natAbs*c.natAbs:=by rw[←Int.natAbs_mul];exact Int.natAbs_dvd_natAbs.mpr d
 have h':Nat.Coprime a.natAbs b.natAbs:=h;exact Int.natAbs_dvd_natAbs.mp (h'.dvd_of_dvd_mul_left d')
theorem By(hy:0<y)(hy':0<y')(h:qah x y=1)(h':qah x' y'=1)(e:x*y'=x'*y):x=x'/\y=y':=by
 have d1:y∣y':=E3 (b:=x) (by rw[Int.gcd_comm];exact h) (by rw[e];exact Int.dvd_mul_left _ _);have d2:y'∣y:=E3 (b:=x') (by rw[Int.gcd_comm];exact h') (by rw[←e];exact Int.dvd_mul_left _ _);have ey:=Int.dvd_antisymm (qbb hy) (qbb hy') d1 d2;subst ey;exact#[qbc (Int.ne_of_gt hy) e,Y]
theorem Jo(hb:0<b)(hg:qah ov un=1):qah (ov / (qah ov b:Int)) (un*(b / (qah ov b:Int)))=1:=by
 have h1:qah (ov / (qah ov b:Int)) (b / (qah ov b:Int))=1:=zD ov hb;have h2:qah (ov / (qah ov b:Int)) un=1:=by
  refine Nat.dvd_one.mp ?_;rw[←hg];refine Int.dvd_gcd (Int.dvd_trans (qcB ..) ?_) (qbp ..);exact#[_,(vq ov b).symm]
 have z:Nat.Coprime (ov / (qah ov b:Int)).natAbs (un.natAbs*(b / (qah ov b:Int)).natAbs):=Nat.Coprime.mul_right h2 h1;rw[←Int.natAbs_mul]at z;exact z
theorem DX(he:ov*p=n*un):ov / (qah ov b:Int)*(p*b)=n*(un*(b / (qah ov b:Int))):=by
 have h1:=vq ov b;have h2:=zC ov b;unfold lo at h1 h2;dsimp only at h1 h2;generalize ov / (qah ov b:Int)=x at *;generalize b / (qah ov b:Int)=y at *;generalize (qah ov b:Int)=g at *;rw[←qc9 n,←he,←h1,←h2]
 ac_rfl
theorem Q6(hU:0<U)(hun:0<un)(hg:qah ov un=1)(he:ov*U=n*un):cM (n,U)=(ov,un):=by
 have c:=vt n U;have e:(lo n U).1*un=ov*(lo n U).2:=by
  refine qbc (Int.ne_of_gt hU) ?_
  calc (lo n U).1*un*U=(lo n U).1*U*un:=by ac_rfl
   _=n*un*(lo n U).2:=by rw[c];ac_rfl
   _=ov*(lo n U).2*U:=by rw[←he];ac_rfl
 obtain⟨z1,z2⟩:=By (oi n hU) hun (zD n hU) hg e;show lo n U=(ov,un);rw[←z1,←z2]
theorem sC(hf:0<f.2)(hg:0<g.2):f.1*g.2=g.1*f.2↔cM f=cM g:=by
 obtain⟨a,b⟩:=f;obtain⟨c,d⟩:=g;have hb:0<b:=hf;have hd:0<d:=hg;have g1:=iU a hb;have g2:=iU c hd;have a1:=vq a b;have a2:=zC a b;have c1:=vq c d;have c2:=zC c d;have p1:=oi a hb;have p2:=oi c hd;have o1:=zD a hb;have o2:=zD c hd;show a*d=c*b↔lo a b=lo c d;generalize hx:lo a b=f at *;generalize hy:lo c d=g at *;obtain⟨x,y⟩:=f;obtain⟨x',y'⟩:=g;dsimp only at *;generalize (qah a b:Int)=u at *;generalize (qah c d:Int)=v at *;constructor
 ·intro e;rw[←a1,←a2,←c1,←c2]at e;have e2:x*y'=x'*y:=by
   have e3:(x*y')*(u*v)=(x'*y)*(u*v):=by
    calc (x*y')*(u*v)=x*u*(y'*v):=by ac_rfl
     _=x'*v*(y*u):=e
     _=(x'*y)*(u*v):=by ac_rfl
   exact qbc (Int.ne_of_gt (Int.mul_pos g1 g2)) e3
  obtain⟨z1,z2⟩:=By p1 p2 o1 o2 e2;rw[z1,z2]
 ·intro e;cases e;rw[←a1,←a2,←c1,←c2]
  calc x*u*(y*v)=(x*y)*(u*v):=by ac_rfl
   _=x*v*(y*u):=by ac_rfl
theorem BA(hf:0<f.2):cM (cM f)=cM f:=by
 have hb:0<(cM f).2:=oi f.1 hf;exact(sC hb hf).mp (vt f.1 f.2)
theorem uv{f:bJ}(hd:(cM f).2∣u):(cM f).1*(u / (cM f).2)*f.2=f.1*u:=by
 have c:=vt f.1 f.2
 calc (cM f).1*(u / (cM f).2)*f.2=(cM f).1*f.2*(u / (cM f).2):=by rw[qcc]
  _=f.1*(cM f).2*(u / (cM f).2):=by rw[show(cM f).1*f.2=f.1*(cM f).2 from c]
  _=f.1*u:=by rw[qc9,Int.mul_ediv_cancel' hd]
end
end GP
namespace L2
open PySem PySem.Spec PyProof.Rows
noncomputable def EO(scope:qcT)(X:Cx):Bool:=scope.names.all λy=>(y.2 != qak)||(X.env.scope.names.lookup y.1==some qck)
noncomputable def Xm(scope:qcT)(X:Cx)(N:List w_)(nt:Nat)(ix:List Nat):Bool:=(H_ ix.length).all λk=>match N[nt+k]?,ix[k]? with
 |some x,some j=>(X.N[j]? ==some x)&&(scope.names.contains (x,qak))&&((relabel scope X.env).names.lookup x==some qck)
 |_,_=>false
theorem eT.EO(kind:scope.kind= .function)(cell:∀y∈scope.names,y.2= .cell->(y.1,qak)∉scope.names)
  (names:∀y∈scope.names,y.2= .local->scope.names.lookup y.1=some .local) (hf:L2.EO scope X=true) (hl:N.length=nt+ix.length) (hx:Xm scope X N nt ix=true) (ok:X.Ok) :
  ∃cl,eT X scope cl N (Qu nt ix):=by
 refine eT.free kind cell names (λy hy hk=>?_) hl (λk j hj=>?_) ok
 ·have z:=x_.mp hf y hy;rw[hk]at z;have z2:X.env.scope.names.lookup y.1=some qck:=by simpa using z
  exact z2
 ·have hk:k<ix.length:=(m_.mp hj).1;have z:=x_.mp hx k (qam.mpr hk);have hn:nt+k<N.length:=by omega
  rw[d_ hn,hj]at z;simp only[N_]at z;obtain⟨⟨z1,z2⟩,z3⟩:=z;exact#[_,d_ hn,by simpa using z1,by simpa using z2,by simpa using z3]
theorem Kp.mL{r:St}:Kp (none::r) ((none::r).set 0 v):=λi x e=>by
 cases i with
 |zero=>cases e
 |succ i=>exact e
end L2
namespace GP
open PySem L2 eV
theorem vB:zad K t t=some true:=by unfold zad;rw[if_pos (by simp)]
theorem zH:zad K (.type "int") (.type "bool")=some false:=by kernel_rfl
theorem wO:zad K (.type "int") (.type "tuple")=some false:=by kernel_rfl
noncomputable def Wo(t:l_)(H:Hp):Hp:=λb=>if b=t then none else H b
theorem Wo.sub:aj (Wo t H) H:=λb u h=>by
 unfold Wo at h;by_cases e:b=t
 ·rw[if_pos e]at h;cases h
 ·rw[if_neg e]at h;exact h
theorem Wo.ne(h:Wo t H b=some u):b≠t:=λe=>by
 unfold Wo at h;rw[if_pos e]at h;cases h
theorem Wo.in(n:b≠t)(h:H b=some u):Wo t H b=some u:=by
 unfold Wo;rw[if_neg n];exact h
theorem Wo.free(h:H b=none):Wo t H b=none:=by
 unfold Wo;split
 ·rfl
 ·exact h
theorem Wo.set:Wo t (L2.upd H t o)=Wo t H:=by
 funext b;unfold Wo;by_cases e:b=t
 ·rw[if_pos e,if_pos e]
 ·rw[if_neg e,if_neg e,ay e]
theorem Wo.same(e:aj H H'):aj (Wo t H) (Wo t H'):=λb u h=>Wo.in (Wo.ne h) (e b u (Wo.sub b u h))
theorem Wo.upd:aj (Wo t H) (L2.upd H t o):=λb u h=>by rw[ay (Wo.ne h)];exact Wo.sub b u h
theorem G5(h:L2.upd H t o r=none):H r=none:=by
 by_cases e:r=t
 ·rw[e,ai]at h;cases h
 ·rw[ay e]at h;exact h
structure tX(K:zaa)(H:Hp)(s t:l_)(ns:List Int)(k:Int):Prop where
 sq:bq K (Wo t H) s (ns.map V.int)
 len:ns.length<=63
 at_:H t=some (.lst [.int k])
 k0:0<=k
theorem tX.WO(c:tX K H s t ns k):bq K H s (ns.map V.int):=aj.seq Wo.sub c.sq
theorem tX.QG(c:tX K H s t ns k)(o:HO):bq K (L2.upd H t o) s (ns.map V.int):=aj.seq Wo.upd c.sq
theorem tX.same(c:tX K H s t ns k)(e:aj H H'):tX K H' s t ns k:=#[aj.seq (Wo.same e) c.sq,c.len,e _ _ c.at_,c.k0]
theorem tX.off(c:tX K H s t ns k)(e:aj (Wo t H) (Wo t H'))(h:H' t=some (.lst [.int k']))(h0:0<=k'):tX K H' s t ns k':=#[aj.seq e c.sq,c.len,h,h0]
theorem JD(h1: -(10 ^ 40)<=c)(h2:c<=10 ^ 40):Sm c:=by
 have h:c.natAbs<=10 ^ 40:=by omega
 have h3:(10:Nat) ^ 40<2 ^ 200:=by decide
 exact o_ h h3
def Wy(f:bJ):Prop:=1<=f.2/\f.2<=999/\Sm f.1
theorem Wy.h(h:Wy f):P5 f:=#[#[h.1,by have:=h.2.1;omega],h.2.2]
def NF(K:zaa):Sp:=λvs H Q _=>mZ λ(s t:l_) (ns:List Int) (k:Int)=>vs=[.ref s,.ref t]/\tX K H s t ns k/\k<=100000 ∧
 ∀m:Int,0<=m->m<1999999973->Q (.int m) (L2.upd H t (.lst [.int (k+1)]))
structure qZ(K:zaa)(H:Hp)(l:l_)(rs:List l_)(rows:List (List bJ)):Prop where
 len:rs.length=rows.length
 at_:H l=some (.lst (rs.map V.ref))
 nd:rs.Nodup
 nl:l∉rs
 row:∀(i:Nat) r row,rs[i]? =some r->rows[i]? =some row->∃ps:List l_,H r=some (.lst (ps.map V.ref))/\Paired (gI K H) ps row
theorem qZ.same(e:aj H H')(h:qZ K H l rs rows):qZ K H' l rs rows :=
 #[h.len,e _ _ h.at_,h.nd,h.nl,λi r row h1 h2=>by
  obtain⟨ps,a,b⟩:=h.row i r row h1 h2;exact#[ps,e _ _ a,Paired.jr b λ_ _ z=>z.same e]]
theorem xP:∀{l₁:List α} {l₂:List β},l₁.length=l₂.length->(∀(i:Nat) x y,l₁[i]? =some x->l₂[i]? =some y->F x y)->Paired F l₁ l₂
 |[],[],_,_=>.nil
 |x::l₁,y::l₂,hl,h=>.cons (h 0 x y rfl rfl) (xP (by simpa using hl) λi a b h1 h2=>h (i+1) a b h1 h2)
theorem qZ.UU(h:qZ K H l rs rows):Ed K H (.lst l) rows:=by
 refine#[λx z=>(by cases z),rs.map Cp.lst,λd hd x z=>?_,?_,?_]
 ·obtain⟨q,_,e⟩:=z_.mp hd;rw[←e]at z;cases z
 ·rw[U_];exact bq.of h.at_
 ·refine p8 (xP h.len λi r row h1 h2=>?_);obtain⟨ps,a,b⟩:=h.row i r row h1 h2;exact#[ps,bq.of a,b]
def En(K:zaa):Sp:=λvs H Q _=>bU λ(a:l_) (ns:List Int)=>vs=[.ref a]/\bq K H a (ns.map V.int)/\ns.length<=63/\∀H',Q (.bl true) H'
end GP
namespace L2
open PySem PySem.Spec PyProof.Rows
section
def rC(wi:TI)(g:TG)(tt:TT)(te:TE)(lG:St->St):TE:=λσ H Q=>wi σ H λJ H1=>∀l,H1 l=none->∃W:Nat->Nat->List V->Hp->Prop,(∃m,W 0 m [] (upd H1 l (.lst []))) ∧
 ∀i m ys H2,W i m ys H2->(J.stop i H2/\Q (.ref l) H2) ∨
  (J.go i H2/\∀x H3,J.Ai i H2 x H3->g x (lG σ) H3 λxq H4=>Kp (lG σ) xq/\tt xq H4 λb H5 =>
   if b=true then te xq H5 (λy H6=>H6 l=some (.lst ys)/\ys.length<A_/\∃m',m'<m/\W (i+1) m' (ys++[y]) (upd H6 l (.lst (ys++[y]))))else ∃m',m'<m/\W (i+1) m' ys H5)
theorem Ri{A B:Prop}(h:if false=true then A else B):B:=by rw[if_neg K_]at h;exact h
theorem Rh{A B:Prop}(h:if true=true then A else B):A:=by rw[if_pos rfl]at h;exact h
def Yi(X:Cx)(ifs:List Expr)(t:TT):Prop :=
 ∀(pins:List (l_×qbW)) (s:v_) (σ:St) (H:Hp) (Q:Bool->Hp->Prop),Inv X pins σ H s->t σ H Q->F_ (model X.prog X.w) X.A (forIn ifs true λc r=>if r=true then do let ok ←isTrue c X.env (eval c X.env);pure (ForInStep.yield ok)else pure (ForInStep.yield r)) (TP X pins σ Q) X.xe s
set_option maxHeartbeats 2000000 in
theorem vN{X:Cx}{elt tg iter:Expr}{ifs:List Expr}{tt:TT}{scope:qcT}{pos pos':qc5}{wi:TI}{g:TG}{te:TE}{N:List w_}{lG:St->St}(hc:X.calm=true)(hS:X.Ok->∃cl,eT X scope cl N lG)(hi:PI X tg iter wi)
  (hg:∀cl C s H ex pn E,PG (eG X scope cl C N s H ex pn E) tg g) (he:∀cl C s H ex pn E,PE (eG X scope cl C N s H ex pn E) elt te) (ht:∀cl C s H ex pn E,Yi (eG X scope cl C N s H ex pn E) ifs tt) (hs:∀x,foldedSetIterable iter X.env x=pure x)
  {pins:List (l_×qbW)} {s:v_} {σ:St} {H:Hp} {Q:VK} {use:Option (n_->Sem Unit)} {QQ:n_->v_->Prop} (I:Inv X pins σ H s) (h:rC wi g tt te lG σ H Q)
  (IS:∀(l C:l_) (mC:w_->Option n_) (H':Hp) (s':v_),Inv X pins σ H' s'->oQ X pins H' C->s'.heap.Ns C mC->Q (.ref l) H'->compPost (model X.prog X.w) X.A X.xe use QQ (.ref l) C (.ok .next) s') :
  F_ (model X.prog X.w) X.A (comprehension (.ListComp elt [#[tg,iter,ifs,0]] scope pos) scope X.env pos' (newList []) false (eval iter X.env) use) QQ X.xe s:=by
 obtain⟨cl,S⟩:=hS I.ok;refine wpAny_comprehension_free (use:=use) Y hs S.clos S.kind S.names (dm (hi pins s σ H _ I h) λv s1 h1=>dm h1 λitv s2 h2=>?_);obtain⟨it,fp,tn,J,H2,e,I2,T,st2,f2,hq⟩:=h2;subst e;obtain⟨W,⟨m0,w0⟩,turn⟩:=hq _ I2.fresh;refine qa3 (Jp S λD5 h₁ G OM kp=>?_);have I3:Inv X pins σ (upd H2 s2.heap.objs.size (.lst [])) { s2 with heap:=s2.heap.push { cls:=.type "list",data:=.seq ([]:List n_).toArray } }:=I2.IA (t':=s2.toks) .nil (O_ _);have MF:∀b o,s2.heap.get? b=some o->(s2.heap.push { cls:=.type "list",data:=.seq ([]:List n_).toArray }).get? b=some o:=λb o e=>g_ _ e;have f3:∀b∈fp,oQ X pins (upd H2 s2.heap.objs.size (.lst [])) b/\b<(s2.heap.push { cls:=.type "list",data:=.seq ([]:List n_).toArray }).objs.size:=λb hb=>by
  obtain⟨o,ho,_⟩:=T.obj _ _ st2 b hb;have hlt:=C_ ho;obtain⟨f0,f1⟩:=f2 b hb;exact#[#[by rw[ay (V_ hlt)];exact f0,f1],C_ (MF b o ho)]
 have st3:tn 0 h₁:=T.keep _ _ _ st2 λb _ o e=>kp b o (MF b o e);generalize hR:(λr s'=>compPost (model X.prog X.w) X.A X.xe use QQ (.ref s2.heap.objs.size) (s2.heap.push { cls:=.type "list",data:=.seq ([]:List n_).toArray }).objs.size r s')=R;generalize BH:eG X scope D5 (s2.heap.push { cls:=.type "list",data:=.seq ([]:List n_).toArray }).objs.size N { s2 with heap:=s2.heap.push { cls:=.type "list",data:=.seq ([]:List n_).toArray } }
  (upd H2 s2.heap.objs.size (.lst [])) fp (X.pn++pins) (notedBy (model X.prog X.w) X.A (compEnvC scope D5 (s2.heap.push { cls:=.type "list",data:=.seq ([]:List n_).toArray }).objs.size X.env) λe s'=>R (.error e) s')=X'
 have I4:Inv X' [] (lG σ) (upd H2 s2.heap.objs.size (.lst [])) { s2 with heap:=h₁ }:=by
  subst BH;exact IE (s:={ s2 with heap:=s2.heap.push { cls:=.type "list",data:=.seq ([]:List n_).toArray } }) S G I3 f3 kp OM s2.toks
 have PG':PG X' tg g:=by subst BH;exact hg _ _ _ _ _ _ _
 have PE':PE X' elt te:=by subst BH;exact he _ _ _ _ _ _ _
 have PT':Yi X' ifs tt:=by subst BH;exact ht _ _ _ _ _ _ _
 have stat:∀{H':Hp},(∀b∈fp,H' b=none)->∀b∈fp,oQ X' [] H' b:=λhn b hb=>by
  subst BH;obtain⟨⟨_,f1,fn,_,f4,f5⟩,lt⟩:=f3 b hb;refine#[hn b hb,V_ lt,λz=>?_,.inl hb,λx c e=>(G.look x c e).elim (λz=>qaU (qcA lt z.1)) λz=>f4 x c (S.sub x c z),λp hp=>f5 p ?_]
  ·rcases B_.mp (I3.rF b z)with q|q
   ·exact f1 q
   ·exact fn q
  ·rcases S_.mp hp with z|z
   ·exact z
   ·cases z
 have hp1:X'.prog=X.prog:=by subst BH;rfl
 have hp2:X'.w=X.w:=by subst BH;rfl
 have hp3:X'.K=X.K:=by subst BH;rfl
 have Tf:X'.calm=true:=by subst BH;exact hc
 have GL:X'.A=X.A:=by subst BH;rfl
 have Vv:X'.env=compEnvC scope D5 (s2.heap.push { cls:=.type "list",data:=.seq ([]:List n_).toArray }).objs.size X.env:=by subst BH;rfl
 have Te:X'.xe=notedBy (model X.prog X.w) X.A X'.env λe s'=>R (.error e) s':=by subst BH;rfl
 have fin:∀{H':Hp} {s':v_},Inv X' [] (lG σ) H' s'->Q (.ref s2.heap.objs.size) H'->R (.ok .next) s':=by
  intro H' s' I5 q;subst hR;obtain⟨mC,XH,_⟩:=I5.loc;rw[Vv]at XH;have hok:mF X.prog X.w H' s'.heap:=by
   have z:=I5.hok;rw[hp1,hp2]at z;exact z
  have u:Un (frs X.stack) fp (upd H2 s2.heap.objs.size (.lst [])) H' (s2.heap.push { cls:=.type "list",data:=.seq ([]:List n_).toArray }) s'.heap:=by
   have z:=I5.base;subst BH;exact z
  have hC:H' (s2.heap.push { cls:=.type "list",data:=.seq ([]:List n_).toArray }).objs.size=none:=by
   have zf:=I5.free;rw[Vv]at zf;exact zf
  refine IS _ _ mC H' s' (I3.M4 (ch:=fp) (s':=s') (by have z:=I5.os;subst BH;exact z) u hok I5.bare (λb hb=>?_) (by have z:=I5.up;subst BH;exact gc I3.up z)) (I3.sG (i_ _) hC) XH q;obtain⟨⟨_,f1,_,f3',f4,f5⟩,_⟩:=f3 b hb;exact#[f3',f1,f4,f5]
 have loop:∀s3:v_,Inv X' [] (lG σ) (upd H2 s2.heap.objs.size (.lst [])) s3->tn 0 s3.heap →
   codeAny (model X.prog X.w) X.A (.compLoop (.ListComp elt [#[tg,iter,ifs,0]] scope pos) 0 (.ref it) (.ref s2.heap.objs.size) X'.env) R s3:=by
  intro s3 J3 t3;refine codeAny_loop Y (λn s'=>iG λi ys H'=>Inv X' [] (lG σ) H' s'/\tn i s'.heap/\(∀b∈fp,H' b=none)/\W i n ys H') ?_ m0 #[0,[],_,J3,t3,λb hb=>(f3 b hb).1.1,w0];rintro n s4 ⟨i,ys,H4,J4,t4,n4,w4⟩;show F_ _ _ ((compTurn (.ListComp elt [#[tg,iter,ifs,0]] scope pos) 0 (.ref it) (.ref s2.heap.objs.size) X'.env).onRaise (λx=>do noteFrame x X'.env;theTreesLotGoes x)) _ _ s4;refine wpAny_noted ?_;rw[compTurn_list];refine f_ (qcJ (f_ ?_));rcases turn i n ys H4 w4 with⟨stop,q⟩|⟨go,step⟩
  ·have z:=T.done X' hp1 hp2 hp3 Tf i [] s4 (lG σ) H4 (notedBy (model X.prog X.w) X.A X'.env λe s'=>R (.error e) s') J4 (stat n4) t4 stop;rw[GL]at z;refine qaC z (λr s5 ⟨hr,J5⟩=>?_) λ_ _ x=>x;subst hr;exact q_ (fin J5 q)
  ·have z:=T.item X' hp1 hp2 hp3 Tf i [] s4 (lG σ) H4 (notedBy (model X.prog X.w) X.A X'.env λe s'=>R (.error e) s') J4 (stat n4) t4 go;rw[GL]at z;refine qaC z (λr s5 ⟨u,hr,h5⟩=>?_) λ_ _ x=>x;subst hr;refine f_ (qaC h5 (λ_ s6 ⟨x,H6,J6,r6,y6,t6,n6⟩=>?_) λ_ _ x=>x);have J6':=J6.pinned (stat n6) (T.obj _ _ t6);have zg:=PG' _ s6 (lG σ) H6 x u _ J6' r6 (step x H6 y6);rw[hp1,hp2,GL,Te]at zg;refine f_ (qaC zg (λ_ s7 ⟨Cs,H7,J7,k7,q7⟩=>?_) λ_ _ x=>x);have zt:=PT' _ s7 Cs H7 _ J7 q7;rw[hp1,hp2,GL,Te]at zt;refine f_ (qaC zt (λok Yt Z3=>?_) λ_ _ x=>x);obtain⟨H7b,Sn,WW⟩:=Z3
   cases ok with
   |false =>
    obtain⟨m',hm,w8⟩:=Ri WW;refine q_ #[Y,m',hm,i+1,ys,_,?_,?_,?_,w8]
    ·refine Sn.Mt.weak ?_ ?_
     ·rw[S.len,Sn.len];subst BH;rfl
     ·exact k7
    ·exact T.keep _ _ _ t6 λb hb o e=>(Sn.pin (b,o) (qac _ (qac _ (iK hb e)))).1
    ·intro b hb;obtain⟨o,e,d⟩:=T.obj _ _ t6 b hb;exact(Sn.pin (b,o) (qac _ (qac _ (iK hb e)))).2.1
   |true =>
    have ze:=PE' _ Yt Cs H7b _ Sn (Rh WW);rw[hp1,hp2,GL,Te]at ze;refine f_ (f_ (qaC ze (λyv s8 h8=>?_) λ_ _ x=>x));obtain⟨y,H8,J8,r8,e8,z8,m',hm,w8⟩:=h8;have za:=cK (X:=X') _ s8 Cs H8 (.ref s2.heap.objs.size) [y] (.ref s2.heap.objs.size) [yv] (λ_ H9=>H9=upd H8 s2.heap.objs.size (.lst (ys++[y]))) J8 rfl (.cons r8 .nil) #[_,ys,y,rfl,rfl,e8,z8,rfl];rw[hp1,hp2,GL,Te]at za;refine f_ (qaC za (λ_ s9 h9=>?_) λ_ _ x=>x);obtain⟨_,H9,J9,_,e9⟩:=h9;subst e9;refine q_ (q_ #[Y,m',hm,i+1,ys++[y],_,?_,?_,?_,w8])
    ·refine J9.Mt.weak ?_ ?_
     ·rw[S.len,J9.len];subst BH;rfl
     ·exact k7
    ·exact T.keep _ _ _ t6 λb hb o e=>(J9.pin (b,o) (qac _ (qac _ (iK hb e)))).1
    ·intro b hb;obtain⟨o,e,d⟩:=T.obj _ _ t6 b hb;exact(J9.pin (b,o) (qac _ (qac _ (iK hb e)))).2.1
 have l0:=loop _ I4 st3;have l1:=codeAny_compStart_list l0 (T.self X.A 0 _ _ _ st3 l0);rw[Vv]at l1;subst hR;exact l1
theorem yc(hc:X.calm=true)(hS:X.Ok->∃cl,eT X scope cl N lG)(hi:PI X tg iter wi)
  (hg:∀cl C s H ex pn E,PG (eG X scope cl C N s H ex pn E) tg g) (he:∀cl C s H ex pn E,PE (eG X scope cl C N s H ex pn E) elt te) (hs:∀x,foldedSetIterable iter X.env x=pure x)
  {σ:St} {use:Option (n_->Sem Unit)} {QQ:n_->v_->Prop} (I:Inv X pins σ H s) (h:AK wi g te lG σ H Q)
  (IS:∀(l C:l_) (mC:w_->Option n_) (H':Hp) (s':v_),Inv X pins σ H' s'->oQ X pins H' C->s'.heap.Ns C mC->Q (.ref l) H'->compPost (model X.prog X.w) X.A X.xe use QQ (.ref l) C (.ok .next) s') :
  F_ (model X.prog X.w) X.A (comprehension (.ListComp elt [#[tg,iter,[],0]] scope pos) scope X.env pos' (newList []) false (eval iter X.env) use) QQ X.xe s:=by
 have e:AK wi g te lG=rC wi g (λ_ H Q=>Q true H) te lG:=by unfold AK rC;simp only[if_true]
 rw[e]at h;exact vN hc hS hi hg he (λ_ _ _ _ _ _ _ pins s σ H Q I q=>q_ #[H,I,q]) hs I h IS
theorem cI{X:Cx}{elt tg iter:Expr}{scope:qcT}{pos:qc5}{wi:TI}{g:TG}{te:TE}{N:List w_}{lG:St->St}(hc:X.calm=true)(hS:X.Ok->∃cl,eT X scope cl N lG)(hi:PI X tg iter wi)
  (hg:∀cl C s H ex pn E,PG (eG X scope cl C N s H ex pn E) tg g) (he:∀cl C s H ex pn E,PE (eG X scope cl C N s H ex pn E) elt te)
  (hs:∀x,foldedSetIterable iter X.env x=pure x:=by intro _;rfl):PE X (.ListComp elt [#[tg,iter,[],0]] scope pos) (AK wi g te lG):=by
 intro pins s σ H Q I h;rw[eval_ListComp];refine yc (use:=none) (QQ:=EP X pins σ Q) hc hS hi hg he hs I h ?_;intro l C mC H' s' I' fp hn q;exact#[mC,hn,λh' sb=>#[.ref l,H',I'.moved (ch:=[C]) (t':=s'.toks) (λb o hb e=>(sb.2 b (by simpa using hb)).trans e) (λb hb=>by rw[u_.mp hb];exact fp),Y,q]]
theorem j0{X:Cx}{i:Nat}{y:w_}{py spos:qc5}{elt tg iter:Expr}{scope:qcT}{pos:qc5}{wi:TI}{g:TG}{te:TE}{N:List w_}{lG:St->St}(hN:X.N.Nodup)(hi:X.N[i]? =some y)(hx:Loc X.env.scope y)
  (hc:X.calm=true) (hS:X.Ok->∃cl,eT X scope cl N lG) (hit:PI X tg iter wi)
  (hg:∀cl C s H ex pn E,PG (eG X scope cl C N s H ex pn E) tg g) (he:∀cl C s H ex pn E,PE (eG X scope cl C N s H ex pn E) elt te)
  (hsw:swapsWith (.ListComp elt [#[tg,iter,[],0]] scope pos) (some (.Name y py)) spos.line X.env=pure true:=by rfl)
  (hf:X.fn y=true\/X.env.scope.names.lookup y=some .local:=by first|exact .inl rfl|exact .inr rfl|assumption)
  (hs:∀x,foldedSetIterable iter X.env x=pure x:=by intro _;rfl):PS X (.Assign [.Name y py] (.ListComp elt [#[tg,iter,[],0]] scope pos) spos) (Kl (AK wi g te lG) (BI i)):=by
 intro pins s σ H D I h;rw[exec_Assign_Name_used _ _ _ _ hsw];refine f_ (qcJ (f_ ?_))
 show F_ _ X.A (do let _ ←comprehension (.ListComp elt [#[tg,iter,[],0]] scope pos) scope X.env _ (newList []) false (eval iter X.env) (some (assign (.Name y py) X.env))) _ _ s
 refine f_ (qaC (yc (use:=some (assign (.Name y py) X.env)) (QQ:=λ_ s'=>SP X pins D .next s') hc hS hit hg he hs I h ?_) (λ_ s' hq=>q_ (q_ hq)) λ_ _ e=>e);intro l C mC H' s' I' fp hn q;show F_ _ X.A (assign (.Name y py) X.env (.ref l)) _ _ _;refine wpAny_assign_Name (rE I' hN hi hx (v:=.ref l) Y (λs2 I2 sb=>?_) hf);obtain⟨a,sb,ha⟩:=sb;have nC:C≠a:=by
  obtain⟨_,f1,_,_,f4,_⟩:=fp;rcases ha with z|z
  ·rw[z];exact f1
  ·exact λe=>f4 y a z e.symm
 refine#[mC,hn.sameBut sb nC,λh' Ut=>?_];refine#[_,H',I2.moved (ch:=[C]) (t':=s2.toks) (λb o hb e=>(Ut.2 b (by simpa using hb)).trans e) (λb hb=>?_),q];rw[u_.mp hb];exact fp
end
section
theorem LC(hK:X.K=K'):JU X (N6 K'):=by subst hK;exact bG
end
end L2
namespace GP
open PySem L2 eV
section
theorem Wo.ay(n:q≠t):Wo t (L2.upd H q o)=L2.upd (Wo t H) q o:=by
 funext b;by_cases e:b=q
 ·subst e;rw[L2.ai];unfold Wo;rw[if_neg n,L2.ai]
 ·rw[L2.ay e];unfold Wo;split
  ·rfl
  ·rw[L2.ay e]
theorem Wo.step(e:aj (L2.upd H t o) H'):aj (Wo t H) (Wo t H'):=by
 have z:=Wo.same (t:=t) e;rw[Wo.set]at z;exact z
theorem Wo.back(e:aj (Wo t H) (Wo t H'))(ht:H' t=some o)(h:H' r=none):H r=none:=by
 cases q:H r with
 |none=>rfl
 |some u =>
  have n:r≠t:=λz=>by rw[z,ht]at h;cases h
  have z:=Wo.sub _ _ (e r u (Wo.in n q));rw[h]at z;cases z
theorem Paired.QD:∀{l₁:List α} {l₂:List β} (j:Nat),Paired F l₁ l₂->F x y->Paired F (l₁.set j x) (l₂.set j y)
 |_,_,_,.nil,_=>.nil
 |_,_,0,.cons r t,h=>.cons h t
 |_,_,j+1,.cons r t,h=>.cons r (Paired.QD j t h)
theorem qZ.put{row:List bJ}(h:qZ K H l rs rows)(hr:rs[i]? =some r)(wQ:rows[i]? =some row)
  (hps:H r=some (.lst (ps.map V.ref))) (hp:Paired (gI K H) ps row) (hf:gI K H p f):qZ K (L2.upd H r (.lst ((ps.map V.ref).set j (.ref p)))) l rs (rows.set i (row.set j f)):=by
 have Lo:l≠r:=λz=>h.nl (z▸h_ hr);refine#[by rw[qcg];exact h.len,by rw[L2.ay Lo];exact h.at_,h.nd,h.nl,λi' r' N5 h1 h2=>?_];have hi:i<rows.length:=(m_.mp wQ).1;by_cases e:i=i'
 ·subst e;rw[hr]at h1;cases h1;rw[List.getElem?_set,if_pos rfl,if_pos hi]at h2;cases h2;refine#[ps.set j p,by rw[L2.ai,List.map_set],?_];exact Paired.jr (Paired.QD j hp hf) λ_ _ z=>bV.off hps z
 ·rw[List.getElem?_set,if_neg e]at h2;obtain⟨ps',a,b⟩:=h.row i' r' N5 h1 h2;have n:r'≠r:=λz=>by
   subst z;exact e ((List.getElem?_inj (m_.mp hr).1 h.nd).mp (hr.trans h1.symm))
  exact#[ps',by rw[L2.ay n];exact a,Paired.jr b λ_ _ z=>bV.off hps z]
theorem qZ.snoc{row:List bJ}(h:qZ K H l rs rows)(e:aj H H')(hr:H r=none)(hps:H' r=some (.lst (ps.map V.ref)))(hp:Paired (gI K H') ps row):
  qZ K (L2.upd H' l (.lst (rs.map V.ref++[.ref r]))) l (rs++[r]) (rows++[row]):=by
 have hl':=e _ _ h.at_;have Lo:r≠l:=λz=>by rw[z,h.at_]at hr;cases hr
 have YM:r∉rs:=λz=>by
  obtain⟨i,hi,ei⟩:=qbd z;have hi2:i<rows.length:=by rw[←h.len];exact hi
  obtain⟨ps',a,_⟩:=h.row i r rows[i] (by rw[d_ hi,ei]) (d_ hi2);rw[hr]at a;cases a
 refine#[by rw[t_,t_,h.len];rfl,by rw[L2.ai,E_];rfl,?_,?_,λi r' N5 h1 h2=>?_]
 ·refine List.nodup_append.mpr #[h.nd,(by simp),λx hx y hy z=>?_];rw[u_.mp hy]at z;exact YM (z▸hx)
 ·intro z;rcases S_.mp z with z|z
  ·exact h.nl z
  ·exact Lo (u_.mp z).symm
 ·by_cases q:i<rs.length
  ·rw[qad q]at h1;rw[qad (by rw[←h.len];exact q)]at h2;obtain⟨ps',a,b⟩:=h.row i r' N5 h1 h2;have n:r'≠l:=λz=>h.nl (z▸h_ h1);exact#[ps',by rw[L2.ay n];exact e _ _ a,Paired.jr b λ_ _ z=>bV.off hl' (z.same e)]
  ·have q':rs.length<=i:=Nat.le_of_not_lt q;rw[qab q']at h1;rw[qab (by rw[←h.len];exact q')]at h2;have z:i-rs.length=0:=by
    have:=(m_.mp h1).1;simp at this;omega
   rw[z]at h1;rw[←h.len,z]at h2;cases h1;cases h2;exact#[ps,by rw[L2.ay Lo];exact hps,Paired.jr hp λ_ _ z=>bV.off hl' z]
end
section
section
variable{K:zaa}{C:l_}{H0 H H':Hp}{t l x o m:l_}{rs:List l_}{sg:w_}{rows:List (List bJ)}{fo fm:bJ}{k:Int}
end
theorem mH.lo(h:mH rows i j f):mH (nE rows) i j (cM f):=by
 obtain⟨r,h1,h2⟩:=h;exact#[r.map cM,by unfold nE;rw[j_,h1];rfl,by rw[j_,h2];rfl]
theorem mH.un(h:mH (nE rows) i j g):∃f,mH rows i j f/\g=cM f:=by
 obtain⟨r,h1,h2⟩:=h;obtain⟨r',e1,rfl⟩:=fk h1;obtain⟨f,e2,rfl⟩:=fk h2;exact#[f,#[r',e1,e2],Y]
def Mb(rows:List (List bJ)):Prop:=∀i j f g,mH rows i j f->mH rows j i g->f.1*g.2=g.1*f.2
theorem Jx(h:∀r∈rows,∀f∈r,0<f.2):bN (nE rows)↔Mb rows:=by
 have pos:∀{i j f},mH rows i j f->0<f.2:=λa=>by
  obtain⟨r,hr,hf⟩:=a.mem;exact h r hr _ hf
 constructor
 ·intro b i j f g hf hg;exact(sC (pos hf) (pos hg)).mpr (b i j _ _ hf.lo hg.lo)
 ·intro b i j f g hf hg;obtain⟨f',hf',rfl⟩:=hf.un;obtain⟨g',hg',rfl⟩:=hg.un;exact(sC (pos hf') (pos hg')).mp (b i j _ _ hf' hg')
end
end GP
namespace L2
open PySem PySem.Spec PyProof.Rows
def KDict(P:qal)(w:qaG)(K:zaa)(a:l_)(kvs:List (Key×V)):Prop:=(a==sysModules)=false/\∃vs,KV kvs vs/\∀h:qaE,K.In h->h.DictOf (fP P w) a vs
noncomputable def Wh(w:qaG)(x:w_×Tok×n_):DictEntry:=#[hashStr w x.1,.str x.1 x.2.1,x.2.2]
theorem KDict.mk{K:zaa}(ys:List (w_×Tok×n_))(hk:K.lookup a=some { cls:=.type "dict",data:=.dict es ep })
  (he:es.toList=ys.map (Wh w)) (hn:(ys.map (·.1)).Nodup) (hv:Vals vs (ys.map (·.2.2))) (hs:(a==sysModules)=false):KDict P w K a ((ys.map (·.1)).zipWith (λx v=>(Sum.inr x,v)) vs):=by
 refine#[hs,ys.map λy=>(Sum.inr y.1,y.2.2),?_,λh X=>#[_,es,ep,X a _ hk,#[Y,Y,Y],Y,?_,?_,?_]]
 ·clear hk he hn
  induction ys generalizing vs with
  |nil=>cases hv;exact .nil
  |cons y ys ih =>
   cases hv with
   |cons r t=>exact .cons #[Y,r] (ih t)
 ·intro e hm;rw[←Array.mem_toList_iff,he]at hm;obtain⟨y,_,rfl⟩:=z_.mp hm;exact#[Sum.inr y.1,nZ P w _ _,Y]
 ·rw[he];clear hk he hn hv
  induction ys with
  |nil=>exact .nil
  |cons y ys ih=>exact .cons (nZ P w _ _) Y ih
 ·rw[U_];have e:((λx:Key×n_=>x.1) ∘ λy:w_×Tok×n_=>((Sum.inr y.1:Key),y.2.2))=(λx:w_=>(Sum.inr x:Key)) ∘ (·.1):=rfl;rw[e,←U_];exact List.Pairwise.map _ (λa b h z=>h (Sum.inr.inj z)) hn
section
variable{X:Cx}
theorem Bh:jW X (compareOp .NotIn) (λx y H Q=>iG λa kvs k=>y= .ref a/\x=kV k/\KDict X.prog X.w X.K a kvs/\Q (.bl (!(eZ kvs k).isSome)) H):=by
 intro pins s σ H x y v u Q I rx ry h;obtain⟨a,kvs,k,rfl,rfl,⟨hs,vs,rel,dd⟩,q⟩:=h;cases ry;refine wpAny_notIn_of (vD rx) hs (dd _ I.nu).mapOf ?_;rw[←(rel.val k).jT];exact#[.bl _,H,I.tok _,Y,q]
def Qm(P:qal)(w:qaG)(K:zaa)(td ty:TE):TE:=λσ H Q=>td σ H λx H1=>ty σ H1 λy H2=>mZ λa kvs k v=>x= .ref a/\y=kV k/\KDict P w K a kvs/\eZ kvs k=some v/\Q v H2
theorem Ex(ho:PE X o td)(hi:PE X i ty)(hs:Pk i):PE X (.Subscript o i pos) (Qm X.prog X.w X.K td ty):=by
 intro pins s σ H Q I h;refine El PySem.F.slot_dict_getitem.lookup hs (dm (ho pins s σ H _ I h) λu s1 ⟨x,H1,I1,rx,q1⟩=>dm (hi pins s1 σ H1 _ I1 q1) λiv s2 ⟨y,H2,I2,ry,a,kvs,k,v,ex,ey,⟨hd,vs,rel,dd⟩,l,q2⟩=>?_);subst ex ey;obtain rfl:u=Value.ref a:=rx;obtain⟨w',hw,rw'⟩:=m5.some_of (v:=v) (o:=valueAt vs k) (by rw[←l];exact rel.val k);have d2:=dd _ I2.nu;exact#[d2.typeIs,wpAny_getItem_of (vD ry) d2.mapOf hw #[v,H2,I2.tok _,rw',q2]]
end
end L2
namespace GP
open PySem L2 eV
section
def TupAt(H:Hp)(q:l_)(f:bJ):Prop:=H q=some (.tup [.int f.1,.int f.2])
theorem TupAt.fr(h:TupAt H q f):gI K H q f:=bV.of h
theorem TupAt.off(hl:H l=some (.lst ys))(h:TupAt H q f):TupAt (L2.upd H l o) q f:=by
 have n:q≠l:=kg h hl (by intro z;cases z);show L2.upd H l o q=_;rw[L2.ay n];exact h
def Lq(c:Nat):Prop:=c=112\/c=97\/c=98
noncomputable def stp(q:bJ)(c:Nat):bJ:=(q.1+(if c=98 then 0 else 1),q.2+(if c=97 then 0 else 1))
def Of(sg x:w_):Prop:=∀c∈x.cps.toList,c∈sg.cps.toList
theorem DY{x:w_}(h:x.cps[i]? =some c):i<x.cps.size:=by
 rw[←P_]at h;have:=(m_.mp h).1;simpa using this
theorem zX{x:w_}{i c:Nat}(h:x.cps[i]? =some c):c∈x.cps.toList:=by
 rw[←P_]at h;exact h_ h
theorem gF{x:w_}{i c:Nat}(h:x.cps[i]? =some c):x.cps.toList[i]? =some c:=by
 rw[P_];exact h
theorem Jl{x:w_}(h:i<x.cps.size):∃c,x.cps[i]? =some c:=#[x.cps[i],by simp[h]]
noncomputable def jc(sg:w_)(rows:List (List bJ))(u:Int)(a b:Nat):Int :=
 match (rows[sg.cps.toList.idxOf a]?).bind (·[sg.cps.toList.idxOf b]?)with
 |some f=>f.1*(u / f.2)
 |none=>0
theorem nW{u:Int}(sq:GF sg.cps.size rows)(ha:a∈sg.cps.toList)(hb:b∈sg.cps.toList):
  iG λi j f=>sg.cps[i]? =some a/\sg.cps[j]? =some b/\mH rows i j f/\jc sg rows u a b=f.1*(u / f.2):=by
 have hi:=List.idxOf_lt_length_iff.mpr ha;have hj:=List.idxOf_lt_length_iff.mpr hb;have ei:sg.cps.toList[sg.cps.toList.idxOf a]? =some a:=by rw[d_ hi,List.getElem_idxOf hi]
 have ej:sg.cps.toList[sg.cps.toList.idxOf b]? =some b:=by rw[d_ hj,List.getElem_idxOf hj]
 have hi':sg.cps.toList.idxOf a<rows.length:=by rw[sq.1];simpa using hi
 have hj':sg.cps.toList.idxOf b<(rows[sg.cps.toList.idxOf a]).length:=by rw[sq.2 _ (D_ hi')];simpa using hj
 refine#[_,_,(rows[sg.cps.toList.idxOf a])[sg.cps.toList.idxOf b],by rw[←P_];exact ei,by rw[←P_];exact ej,#[_,d_ hi',d_ hj'],?_];unfold jc;rw[d_ hi']
 show(match (rows[sg.cps.toList.idxOf a])[sg.cps.toList.idxOf b]? with|some f=>f.1*(u / f.2)|none=>0)=_
 rw[d_ hj']
def HJ(K:zaa):Sp:=λvs H Q _=>iG λ(q:l_) (c:Nat) (ij:bJ)=>vs=[.ref q,.str ⟨#[c]⟩]/\gI K H q ij/\Lq c/\∀r,H r=none->Q (.ref r) (L2.upd H r (.tup [.int (stp ij c).1,.int (stp ij c).2]))
end
section
theorem bV.wo(ht:H t=some (.lst ys))(h:bV K H a xs):bV K (Wo t H) a xs:=by
 rcases h with(h|⟨u,h⟩)|h
 ·exact .inl (.inl (Wo.in (kg h ht (by intro z;cases z)) h))
 ·exact .inl (.inr #[u,Wo.in (kg h ht (by intro z;cases z)) h])
 ·exact .inr h
theorem dI.wo(ht:H t=some (.lst ys))(nf:JI H x t)(h:dI K C H x sg rows fo fm):dI K C (Wo t H) x sg rows fo fm:=by
 obtain⟨a,b,c,d,f,g,i,dx,P,o,m,dd,kvs,h1,⟨qs,h2,h2'⟩,h3,h4,h5,h6,fs,h7,h8,h9⟩:=h;have n:dd.2≠t:=λz=>nf _ _ _ h1 (by rw[jE,z]);refine#[a,b,c,d,f,g,i,dx,P,o,m,dd,kvs,Wo.in (kg h1 ht (by intro z;cases z)) h1,#[qs,bV.wo ht h2,Paired.jr h2' λq r z=>?_],bV.wo ht h3,bV.wo ht h4,Wo.in (kg h5 ht (by intro z;cases z)) h5,h6,fs,h7,h8,Wo.in n h9];obtain⟨ps,z1,z2⟩:=z;exact#[ps,bV.wo ht z1,Paired.jr z2 λ_ _ y=>bV.wo ht y]
end
end GP
namespace L2
open PySem PySem.Spec PyProof.Rows
section
def Ef(h:qaE)(φ:l_->Prop)(ea:l_)(cls:n_)(od:Option l_):Prop :=
 φ ea/\bU λvs sl=>h.get? ea=some #[cls,od,.fields vs,sl]/\(od=none->vs[2]? =some .none)/\(vs[1]? =some .none ∨
  iG λT oT ts=>vs[1]? =some (.ref T)/\T≠ea/\φ T/\h.get? T=some oT/\oT.data= .fields ts/\3<ts.size)
def xj(h:qaE)(φ:l_->Prop)(ea:l_)(cls:n_)(od:Option l_):Prop :=
 φ ea/\bU λvs sl=>h.get? ea=some #[cls,od,.fields vs,sl]/\(od=none->vs[2]? =some .none) ∧
  iG λT oT ts=>vs[1]? =some (.ref T)/\T≠ea/\φ T/\h.get? T=some oT/\oT.data= .fields ts/\3<ts.size
theorem xj.n(x:xj h φ ea cls od):Ef h φ ea cls od:=by
 obtain⟨p,vs,sl,e,c2,t⟩:=x;exact#[p,vs,sl,e,c2,.inr t]
theorem Ef.to(x:Ef h φ ea cls od)(m:∀b,φ b->ψ b):Ef h ψ ea cls od:=by
 obtain⟨p,vs,sl,e,c2,t⟩:=x;refine#[m _ p,vs,sl,e,c2,?_];rcases t with t|⟨T,oT,ts,a,b,c,d⟩
 ·exact .inl t
 ·exact .inr #[T,oT,ts,a,b,m _ c,d]
structure k8(fr:List l_)(φ:l_->Prop)(h h':qaE):Prop where
 keep:∀b o,h.get? b=some o->¬ φ b->b∉fr->h'.get? b=some o
 slot:∀b o,h.get? b=some o->¬ φ b->∃sl,h'.get? b=some { o with slots:=sl }
 there:∀b o,h.get? b=some o->∃o',h'.get? b=some o'
 size:h.objs.size<=h'.objs.size
theorem k8.refl:k8 fr φ h h:=#[λ_ _ e _ _=>e,λ_ o e _=>#[o.slots,e],λ_ o e=>#[o,e],i_ _]
theorem k8.trans(a:k8 fr φ h h1)(b:k8 fr φ h1 h2):k8 fr φ h h2 where
 keep:=λc o e n f=>b.keep c o (a.keep c o e n f) n f
 slot:=λc o e n=>by
  obtain⟨sl,e1⟩:=a.slot c o e n;obtain⟨GI,e2⟩:=b.slot c _ e1 n;exact#[GI,e2]
 there:=λc o e=>by
  obtain⟨o',e1⟩:=a.there c o e;exact b.there c o' e1
 size:=gc a.size b.size
section
variable{M:Model}{A:qaP}{E:n_->v_->Prop}{s:v_}{base:qaE}{env e0:Env}{r:List Env}{L ea:l_}{φ:l_->Prop}{cls:n_}{od:Option l_}
theorem BJ{Q:n_->v_->Prop}(hs:A.frames=some (e0::r))(hl:s.heap.FunFrames base (e0::r))(h0:e0.frame=some L)(he:env.frame=some L)
  (h:∀h',Heap.SlotsOnly ((e0::r).filterMap (·.frame)) s.heap h'->Q (.ref L) { s with heap:=h' }):F_ M A (PySem.frameOf env) Q E s:=by
 unfold PySem.frameOf;refine f_ (wpAny_frameEnvs hs ?_);rw[show((e0::r).dropWhile λx=>x.frame != env.frame)=e0::r by simp[List.dropWhile,h0,he]];unfold frameObject;refine f_ (f_ (wpAny_readyFrames_fun hl λh1 k1=>q_ ?_));rw[h0];exact q_ (h h1 k1)
theorem ya(hs:A.frames=some (e0::r))(hl:s.heap.FunFrames base (e0::r))(h0:e0.frame=some L)(hf:env.frame=some L)
  (pe:φ ea) (he:s.heap.get? ea=some #[cls,od,.fields vs,sl]) (h1:1<vs.size) (h2:od=none->vs[2]? =some .none) (new:∀b,s.heap.objs.size<=b->φ b)
  (q:∀h',k8 (frs (e0::r)) φ s.heap h'->xj h' φ ea cls od->Q () { s with heap:=h' }) :
  F_ M A (do let a ←PySem.frameOf env;let pl ←entryPlaceOf L hadNext;let b ←EntryCells.newEntry head a .none (rawInt L) .none pl;setField (.ref ea) 1 b) Q E s:=by
 have YN:ea∉(e0::r).filterMap (·.frame):=λhm=>by
  obtain⟨_,o,ho,nf⟩:=hl.mem hm;rw[he]at ho;cases ho;exact nf vs Y
 refine f_ (BJ hs hl h0 hf λg k=>?_);refine f_ (wpAny_entryPlaceOf λpl pk=>?_);simp only[EntryCells.newEntry,newFields];refine f_ (qa3 ?_ (pk.sizeOk5 _ _ _ _ _));have e1:g.get? ea=some #[cls,od,.fields vs,sl]:=(k.2.1 ea YN).trans he;have ne:g.objs.size≠ea:=qaU (C_ e1)
 generalize hob:({ cls:=.type "traceback",dict:=none,data:=.fields ([head,.ref L,.none,rawInt L,.none]++(if pl.isEmpty then G_ 6 Value.none else pl)).toArray }:qbW)=ob
 have e2:=g_ (h:=g) ob e1;refine qcx e2 Y h1 (q _ #[λb o e n f=>?_,λb o e n=>?_,λb o e=>?_,?_] #[pe,_,sl,qaq _ e2 Y,λz=>(Array.getElem?_setIfInBounds_ne (by decide)).trans (h2 z),g.objs.size,ob,_,?_,ne,new _ (qb8 k.1.symm),?_,by subst hob;rfl,?_])
 ·have be:b≠ea:=λz=>n (z▸pe);rw[qaj _ _ (Ne.symm be)];exact g_ _ ((k.2.1 b f).trans e)
 ·have be:b≠ea:=λz=>n (z▸pe);obtain⟨GI,e'⟩:=k.2.2 b o e;refine#[GI,?_];rw[qaj _ _ (Ne.symm be)];exact g_ _ e'
 ·by_cases be:b=ea
  ·subst be;exact#[_,qaq _ e2 Y]
  ·obtain⟨GI,e'⟩:=k.2.2 b o e;exact#[{ o with slots:=GI },(qaj _ _ (Ne.symm be)).trans (g_ _ e')]
 ·rw[Heap.size_after_update,qaX,k.1];exact qaA _
 ·simp[h1]
 ·rw[qaj _ _ (Ne.symm ne)];exact I_ _ (by subst hob;rfl)
 ·rw[y_,t_];exact J_ (by decide:3<5) (qan _ _)
theorem Bv(hs:A.frames=some (e0::r))(hl:s.heap.FunFrames base (e0::r))(h0:e0.frame=some L)(hf:env.frame=some L)
  (x:Ef s.heap φ ea cls od) (new:∀b,s.heap.objs.size<=b->φ b) (q:∀h',k8 (frs (e0::r)) φ s.heap h'->xj h' φ ea cls od->Q () { s with heap:=h' }) :
  F_ M A (noteFrame (.ref ea) env) Q E s:=by
 obtain⟨pe,vs,sl,he,c2,hv⟩:=x;unfold noteFrame;simp only[hf];rcases hv with h1|⟨T,oT,ts,h1,ne,pT,hT,hd,h3⟩
 ·refine f_ (qao he Y h1 ?_);rw[if_neg (by decide)];exact ya hs hl h0 hf pe he (qcy.mp h1).1 c2 new q
 ·have g3:ts[3]? =some ts[3]:=Array.getElem?_eq_getElem h3;refine f_ (qao he Y h1 ?_);rw[if_pos (show(Value.ref T != Value.none)=true by simp)];refine f_ (qao hT hd g3 ?_);by_cases e3:(ts[3]==rawInt L)=true
  ·rw[if_pos e3];exact q_ (q s.heap k8.refl #[pe,vs,sl,he,c2,T,oT,ts,h1,ne,pT,hT,hd,h3])
  ·rw[if_neg e3];refine f_ (qcx hT hd h3 ?_);have other:∀b,b≠T->(s.heap.update T (qc_ (·.setIfInBounds 3 Value.none))).get? b=s.heap.get? b:=λb z=>qaj _ _ (Ne.symm z);have n1:k8 (frs (e0::r)) φ s.heap (s.heap.update T (qc_ (·.setIfInBounds 3 Value.none))):=by
    refine#[λb o e n f=>(other b λz=>n (z▸pT)).trans e,λb o e n=>#[o.slots,(other b λz=>n (z▸pT)).trans e],λb o e=>?_,qb8 (Heap.size_after_update ..).symm];by_cases z:b=T
    ·subst z;exact#[_,qaq _ hT (qcl (qbB hd _))]
    ·exact#[o,(other b z).trans e]
   refine ya (s:={ s with heap:=s.heap.update T (qc_ (·.setIfInBounds 3 Value.none)) }) hs (hl.of_keeps λb o e nf=>#[o,(other b λz=>?_).trans e,Y]) h0 hf pe ((other ea (Ne.symm ne)).trans he) (qcy.mp h1).1 c2
    (λb hb=>new b (gc n1.size hb)) λh' n2 x2=>q h' (n1.trans n2) x2
   subst z;rw[hT]at e;cases e;exact nf ts hd
theorem qh{fr:List l_}{Q:Unit->v_->Prop}(x:xj s.heap φ ea cls od)(q:∀h',k8 fr φ s.heap h'->xj h' φ ea cls od->Q () { s with heap:=h' }):
  F_ M A (setFlight (.ref ea) fl) Q E s:=by
 obtain⟨pe,vs,sl,he,c2,T,oT,ts,h1,ne,pT,hT,hd,h3⟩:=x;unfold setFlight;refine f_ (qao he Y h1 ?_);rw[if_pos (show(Value.ref T != Value.none)=true by simp)];have other:∀(f:qbW->qbW) b,b≠T->(s.heap.update T f).get? b=s.heap.get? b:=λf b z=>qaj _ _ (Ne.symm z);refine qcx hT hd h3 (q _ #[λb o e n f=>(other _ b λz=>n (z▸pT)).trans e,λb o e n=>#[o.slots,(other _ b λz=>n (z▸pT)).trans e],λb o e=>?_,qb8 (Heap.size_after_update ..).symm]
  #[pe,vs,sl,(other _ ea (Ne.symm ne)).trans he,c2,T,_,_,h1,ne,pT,qaq _ hT (qcl (qbB hd _)),qbB hd _,by simp[h3]])
 by_cases z:b=T
 ·subst z;exact#[_,qaq _ hT (qcl (qbB hd _))]
 ·exact#[o,(other _ b z).trans e]
end
end
section
section
variable{X:Cx}{pins:List (l_×qbW)}{σ:St}{H H':Hp}{s:v_}
def Mp(X:Cx)(pins:List (l_×qbW))(H:Hp)(b:l_):Prop :=
 H b=none/\b≠X.env.locals/\b∉X.fs/\(X.s₀.heap.get? b=none\/b∈X.ex)/\(∀x c,X.env.cells.lookup x=some c->c≠b)/\∀p∈X.pn++pins,p.1≠b
theorem Inv.SG(I:Inv X pins σ H s)(hn:s.heap.get? b=none)(hH:H' b=none):Mp X pins H' b:=by
 refine#[hH,λz=>?_,λz=>?_,?_,λx c e z=>?_,λp hp z=>?_]
 ·obtain⟨m,⟨o,_,_,ho,_⟩,_⟩:=I.loc;rw[←z,hn]at ho;cases ho
 ·obtain⟨_,o,ho,_⟩:=I.qf.mem z;rw[hn]at ho;cases ho
 ·by_cases hx:b∈X.ex
  ·exact .inr hx
  ·left
   cases q:X.s₀.heap.get? b with
   |none=>rfl
   |some o =>
    obtain⟨o',e⟩:=I.base.there b o q hx;rw[hn]at e;cases e
 ·obtain⟨v,o,ho,_⟩:=I.cell x c e;rw[z,hn]at ho;cases ho
 ·have q:=(I.pin p hp).1;rw[z,hn]at q;cases q
theorem Inv.P9{b:l_}(I:Inv X pins σ H s)(hb:s.heap.objs.size<=b):Mp X pins H b:=I.SG (qcu hb) (I.hok.fresh hb)
theorem Un.noted(u:Un fs ex H₀ H h₀ h)(n:k8 fr φ h h')(new:∀b o,h₀.get? b=some o->b∉ex->¬ φ b)(hf:∀b o,h₀.get? b=some o->b∈fr->b∈fs):Un fs ex H₀ H h₀ h' where
 keep:=λb o e hn nf nx=>n.keep b o (u.keep b o e hn nf nx) (new b o e nx) λz=>nf (hf b o e z)
 slot:=λb o e hn hb nx=>by
  obtain⟨sl,e1⟩:=u.slot b o e hn hb nx;obtain⟨GI,e2⟩:=n.slot b _ e1 (new b o e nx);exact#[GI,e2]
 free:=u.free
 there:=λb o e nx=>by
  obtain⟨o',e1⟩:=u.there b o e nx;exact n.there b o' e1
 tups:=u.tups
 qg:=u.qg
 qB:=u.qB
theorem mF.noted(x:mF P w H h)(n:k8 fr φ h h')(hφ:∀b,φ b->H b=none)(hf:∀b∈fr,H b=none):mF P w H h':=λa u e =>
 (x a u e).stay (λb v hb q=>by
  have nb:H b≠none:=λz=>by
   rcases hb with y|y
   ·rw[y,e]at z;cases z
   ·rw[y]at z;cases z
  exact n.keep b v q (λz=>nb (hφ b z)) λz=>nb (hf b z)) (λ_ q=>q) λ_ _ q=>q
theorem Inv.noted(I:Inv X pins σ H s)(n:k8 (frs X.stack) (Mp X pins H) s.heap h'):Inv X pins σ H { s with heap:=h' }:=by
 have cellK:∀x c,X.env.cells.lookup x=some c->∀v,s.heap.IsCell c v->h'.IsCell c v:=λx c e v ⟨o,ho,hd⟩=>by
  obtain⟨sl,q⟩:=n.slot c o ho λk=>k.2.2.2.2.1 x c e rfl;exact#[_,q,hd]
 refine#[I.ok,I.os,I.bare,I.base.noted n (λb o e nx k=>?_) (λb o e z=>?_),?_,λx c e=>?_,I.free,I.ir,λp hp=>?_,I.hok.noted n (λb k=>k.1) I.yy,I.len,I.up]
 ·rcases k.2.2.2.1 with z|z
  ·rw[e]at z;cases z
  ·exact nx z
 ·rcases B_.mp (I.rF b z)with q|q
  ·subst q;exact absurd (J_ (C_ e) I.ok.above) (qav _)
  ·exact q
 ·obtain⟨m,⟨o,es,ep,ho,rr⟩,hl⟩:=I.loc;obtain⟨sl,q⟩:=n.slot _ o ho λk=>k.2.1 rfl;refine#[m,#[_,es,ep,q,rr],λi x v e1 e2 e3=>?_];obtain⟨u,rv,l⟩:=hl i x v e1 e2 e3;refine#[u,rv,?_];rcases l with l|⟨k,c,e,z⟩
  ·exact .inl l
  ·exact .inr #[k,c,e,cellK x c e _ z]
 ·obtain⟨v,z⟩:=I.cell x c e;exact#[v,cellK x c e v z]
 ·obtain⟨e,hn,ne,nf,d⟩:=I.pin p hp;refine#[n.keep p.1 p.2 e (λk=>k.2.2.2.2.2 p hp Y) λz=>?_,hn,ne,nf,d];rcases B_.mp (I.rF _ z)with q|q
  ·exact ne q
  ·exact nf q
end
theorem Un.same(u:Un fs ex H₀ H h₀ h)(k:∀b o,h₀.get? b=some o->h'.get? b=h.get? b):Un fs ex H₀ H h₀ h' where
 keep:=λb o e hn nf nx=>(k b o e).trans (u.keep b o e hn nf nx)
 slot:=λb o e hn hb nx=>by
  obtain⟨sl,e1⟩:=u.slot b o e hn hb nx;exact#[sl,(k b o e).trans e1]
 free:=u.free
 there:=λb o e nx=>by
  obtain⟨o',e1⟩:=u.there b o e nx;exact#[o',(k b o e).trans e1]
 tups:=u.tups
 qg:=u.qg
 qB:=u.qB
def vY(P:qal)(w:qaG):Ei:=λouter H s E e s'=>mZ λea cls od H'=>e= .ref ea/\s'.os=s.os/\AllBare s'.gens/\s.toks<=s'.toks/\Un (frs outer) [] H H' s.heap s'.heap/\mF P w H' s'.heap ∧
 Ef s'.heap (λb=>s.heap.get? b=none/\H' b=none) ea cls od/\E cls od H'
def Lets(X:Cx)(E:St->XK):Prop:=∀(pins:List (l_×qbW)) (σ:St) (H:Hp) (s:v_) (ea:l_) (cls:n_) (od:Option l_),Inv X pins σ H s->Ef s.heap (Mp X pins H) ea cls od->E σ cls od H->X.xe (.ref ea) s
theorem Lets.pass{σ:St}(L:Lets X E)(I:Inv X pins σ H s)(h:vY X.prog X.w X.stack H s (E σ) e s'):X.xe e s':=by
 obtain⟨ea,cls,od,H',rfl,os,bare,tt,un,hok,x,hE⟩:=h
 have I2:Inv X pins σ H' s':=I.M4 (ch:=[]) os un hok bare (λb z=>nomatch z) (gc I.up tt)
 exact L pins σ H' s' ea cls od I2 (x.to λb k=>I.SG k.1 k.2) hE
theorem Lets.passes(L:Lets X λ_=>E):Passes (vY X.prog X.w) X E:=λ_ _ _ _ _ _ I h=>L.pass I h
section
variable{P:qal}{w:qaG}{K:zaa}{mg:w_->Option n_}{base:qaE}
theorem kN:Lets (qm (vY P w) P w K mg base N qual scope f cd A outer s H E) λ_=>E:=by
 intro pins σ H' s' ea cls od I x hE;show F_ _ _ (leaving _ (.ref ea)) _ _ s';unfold leaving;refine f_ (Bv I.ok.frames I.stack Y Y x (λb hb=>I.P9 hb) λh1 n1 x1=>?_);refine qh (fr:=frs (qm (vY P w) P w K mg base N qual scope f cd A outer s H E).stack) x1 λh2 n2 x2=>?_;have I2:=I.noted (n1.trans n2);refine#[ea,cls,od,H',Y,I2.os,I2.bare,I2.up,I2.base,I2.hok,x2.n.to λb k=>#[?_,k.1],hE];rcases k.2.2.2.1 with z|z
 ·exact z
 ·exact nomatch z
theorem jB:
  PassesOwn (model P w) (qm (vY P w) P w K mg base N qual scope f cd A outer s H E).A (qm (vY P w) P w K mg base N qual scope f cd A outer s H E).env (qm (vY P w) P w K mg base N qual scope f cd A outer s H E).xe:=PassesOwn.leaving
theorem Nd.Lk{st:qcU}(F:Nd K x qual st f fd)(S:m7 N ps (cj st))(len:∀vs H Q E,sp vs H Q E->vs.length=ps.length)
  (hbody:∀(cdv:n_) (A:qaP) (outer:List Env) (s:v_) (H:Hp) (vs:List V) (Q:VK) (E:XK),g8 k (A.deeper (envOfC qual (cj st) s.heap.objs.size f cdv))->sp vs H Q E →
   ∃t,xh (qm (vY P w) P w K mg base N qual (cj st) f cdv A outer s H E) (gq st) t/\t { nx:=λ_ H'=>Q .dX H',rt:=Q } (start N vs) H):nI P w K mg base (vY P w) (k+1) f fd ps sp:=by
 obtain⟨oc,od,kV,doc,pm,an,cdv,ct,osl,rfl,lk,hcd⟩:=F.ex;exact M0 lk hcd S len λA outer s H vs Q E hr Co=>hbody cdv A outer s H vs Q E hr Co
end
theorem cE.got(x:cE P w H h a o):h.get? a≠none:=by
 cases o with
 |lst xs=>obtain⟨_,_,_,_,e⟩:=x;rw[e];exact λz=>nomatch z
 |tup xs=>obtain⟨_,_,_,ob,e,_⟩:=x;rw[e];exact λz=>nomatch z
 |dK kvs=>obtain⟨_,_,_,_,o,_,_,e,_⟩:=x;rw[e];exact λz=>nomatch z
 |dT kvs=>obtain⟨_,_,_,_,o,_,_,e,_⟩:=x;rw[e];exact λz=>nomatch z
 |set S n=>obtain⟨o,_,_,_,e,_⟩:=x;rw[e];exact λz=>nomatch z
 |ins C dx fs=>obtain⟨_,_,_,e,_⟩:=x;rw[e];exact λz=>nomatch z
 |own y=>obtain⟨_,e⟩:=x;rw[e];exact λz=>nomatch z
 |xd fs=>obtain⟨_,⟨_,_,_,e,_⟩,_⟩:=x;rw[e];exact λz=>nomatch z
 |SQ lo hi=>obtain⟨_,_,_,e⟩:=x;rw[e];exact λz=>nomatch z
 |DQ ob u=>obtain⟨e,_⟩:=x;rw[e];exact λz=>nomatch z
 |Mu ps=>have e:h.get? a=some _:=x;rw[e];exact λz=>nomatch z
 |met f y=>have e:h.get? a=some _:=x;rw[e];exact λz=>nomatch z
 |ext φ=>obtain⟨_,⟨_,e⟩,_⟩:=x;rw[e];exact λz=>nomatch z
theorem mF.none_of (x:mF P w H h)(e:h.get? a=none):H a=none:=by
 cases q:H a with
 |none=>rfl
 |some o=>exact absurd e (x a o q).got
set_option genInjectivity false in
structure XP where
 nm:w_
 q:w_
 N:l_
 bs:List n_
 bm:List n_
 hdct:Bool
 sn:List w_
 sub:List n_
 ab:Bool
 col:Option Bool
 dd:Option l_
 k0:Option n_
 k1:Option n_
 k2:Option n_
 k3:Option n_
 k5:Option n_
 mN:w_->Option n_
noncomputable abbrev XP.obj(d:XP)(C:l_)(newId:String):qbW:=excClassObj d.nm d.q C d.N d.bs d.bm d.hdct d.sn d.sub d.ab d.col d.dd d.k0 d.k1 d.k2 d.k3 d.k5 newId
structure Wv(K:zaa)(C:l_)(Bn B newId inN nid initId:String)(bmN bmB:List n_):Prop where
 fn:qc2 Bn newId inN bmN
 has:bmB.contains (.type Bn)=true
 fb:qc2 B nid initId bmB
 obj:∀h:qaE,K.In h->∃d:XP,h.get? C=some (d.obj C newId)/\h.Ns d.N d.mN/\d.mN "__init__" =none/\OwnTail h bmB d.bm
def Fd(K:zaa)(C:l_):Prop:=Pe λBn B newId inN nid initId bmN bmB=>Wv K C Bn B newId inN nid initId bmN bmB
theorem JY{K:zaa}(q:zbt K C [.type "ValueError",.type "Exception",.type "BaseException",.type "object"] "ValueError.__new__" =true):Fd K C:=by
 refine#[_,_,_,_,_,_,_,_,za2,PySem.F.excBase_ValueError.hasB,za2,λh k=>?_];unfold zbt at q;split at q
 ·rename_i dd cd sl hob
  split at q
  ·rename_i C' bm k0 k1 k2 k3 nn k5 hmr IK
   simp only[N_,beq_iff_eq,qbq]at q;obtain⟨⟨⟨⟨⟨e1,e2⟩,e3⟩,e4⟩,e5⟩,e6⟩:=q;subst e1 e2;obtain⟨nm,bs,mro,ns,qn,hd,sn,sub,ab,col,del⟩:=cd;dsimp only at hmr e3 e5 e6;subst hmr e3;have hsl:sl= (List.toArray [k0,k1,k2,k3,some (.builtin "ValueError.__new__"),k5]):=by
    obtain⟨l⟩:=sl;simp only at IK;rw[IK]
   subst hsl;exact#[#[nm,qn,ns,bs,bm,hd,sn,sub,ab,col,dd,k0,k1,k2,k3,k5,_],k _ _ hob,.of_isNs (zbu k e5),PySem.W.nsMap_none_of_in k e5 e6,zbv k e4]
  ·cases q
 ·cases q
def Np(C:l_)(E:St->XK)(t:TA):TS:=λ_ σ H=>t σ H λvs H1=>vs.length<=A_/\E σ (.ref C) none H1
theorem Bd{X:Cx}{E:St->XK}{C:l_}{x:w_}{np cpos pos:qc5}{e:Expr}{es:List Expr}{t:TA}(L:Lets X E)(OE:Fd X.K C)(hc:X.calm=true)
  (hg:Gl X x) (hm:X.mg x=some (.ref C)) (ha:PA X (e::es) t) (hdb:(x==("__debug__" :w_))=false:=by decide) (he:qaa (e::es) X.env=(false,eval e X.env)::qaa es X.env:=by rfl)
  (hpl:(backTo cpos (qaa es X.env)).any (·.1)=false:=by rfl):PS X (.Raise (some (.Call (.Name x np) (e::es) [] cpos)) none pos) (Np C E t):=by
 intro pins s σ H D I h;obtain⟨Bn,B,newId,inN,nid,initId,bmN,bmB,O⟩:=OE;obtain⟨d,hC,hN,hni,T⟩:=O.obj X.base I.ok.mod.MH;refine wpAny_Raise_call_subU (C:=C) (nm:=d.nm) (q:=d.q) (N:=d.N) (bs:=d.bs) (bm:=d.bm) (hdct:=d.hdct) (sn:=d.sn) (sub:=d.sub) (ab:=d.ab) (col:=d.col) (dd:=d.dd) (k0:=d.k0) (k1:=d.k1) (k2:=d.k2) (k3:=d.k3) (k5:=d.k5) O.fn O.has O.fb
  (mN:=d.mN) (T.hasType O.fb.hasBase) (I.ok.hd hc) (by rw[he];show(false||(backTo cpos (qaa es X.env)).any (·.1))=false;rw[hpl];rfl) hni (jC I hg hm #[rfl,?_] hdb)
 have z:=ha cpos pins s σ H _ I h;rw[he]at z ⊢;refine qcw (dm z λus s2 ⟨vs,H2,I2,r,hl,q2⟩=>#[Y,?_,I2.bk _ _ hC,hN.keeps I2.bk,T.keeps I2.bk,λh' ea hm=>?_])
 ·show us.length<=A_;rw[←r.length];exact hl
 ·obtain⟨t',ht,_,_⟩:=hm.there;exact L pins σ H2 _ ea (.ref C) none (I2.kept (t':=s2.toks) hm.keeps) #[I2.SG hm.new (I2.hok.none_of hm.new),_,_,ht,λ_=>rfl,.inl Y] q2
end
section
def Fm(X:Cx):Prop:=iG λe0 r L=>X.stack=e0::r/\e0.frame=some L/\X.env.frame=some L
theorem I8{K:zaa}:
  Fm (qm CX P w K mg base N qual scope f cd A outer s H E).Pz:=#[_,_,_,rfl,rfl,rfl]
noncomputable abbrev Cx.vS(X:Cx)(pn:List (l_×qbW))(xe:n_->v_->Prop):Cx:={ X with pn:=pn,xe:=xe }
theorem Cx.Ok.vS{X:Cx}(ok:X.Ok)(pn:List (l_×qbW))(xe:n_->v_->Prop):(X.vS pn xe).Ok :=
 #[ok.mod,ok.kind,ok.glob,ok.blt,ok.above,ok.inj,ok.has,ok.Mh,ok.hd,ok.frames,ok.stk,ok.Tz,ok.bs,ok.Jv,ok.Du,ok.Gn,ok.qf,ok.LU,ok.tk]
section
variable{X:Cx}{pins ps:List (l_×qbW)}{σ:St}{H:Hp}{s:v_}{xe:n_->v_->Prop}
theorem Inv.vS(I:Inv X pins σ H s):Inv (X.vS (X.pn++pins) xe) [] σ H s :=
 #[I.ok.vS _ _,I.os,I.bare,I.base,I.loc,I.cell,I.free,I.ir,λp hp=>I.pin p (by simpa using hp),I.hok,I.len,I.up]
theorem Inv.pV(ok:X.Ok)(I:Inv (X.vS (X.pn++pins) xe) ps σ H s):Inv X pins σ H s :=
 #[ok,I.os,I.bare,I.base,I.loc,I.cell,I.free,I.ir,λp hp=>I.pin p (qbm _ hp),I.hok,I.len,I.up]
theorem Mp.pV(k:Mp (X.vS (X.pn++pins) xe) ps H b):Mp X pins H b :=
 #[k.1,k.2.1,k.2.2.1,k.2.2.2.1,k.2.2.2.2.1,λp hp=>k.2.2.2.2.2 p (qbm _ hp)]
theorem xj.to{φ ψ:l_->Prop}(x:xj h φ ea cls od)(m:∀b,φ b->ψ b):xj h ψ ea cls od:=by
 obtain⟨p,vs,sl,e,c2,T,oT,ts,a,b,c,d⟩:=x;exact#[m _ p,vs,sl,e,c2,T,oT,ts,a,b,m _ c,d]
end
noncomputable abbrev TH:=n_->Option l_->TS
def PH(X:Cx)(hs:List ExceptHandler)(th:TH):Prop :=
 ∀(pins:List (l_×qbW)) (s:v_) (σ:St) (H:Hp) (D:Ends) (ea:l_) (cls:n_) (od:Option l_),Inv X pins σ H s->xj s.heap (Mp X pins H) ea cls od->th cls od D σ H →
  F_ (model X.prog X.w) X.A (handleBy (.ref ea) X.env hs) (SP X pins D) X.xe s
def Uc(tb:(St->XK)->TS)(th:TH):TS:=λD σ H=>tb (λσ' cls od H'=>th cls od D σ' H') D σ H
theorem Ib(F:Fm X)
  (hb:∀(E:St->XK) (pn:List (l_×qbW)) (xe:n_->v_->Prop),Lets (X.vS pn xe) E->PassesOwn (model X.prog X.w) X.A X.env xe->xh (X.vS pn xe) body (tb E)) (hh:PH X (h₀::hs) th) :
  PS X (.Try body (h₀::hs) [] [] pos) (Uc tb th):=by
 intro pins s σ H D I h;obtain⟨e0,r,L,hst,h0,hf⟩:=F;refine wpAny_Try_except ?_;generalize Vd:(λe s₁=>F_ (model X.prog X.w) X.A (noteFrame e X.env) (λ_ s₂=>F_ (model X.prog X.w) X.A (setFlight e none) (λ_ s₃=>F_ (model X.prog X.w) X.A (handleBy e X.env (h₀::hs)) (SP X pins D) X.xe s₃) X.xe s₂) X.xe s₁)=xe;have LX:Lets (X.vS (X.pn++pins) xe) λσ' cls od H'=>th cls od D σ' H':=by
  intro ps σ' H' s' ea cls od J x q;show xe (.ref ea) s';subst Vd;have fr:=J.ok.frames;have sf:=J.stack;refine Bv (s:=s') (e0:=e0) (r:=r) (by rw[←hst];exact fr) (by rw[←hst];exact sf) h0 hf x (λb hb=>J.P9 hb) λh1 n1 x1=>?_;refine qh (fr:=frs (e0::r)) x1 λh2 n2 x2=>?_;have GK:=n1.trans n2;rw[←hst]at GK;have J2:=J.noted GK;exact hh pins _ σ' H' D ea cls od (J2.pV I.ok) (x2.to λb k=>k.pV) q
 have po:PassesOwn (model X.prog X.w) X.A X.env xe:=by
  subst Vd;exact PassesOwn.looking
 refine qaC (hb _ _ xe LX po [] s σ H D I.vS h) (λf s1 q=>?_) λe s1 q=>?_
 ·cases f with
  |next =>
   obtain⟨σ',H',J,q⟩:=q;exact qcM #[σ',H',J.pV I.ok,q]
  |brk =>
   obtain⟨σ',H',J,q⟩:=q;exact#[σ',H',J.pV I.ok,q]
  |cont =>
   obtain⟨σ',H',J,q⟩:=q;exact#[σ',H',J.pV I.ok,q]
  |ret u =>
   obtain⟨v,σ',H',J,rv,q⟩:=q;exact#[v,σ',H',J.pV I.ok,rv,q]
 ·have q':xe e s1:=q;subst Vd;exact q'
noncomputable abbrev Cx.within(X:Cx)(ea:l_):Cx:={ X with A:=X.A.mark (some (.ref ea)),calm:=false,xe:=λ_ _=>False }
theorem Cx.Ok.within{X:Cx}(ok:X.Ok)(ea:l_):(X.within ea).Ok :=
 #[ok.mod,ok.kind,ok.glob,ok.blt,ok.above,ok.inj,ok.has,ok.Mh,(λz=>nomatch z),ok.frames,ok.stk,ok.Tz,ok.bs,ok.Jv,ok.Du,ok.Gn,ok.qf,ok.LU,ok.tk]
section
variable{X:Cx}{pins:List (l_×qbW)}{σ:St}{H:Hp}{s:v_}{ea:l_}
theorem Inv.within(I:Inv X pins σ H s)(ea:l_):Inv (X.within ea) pins σ H s:=#[I.ok.within ea,I.os,I.bare,I.base,I.loc,I.cell,I.free,I.ir,I.pin,I.hok,I.len,I.up]
theorem Inv.behind(ok:X.Ok)(I:Inv (X.within ea) pins σ H s):Inv X pins σ H s:=#[ok,I.os,I.bare,I.base,I.loc,I.cell,I.free,I.ir,I.pin,I.hok,I.len,I.up]
end
noncomputable def M1(ea:l_)(cls:n_)(od:Option l_):HO:=.ext λh=>bU λvs sl=>h.get? ea=some #[cls,od,.fields vs,sl]
noncomputable def Ends.un(D:Ends)(i:Nat):Ends:={ nx:=λσ H=>D.nx (σ.set i none) H,rt:=D.rt,bk:=λσ H=>D.bk (σ.set i none) H,ct:=λσ H=>D.ct (σ.set i none) H }
theorem Inv.Hh{σ:St}(I:Inv X pins σ H s)(k:Mp X pins H a)(new:cE X.prog X.w (upd H a o) s.heap a o):Inv X pins σ (upd H a o) s:=by
 obtain⟨hn,k1,k2,k3,k4,k5⟩:=k;refine#[I.ok,I.os,I.bare,#[I.base.keep,I.base.slot,λb ob q n hx=>?_,I.base.there,λb xs q=>?_,λb ob u q=>?_,λb ps q=>?_],I.loc,I.cell,?_,λx c e=>?_,λp hp=>?_,λb u q=>?_,I.len,I.up]
 ·have ne:b≠a:=λz=>by
   rcases k3 with y|y
   ·rw[←z,q]at y;cases y
   ·exact hx (z▸y)
  rw[ay ne];exact I.base.free b ob q n hx
 ·have q':=I.base.tups b xs q;rw[ay (bA q' hn)];exact q'
 ·have q':=I.base.qg b ob u q;rw[ay (bA q' hn)];exact q'
 ·obtain⟨more,q'⟩:=I.base.qB b ps q;exact#[more,by rw[ay (bA q' hn)];exact q']
 ·rw[ay (Ne.symm k1)];exact I.free
 ·rw[ay (k4 x c e)];exact I.ir x c e
 ·obtain⟨e,n,r⟩:=I.pin p hp;exact#[e,by rw[ay (k5 p hp)];exact n,r]
 ·by_cases hb:b=a
  ·subst hb;rw[ai]at q;cases q;exact new
  ·rw[ay hb]at q;exact(I.hok b u q).stay (λc v _ r=>r) (λc r=>by rw[ay (bA r hn)];exact r) λc xs r=>by rw[ay (bA r hn)];exact r
structure XB(K:zaa)(D:l_):Prop where
 hd:zaq K D=true
 ty:zbc K (.ref D)=some (.type "type")
 be:zav K D (.type "BaseException")=some true
theorem Gp{K:zaa}(k:K.In s.heap)(he:s.heap.get? ea=some o)(hc:o.cls= .ref C)
  (h0:zat K (.ref C) (.ref D)=some b) (h2:XB K D) (q:Q b s):F_ M A (excMatches (.ref ea) (.ref D)) Q E s:=by
 have h1:PySem.W.kitCls K (.ref C) (.ref D)=some b:=by
  obtain⟨cd,hcd,_⟩:=zak h2.hd
  show(if((za3 K D).isSome&&zbc K (.ref D)==some (.type "type"))=true then zat K (.ref C) (.ref D)else none)=some b
  rw[if_pos (by rw[hcd,h2.ty];simp)];exact h0
 obtain⟨lt,li,ls⟩:=PySem.W.kit_cls (M:=M) k h1;have lb:=za4 (M:=M) k h2.be;have le:zau M s.heap (typeOf (.ref ea)) (.ref C):=by
  intro A' Q' E' s' kk qq;unfold typeOf;exact f_ (qcV (kk _ _ he) (q_ (by rw[hc];exact qq)))
 have l0:zau M s.heap (isInstance (.ref D) (.type "tuple")) false:=lt.andThen (PySem.W.Looks.of_pure tc_notTuple);have l1:zau M s.heap (isExcClass (.ref D)) true:=by
  unfold isExcClass;exact li.andThen lb
 unfold excMatches;refine f_ (l0.here (f_ ?_));simp only[qaF,if_false];refine q_ ?_;rw[qbJ];refine f_ (f_ (f_ (l1.here ?_)));simp only[Bool.not_true,qaF,if_false];refine q_ (q_ ?_);refine f_ (le.here (f_ ?_));rw[qbJ];refine f_ (f_ (ls.here ?_))
 cases b with
 |true =>
  simp only[if_true];exact q_ (q_ (q_ q))
 |false =>
  simp only[qaF,if_false];exact q_ (q_ (q_ q))
theorem name_goes{σ:St}(I:Inv X pins σ H s)(hN:X.N.Nodup)(hi:X.N[i]? =some n)(hl:X.env.scope.names.lookup n=some .local)
  (h:∀s',Inv X pins (σ.set i none) H s'->Q () s'):F_ M A (do bindName X.env n .none;unbindBehindTheSuite X.env n pos) Q E s:=by
 obtain⟨m,hn,hlk⟩:=I.loc;refine wpAny_nameGoes_keeps hl hn (by rw[I.ok.kind];rfl) λh' v hn' sb=>h _ ?_;have cellK:∀x c,X.env.cells.lookup x=some c->∀v,s.heap.IsCell c v->h'.IsCell c v:=λx c e v ⟨o,ho,hd⟩=>#[o,(sb.2 c (I.M3 x c e)).trans ho,hd];refine#[I.ok,I.os,I.bare,I.base.same λb o e=>sb.2 b (V_ (J_ (C_ e) I.ok.above)),#[_,hn',λj y u e1 e2 e3=>?_],λx c e=>?_,I.free,I.ir,λp hp=>?_,I.hok.but I.free sb,by rw[qcg];exact I.len,qcp I.up]
 ·have ji:i≠j:=λz=>by
   subst z;rw[qb7 (by rw[I.len];exact(m_.mp hi).1)]at e2;cases e2
  rw[qcv ji]at e2;obtain⟨w,rv,l⟩:=hlk j y u e1 e2 e3;refine#[w,rv,?_];rcases l with⟨k1,k2⟩|⟨k,c,e,z⟩
  ·refine .inl #[k1,?_];have ne:y≠n:=λz=>ji (vm hN hi (z▸e1))
   show(if y=n then v else m y)=some w
   rw[if_neg ne];exact k2
  ·exact .inr #[k,c,e,cellK y c e _ z]
 ·obtain⟨v,z⟩:=I.cell x c e;exact#[v,cellK x c e v z]
 ·obtain⟨e,hh,ne,r⟩:=I.pin p hp;exact#[(sb.2 _ ne).trans e,hh,ne,r]
def Ys(K:zaa)(C:l_)(i:Nat)(ts:TS)(th:TH):TH:=λcls od D σ H=>bU λCe b=>cls= .ref Ce/\zat K (.ref Ce) (.ref C)=some b ∧
 if b=true then ∀ea,H ea=none->ts (D.un i) (σ.set i (some (.ref ea))) (upd H ea (M1 ea cls od))else th cls od D σ H
theorem QO{X:Cx}{i:Nat}{n x:w_}{C:l_}{b₀:qcU}{suite:List qcU}{np pos:qc5}{rest:List ExceptHandler}{ts:TS}{th:TH}(hN:X.N.Nodup)(hi:X.N[i]? =some n)(hl:X.env.scope.names.lookup n=some .local)(hg:Gl X x)(hm:X.mg x=some (.ref C))
  (IT:XB X.K C) (Zh:∀ea,xh (X.within ea) (b₀::suite) ts) (hr:PH X rest th) (hdb:(x==("__debug__" :w_))=false:=by decide) :
  PH X (.ExceptHandler (some (.Name x np)) (some n) (b₀::suite) pos::rest) (Ys X.K C i ts th):=by
 intro pins s σ H D ea cls od I x h;obtain⟨Ce,b,rfl,hk,h⟩:=h;obtain⟨pe,vs,sl,he,hT⟩:=id x;refine wpAny_handleBy_cons (codeAny_handlers_test (jC (X:=X.within ea) (I.within ea) hg hm ?_ hdb)) (by intro q;cases q);refine Gp I.nu he Y hk IT ?_
 cases b with
 |false=>exact hr pins s σ H D ea _ od I x h
 |true =>
  refine codeAny_handlers_suite_as ?_;refine qh (fr:=frs X.stack) x λh1 n1 x1=>?_;have I1:=I.noted n1;obtain⟨W0,Yl,Us,Tn,_⟩:=id x1;have I2:Inv X pins σ (upd H ea (M1 ea (.ref Ce) od)) { s with heap:=h1 }:=I1.Hh W0 #[#[Yl,Us,Tn],#[_,Tn],λh1 h2 ⟨v,s',e⟩ k=>#[v,s',k _ e]];refine uB (X:=X.within ea) (I2.within ea) hN hi (.inl hl) (v:=.ref ea) Y (λs2 I3=>?_) (.inr hl);have z:=Zh ea pins s2 _ _ (D.un i) I3 (h ea W0.1);refine qaC z (λf s3 q=>?_) λ_ _ z=>qaI z
  cases f with
  |next =>
   obtain⟨σ',H',J,q⟩:=q;exact name_goes (J.behind I.ok) hN hi hl λs4 J4=>#[_,_,J4,q]
  |brk =>
   obtain⟨σ',H',J,q⟩:=q;exact name_goes (J.behind I.ok) hN hi hl λs4 J4=>#[_,_,J4,q]
  |cont =>
   obtain⟨σ',H',J,q⟩:=q;exact name_goes (J.behind I.ok) hN hi hl λs4 J4=>#[_,_,J4,q]
  |ret u =>
   obtain⟨v,σ',H',J,rv,q⟩:=q;exact name_goes (J.behind I.ok) hN hi hl λs4 J4=>#[v,_,_,J4,rv,q]
theorem Oa:PH X [] λ_ _ _ _ _=>False:=λ_ _ _ _ _ _ _ _ _ _ h=>qaI h
def Nu(sp:Sp)(vX:List V)(E:St->XK)(t:TA):TE:=λσ H Q=>t σ H λvs H1=>sp (vs++vX) H1 Q (E σ)
section
variable{X:Cx}{k:Nat}{f C:l_}{fd:qce}{ps:List w_}{sp:Sp}{vX:List V}{ds:List n_}{E:St->XK}{x:w_}{p pos:qc5}{e:Expr}{es:List Expr}{t:TA}
theorem Ik(F:nI X.prog X.w X.K X.mg X.base (vY X.prog X.w) k f fd ps sp)(hr:g8 k X.A)(hg:Gl X x)(hm:X.mg x=some (.ref f))(hk:zap X.K (.ref f)=true)(hb:Binds X.K fd ps ds)(hd:Vals vX ds)(LX:Lets X E)
  (ha:PA X (e::es) t) (hdb:(x==("__debug__" :w_))=false:=by decide) (he:qaa (e::es) X.env=(false,eval e X.env)::qaa es X.env:=by rfl) (hpl:(backTo pos (qaa es X.env)).any (·.1)=false:=by rfl) :
  PE X (.Call (.Name x p) (e::es) [] pos) (Nu sp vX E t):=by
 intro pins s σ H Q I h;refine qbg (jC I hg hm ?_ hdb);refine za1 (h₀:=X.base) I.ok.mod.MH hk (dm (ha pos pins s σ H _ I h) λus s1 ⟨vs,H1,I1,r,q⟩=>#[I1.nu,?_]) he hpl;have r2:Vals (vs++vX) (us++ds):=r.append hd;have hl:(us++ds).length=ps.length:=by rw[←r2.length];exact F.len _ _ _ _ q
 refine qb9 (qbM (F.run X.A X.stack s1 H1 #[us,[]] (us++ds) (vs++vX) Q (E σ) hr I1.L6 (hb s1 us I1.nu hl) r2 q) λrr s' hq=>?_)
 cases rr with
 |error e=>exact LX.pass I1 hq
 |ok fl =>
  cases fl with
  |ret u=>exact I1.after hq
  |next=>exact qaI hq
  |brk=>exact qaI hq
  |cont=>exact qaI hq
end
end
section
end
section
section
variable{X:Cx}
abbrev TJ:=St->Hp->w_->(w_->Hp->Prop)->Prop
def PJ(X:Cx)(es:List Expr)(tj:TJ):Prop:=∀(pins:List (l_×qbW)) (s:v_) (σ:St) (H:Hp) (acc:w_) (R:w_->Hp->Prop),Inv X pins σ H s->tj σ H acc R →
 Joins (model X.prog X.w) X.A X.xe (evalEach es X.env) acc (λout s1=>out.length<=A_/\∃H1,Inv X pins σ H1 s1/\R out H1) s
theorem N8:PJ X [] (λ_ H acc R=>acc.length<=A_/\R acc H):=λ_ _ _ H _ _ I h=>#[h.1,H,I,h.2]
theorem t9{e:Expr}{es:List Expr}{te:TE}{tj:TJ}(he:PE X e te)(hr:PJ X es tj)(hx:evalEach (e::es) X.env=eval e X.env::evalEach es X.env:=by rfl):
  PJ X (e::es) (λσ H acc R=>te σ H λv H1=>∃y,v= .str y/\(acc++y).length<=A_/\tj σ H1 (acc++y) R):=by
 intro pins s σ H acc R I h;rw[hx];refine dm (he pins s σ H _ I h) λu s1 ⟨v,H1,I1,r,y,e1,hl,q⟩=>?_;subst e1;obtain⟨t,rfl⟩:=r;exact#[y,t,Y,hl,hr pins s1 σ H1 _ R I1 q]
theorem xU:∀{parts:List (Sem n_)} {acc:w_} {Q Q':w_->v_->Prop} {s:v_},Joins M A E parts acc Q s->(∀out s1,Q out s1->Q' out s1)->Joins M A E parts acc Q' s
 |[],_,_,_,_,h,k=>k _ _ h
 |_::_,_,_,_,_,h,k=>dm h λ_ _ ⟨y,t,e,hl,q⟩=>#[y,t,e,hl,xU q k]
theorem La(h:PJ X (v₁::v₂::rest) tj):PE X (.JoinedStr (v₁::v₂::rest) pos) (λσ H Q=>tj σ H Str.empty λout H1=>Q (.str out) H1):=by
 intro pins s σ H Q I q;refine wpAny_JoinedStr (xU (h pins s σ H Str.empty _ I q) λout s1 ⟨hl,H1,I1,q1⟩=>#[hl,.str out,H1,I1.tok _,#[_,Y],q1])
theorem Ih(he:PE X value te):PE X (.FormattedValue value (-1) none pos) (λσ H Q=>te σ H λv H1=>∃i:Int,v= .int i/\i.natAbs.log2<1920/\Q (.str (p_ (toString i))) H1):=by
 intro pins s σ H Q I h;refine wpAny_FormattedValue_plain (dm (he pins s σ H _ I h) λu s1 ⟨v,H1,I1,r,i,e,hl,q⟩=>?_);subst e;obtain⟨t,rfl⟩:=r;exact wpAny_formatField_int hl #[.str (p_ (toString i)),H1,I1.tok _ (by show s1.toks<=_;omega),#[_,Y],q]
end
structure Mn(K:zaa)(C:l_):Prop where
 ga:zaf K (.ref C) "__getattribute__" =some (some (.builtin "BaseException.__getattribute__"))
 gn:zaf K (.ref C) "__getattr__" =some none
 hd:zaq K C=true
 ha:zaf K (.ref C) "__class__" =some (some (.builtin "object.__class__"))
 hn:zbd K (.builtin "object.__class__") "__get__" =some (some (.builtin "getset_descriptor.__get__"))
 htk:zbn K (.builtin "object.__class__")=some true
 hm:zav K C (.type "object")=some true
 hb:zav K C (.type "BaseException")=some true
theorem Gq{K:zaa}(Z:Mn K C)(k:K.In s.heap)(I:zao s.heap x ox C od)
  (h:Q (some (.ref C)) { s with toks:=s.toks+1 }):F_ (model prog w) A (getAttr? (.ref x) "__class__") Q E s:=by
 obtain⟨hh,g,d,t,os⟩:=s;have L0:=I.type (M:=model prog w);have L1:=zas (M:=model prog w) k Z.ga;have L2:=zas (M:=model prog w) k Z.gn;have LB:=za4 (M:=model prog w) k Z.hb;have hf:za5 K C od "__class__" =some (.bind (.builtin "getset_descriptor.__get__") (.builtin "object.__class__")):=by
  obtain⟨cd,hc,_⟩:=zak Z.hd;unfold za5;rw[hc,qb3,Z.ha,qb3];simp[Z.hn,Z.htk]
 have LF:=zbw (M:=model prog w) k I hf;unfold getAttr? getAttrBy? getAttrBy;refine f_ (wpAny_mkText (f_ (qbT (qaw (f_ (L0.at (f_ (L1.at ?_))))))));show F_ _ _ (getAttrByItsOwn _ _ _ _ _ _) _ _ _;unfold getAttrByItsOwn hookBefore;refine f_ (L2.at ?_);refine f_ (qbT (qaw ?_));show F_ _ _ (boundAndCalled _ _ _) _ _ _;unfold boundAndCalled;refine f_ (wpAny_of_eq (PySem.F.attr_ValueError.ga.bind (.ref x)) ?_);show F_ _ _ (call (.builtin "BaseException.__getattribute__") [.ref x,.str "__class__" t]) _ _ _;refine qb9 (qbO PySem.F.attr_ValueError.ga.plain zbx ?_);have c1:builtinKind "BaseException.__getattribute__" =some .slot:=by decide +kernel
 have c2:splitId "BaseException.__getattribute__" =some ("BaseException","__getattribute__"):=by decide +kernel
 have c3:=zby (.ref x) (.str "__class__" t);simp only[checkBuiltinCall,c1,c2];refine f_ (f_ (L0.at (LB.at ?_)));simp only[Bool.not_true,qaF,if_false];unfold argsOk at c3;refine wpAny_of_eq c3 ?_;unfold Builtin.«object.__getattribute__»;refine f_ (q_ (f_ (q_ (f_ (L0.at (f_ (LF.at ?_)))))));show F_ _ _ (holding [.builtin "object.__class__"] (call (.builtin "getset_descriptor.__get__") [.builtin "object.__class__",.ref x,.ref C]) >>= ret) _ _ _;refine f_ (qaw (qb9 (PySem.W.class_get (ox:=ox) (od:=od) k I Z.hm ?_)));refine q_ ?_;show F_ _ _ (handedOut (.ref C)) _ _ _;exact PySem.W.handed_on Y (q_ h)
end
section
theorem BD{K:zaa}{ox:qbW}{od:Option qbW}(Z:Mn K C):PySem.W.KitX K (.ref x) (.ref C) (λh=>zao h x ox C od) where
 ty:=λ_ _ _ I=>I.type
 it:=λ_ _ k _=>by
  obtain⟨cd,hcd,_⟩:=zak Z.hd;unfold za3 at hcd;split at hcd
  ·rename_i c1 d1 cd1 Us hob
   intro A1 Q1 E1 s1 kk q;unfold isType loadHead;exact f_ (qcV (kk _ _ (k _ _ hob)) (q_ q))
  ·cases hcd
 ne:=λh tp dd its n sl k htp=>by
  obtain⟨cd,hcd,_⟩:=zak Z.hd;refine Bool.eq_false_iff.mpr λq=>?_;have e:=Value.ref.inj (beq_iff_eq.mp q);subst e;unfold za3 at hcd;split at hcd
  ·rename_i c1 d1 cd1 Us hob
   have z:=(k _ _ hob).symm.trans htp;cases z
  ·cases hcd
 ca:=λk I q=>Gq Z k I q
end
end L2
namespace GP
open PySem L2 eV
end GP
namespace L2
open PySem PySem.Spec PyProof.Rows
theorem rK:TX X (λx lo hi H Q=>∃y,x= .str y/\y.length<=A_/\Q (.str (Txt.slice y lo hi)) H):=by
 intro pins s σ H x v vl vu lo hi sl Q I rx hs pl pu h;obtain⟨y,rfl,hz,q⟩:=h;obtain⟨t,rfl⟩:=rx;refine#["str",_,PySem.F.slot_str_getitem.lookup,typeIs_str _ _ _,?_];have fin:(Txt.slice y lo hi).length<=A_/\∀t' k,s.toks<=k->EP X pins σ Q (.str (Txt.slice y lo hi) t') { s with toks:=k }:=#[gc (Txt.slice_le y _ _) hz,λt' k hk=>#[.str (Txt.slice y lo hi),H,I.tok k hk,#[_,rfl],q]];refine TK.bP (i_ s.toks) ?_
 cases pl with
 |none =>
  cases pu with
  |none=>exact qb4 (l:=none) (u:=none) (st:=none) hs Y (post_val_or_str fin)
  |int j u=>exact qb4 (l:=none) (u:=some (j,u)) (st:=none) hs Y (post_val_or_str fin)
 |int i u =>
  cases pu with
  |none=>exact qb4 (l:=some (i,u)) (u:=none) (st:=none) hs Y (post_val_or_str fin)
  |int j u'=>exact qb4 (l:=some (i,u)) (u:=some (j,u')) (st:=none) hs Y (post_val_or_str fin)
end L2
namespace GP
open PySem L2 eV
def xg(K:zaa)(H:Hp)(d:l_)(row:List bJ):Prop:=∃ps:List l_,H d=some (.lst (ps.map V.ref))/\Paired (gI K H) ps row
theorem xg.same(e:aj H H')(h:xg K H d row):xg K H' d row:=by
 obtain⟨ps,a,b⟩:=h;exact#[ps,e _ _ a,Paired.jr b λ_ _ z=>z.same e]
theorem Lu(hl:H l=some (.lst (ds.map V.ref)))(h:Paired (xg K H) ds rows):Ed K H (.lst l) rows:=by
 refine#[λx z=>(by cases z),ds.map Cp.lst,λd hd x z=>?_,?_,?_]
 ·obtain⟨q,_,e⟩:=z_.mp hd;rw[←e]at z;cases z
 ·show bq K H l _;rw[U_];exact bq.of hl
 ·have go:∀{ds:List l_} {rows:List (List bJ)},Paired (xg K H) ds rows->Paired (iH K H) (ds.map Cp.lst) rows:=by
   intro ds rows h
   induction h with
   |nil=>exact .nil
   |cons r _ ih =>
    obtain⟨ps,a,b⟩:=r;exact .cons #[ps,bq.of a,b] ih
  exact go h
theorem Ji{n:Nat}(h:n<=xs.length):lA xs none (some (n:Int))=xs.take n:=by
 unfold lA;rw[HT.nQ,HT.jA,qcz,Nat.sub_zero,qbK h]
theorem BZ{n:Nat}(h:n<=xs.length):lA xs (some (n:Int)) none=xs.drop n:=by
 unfold lA;rw[HT.nQ,HT.jA,qbK h,Y_];rw[qaY];exact i_ _
end GP
namespace L2
open PySem PySem.Spec PyProof.Rows
section
section
variable{prog:qal}{w:qaG}{A:qaP}{E:n_->v_->Prop}{h:qaE}{gs:Array GenState}{dr:Drawn}{tk:Nat}{os:OsState}
variable{nm qn:w_}{C N:l_}{bs tl bmB bmN:List n_}{hdct:Bool}{sn:List w_}{sub:List n_}{ab:Bool}{col:Option Bool}{dd:Option l_}{k0 k1 k2 k3 k5:Option n_}{B Bn newId nid initId inN:String}
theorem uw(Fn:qc2 Bn newId inN bmN)(hBn:bmB.contains (.type Bn)=true)(FB:qc2 B nid initId bmB)(T:OwnTail h bmB tl)
  (hob:h.get? C=some (excClassObj nm qn C N bs tl hdct sn sub ab col dd k0 k1 k2 k3 k5 newId)) (hns:h.Ns N mN) (OT:mN "__init__" =some (.ref fI)) (hfo:h.get? fI=some oI) (hfc:oI.cls= .type "function")
  (hq:∀h' e,Heap.MadeExcOf h h' e (.ref C) rest->F_ (model prog w) A (call (.ref fI) (.ref e::rest)) (λr s'=>r= .none/\Q (.done (.ret (.ref e))) s') E #[h',gs,dr,tk,os]) (hz:rest.length<=A_) :
  F_ (model prog w) A (Builtin.«type.__call__» #[.ref C::rest,[]]) Q E #[h,gs,dr,tk,os]:=by
 repeat (first|with_reducible refine qcs hob ?_|with_reducible refine wpAny_madeBy_exc hob ?_|wp_step)
 refine codeAny_call_builtin_code (Code.quiet_builtin _ Fn.quiet) (wpAny_check_new_subU Fn hBn T hob ?_);refine codeAny_exc_new_subU Fn hBn FB T hob ?_ hz;show F_ _ _ _ _ _ _;have kp:∀b o,h.get? b=some o->((h.push { cls:=.type "tuple",data:=.seq rest.toArray }).push { cls:=.ref C,data:=.fields (List.toArray [.ref h.objs.size,.none,.none,.none,.bool false,.none]) }).get? b=some o:=λb o e=>g_ _ (g_ _ e);have Rv:=kp _ _ hob;have VM:=kp _ _ hfo;have Vx:=hns.keeps kp;have T1:=T.keeps kp;have MU:((h.push { cls:=.type "tuple",data:=.seq rest.toArray }).push { cls:=.ref C,data:=.fields (List.toArray [.ref h.objs.size,.none,.none,.none,.bool false,.none]) }).get? (h.objs.size+1)=some { cls:=.ref C,data:=.fields (List.toArray [.ref h.objs.size,.none,.none,.none,.bool false,.none]) }:=by heap_get
 have hself:(Value.ref C::tl).contains (.ref C)=true:=by simp
 unfold isInstance
 repeat (first|with_reducible refine qcs MU ?_|(with_reducible refine wpAny_isSubtype_exc Rv ?_;rw[hself])|wp_step)
 show F_ _ _ (typeLookup (.ref C) _) _ _ _;refine wpAny_typeLookup_tail Rv Vx T1 FB.mroIs FB.init.lookup ?_;rw[OT];refine qaw (f_ ?_);unfold bindSpecial;refine f_ (wpAny_typeOf (T:= "function") #[_,VM,hfc] ?_);rw[if_pos (by decide)];have made:Heap.MadeExcOf h ((h.push { cls:=.type "tuple",data:=.seq rest.toArray }).push { cls:=.ref C,data:=.fields (List.toArray [.ref h.objs.size,.none,.none,.none,.bool false,.none]) }) (h.objs.size+1) (.ref C) rest :=
  #[kp,qcu (qaA _),h.objs.size,MU,qcu (i_ _),g_ _ (Heap.get?_push_at rfl rfl)]
 refine q_ (f_ (qaC (hq _ _ made) (λr s' hr=>?_) λ_ _ x=>x));obtain⟨rfl,hQ⟩:=hr
 wp_walk
 exact hQ
theorem GB{mN:w_->Option n_}(Fn:qc2 Bn newId inN bmN)(hBn:bmB.contains (.type Bn)=true)(FB:qc2 B nid initId bmB)(T:OwnTail h bmB tl)
  (hob:h.get? C=some (excClassObj nm qn C N bs tl hdct sn sub ab col dd k0 k1 k2 k3 k5 newId)) (hns:h.Ns N mN) (OT:mN "__init__" =some (.ref fI)) (hfo:h.get? fI=some oI) (hfc:oI.cls= .type "function")
  (hq:∀h' e,Heap.MadeExcOf h h' e (.ref C) rest->F_ (model prog w) (A.under (.builtin "type.__call__" #[.ref C::rest,[]])) (call (.ref fI) (.ref e::rest)) (λr s'=>r= .none/\Q (.ref e) s') E #[h',gs,dr,tk,os]) (hz:rest.length<=A_) :
  F_ (model prog w) A (call (.ref C) rest) Q E #[h,gs,dr,tk,os]:=by
 have l1:=tc_lookup;have l2:=tc_bind (.ref C);have hTy:(#[h,gs,dr,tk,os]:v_).TypeIs (.ref C) "type" :=#[_,hob,rfl];refine qb9 (codeAny_of_tree ?_);show F_ _ _ (callAny (.ref C) _) _ _ _
 repeat (any_goals (first|assumption|with_reducible refine qcs hob ?_|wp_step))
 refine#[Y,codeAny_call_builtin_at (Code.quiet_builtin _ (by decide +kernel)) entry_typeCall (wpAny_check_type_call_sub hob (uw Fn hBn FB T hob hns OT hfo hfc (λh' e hm=>?_) hz))];exact hq h' e hm
end
end
section
noncomputable def newX(e C:l_)(od:Option l_):HO:=.ext λh=>bU λvs sl=>h.get? e=some #[.ref C,od,.fields vs,sl]/\vs[1]? =some .none/\vs[2]? =some .none/\4<vs.size
noncomputable def xw(dx:l_)(fs:List (w_×V)):HO:=.ext λh=>∃mA,h.Ns1 dx mA/\(∀f,m5 (fs.lookup f) (mA f))/\PySem.Within mA (fs.map (·.1))
section
variable{P:qal}{w:qaG}{H:Hp}{h:qaE}
theorem zu(he:h.get? e=some #[.ref C,od,.fields vs,sl])(h1:vs[1]? =some .none/\vs[2]? =some .none/\4<vs.size):cE P w H h e (newX e C od) :=
 #[#[vs,sl,he,h1],#[_,he],λ_ _ ⟨v,s,e,z⟩ k=>#[v,s,k _ e,z]]
theorem Cu(n:h.Ns1 dx mA)(r:∀f,m5 (fs.lookup f) (mA f))(wi:PySem.Within mA (fs.map (·.1))):cE P w H h dx (xw dx fs) :=
 #[#[mA,n,r,wi],(let ⟨o,_,_,e,_⟩:=n;#[o,e]),λ_ _ ⟨m,n,r,wi⟩ k=>#[m,n.at k,r,wi]]
end
noncomputable def del(H:Hp)(e:l_):Hp:=λb=>if b=e then none else H b
theorem oF(h:b≠e):del H e b=H b:=by unfold del;rw[if_neg h]
theorem BY:del H e e=none:=by unfold del;rw[if_pos rfl]
theorem qT(h:H b=none):del H e b=none:=by unfold del;split<;>first|rfl|exact h
theorem Ni(h:H a=some o):upd H a o=H:=by
 funext b;unfold upd;split
 ·rename_i z;rw[z,h]
 ·rfl
section
variable{X:Cx}{pins:List (l_×qbW)}{σ:St}{H:Hp}{s:v_}
theorem Inv.drop(I:Inv X pins σ H s)(he:H e=some (.ext φ)):Inv X pins σ (del H e) s:=by
 have ne:∀{b:l_} {o:HO},H b=some o->(∀ ψ,o≠ .ext ψ)->b≠e:=λ{b o} hb n z=>by
  subst z;rw[he]at hb;exact n _ (Z_ hb).symm
 refine#[I.ok,I.os,I.bare,#[I.base.keep,I.base.slot,λb ob q n hx=>qT (I.base.free b ob q n hx),I.base.there,λb xs q=>?_,λb ob u q=>?_,λb ps q=>?_],I.loc,I.cell,qT I.free,λx c q=>qT (I.ir x c q),λp hp=>?_,λb u q=>?_,I.len,I.up]
 ·have q':=I.base.tups b xs q;rw[oF (ne q' λψ z=>by cases z)];exact q'
 ·have q':=I.base.qg b ob u q;rw[oF (ne q' λψ z=>by cases z)];exact q'
 ·obtain⟨more,q'⟩:=I.base.qB b ps q;exact#[more,by rw[oF (ne q' λψ z=>by cases z)];exact q']
 ·obtain⟨a,n,r⟩:=I.pin p hp;exact#[a,qT n,r]
 ·have hb:b≠e:=λz=>by rw[z,BY]at q;cases q
  rw[oF hb]at q;exact(I.hok b u q).stay (λc v _ r=>r) (λc r=>by rw[oF (ne r λψ z=>by cases z)];exact r) λc xs r=>by rw[oF (ne r λψ z=>by cases z)];exact r
end
section
variable{M:Model}{A:qaP}{E:n_->v_->Prop}{env:Env}
variable{nm q:w_}{C N:l_}{bs bm:List n_}{hdct:Bool}{sn:List w_}{sub:List n_}{ab:Bool}{col:Option Bool}{dd:Option l_}{k0 k1 k2 k3 k5:Option n_}{newId:String}
theorem C7(hbase:bm.contains (.type "BaseException")=true)(hh:A.handled=none)
  (h:F_ M A x (λv s₁=>mZ λe od vs sl=>v= .ref e/\s₁.heap.get? C=some (excClassObj nm q C N bs bm hdct sn sub ab col dd k0 k1 k2 k3 k5 newId) ∧
   s₁.heap.get? e=some #[.ref C,od,.fields vs,sl]/\vs[1]? =some .none/\E (.ref e) s₁) E s):F_ M A (raiseStmt env (some x) none) Q E s:=by
 have ZK:(Value.ref C::bm).contains (.type "BaseException")=true:=by rw[List.contains_cons,hbase,Bool.or_true]
 unfold raiseStmt;refine f_ (qaC h (λv s₁ h₁=>?_) λ_ _ x=>x);obtain⟨e,od,vs,sl,rfl,hC,he,hv,hE⟩:=h₁;obtain⟨hp,g,d,tk,os⟩:=s₁
 repeat (first|with_reducible refine qcs he ?_|with_reducible refine qcs hC ?_|(with_reducible refine wpAny_isSubtype_exc hC ?_;rw[ZK])|wp_step)
 rw[hv];refine q_ ?_;rw[if_neg (by decide)];exact q_ (wpAny_raiseNew_none hh hE)
end
noncomputable def G4:List n_:=[.type "ValueError",.type "Exception",.type "BaseException",.type "object"]
structure Fc(K:zaa)(C fI:l_):Prop where
 obj:∀h:qaE,K.In h->∃d:XP,h.get? C=some (d.obj C "ValueError.__new__")/\h.Ns d.N d.mN/\d.mN "__init__" =some (.ref fI)/\OwnTail h G4 d.bm
noncomputable def DU(K:zaa)(C fI:l_):Bool:=match K.lookup C with
 |some ⟨.type "type",_,.cls cd,sl⟩=>(match cd.mro,sl.toList with
  | .ref C'::bm,[_,_,_,_,some (.builtin n),_]=>C'==C&&n== "ValueError.__new__" && !cd.hasDel&&PySem.W.tailIn K G4 bm&&PySem.W.nsOkIn K cd.ns&&za6 K cd.ns "__init__" ==some (some (.ref fI))
  |_,_=>false)
 |_=>false
theorem Dt{K:zaa}(X:K.In h)(G:h.Ns N mg)(e:za6 K N n=some (some v)):mg n=some v:=by
 obtain⟨o,es,ep,ho,hd,_,hf⟩:=G;unfold za6 at e;split at e
 ·rename_i c d es' n' sl q
  have:=X _ _ q;rw[ho]at this;cases this;cases hd;split at e
  ·rename_i he
   cases e;rw[←hf];unfold nsFind findBy;rw[←Array.find?_toList,he];rfl
  ·split at e
   ·cases e
   ·cases e
 ·cases e
theorem G1{K:zaa}(q:DU K C fI=true):Fc K C fI:=by
 refine⟨λh k=>?_⟩;unfold DU at q;split at q
 ·rename_i dd cd sl hob
  split at q
  ·rename_i C' bm k0 k1 k2 k3 nn k5 hmr IK
   simp only[N_,beq_iff_eq,qbq]at q;obtain⟨⟨⟨⟨⟨e1,e2⟩,e3⟩,e4⟩,e5⟩,e6⟩:=q;subst e1 e2;obtain⟨nm,bs,mro,ns,qn,hd,sn,sub,ab,col,del⟩:=cd;dsimp only at hmr e3 e5 e6;subst hmr e3;have hsl:sl= (List.toArray [k0,k1,k2,k3,some (.builtin "ValueError.__new__"),k5]):=by
    obtain⟨l⟩:=sl;simp only at IK;rw[IK]
   subst hsl;have G:h.Ns ns _:=.of_isNs (zbu k e5);exact#[#[nm,qn,ns,bs,bm,hd,sn,sub,ab,col,dd,k0,k1,k2,k3,k5,_],k _ _ hob,G,Dt k G e6,zbv k e4]
  ·cases q
 ·cases q
structure XBase(K:zaa)(W:l_):Prop where
 ga:zbd K (.ref W) "__getattribute__" =some (some (.builtin "type.__getattribute__"))
 rd:PySem.W.readsIn K W (.type "type")=true
 fd:PySem.W.findCls K (.ref W) (.type "type") "__init__" =some (.val (.builtin "ValueError.__init__"))
noncomputable def rB:List n_->Bool
 |[]=>false
 |v::r=>(v::r)==G4||match v with| .ref _=>rB r|_=>false
structure Sg(K:zaa)(C:l_):Prop where
 hd:zaq K C=true
 po:((za3 K C).any λcd=>rB cd.mro)=true
 sa:zaf K (.ref C) "__setattr__" =some (some (.builtin "object.__setattr__"))
theorem xM(self:n_):∀{l:List n_},rB l=true->refuseLoop self "__setattr__" l=pure ()
 |[],e=>by cases e
 |v::r,e=>by
  unfold rB at e;rcases Bool.or_eq_true_iff.mp e with q|q
  ·rw[beq_iff_eq.mp q];exact PySem.F.store_ValueError.passes self
  ·split at q
   ·rw[refuseLoop_ref];exact xM self q
   ·cases q
theorem G3:∀{l:List n_},rB l=true->l.contains (.type "object")=true
 |[],e=>by cases e
 |v::r,e=>by
  unfold rB at e;rcases Bool.or_eq_true_iff.mp e with q|q
  ·rw[beq_iff_eq.mp q];decide +kernel
  ·split at q
   ·rw[List.contains_cons,G3 q,Bool.or_true]
   ·cases q
end
section
def Qs(K:zaa)(t:TA):TE:=λσ H Q=>t σ H λvs H1=>tW λe C fI od y=>vs=[.ref e,y]/\H1 e=some (newX e C od)/\Fc K C fI/\Q .dX H1
theorem Lb{X:Cx}{x:w_}{W:l_}{np apos cpos:qc5}{a b:Expr}{t:TA}{pl:Sem Bool}(hW:XBase X.K W)(hg:Gl X x)(hm:X.mg x=some (.ref W))(ha:PA X [a,b] t)(hdb:(x==("__debug__" :w_))=false:=by decide)
  (hev:eval (.Call (.Attribute (.Name x np) "__init__" apos) [a,b] [] cpos) X.env=(do
   let ov ←eval (.Name x np) X.env
   standAt apos.atName
   let (f,first) ←holding [ov] (getMethod ov "__init__" pl)
   callWith cpos f first (backTo cpos (qaa [a,b] X.env)) (backToKw cpos (keywordEach [] X.env))):=by rfl)
  (hs:qaa [a,b] X.env=(false,eval a X.env)::qaa [b] X.env:=by rfl) (hpl:(backTo cpos (qaa [b] X.env)).any (·.1)=false:=by rfl) :
  PE X (.Call (.Attribute (.Name x np) "__init__" apos) [a,b] [] cpos) (Qs X.K t):=by
 intro pins s σ H Q I h;refine PySem.W.methodCall_KW (pl:=pl) (jC I hg hm ?_ hdb) hev;refine PySem.W.method_cls I.nu hW.ga (PySem.W.cls_value I.nu hW.rd hW.fd (by decide +kernel) ?_);have hA:=ha cpos pins { s with toks:=s.toks+1 } σ H _ (I.tok _) h;rw[hs]at hA ⊢;refine qb_ (by show(false||(backTo cpos (qaa [b] X.env)).any (·.1))=false;rw[hpl]<;>rfl) (qcw ?_);refine dm hA λus s2 ⟨vs,H2,I2,r2,e,C,fI,od,y,e1,hx,O,q⟩=>?_;subst e1;obtain⟨u1,u2,rfl,Yv,_⟩:=vals2 r2;cases (show u1=Value.ref e from Yv);obtain⟨⟨vs,sl,he,h1⟩,_,_⟩:=(show cE X.prog X.w H2 s2.heap e (newX e C od) from I2.hok e _ hx);obtain⟨d,hC,hN,hni,T⟩:=O.obj s2.heap I2.nu;have F:=za2;have I2':=I2;obtain⟨hh,gs,dr,tk,os⟩:=s2;show F_ _ _ (call (.builtin "ValueError.__init__") [.ref e,u2]) _ _ _;refine qb9 (qbO F.init.plain F.initEntry (wpAny_check_init_subU F T hC he Y ?_));have hv:0<vs.size:=o_ (O_ 1) (qcy.mp h1.1).1;have hv0:vs[0]? =some vs[0]:=Array.getElem?_eq_getElem hv
 wp_walk
 rw[hv0];refine q_ ?_;have hg:(hh.push { cls:=.type "tuple",data:=.seq #[u2] }).get? e=some #[.ref C,od,.fields vs,sl]:=g_ _ he;refine f_ (qcx hg Y hv ?_);have hu:=qaq (qc_ (·.setIfInBounds 0 (Value.ref hh.objs.size))) hg rfl;have fin:EP X pins σ Q Value.none #[(hh.push { cls:=.type "tuple",data:=.seq #[u2] }).update e (qc_ (·.setIfInBounds 0 (Value.ref hh.objs.size))),gs,dr,tk,os]:=by
  refine#[.dX,H2,?_,Y,q];have J1:=I2'.kept (h':=hh.push { cls:=.type "tuple",data:=.seq #[u2] }) (t':=tk) λb u z=>g_ _ z;have J2:=J1.write (x:=e) (e:=e) (o:=newX e C od) (t':=tk) (by rw[hx];exact True.intro) (.inl rfl) (λb u hb z=>(qaj _ _ (Ne.symm hb)).trans z) #[_,hu] (zu hu (by simp[h1]));rw[Ni hx]at J2;exact J2
 cases hq:vs[0]with
 |ref t0=>exact wpAny_letGo (q_ fin)
 |_=>exact q_ (q_ fin)
end
section
section
variable{prog:qal}{w:qaG}{A:qaP}{E:n_->v_->Prop}{s:v_}{K:zaa}{x dx C:l_}{name:w_}{v:n_}{R:Result->v_->Prop}
theorem EA(X:K.In s.heap)(I:zao s.heap x ox C od)(S:Sg K C)(ht:zar K C name=some none)
  (h:∀b,F_ (model prog w) A.in1 (Builtin.ObjectAttr.storeInOwnDict (.ref x) (.ref C) (.str name tk) name v b)
   (λfin s'=>match fin with| .done f=>R (.ok f) s'| .again c'=>c'.quiet=true/\codeAny (model prog w) A c' R s') (λe s'=>R (.error e) s') s) :
  codeAny (model prog w) A (.call (.builtin "object.__setattr__") #[[.ref x,.str name tk,v],[]]) R s:=by
 have SF:=PySem.F.store_object;obtain⟨cd,hc,ho⟩:=zak S.po;have ne:cd.mro.isEmpty=false:=by cases q:cd.mro with|nil=>rw[q]at ho;cases ho|cons _ _=>rfl
 have sub:zau (model prog w) s.heap (isInstance (.ref x) (.type "object")) true:=I.type.andThen (za4 X (by unfold zav;rw[hc,qb3,if_neg (by rw[ne];decide),G3 ho]));refine qbO SF.slot.plain SF.entry (@PySem.W.check_slot (model prog w) _ _ s "object.__setattr__" "object" "__setattr__" (.ref x) [.str name tk,v] [] _ SF.kind SF.split sub (SF.args (.ref x) (.str name tk) v) ?_);obtain⟨attr,ha,hr⟩:=Option.bind_eq_some_iff.mp ht;have hm:zau (model prog w) s.heap (mroOf (.ref C)) cd.mro:=(za0 X hc).andThen .now;have L3:zau (model prog w) s.heap (Builtin.ObjectAttr.storeTaker? attr) none:=by
  cases attr with
  |none=>cases hr;exact .now
  |some a =>
   obtain⟨b,hb,e⟩:=qby.mp hr;refine(PySem.W.looks_takesIn X hb).andThen ?_
   cases b with
   |false=>exact .now
   |true=>cases e
 rw[PySem.W.osa_eq,refuse_eq];refine f_ (f_ (I.type.here (f_ (hm.here ?_))));rw[xM _ ho];refine q_ (f_ (I.type.here (f_ ((zas X ha).here (f_ (L3.here ?_))))));exact h _
theorem CF{vs:Array n_}{sl:Array (Option n_)}{mA:w_->Option n_}{ns:List w_}{Q:Unit->v_->Prop}(X:K.In s.heap)(S:Sg K C)(ht:zar K C name=some none)
  (he:s.heap.get? x=some #[.ref C,some dx,.fields vs,sl]) (hn:s.heap.Ns1 dx mA) (hw:PySem.Within mA ns) (hsz:ns.length+1<=A_)
  (h:∀h',h'.Ns1 dx (λy=>if y=name then some v else mA y)->qbj dx s.heap h'->Q () { s with heap:=h',toks:=s.toks+2 }):F_ (model prog w) A (setAttr (.ref x) name v) Q E s:=by
 obtain⟨od,ho,hl⟩:=sy hn;have J:zao s.heap x #[.ref C,some dx,.fields vs,sl] C (some od):=#[he,rfl,rfl,ho];refine zbb X J S.sa (EA (s:={ s with toks:=s.toks+1 }) X J S ht λb=>?_);obtain⟨cd,hc,hd'⟩:=zak S.hd;refine f_ (q_ (f_ (f_ (qcV he (f_ (PySem.W.Looks.here (s:={ s with toks:=s.toks+1 }) (za0 X hc) ?_))))));rw[hd'];refine q_ (a:=some dx) (f_ (q_ (f_ ?_)));refine wpAny_nsSet1 (s:={ s with toks:=s.toks+1 }) hn λh' hn2 hs2=>?_;obtain⟨oD,esD,Yc,Ry,RK,RL⟩:=hn2.count (PySem.Within.cons name v hw);refine f_ (wpAny_lookBehind Ry (by rw[RK];exact pastItsLine_dict (gc RL (by rw[Q_];omega))) ?_);exact q_ (h _ hn2 hs2)
theorem CG{vs:Array n_}{sl:Array (Option n_)}{Q:Unit->v_->Prop}(X:K.In s.heap)(S:Sg K C)(ht:zar K C name=some none)
  (he:s.heap.get? x=some #[.ref C,none,.fields vs,sl])
  (h:∀h',h'.Ns1 s.heap.objs.size (λy=>if y=name then some v else none)->qbj s.heap.objs.size ((s.heap.push zac).update x λo=>{ o with dict:=some s.heap.objs.size }) h'->Q () { s with heap:=h',toks:=s.toks+2 }):F_ (model prog w) A (setAttr (.ref x) name v) Q E s:=by
 have J:zao s.heap x #[.ref C,none,.fields vs,sl] C none:=#[he,rfl,rfl,trivial];refine zbb X J S.sa (EA (s:={ s with toks:=s.toks+1 }) X J S ht λb=>?_);obtain⟨cd,hc,hd'⟩:=zak S.hd;refine f_ (q_ (f_ (f_ (qcV he (f_ (PySem.W.Looks.here (s:={ s with toks:=s.toks+1 }) (za0 X hc) ?_))))));rw[hd'];rw[if_neg (by decide)];have hxs:x≠s.heap.objs.size:=V_ (C_ he);have Rq:(s.heap.push zac).get? x=some #[.ref C,none,.fields vs,sl]:=g_ _ he;show F_ (model prog w) A.in1 (alloc zac >>= λd=>update x (λo=>{ o with dict:=some d }) >>= λ_=>dictMade (.ref C) x d) _ _ _;refine f_ (wpAny_alloc (f_ (wpAny_update Rq ?_)));refine q_ ?_;have hgd:((s.heap.push zac).update x λo=>{ o with dict:=some s.heap.objs.size }).get? s.heap.objs.size=some zac :=
  (Heap.get?_update_ne _ _ _ _ hxs.symm).trans (I_ _ rfl)
 have hnd:((s.heap.push zac).update x λo=>{ o with dict:=some s.heap.objs.size }).Ns s.heap.objs.size (λ_=>none) :=
  #[_,#[],_,hgd,rfl,λe he=>absurd he (by simp),λ_=>rfl]
 show F_ _ _ (Builtin.ObjectAttr.storeInDict s.heap.objs.size (.str name s.toks) name v) _ _ _;refine f_ (q_ (f_ ?_));refine wpAny_nsSet1 (s:={ s with heap:=(s.heap.push zac).update x λo=>{ o with dict:=some s.heap.objs.size },toks:=s.toks+1 }) (Heap.Ns1.of_empty hnd) λh' hn2 hs2=>?_;obtain⟨oD,esD,Yc,Ry,RK,RL⟩:=hn2.count (PySem.Within.cons name v PySem.Within.nil);refine f_ (wpAny_lookBehind Ry (by rw[RK];exact pastItsLine_dict (gc RL (by rw[Q_,qcj,qb5];omega))) ?_);exact q_ (h _ hn2 hs2)
end
end
section
theorem AY{mA:w_->Option n_}(r:∀g,m5 (fs.lookup g) (mA g))(ry:RelV y u):∀g,m5 ((aQ f y fs).lookup g) (if g=f then some u else mA g):=λg=>by
 rw[au];by_cases q:g=f
 ·rw[if_pos q,if_pos q];exact ry
 ·rw[if_neg q,if_neg q];exact r g
theorem um{mA:w_->Option n_}(wi:PySem.Within mA (fs.map (·.1))):PySem.Within (λg=>if g=f then some u else mA g) ((aQ f y fs).map (·.1)):=λg hg=>by
 by_cases q:g=f
 ·rw[q];exact(lW f y fs).1
 ·refine(lW f y fs).2 g (wi g λz=>hg ?_)
  show(if g=f then some u else mA g)=none
  rw[if_neg q];exact z
def QI(K:zaa)(ta tv:TE)(f:w_):TS:=λD σ H=>tv σ H λy H1=>ta σ H1 λx H2=>bU λe C=>x= .ref e/\Sg K C/\cL K C f ∧
 ((H2 e=some (newX e C none)/\∀dx,H2 dx=none->D.nx σ (upd (upd (upd H2 dx (xw dx [])) e (newX e C (some dx))) dx (xw dx (aQ f y [])))) ∨
  bU λdx fs=>H2 e=some (newX e C (some dx))/\H2 dx=some (xw dx fs)/\fs.length<1000/\D.nx σ (upd H2 dx (xw dx (aQ f y fs))))
theorem Eu(ha:PE X o ta)(hv:PE X value tv)(hs:swapsWith value (some (.Attribute o f pos')) pos.line X.env=pure false):PS X (.Assign [.Attribute o f pos'] value pos) (QI X.K ta tv f):=by
 intro pins s σ H D I h;refine plainObj_wpAny_Assign_Attribute (dm (hv pins s σ H _ I h) λu s1 ⟨y,H1,I1,ry,q⟩=>dm (ha pins s1 σ H1 _ I1 q) λov s2 ⟨x,H2,I2,rx,e,C,ex,S,n,hk⟩=>?_) hs;subst ex;obtain rfl:ov=Value.ref e:=rx;rcases hk with⟨hx,q2⟩|⟨dx,fs,hx,hd,hl,q2⟩
 ·obtain⟨⟨vs,sl,he,h1⟩,_,_⟩:=(show cE X.prog X.w H2 s2.heap e (newX e C none) from I2.hok e _ hx);refine CG I2.nu S n.Hj he λh' hn' sb=>?_;have ne:e≠s2.heap.objs.size:=V_ (C_ he);have e1:(s2.heap.push zac).get? s2.heap.objs.size=some zac:=I_ _ rfl;have n1:(s2.heap.push zac).Ns1 s2.heap.objs.size (λ_=>none):=Heap.Ns1.of_empty #[_,#[],_,e1,rfl,(λe he=>absurd he (by simp)),λ_=>rfl];have Tn:(s2.heap.push zac).get? e=some #[.ref C,none,.fields vs,sl]:=g_ _ he;have XO:=qaq (λo=>{ o with dict:=some s2.heap.objs.size }) Tn rfl;have J1:=I2.laid (a:=s2.heap.objs.size) (o:=xw s2.heap.objs.size []) (h':=s2.heap.push zac) (t':=s2.toks) (λb u q=>g_ _ q) (i_ _) (Cu n1 (λ_=>True.intro) (λy hy=>absurd rfl hy));have J2:=J1.write (x:=e) (e:=e) (o:=newX e C (some s2.heap.objs.size)) (t':=s2.toks) (by rw[ay ne,hx];exact True.intro) (.inl rfl) (λb u hb q=>(qaj _ _ (Ne.symm hb)).trans q) #[_,XO] (zu XO h1)
  have J3:=J2.write (x:=s2.heap.objs.size) (e:=s2.heap.objs.size) (o:=xw s2.heap.objs.size (aQ f y [])) (h':=h') (t':=s2.toks+2) (by rw[ay (Ne.symm ne),ai];exact True.intro) (.inl rfl) (λb u hb q=>(sb.2 b hb).trans q) (let ⟨o,_,_,e,_⟩:=hn';#[o,e])
   (Cu hn' (AY (mA:=λ_=>none) (λ_=>True.intro) ry) (um (mA:=λ_=>none) λy hy=>absurd rfl hy)) (ht:=by show s2.toks<=s2.toks+2;omega)
  exact#[σ,_,J3,q2 _ (I2.hok.fresh (i_ _))]
 ·obtain⟨⟨vs,sl,he,h1⟩,_,_⟩:=(show cE X.prog X.w H2 s2.heap e (newX e C (some dx)) from I2.hok e _ hx);obtain⟨⟨mA,nA,rA,wA⟩,_,_⟩:=(show cE X.prog X.w H2 s2.heap dx (xw dx fs) from I2.hok dx _ hd);refine CF I2.nu S n.Hj he nA wA (by rw[e_,qb5];omega) λh' hn' sb=>?_
  have J3:=I2.write (x:=dx) (e:=dx) (o:=xw dx (aQ f y fs)) (h':=h') (t':=s2.toks+2) (by rw[hd];exact True.intro) (.inl rfl) (λb u hb q=>(sb.2 b hb).trans q) (let ⟨o,_,_,e,_⟩:=hn';#[o,e]) (Cu hn' (AY rA ry) (um wA))
  exact#[σ,_,J3,q2]
structure Yh(K:zaa)(C f:l_):Prop where
 cls:Fc K C f
 fn:zbq K (.ref f)=true
 kp:zap K (.ref C)=true
def Kg(C:l_)(sp:Sp)(E:St->XK)(t:TA):TS:=λ_ σ H=>t σ H λvs H1=>vs.length<=A_/\∀e,H1 e=none →
 sp (.ref e::vs) (upd H1 e (newX e C none)) (λv H2=>v= .dX/\∃od,H2 e=some (newX e C od)/\E σ (.ref C) od (del H2 e)) (E σ)
theorem FP{X:Cx}{E:St->XK}{C f:l_}{x:w_}{np cpos pos:qc5}{k:Nat}{fd:qce}{ps:List w_}{sp:Sp}{e:Expr}{es:List Expr}{t:TA}(L:Lets X E)(M:Yh X.K C f)
  (F:nI X.prog X.w X.K X.mg X.base (vY X.prog X.w) k f fd ps sp) (hr:g8 (k+1) X.A) (hb:Binds X.K fd ps []) (hc:X.calm=true)
  (hg:Gl X x) (hm:X.mg x=some (.ref C)) (ha:PA X (e::es) t) (hdb:(x==("__debug__" :w_))=false:=by decide) (he:qaa (e::es) X.env=(false,eval e X.env)::qaa es X.env:=by rfl)
  (hpl:(backTo cpos (qaa es X.env)).any (·.1)=false:=by rfl):PS X (.Raise (some (.Call (.Name x np) (e::es) [] cpos)) none pos) (Kg C sp E t):=by
 intro pins s σ H D I h;obtain⟨d,hC,hN,hni,T⟩:=M.cls.obj X.base I.ok.mod.MH;rw[arm_exec_Raise];have FB:=za2;simp only[evalOpt,Option.map];refine f_ (qcJ (C7 (C:=C) (nm:=d.nm) (q:=d.q) (N:=d.N) (bs:=d.bs) (bm:=d.bm) (hdct:=d.hdct) (sn:=d.sn) (sub:=d.sub) (ab:=d.ab) (col:=d.col) (dd:=d.dd) (k0:=d.k0) (k1:=d.k1) (k2:=d.k2) (k3:=d.k3) (k5:=d.k5) (newId:= "ValueError.__new__") (T.hasType FB.hasBase) (I.ok.hd hc) ?_));refine f_ (dm (Q:=λv s₁=>mZ λe od vs sl=>v= .ref e/\s₁.heap.get? C=some (d.obj C "ValueError.__new__")/\s₁.heap.get? e=some #[.ref C,od,.fields vs,sl]/\vs[1]? =some .none/\X.xe (.ref e) s₁) ?_ λv s2 h2=>f_ (qcJ (q_ h2)));refine qbg (jC I hg hm ?_ hdb);refine za1 (h₀:=X.base) I.ok.mod.MH M.kp (dm (ha cpos pins s σ H _ I h) λus s1 ⟨vs,H1,I1,r,hl,q1⟩=>#[I1.nu,?_]) he hpl;have hfo:∃o,s1.heap.get? f=some o/\o.cls= .type "function" :=by
  obtain⟨o,ho,hc⟩:=qby.mp (beq_iff_eq.mp M.fn);exact#[o,I1.nu _ _ ho,hc]
 obtain⟨oI,hfo,hfc⟩:=hfo;have I1':=I1;obtain⟨hh,gs,dr,tk,os⟩:=s1;refine GB (N:=d.N) (mN:=d.mN) FB FB.hasB FB (T.keeps I1.bk) (I1.bk _ _ hC) (hN.keeps I1.bk) hni hfo hfc (λh' ea made=>?_) (by show us.length<=A_;rw[←r.length];exact hl);obtain⟨t',ht,_,_⟩:=made.there;have xo:=I1.SG made.new (I1.hok.none_of made.new);have J0:Inv X pins σ H1 #[h',gs,dr,tk,os]:=I1.kept (t':=tk) made.keeps;have J1:Inv X pins σ (upd H1 ea (newX ea C none)) #[h',gs,dr,tk,os]:=J0.Hh xo (zu ht #[rfl,rfl,by simp]);have hq:=q1 ea xo.1;have r2:Vals (V.ref ea::vs) (Value.ref ea::us):=.cons rfl r;have hlen:(Value.ref ea::us).length=ps.length:=by rw[←r2.length];exact F.len _ _ _ _ hq
 refine qb9 (qbM (F.run _ X.stack _ _ #[Value.ref ea::us,[]] (Value.ref ea::us) _ _ (E σ) (hr.make C us []) (J1.L6.make C us []) (by have z:=hb _ (Value.ref ea::us) J1.nu (by rw[qaQ];exact hlen);rw[qaQ]at z;exact z) r2 hq) λrr s' hq'=>?_)
 cases rr with
 |error e=>exact L.pass J1 hq'
 |ok fl =>
  cases fl with
  |ret u =>
   obtain⟨v,H',I3,rv,ev,od,hx,qE⟩:=J1.after hq';subst ev;obtain⟨⟨vs',GI,he',oZ⟩,_,_⟩:=(show cE X.prog X.w H' s'.heap ea (newX ea C od) from I3.hok ea _ hx);refine#[rv,ea,od,vs',GI,Y,I3.bk _ _ hC,he',oZ.1,?_];exact L pins σ (del H' ea) s' ea (.ref C) od (I3.drop hx) #[#[BY,xo.2],vs',GI,he',λ_=>oZ.2.1,.inl oZ.1] qE
  |next=>exact qaI hq'
  |brk=>exact qaI hq'
  |cont=>exact qaI hq'
end
section
section
variable{X:Cx}{a b c:Expr}{ta tb tc:TE}{pos:qc5}{rest:List Expr}
end
end
section
theorem vO(hc:X.calm=true)(hS:X.Ok->∃cl,eT X scope cl N lG)(hi:PI X tg iter wi)
  (hg:∀cl C s H ex pn E,PG (eG X scope cl C N s H ex pn E) tg g) (he:∀cl C s H ex pn E,PE (eG X scope cl C N s H ex pn E) elt te) (ht:∀cl C s H ex pn E,PT (eG X scope cl C N s H ex pn E) test tt) (hs:∀x,foldedSetIterable iter X.env x=pure x)
  {σ:St} {use:Option (n_->Sem Unit)} {QQ:n_->v_->Prop} (I:Inv X pins σ H s) (h:rC wi g tt te lG σ H Q)
  (IS:∀(l C:l_) (mC:w_->Option n_) (H':Hp) (s':v_),Inv X pins σ H' s'->oQ X pins H' C->s'.heap.Ns C mC->Q (.ref l) H'->compPost (model X.prog X.w) X.A X.xe use QQ (.ref l) C (.ok .next) s') :
  F_ (model X.prog X.w) X.A (comprehension (.ListComp elt [#[tg,iter,[test],0]] scope pos) scope X.env pos' (newList []) false (eval iter X.env) use) QQ X.xe s :=
 vN hc hS hi hg he (λcl C s H ex pn E pins s' σ H' Q I q=>wpAny_tests_one (ht cl C s H ex pn E pins s' σ H' Q I q)) hs I h IS
theorem Ij{X:Cx}{elt tg iter test:Expr}{tt:TT}{scope:qcT}{pos:qc5}{wi:TI}{g:TG}{te:TE}{N:List w_}{lG:St->St}(hc:X.calm=true)(hS:X.Ok->∃cl,eT X scope cl N lG)(hi:PI X tg iter wi)
  (hg:∀cl C s H ex pn E,PG (eG X scope cl C N s H ex pn E) tg g) (he:∀cl C s H ex pn E,PE (eG X scope cl C N s H ex pn E) elt te) (ht:∀cl C s H ex pn E,PT (eG X scope cl C N s H ex pn E) test tt)
  (hs:∀x,foldedSetIterable iter X.env x=pure x:=by intro _;rfl):PE X (.ListComp elt [#[tg,iter,[test],0]] scope pos) (rC wi g tt te lG):=by
 intro pins s σ H Q I h;rw[eval_ListComp];refine vO (use:=none) (QQ:=EP X pins σ Q) hc hS hi hg he ht hs I h ?_;intro l C mC H' s' I' fp hn q;exact#[mC,hn,λh' sb=>#[.ref l,H',I'.moved (ch:=[C]) (t':=s'.toks) (λb o hb e=>(sb.2 b (by simpa using hb)).trans e) (λb hb=>by rw[u_.mp hb];exact fp),Y,q]]
end
end L2
namespace GP
open PySem L2 eV
theorem xR(h:n<=100000):((n:Nat):Int).natAbs.log2<1920:=by
 rw[Int.natAbs_natCast];by_cases z:n=0
 ·subst z;decide
 ·rw[Nat.log2_lt z];exact o_ h (J_ (show 100000<2 ^ 20 by decide) (qaN (by decide) (by decide)))
theorem zU{a b:w_}(h1:a.length<=m)(h2:b.length<=n):(a++b).length<=m+n:=by rw[strLen_append];omega
def HC(C:l_):Sp:=λvs H Q _=>iG λ(e:l_) (i j:Nat)=>vs=[.ref e,.int i,.int j]/\H e=some (newX e C none)/\i<=100000/\j<=100000 ∧
 ∀dx H',(∀b u,H b=some u->b≠e->H' b=some u)->H dx=none->H' e=some (newX e C (some dx))->H' dx=some (xw dx (aQ "place" (.int j) (aQ "row" (.int i) [])))->Q .dX H'
end GP
namespace L2
open PySem PySem.Spec PyProof.Rows
theorem Ja{K:zaa}(Z:Mn K C)(k:K.In s.heap)(I:zao s.heap x ox C od)
  (hf:za5 K C od name=some (.value v)) (hd:zba v=true) (h:Q v { s with toks:=s.toks+1 }):F_ (model prog w) A (getAttr (.ref x) name expr) Q E s:=by
 obtain⟨hh,g,d,t,os⟩:=s;have L0:=I.type (M:=model prog w);have L1:=zas (M:=model prog w) k Z.ga;have L2:=zas (M:=model prog w) k Z.gn;have LB:=za4 (M:=model prog w) k Z.hb;have LF:=zbw (M:=model prog w) k I hf;unfold getAttr getAttrBy;refine f_ (wpAny_mkText (qaw (f_ (L0.at (f_ (L1.at ?_))))));show F_ _ _ (getAttrByItsOwn _ _ _ _ _ _) _ _ _;unfold getAttrByItsOwn hookBefore;refine f_ (L2.at ?_);refine f_ (qbT (qaw ?_));have e0:∀n:n_,callGetattribute (.ref x) n (.builtin "BaseException.__getattribute__") expr=boundAndCalled (.builtin "BaseException.__getattribute__") (.ref x) n:=λn=>by
  unfold callGetattribute;cases expr<;>rfl
 rw[e0];unfold boundAndCalled;refine f_ (wpAny_of_eq (PySem.F.attr_ValueError.ga.bind (.ref x)) ?_);show F_ _ _ (call (.builtin "BaseException.__getattribute__") [.ref x,.str name t]) _ _ _;refine qb9 (qbO PySem.F.attr_ValueError.ga.plain zbx ?_);have c1:builtinKind "BaseException.__getattribute__" =some .slot:=by decide +kernel
 have c2:splitId "BaseException.__getattribute__" =some ("BaseException","__getattribute__"):=by decide +kernel
 have c3:=zby (.ref x) (.str name t);simp only[checkBuiltinCall,c1,c2];refine f_ (f_ (L0.at (LB.at ?_)));simp only[Bool.not_true,qaF,if_false];unfold argsOk at c3;refine wpAny_of_eq c3 ?_;unfold Builtin.«object.__getattribute__»;refine f_ (q_ (f_ (q_ (f_ (L0.at (f_ (LF.at ?_)))))));refine q_ ?_;show F_ _ _ (handedOut v) _ _ _;rw[PySem.W.handedOut_of hd];exact q_ h
def Qn(K:zaa)(ta:TE)(f:w_):TE:=λσ H Q=>ta σ H λx H1=>tW λe C dx fs i=>x= .ref e/\H1 e=some (M1 e (.ref C) (some dx))/\H1 dx=some (xw dx fs)/\Mn K C/\cL K C f/\fs.lookup f=some (.int i)/\Q (.int i) H1
theorem BF(hok:mF P w H h)(he:H e=some (M1 e (.ref C) (some dx)))(hd:H dx=some (xw dx fs)):
  bU λox od=>∃mA:w_->Option n_,zao h e ox C (some od)/\(∀name,zaz name od=some (mA name))/\∀f,m5 (fs.lookup f) (mA f):=by
 obtain⟨⟨vs,sl,h1⟩,_,_⟩:=(show cE P w H h e (M1 e (.ref C) (some dx)) from hok e _ he);obtain⟨⟨mA,nA,rA,wA⟩,_,_⟩:=(show cE P w H h dx (xw dx fs) from hok dx _ hd);obtain⟨od,ho,hl⟩:=sy nA;exact#[_,od,mA,#[h1,Y,Y,ho],hl,rA]
theorem Ey(he:PE X e ta)(hb:attributeBase e f X.env (eval e X.env)=eval e X.env):PE X (.Attribute e f pos) (Qn X.K ta f):=by
 intro pins s σ H Q I h;refine Fb hb (dm (he pins s σ H _ I h) λu s1 ⟨x,H1,I1,rx,e,C,dx,fs,i,ex,hx,hd,Z,n,l,q⟩=>?_);subst ex;obtain rfl:u=Value.ref e:=rx;obtain⟨ox,od,mA,J,hl,rA⟩:=BF I1.hok hx hd;have r:=rA f;rw[l]at r
 cases hm:mA f with
 |none=>rw[hm]at r;exact r.elim
 |some u =>
  rw[hm]at r;obtain⟨t,rfl⟩:=(show ∃t,u=Value.int i t from r);refine Ja Z I1.nu J ?_ Y #[.int i,H1,I1.tok _,#[t,Y],q];obtain⟨cd,hc,VS⟩:=zak Z.hd;have hn:zaf X.K (.ref C) f=some none:=n;unfold za5;rw[hc,qb3,hn,qb3];simp only[qb3,PySem.W.ownOf,VS,if_true,hl,hm]
theorem lC:g7 X (.builtin "isinstance") (λxs H Q=>Mm λea C od c cv b=>xs=[.ref ea,c]/\((∃D,c= .ref D/\cv= .ref D)\/∃T,c= .ty T/\cv= .type T)/\H ea=some (M1 ea (.ref C) od)/\(od=none\/bU λdx fs=>od=some dx/\H dx=some (xw dx fs))/\Mn X.K C/\zad X.K (.ref C) cv=some b/\Q (.bl b) H):=by
 intro pins s σ H vs us Q I r h;obtain⟨ea,C,od,c,cv,b,rfl,hc,hx,hod,Z,hk,q⟩:=h;obtain⟨u,u2,rfl,rx,rc⟩:=vals2 r;cases (show u=Value.ref ea from rx);have e2:u2=cv:=by
  rcases hc with⟨D,rfl,rfl⟩|⟨T,rfl,rfl⟩
  ·exact rc
  ·exact rc
 subst e2;rcases hod with rfl|⟨dx,fs,rfl,hd⟩
 ·obtain⟨⟨ws,sl,e⟩,_,_⟩:=(show cE X.prog X.w H s.heap ea (M1 ea (.ref C) none) from I.hok ea _ hx)
  exact TK.bP (i_ s.toks) (zai (BD (ox:=#[.ref C,none,.fields ws,sl]) (od:=none) Z) I.nu #[e,Y,Y,trivial] hk (λz=>nomatch z) λtk hup=>#[.bl b,H,I.tok tk,Y,q])
 ·obtain⟨ox,o,mA,J,hl,rA⟩:=BF I.hok hx hd
  exact TK.bP (i_ s.toks) (zai (BD (ox:=ox) (od:=some o) Z) I.nu J hk (λz=>nomatch z) λtk hup=>#[.bl b,H,I.tok tk,Y,q])
theorem CD{x y:w_}(h:x.cps=y.cps):x=y:=by
 cases x;cases y;exact congrArg Str.mk h
noncomputable def ny(x:w_)(n:Int):w_:=⟨(G_ n.toNat x.cps).foldl (·++·) #[]⟩
theorem uO(a:Array Nat):∀(n:Nat) (b:Array Nat),((G_ n a).foldl (·++·) b).toList=b.toList++(G_ n a.toList).flatten
 | 0,b=>by simp
 |n+1,b=>by
  rw[qas,qch,uO a n,qas,qaV,Array.toList_append,qat]
theorem rL(x:w_)(n:Int):(ny x n).cps.toList=(G_ n.toNat x.cps.toList).flatten:=by
 unfold ny;rw[uO];rfl
theorem AX(x:w_)(n:Int):(ny x n).cps.size=n.toNat*x.cps.size:=by
 rw[←k_,rL,List.length_flatten,List.map_replicate,List.sum_replicate_nat];rfl
theorem yR:jW X (binaryOp .Mult) (λx y H Q=>bU λz n=>x= .str z/\y= .int n/\ -1000000<=n/\n<=1000000/\z.cps.size<=1000000/\n.toNat*z.cps.size<=A_/\Q (.str (ny z n)) H):=by
 intro pins s σ H x y v u Q I rx ry h;obtain⟨z,n,rfl,rfl,h1,h2,h3,h4,q⟩:=h;obtain⟨t,rfl⟩:=rx;obtain⟨t',rfl⟩:=ry;have hl:z.length=z.cps.size:=rfl;refine TK.bP (i_ s.toks) (PySem.P.mul_str ?_ (λk1 _=>?_) (λ_ _=>?_) ?_)
 ·rw[decide_eq_false (by omega),decide_eq_false (by omega)];rfl
 ·have k2:1<=n:=by omega
  have:(2 ^ 63-1:Int) / n>=1000000:=by
   rw[ge_iff_le,Int.le_ediv_iff_mul_le (by omega)]
   calc 1000000*n<=1000000*1000000:=by omega
    _<=_:=by decide
  omega
 ·show decide (z.length*n.toNat>A_)=false;rw[hl,Nat.mul_comm];exact decide_eq_false (qc7.mpr h4)
 ·have fin:∀y:w_,y=ny z n->∀t k,s.toks<=k->EP X pins σ Q (.str y t) { s with toks:=k }:=λy e t k hk=>#[.str (ny z n),H,I.tok k hk,#[t,by rw[e]],q];by_cases k1:n<1
  ·rw[if_pos k1];refine#[O_ _,fin _ ?_ _ _];unfold ny;rw[show n.toNat=0 by omega];rfl
  ·rw[if_neg k1];by_cases k2:(n==1||z.length==0)=true
   ·rw[if_pos k2];refine fin _ ?_ _ s.toks;rcases Bool.or_eq_true_iff.mp k2 with k|k
    ·have e:n=1:=by simpa using k
     subst e;show z=⟨#[]++z.cps⟩;simp
    ·have e:z.cps.size=0:=(show z.length=0 from eq_of_beq k);have e1:=AX z n;rw[e,Nat.mul_zero]at e1;have a1:z.cps= #[]:=Array.eq_empty_of_size_eq_zero e;have a2:(ny z n).cps= #[]:=Array.eq_empty_of_size_eq_zero e1;have:z.cps=(ny z n).cps:=a1.trans a2.symm;exact CD this
   ·rw[if_neg k2];refine#[?_,fin _ Y _ _];show(ny z n).cps.size<=A_;rw[AX];exact h4
end L2
namespace GP
open PySem L2 eV
section
theorem AR{x:w_}{lo hi:Option Int}{a b:Nat}(e:PySem.Builtin.Str.strSliceIndices lo hi 1 x.length=PySem.Builtin.Str.strSliceIndices (some (a:Int)) (some (b:Int)) 1 x.length)(hab:a<=b)(hb:b<=x.cps.size):(Txt.slice x lo hi).cps.toList=(x.cps.toList.drop a).take (b-a):=by
 have hb':b<=x.length:=hb;have f:=StrLaws.sliced_plain x hab hb';unfold Txt.slice;rw[e];split
 ·next h =>
  have hl:(PySem.Builtin.Str.strSliceIndices (some (a:Int)) (some (b:Int)) 1 x.length).length=x.length:=by simpa using h
  rw[StrLaws.strSliceIndices_plain hab hb',e_,X_]at hl;have hl':b-a=x.cps.size:=hl;have ha:a=0:=by omega
  subst ha;rw[qcz,Y_ (by rw[k_];omega)]
 ·exact f
theorem AS{x:w_}{k:Int}(h0:0<=k)(h1:k<=(x.cps.size:Int)):(Txt.slice x (some k) none).cps.toList=x.cps.toList.drop k.toNat:=by
 obtain⟨n,rfl⟩:∃n:Nat,k=(n:Int):=#[k.toNat,(qaS h0).symm];have e:=AR (x:=x) (lo:=some (n:Int)) (hi:=none) (a:=n) (b:=x.cps.size) (by
  have hl:x.length=x.cps.size:=rfl;simp only[PySem.Builtin.Str.strSliceIndices,hl];simp;rw[if_neg (show ¬(x.cps.size:Int)<0 by omega),show max (0:Int) (min (x.cps.size:Int) (x.cps.size:Int))=(x.cps.size:Int) by omega]) (by omega) (i_ _)
 rw[e,Y_ (by rw[qaY,k_];omega)];rfl
noncomputable def zT(i j:Nat):List (w_×V):=aQ "place" (.int j) (aQ "row" (.int i) [])
theorem I9:(zT i j).lookup ("row" :w_)=some (.int i):=by
 unfold zT;rw[au,if_neg (by decide +kernel),au,if_pos rfl]
theorem DS:(zT i j).lookup ("place" :w_)=some (.int j):=by
 unfold zT;rw[au,if_pos rfl]
end
section
end
end GP
namespace L2
open PySem PySem.Spec PyProof.Rows PySem.Builtin PySem.Builtin.Str
theorem Og(hu:X.A.units<cLine):jW X (compareOp .NotEq) (λx y H Q=>iG λp q xs=>x= .ref p/\y= .ref q/\bq X.K H p xs/\bq X.K H q xs/\(∀z∈xs,(∃a,z= .str a)\/∃a,z= .ref a)/\Q (.bl false) H):=by
 intro pins s σ H x y v u Q I rx ry h;obtain⟨p,q,xs,rfl,rfl,hp,hq,ha,k⟩:=h;cases rx;cases ry;obtain⟨us,r1,t1,_⟩:=I.list hp;obtain⟨vs,r2,t2,_⟩:=I.list hq;have hsz:us.toArray.size=vs.toArray.size:=by rw[y_,y_,←r1.length,←r2.length]
 refine SeqAt.RcNeAt.lists (A:=X.A) (s:=s) (e:=λ_=>true) t1.isList t2.isList hsz hu (λj h1 h2=>?_) X.prog X.w X.xe _ #[.bl false,H,I,?_,k]
 ·have oZ:j<us.length:=by simpa using h1
  have h2':j<vs.length:=by simpa using h2
  have h3:j<xs.length:=by rw[r1.length];exact oZ
  obtain⟨u,e1,ru⟩:=r1.get (d_ h3);obtain⟨v,e2,rv⟩:=r2.get (d_ h3);have g1:us.toArray[j]=u:=by rw[d_ oZ]at e1;simpa using e1
  have g2:vs.toArray[j]=v:=by rw[d_ h2']at e2;simpa using e2
  rw[g1,g2];rcases ha _ (D_ h3)with⟨i,hx⟩|⟨a,hx⟩
  ·rw[hx]at ru rv;obtain⟨t,rfl⟩:=ru;obtain⟨t',rfl⟩:=rv;have z:=SeqAt.EqAt.str_str (A:=X.A.in1) (s:=s) i t i t';rw[beq_self_eq_true]at z;exact z
  ·rw[hx]at ru rv;cases ru;cases rv;exact .same _
 ·show Value.bool _=Value.bool false;simp
end L2
namespace GP
open PySem L2 eV
section
theorem uA{x y:w_}(h:x.cps.toList=y.cps.toList):x=y:=CD (qbz.mp h)
theorem cH(x y:w_):(x++y).cps.toList=x.cps.toList++y.cps.toList:=by
 show(x.cps++y.cps).toList=_;rw[Array.toList_append]
theorem cG(x y:w_):(x++y).cps.size=x.cps.size+y.cps.size:=by
 rw[←k_,cH,t_,k_,k_]
theorem uG(x:w_)(b:Nat):(Txt.slice x none (some (b:Int))).cps.toList=x.cps.toList.take b:=by
 have hl:x.cps.toList.length=x.cps.size:=k_;have e:=AR (x:=x) (lo:=none) (hi:=some (b:Int)) (a:=0) (b:=min b x.cps.size) (by
  have hl:x.length=x.cps.size:=rfl;simp only[PySem.Builtin.Str.strSliceIndices,hl];simp;rw[if_neg (by omega),if_neg (by omega)];congr 2<;>omega) (by omega) (by omega)
 rw[e,qcz,Nat.sub_zero];by_cases h1:b<=x.cps.size
 ·rw[qbK h1]
 ·rw[Nat.min_eq_right (by omega),Y_ (by omega),Y_ (by omega)]
end
section
end
section
end
end GP
set_option Elab.async false
set_option linter.all false
set_option maxRecDepth 100000
namespace TS
open PySem PyProof.Rows PySem.W
theorem Ff(vs:List n_):(vs.toArray.zip vs.toArray).toList=vs.map λv=>(v,v):=by
 rw[Array.toList_zip]
 induction vs with
 |nil=>rfl
 |cons v vs ih=>simpa using ih
def mH(h:qaE)(v:n_)(i:Int):Prop:=∃a o n t x u,v= .ref a/\h.get? a=some o/\o.cls= .type "tuple" /\o.data= .seq (List.toArray [.int i t,.str x u]) n
theorem mH.keep{h h':qaE}{v:n_}{i:Int}(k:∀b o,o.cls= .type "tuple" ->h.get? b=some o->h'.get? b=some o)(z:mH h v i):mH h' v i:=by
 obtain⟨a,o,n,t,x,u,rfl,e1,e2,e3⟩:=z;exact#[a,o,n,t,x,u,Y,k a o e2 e1,e2,e3]
theorem tu{f:n_->Int}:∀{vs:List n_},(∀v∈vs,mH h v (f v))->∃fs:List n_,KatTups h vs fs/\fs.length=vs.length/\∀u∈fs,∃i t,u=Value.int i t
 |[],_=>#[[],trivial,rfl,λ_ z=>by cases z]
 |v::vs,z=>by
  obtain⟨fs,k,l,ty⟩:=tu (vs:=vs) λu hu=>z u (s_ _ hu);obtain⟨a,o,n,t,x,u,e0,e1,e2,e3⟩:=z v r_;refine#[.int (f v) t::fs,#[#[a,o,_,n,e0,e1,e2,e3,Y],k],by simp[l],λu hu=>?_];rcases B_.mp hu with rfl|hu
  ·exact#[_,_,Y]
  ·exact ty u hu
theorem rG(hb:b≠a)(e:h.get? b=some o):(sortedHeap h a vs out).get? b=some o:=by
 unfold sortedHeap;rw[(qbY _ a _).2 b hb];refine g_ _ (g_ _ ?_);rw[(qbY _ a _).2 b hb];exact e
theorem uF{vs:List n_}{out:Array n_}(e:h.get? a=some (seqObj "list" xs n)):∃m,(sortedHeap h a vs out).get? a=some (seqObj "list" out m):=by
 obtain⟨e1,JS⟩:∃e1,(h.update a (qay λ_=>(#[]:Array n_))).get? a=some (seqObj "list" #[] e1):=#[_,get?_update_seq e (λ_=> #[])];exact#[_,get?_update_seq (g_ _ (g_ _ JS)) (λ_=>out)]
section
variable{prog:qal}{w:qaG}{A:qaP}{E:n_->v_->Prop}{s:v_}
theorem Lv{v u:n_}{i j:Int}{Q:Bool->v_->Prop}(hv:mH s.heap v i)(hu:mH s.heap u j)(e:j<i)(h:Q false s):F_ (model prog w) A (keyLt' (tuples' true) v u) Q E s:=by
 obtain⟨a,o,n,t1,x,t2,rfl,e1,e2,e3⟩:=hv;obtain⟨a',o',n',u1,y,u2,rfl,f1,f2,f3⟩:=hu;refine kat_lt e1 e3 f1 f3 ?_;show KatLex prog w A true _ Q [(.int i t1,.int j u1),(.str x t2,.str y u2)] 0 s;refine kat_cons (SeqAt.EqAt.int_int (A:=A) (s:=s) i t1 j u1 prog w _ _ ?_);rw[show(i==j)=false by simp;omega];refine kat_no (oneLt_int ?_);rw[decide_eq_false (by omega)];exact h
theorem Cf{vs:List n_}{f:n_->Int}(hf:∀v∈vs,mH s.heap v (f v))(hr:∀i,i+1<vs.length->f (vs.getD i .none)<f (vs.getD (i+1) .none)){Q:Nat->v_->Prop}(h:Q vs.length s):
  ∀k n,1<=n->n+k=vs.length->(kas_asc (List.toArray (H_ vs.length)) k n).kasWp (kas_ask prog w A (tuples' true) vs) Q s
 | 0,n,_,e=>by rw[Nat.add_zero]at e;rw[←e]at h;exact h
 |k+1,n,h1,e=>by
  have g:∀i,i<vs.length->(List.toArray (H_ vs.length)).getD i 0=i:=λi hi=>by simp[hi]
  have m:∀i,i<vs.length->vs.getD i .none∈vs:=λi hi=>by rw[M_,d_ hi];exact D_ hi
  show kas_ask prog w A (tuples' true) vs _ _ _ s;rw[g n (by omega),g (n-1) (by omega)];refine Lv (hf _ (m n (by omega))) (hf _ (m (n-1) (by omega))) ?_ (Cf hf hr h k (n+1) (by omega) (by omega));have:=hr (n-1) (by omega)
  rwa [show n-1+1=n by omega]at this
theorem DI{a:l_}{vs:List n_}{n:Nat}{P:PySem.Fin->v_->Prop}{f:n_->Int}(ho:s.heap.get? a=some (seqObj "list" vs.toArray n))(hf:∀v∈vs,mH s.heap v (f v))(hr:∀i,i+1<vs.length->f (vs.getD i .none)<f (vs.getD (i+1) .none))(h64:vs.length<64)
  (h:P (.done (.ret .none)) { s with heap:=sortedHeap s.heap a vs vs.toArray }):F_ (model prog w) A (Builtin.«list.sort» #[[.ref a],[]]) P E s:=by
 rw[list_sort_plain];have hz:vs.length<=A_:=by rw[qb5];omega
 have ha:a<s.heap.objs.size:=C_ ho;refine f_ (listItems_at ho Y ?_);refine f_ (listUpdate_at ho Y ?_ (by rw[y_];exact hz) (O_ _));obtain⟨e1,JS⟩:∃e1,(s.heap.update a (qay λ_=>(#[]:Array n_))).get? a=some (seqObj "list" #[] e1):=#[_,get?_update_seq ho (λ_=> #[])];refine f_ (seqEpoch_at JS Y ?_);refine f_ (wpAny_newTuple ?_ hz);refine f_ (wpAny_newList ?_ (O_ _));refine qaw ?_;have ho6:(((s.heap.update a (qay λ_=>(#[]:Array n_))).push (seqObj "tuple" vs.toArray 0)).push (seqObj "list" #[] 0)).get? a=some (seqObj "list" #[] e1):=by
  rw[Heap.get?_push_ne _ _ _ (by rw[size_push',Heap.size_update];exact V_ (qcr ha)),Heap.get?_push_ne _ _ _ (by rw[Heap.size_update];exact V_ ha)];exact JS
 have XN:∀v∈vs,mH (((s.heap.update a (qay λ_=>(#[]:Array n_))).push (seqObj "tuple" vs.toArray 0)).push (seqObj "list" #[] 0)) v (f v):=λv hv=>(hf v hv).keep λb o hc e=>by
  have hb:b≠a:=λz=>by
   subst z;rw[ho]at e;cases e;exact absurd (show Value.type "list" =Value.type "tuple" from hc) (λz=>absurd (Value.type.inj z) (by decide))
  exact g_ _ (g_ _ (((qbY s.heap a (qay λ_=>(#[]:Array n_))).2 b hb).trans e))
 show F_ (model prog w) A _ P E { s with heap:=((s.heap.update a (qay λ_=>(#[]:Array n_))).push (seqObj "tuple" vs.toArray 0)).push (seqObj "list" #[] 0) };dsimp only;have fin:∀out:Array n_,out=vs.toArray->P (.done (.ret .none)) { s with heap:=sortedHeap s.heap a vs out }:=λout e=>by rw[e];exact h
 by_cases h2:vs.toArray.size<2
 ·rw[if_pos h2,if_pos h2];refine f_ (q_ ?_);rw[StateT.run_pure];refine f_ (q_ ?_);dsimp only;refine f_ (seqEpoch_at ho6 Y ?_);refine f_ (listUpdate_at ho6 Y ?_ (O_ _) (by rw[Array.size_map];show(vs.toArray.zip vs.toArray).size<=_;rw[Array.size_zip,qb5];omega));simp only[bne_self_eq_false,qaF,if_false];refine q_ (fin _ ?_);apply qbz.mp;rw[Array.toList_map];show((vs.toArray.zip vs.toArray).toList).map _=_;rw[Ff,U_];exact List.map_id vs
 ·rw[if_neg h2,if_neg h2];have h2':2<=vs.length:=by simpa using h2
  obtain⟨fs,kt,kl,YT⟩:=tu XN;refine f_ (kat_kind (T:=Value.type "int") kt (by omega) (λv hv=>?_) Y ?_)
  ·obtain⟨i,t,rfl⟩:=YT v hv;exact Looks.now
  show F_ _ _ (do let x ←(StateT.run sortRuns' (SortSt.mk' (tuples' true) _ #[] 7 none));_) _ _ _
  refine f_ (qaC (kat_run (ks:=vs) (vs:=vs) (κ:=tuples' true) (Q:=λst' s'=>(arrOf st').map (·.2)=vs.toArray/\failedOf st'=none/\s'={ s with heap:=((s.heap.update a (qay λ_=>(#[]:Array n_))).push (seqObj "tuple" vs.toArray 0)).push (seqObj "list" #[] 0) })
   (G:=λp s'=>p=List.toArray (H_ vs.length)/\s'={ s with heap:=((s.heap.update a (qay λ_=>(#[]:Array n_))).push (seqObj "tuple" vs.toArray 0)).push (seqObj "list" #[] 0) }) rfl h2' h64 (λp st' s' hp har hfl hG=>#[?_,hfl,hG.2]) ?_) (λr s' hR=>?_) λ_ _ e=>e)
  ·rw[kat_snds rfl har,hG.1];congr 1;refine qa0 (by simp) λi h1 h2=>?_;have hi:i<vs.length:=by simpa using h2
   simp[hi]
  ·unfold kas_sort;rw[KasT.kasWp_bind];unfold kas_count;rw[KasT.kasWp_bind];refine Cf (s:={ s with heap:=((s.heap.update a (qay λ_=>(#[]:Array n_))).push (seqObj "tuple" vs.toArray 0)).push (seqObj "list" #[] 0) }) XN hr ?_ (vs.length-1) 1 (i_ _) (by omega);rw[if_pos (by simp)]
   show(if vs.length<vs.length then _ else _:KasT (Array Nat)).kasWp _ _ _
   rw[if_neg (qav _)];exact#[Y,Y]
  ·obtain⟨eo,hfl,rfl⟩:=hR;refine f_ (seqEpoch_at ho6 Y ?_);refine f_ (listUpdate_at ho6 Y ?_ (O_ _) (by
    show((arrOf r.2).map (·.2)).size<=_;rw[eo,y_];exact qcp hz))
   rw[hfl];simp only[bne_self_eq_false,qaF,if_false];exact q_ (fin _ eo)
end
end TS
namespace L2
open PySem PySem.Spec PyProof.Rows
theorem Bc{X:Cx}{i:Nat}{y:w_}{py spos:qc5}{elt tg iter test:Expr}{tt:TT}{scope:qcT}{pos:qc5}{wi:TI}{g:TG}{te:TE}{N:List w_}{lG:St->St}(hN:X.N.Nodup)(hi:X.N[i]? =some y)(hx:Loc X.env.scope y)
  (hc:X.calm=true) (hS:X.Ok->∃cl,eT X scope cl N lG) (hit:PI X tg iter wi)
  (hg:∀cl C s H ex pn E,PG (eG X scope cl C N s H ex pn E) tg g) (he:∀cl C s H ex pn E,PE (eG X scope cl C N s H ex pn E) elt te) (ht:∀cl C s H ex pn E,PT (eG X scope cl C N s H ex pn E) test tt)
  (hsw:swapsWith (.ListComp elt [#[tg,iter,[test],0]] scope pos) (some (.Name y py)) spos.line X.env=pure true:=by rfl)
  (hf:X.fn y=true\/X.env.scope.names.lookup y=some .local:=by first|exact .inl rfl|exact .inr rfl|assumption)
  (hs:∀x,foldedSetIterable iter X.env x=pure x:=by intro _;rfl):PS X (.Assign [.Name y py] (.ListComp elt [#[tg,iter,[test],0]] scope pos) spos) (Kl (rC wi g tt te lG) (BI i)):=by
 intro pins s σ H D I h;rw[exec_Assign_Name_used _ _ _ _ hsw];refine f_ (qcJ (f_ ?_))
 show F_ _ X.A (do let _ ←comprehension (.ListComp elt [#[tg,iter,[test],0]] scope pos) scope X.env _ (newList []) false (eval iter X.env) (some (assign (.Name y py) X.env))) _ _ s
 refine f_ (qaC (vO (use:=some (assign (.Name y py) X.env)) (QQ:=λ_ s'=>SP X pins D .next s') hc hS hit hg he ht hs I h ?_) (λ_ s' hq=>q_ (q_ hq)) λ_ _ e=>e);intro l C mC H' s' I' fp hn q;show F_ _ X.A (assign (.Name y py) X.env (.ref l)) _ _ _;refine wpAny_assign_Name (rE I' hN hi hx (v:=.ref l) Y (λs2 I2 sb=>?_) hf);obtain⟨a,sb,ha⟩:=sb;have nC:C≠a:=by
  obtain⟨_,f1,_,_,f4,_⟩:=fp;rcases ha with z|z
  ·rw[z];exact f1
  ·exact λe=>f4 y a z e.symm
 refine#[mC,hn.sameBut sb nC,λh' Ut=>?_];refine#[_,H',I2.moved (ch:=[C]) (t':=s2.toks) (λb o hb e=>(Ut.2 b (by simpa using hb)).trans e) (λb hb=>?_),q];rw[u_.mp hb];exact fp
noncomputable def P6(lo:Int)(n:Nat):It:=#[λi _=>i<n,λi H x H'=>H'=H/\x= .int (lo-i),λi _=>n<=i]
theorem AD{K:zaa}(it:l_)(lo:Int)(n:Nat):Turn P w K tg (P6 lo n) [it] it (λi h=>IsRangeIter h it (lo+(i:Nat)*(-1)) ((n:Int)-(i:Nat)) (-1)) where
 mem:=by simp
 obj:=λi h st b hb=>by
  have e:b=it:=by simpa using hb
  subst e;exact#[_,st,λv z=>by
   have z':Data.fields _=Data.cell v:=z;cases z']
 keep:=λi h h' st k=>k it (by simp) _ st
 item:=by
  intro X hP hw hK hc i pins s σ H E I hf st hg;subst hP hw hK;obtain⟨f0,f1,f2,f3,f4,f5⟩:=hf it (by simp);have W:=Walks.range (prog:=X.prog) (w:=X.w) (I.ok.hd hc) it lo (-1) n;refine TK.bP (i_ s.toks) (W.item i s _ _ hg st λv h' tk hv st' kk hup=>?_);obtain⟨t,rfl⟩:=hv;have I1:Inv X pins σ H { s with heap:=h',toks:=tk }:=I.turned (λb o hb e=>kk b o (by simpa using hb) e) f0 f1 f3 f4 f5;refine#[_,Y,xX (s:={ s with heap:=h',toks:=tk }) (n:= "range_iterator") st' Y Y (by decide) #[.int (lo-i),H,I1,#[t,?_],#[Y,Y],st',λb hb=>(hf b hb).1]];rw[Int.mul_neg,Int.mul_one,Int.sub_eq_add_neg]
 done:=by
  intro X hP hw hK hc i pins s σ H E I hf st hg;subst hP hw hK;obtain⟨f0,f1,f2,f3,f4,f5⟩:=hf it (by simp);exact wpAny_pyNext_range_end (I.ok.hd hc) st (by have:n<=i:=hg;omega) λh' eb=>#[Y,I.turned (t':=s.toks) (λb o hb e=>eb b o hb e) f0 f1 f3 f4 f5]
 self:=λ_ _ _ _ _ st h=>wpAny_pyIter_rangeiter st h
theorem xJ(lo hi:Int):qbZ lo hi (-1)=(((lo-hi).toNat:Nat):Int):=by
 unfold qbZ;rw[if_neg (by decide)];split
 ·rw[show(-(-1:Int))=1 from rfl,Int.ediv_one];omega
 ·omega
theorem small_down(ha: -(2 ^ 62)<=a)(ha':a<2 ^ 62)(hb: -(2 ^ 62)<=b)(hb':b<2 ^ 62):Builtin.Range.small a b (-1)=true:=by
 unfold Builtin.Range.small;rw[xJ];simp only[Builtin.Range.rangeFitsLong,N_,Bool.or_eq_true,decide_eq_true_eq,beq_iff_eq,show ¬(-1:Int)>0 by decide,if_false];omega
section
variable{X:Cx}{tg:Expr}
theorem FO{pins:List (l_×qbW)}{σ:St}{H:Hp}{s:v_}{R:It->Hp->Prop}{E:n_->v_->Prop}{lo hi:Int}{t u v:Tok}{tk:Nat}(I:Inv X pins σ H s)(h1: -(2 ^ 62)<=lo)(h2:lo<2 ^ 62)(h3: -(2 ^ 62)<=hi)(h4:hi<2 ^ 62)
  (q:R (P6 lo (lo-hi).toNat) H) (htk:s.toks<=tk:=by first|exact i_ _|exact qaA _|assumption|omega):F_ (model X.prog X.w) X.A (pyIter (.ref s.heap.objs.size)) (Wx X pins σ tg R) E { s with heap:=s.heap.push { cls:=.type "range",data:=.fields (List.toArray [.int lo t,.int hi u,.int (-1) v]) },toks:=tk }:=by
 refine wpAny_pyIter_range (IsRange.new ..) (small_down h1 h2 h3 h4) ?_;have I1:Inv X pins σ H { s with heap:=s.heap.push { cls:=.type "range",data:=.fields (List.toArray [.int lo t,.int hi u,.int (-1) v]) },toks:=tk }:=I.kept λb o e=>g_ _ e;refine#[(s.heap.push { cls:=.type "range",data:=.fields (List.toArray [.int lo t,.int hi u,.int (-1) v]) }).objs.size,[(s.heap.push { cls:=.type "range",data:=.fields (List.toArray [.int lo t,.int hi u,.int (-1) v]) }).objs.size],_,_,H,Y,
  I1.kept (t':=tk) λb o e=>g_ _ e,AD _ lo (lo-hi).toNat,?_,λb hb=>?_,q]
 ·have e1:lo+((0:Nat):Int)*(-1)=lo:=by simp
  have e2:(((lo-hi).toNat:Nat):Int)-((0:Nat):Int)=qbZ lo hi (-1):=by rw[xJ];omega
  show IsRangeIter _ _ (lo+((0:Nat):Int)*(-1)) ((((lo-hi).toNat:Nat):Int)-((0:Nat):Int)) (-1);rw[e1,e2];exact I_ _ Y
 ·have e:b=(s.heap.push { cls:=.type "range",data:=.fields (List.toArray [.int lo t,.int hi u,.int (-1) v]) }).objs.size:=by simpa using hb
  subst e;exact I1.sG (i_ _) (I1.hok.fresh (i_ _))
def Rj(ta:TA):TI:=λσ H R=>ta σ H λvs H1=>bU λi j:Int=>vs=[.int i,.int j,.int (-1)]/\(-(2 ^ 62)<=i/\i<2 ^ 62/\ -(2 ^ 62)<=j/\j<2 ^ 62)/\R (P6 i (i-j).toNat) H1
theorem FT{a b c:Expr}{ta:TA}{p pos:qc5}(hg:Gl X "range")(hm:X.mg "range" =none)(ha:PA X [a,b,c] ta)(hs:qaa [a,b,c] X.env=[(false,eval a X.env),(false,eval b X.env),(false,eval c X.env)]:=by rfl)(hs2:qaa [b,c] X.env=[(false,eval b X.env),(false,eval c X.env)]:=by rfl) :
  PI X tg (.Call (.Name "range" p) [a,b,c] [] pos) (Rj ta):=by
 intro pins s σ H R I h;refine Call_ (kr I hg hm boot_range (qau (dm (ha pos pins s σ H _ I h) λus s1 ⟨vs,H1,I1,r1,q1⟩=>?_) (by rw[hs,hs2]) (by rw[hs2];rfl)));obtain⟨i,j,e,⟨q1,q2,q3,q4⟩,q⟩:=q1;subst e
 cases r1 with
 |cons r rr =>
  cases rr with
  |cons r' rr =>
   cases rr with
   |cons r'' rr =>
    cases rr;obtain⟨t,rfl⟩:=r;obtain⟨t',rfl⟩:=r';obtain⟨t'',rfl⟩:=r'';exact call_range_3 (by decide) (FO I1 q1 q2 q3 q4 q) (.inl (PyProof.noPylong_small (by decide)))
end
theorem I0{lo:Int}{n:Nat}{g:TG}{tb:TS}{D:Ends}(Pv:Nat->St->Hp->Prop)(h0:Pv 0 σ H)
  (hs:∀i σ H,i<n->Pv i σ H->g (.int (lo-i)) σ H λσ2 H2=>tb { D with nx:=Pv (i+1),ct:=Pv (i+1),bk:=D.nx } σ2 H2) (hd:∀ σ H,Pv n σ H->D.nx σ H) :
  ∃W:Nat->Nat->St->Hp->Prop,(∃m,W 0 m σ H)/\∀i m σ H,W i m σ H →
   ((P6 lo n).stop i H/\D.nx σ H)\/((P6 lo n).go i H/\∃N:St->Hp->Prop,(∀ σ' H',N σ' H'->∃m',m'<m/\W (i+1) m' σ' H')/\∀x H',(P6 lo n).Ai i H x H'->g x σ H' λσ2 H2=>tb { D with nx:=N,ct:=N,bk:=D.nx } σ2 H2):=by
 refine#[λi m σ H=>m=n-i/\i<=n/\Pv i σ H,#[n,by simp,O_ _,h0],?_];rintro i m σ H ⟨rfl,hi,p⟩;by_cases hlt:i<n
 ·refine .inr #[hlt,Pv (i+1),λσ' H' p'=>#[n-(i+1),by omega,Y,hlt,p'],λx H' y=>?_];obtain⟨e,y⟩:=y;subst e y;exact hs i σ _ hlt p
 ·have e:i=n:=by omega
  subst e;exact .inl #[i_ _,hd σ H p]
end L2
namespace GP
open PySem L2 eV
end GP
namespace L2
open PySem PySem.Spec PyProof.Rows
section
noncomputable def yr(K:zaa)(t:Nat):Bool:=match K.lookup qa7 with
 |some ⟨_,_,.dict es _,_⟩=>es.all λe=>match e.val with| .str _ u=>Nat.blt u t&& !(Nat.beq u 0)|_=>true
 |_=>false
theorem DT{n:w_}(h:PySem.findBy f es n=some v):∃e∈es,e.val=v:=by
 unfold PySem.findBy at h;obtain⟨e,he,rfl⟩:=qby.mp h;exact#[e,Array.mem_of_find?_eq_some he,Y]
theorem Kd{K:zaa}(KX:K.In h)(hns:h.Ns qa7 mg)(c:yr K t=true):Cg mg t:=by
 obtain⟨o,es,ep,e,d,_,hm⟩:=hns;unfold yr at c;split at c
 ·rename_i cl dd es' TL sl hl
  have e':=KX _ _ hl;rw[e]at e';cases e';cases d;intro x v u hx;obtain⟨en,hen,ev⟩:=DT ((hm x).trans hx);have z:=Array.all_eq_true'.mp c en hen;rw[ev]at z;simp only[N_,Nat.blt_eq,qbq]at z;exact#[z.1,λq=>by rw[q]at z;exact absurd z.2 (by decide)]
 ·cases c
theorem G2{l:zbi}{n k N t:Nat}{XP:(w_->Option n_)->qaE->Prop}{K:Params->zaa}{CX:qaG->Ei}{sp:qaG->Sp}{x:w_}
  (hn:l.most=some n) (hn2:n<=A_) (hdf:d.params.defaults=[]) (hr:g8 k callerA)
  (hk:∀P,as=(K P).map (·.1)) (ht:∀P,yr (K P) t=true)
  (F:∀(w:qaG) (mg:w_->Option n_) (fa:l_) (h:qaE),(K w.params).In h->h.Ns qa7 mg->mg d.name=some (.ref fa) →
   ∃fd:qce,(∀(s:v_) (u:n_),BindsTo s fd #[[u],[]] [(x,u)]) ∧
    ∀base:qaE,(K w.params).In base->base.Ns qa7 mg->nI l.prog w (K w.params) mg base (CX w) k fa fd [x] (sp w))
  (Co:∀(w:qaG) (H:Hp) (a:l_) (ns:List Int),ns.length<=n->Pj H->bq (K w.params) H a (ns.map V.int)->sp w [.ref a] H (λv _=>v= .bl true) λ_ _ _=>False)
  (V6:∀(w:qaG) (H:Hp) (s:v_) (e:n_) (s':v_),CX w [] H s (λ_ _ _=>False) e s'->False) :
  zbz q loose XP (PySem.W.X.obsZ as) (PySem.W.X.valZ K N t) l.row.toRowW d [] (λf vs=>PySem.call f vs):=by
 intro w s₀ s₁ mg mb G y fa o pm cd doc dV kV ho hd hcd hD hmg hg args vals as' L hpre hlay hrd hwl hlo;have Z:=PySem.W.X.z_facts hk y;have tk:t<=s₁.toks:=by
  obtain⟨ord,_,e⟩:=L.laid;have g:=(PySem.W.layAllW_grows _ _ _ e).toks;rw[Z.2.2.2]at g;exact g
 have KX:(K w.params).In s₁.heap:=PySem.W.InK.keeps w s₀.heap s₁.heap Z.2.1 L.keeps;obtain rfl:dV= .none:=PySem.W.Dflts.none hD hdf;obtain rfl:kV= .none:=PySem.W.Dflts.noKw hD;obtain⟨a,vs,ns,rfl,rfl,hobj,hints,hlen⟩:=WD.FF hn hpre hwl;obtain⟨fd,hb,hF⟩:=F w mg fa _ KX G.T.g hmg;refine PySem.W.enter_call (qbM (IC KX G.T.g G.T.b G.T.builtins G.T.nolimit hg ((Kd KX G.T.g (ht _)).mono tk) hobj hints (gc hlen hn2) hr hF hb (λH hO hS=>Co w H a ns hlen hO hS) λH e s'=>V6 w H s₁ e s') λr s' hq=>?_);obtain⟨rfl,h2,h3,h4⟩:=hq
 exact#[.inl #[.bool true,.bool true,[],Y,λ_=>rfl,.bool true,WD.FQ l _,λ_=>#[List.Pairwise.nil,λ_ hm=>(nomatch hm)]],h2,h3,h4]
end
section
noncomputable def aO(c:Nat)(z:w_):w_:=⟨(z.cps.toList.filter (· != c)).toArray⟩
theorem C0(z:w_)(c:Nat):Txt.replace z ⟨#[c]⟩ ⟨#[]⟩=aO c z:=by
 have h:=replace_strikes z c;unfold aO;rw[←h]
def Kf(c:Nat)(to:TE):TE:=λσ H Q=>to σ H λx H1=>∃z:w_,x= .str z/\z.cps.size<=1000000/\Q (.str (aO c z)) H1
section
variable{X:Cx}{o:Expr}{to:TE}{g:w_}{c j:Nat}{u:Tok}{apos cpos p1 p2:qc5}
theorem FU(ho:PE X o to)(hg:Gl X g)(hmg:X.mg g=some (.str ⟨#[c]⟩ u))
  (hbase:attributeBase o "replace" X.env (eval o X.env)=eval o X.env:=by rfl)
  (hfew:((backTo cpos (qaa [.Name g p1,.Constant (.str "") j p2] X.env)).all (λx=>!x.1)&&(backToKw cpos (keywordEach [] X.env)).all (λx=>x.1.isSome)
   && decide (([.Name g p1,.Constant (.str "") j p2]:List Expr).length+([]:List Keyword).length+(if([]:List Keyword).isEmpty then 0 else 1)<30))=true:=by rfl)
  (hline:(apos.endLine==cpos.line)=true:=by rfl) (hs:qaa [.Name g p1,.Constant (.str "") j p2] X.env=[(false,eval (.Name g p1) X.env),(false,eval (.Constant (.str "") j p2) X.env)]:=by rfl)
  (hd:(g==("__debug__" :w_))=false:=by decide) :
  PE X (.Call (.Attribute o "replace" apos) [.Name g p1,.Constant (.str "") j p2] [] cpos) (Kf c to):=by
 intro pins s σ H Q I h;refine wpAny_Call_method_late hbase hfew hline Y (dm (ho pins s σ H _ I h) λv s1 ⟨x,H1,I1,r1,q1⟩=>?_);obtain⟨z,rfl,hz,q⟩:=q1;obtain⟨h1,h2⟩:=Cw (T:= "str") I1 r1 rfl;obtain⟨t,rfl⟩:=r1;refine#["str",_,F.plainAttrs_str,F.slot_str_replace,F.type_str_replace,h1,h2,?_];rw[hs];refine qb_ Y (qcw ?_);refine qcO (jC I1 hg hmg ?_ hd);show F_ _ _ (spliced [(false,eval (.Constant (.str "") j p2) X.env)]) _ _ s1;refine qcO (Calls.Constant_str (Calls.spliced_nil ?_));obtain⟨k1,k2⟩:=I1.tk g _ _ hmg;have I2:Inv X pins σ H1 { s1 with toks:=s1.toks+1 }:=I1.tok _;refine TK.bP (i_ (s1.toks+1)) (SC.replace (s:={ s1 with toks:=s1.toks+1 }) k2 (qaU (o_ (O_ u) k1)) (V_ k1) ?_ ?_ λt' k hk=>?_)
 ·show(((⟨#[c]⟩:w_))==((⟨#[]⟩:w_)))=false;exact beq_eq_false_iff_ne.mpr λe=>by cases e
 ·show z.cps.size+(z.cps.size+1)*0<=16777216;omega
 ·refine#[.str (aO c z),H1,I2.tok k hk,#[t',?_],q];rw[←C0];rfl
end
end
section
noncomputable abbrev sg(c:Nat):V:=.str ⟨#[c]⟩
theorem uq:∀{cs:List Nat} {us:List n_},Vals (cs.map sg) us->∃l:List (w_×Tok),us=strValues l/\l.map (·.1)=cs.map λc=>(⟨#[c]⟩:w_)
 |[],_,.nil=>#[[],rfl,rfl]
 |c::cs,_,.cons r rs=>by
  obtain⟨t,e⟩:=r;obtain⟨l,e1,e2⟩:=uq rs;exact#[(⟨#[c]⟩,t)::l,by rw[e,e1];rfl,by rw[qag,e2];rfl]
theorem x8:∀(l:List Nat) (n:Nat),(l.map λc=>(⟨#[c]⟩:w_)).foldl (λa (x:w_)=>a+x.length+(⟨#[]⟩:w_).length) n=n+l.length
 |[],_=>rfl
 |c::l,n=>by
  rw[qag,qch,x8 l];show n+1+0+l.length=n+(l.length+1);omega
theorem Ir(hK:X.K=K'):Nb X "str.join" (λx xs H Q=>bU λ(l:l_) (cs:List Nat)=>x= .str ⟨#[]⟩/\xs=[.ref l]/\bq K' H l (cs.map sg)/\cs.length<=100000/\Q (.str ⟨cs.toArray⟩) H):=by
 subst hK;intro pins s σ H x xs v us Q I rx rs h;obtain⟨l,cs,rfl,rfl,hl,hn,q⟩:=h;obtain⟨t,rfl⟩:=rx
 cases rs with
 |cons r rr =>
  cases rr;cases r;obtain⟨its,r1,t1,_⟩:=I.list hl;obtain⟨ls,e1,e2⟩:=uq r1;refine TK.bP (i_ s.toks) (SC.join (l:=ls) (by rw[←e1];exact t1.isList) e2 ?_ λt' k hk=>#[.str ⟨cs.toArray⟩,H,I.tok k hk,#[t',?_],q])
  ·unfold JoinOk;rw[List.foldl_toArray,x8];unfold Builtin.Str.tooLong;rw[qbq,decide_eq_false_iff_not,qc3];exact qc7.mpr (gc hn (by decide))
  ·have e:Txt.join ⟨#[]⟩ (cs.map λc=>(⟨#[c]⟩:w_))=⟨cs.toArray⟩:=by
    show Builtin.Str.glued _ _=_;rw[StrLaws.glued_eq_join,join_ones]
   rw[e]
theorem zv:Nb X "str.join" (λx xs H Q=>bU λ(l:l_) (cs:List Nat)=>x= .str ⟨#[]⟩/\xs=[.ref l]/\bq X.K H l (cs.map sg)/\cs.length<=100000/\Q (.str ⟨cs.toArray⟩) H):=Ir rfl
end
section
noncomputable def nv(sp:Sp):Sp:=λvs H Q _=>sp vs H Q λ_ _ _=>False
theorem nI.nv{K:zaa}(F:nI P w K mg base (vY P w) k f fd ps sp):nI P w K mg base cZ k f fd ps (nv sp) :=
 #[λvs H Q E q=>F.len vs H Q _ q,λA outer s H args us vs Q E hr he hb hv hs=>qbM (F.run A outer s H args us vs Q _ hr he hb hv hs) λr s' h=>by
  cases r with
  |error e=>obtain⟨ea,cls,od,H',h⟩:=h;exact(h.2.2.2.2.2.2.2:False).elim
  |ok fl=>cases fl<;>exact h]
theorem eL{J:It}{g:TG}{te:TE}{D:Hp->Prop}(n:Nat)(f:Nat->V)(hl:H1 l=none)(hn:n<A_)
  (go:∀i H,aj H1 H->i<n->J.go i H) (st:∀H,aj H1 H->J.stop n H)
  (el:∀i x H H3 (R:VK),aj H1 H->i<n->J.Ai i H x H3->(∀H5,aj H H5->R (f i) H5)->g x σ' H3 λxq H4=>Kp σ' xq/\te xq H4 R)
  (fin:∀H',aj H1 H'->H' l=some (.lst ((H_ n).map f))->D H') :
  ∃W:Nat->Nat->List V->Hp->Prop,(∃m,W 0 m [] (upd H1 l (.lst [])))/\∀i m ys H2,W i m ys H2->(J.stop i H2/\D H2) ∨
   (J.go i H2/\∀x H3,J.Ai i H2 x H3->g x σ' H3 λxq H4=>Kp σ' xq/\te xq H4 λy H5=>H5 l=some (.lst ys)/\ys.length<A_/\∃m',m'<m/\W (i+1) m' (ys++[y]) (upd H5 l (.lst (ys++[y])))):=by
 refine#[λi m ys H2=>m=n-i/\i<=n/\ys=(H_ i).map f/\aj H1 H2/\H2 l=some (.lst ys),#[n,Y,O_ _,Y,GP.aj.upd hl,ai],?_];rintro i m ys H2 ⟨rfl,hi,rfl,s2,h2⟩;by_cases hlt:i<n
 ·refine .inr #[go i H2 s2 hlt,λx H3 y=>el i x H2 H3 _ s2 hlt y λH5 s5=>?_];refine#[s5 _ _ h2,by rw[e_,X_];omega,n-(i+1),by omega,Y,hlt,?_,GP.aj.at (s2.trans s5) hl,ai];rw[qbe,E_];rfl
 ·have e:i=n:=by omega
  subst e;exact .inl #[st H2 s2,fin H2 s2 h2]
theorem E5{J:It}{g:TG}{tt:TT}{te:TE}{D:Hp->Prop}(n:Nat)(b:Nat->Bool)(f:Nat->V)(hl:H1 l=none)(hn:n<A_)
  (go:∀i H,aj H1 H->i<n->J.go i H) (st:∀H,aj H1 H->J.stop n H)
  (el:∀i x H H3 (R:VK) (S:Hp->Prop),aj H1 H->i<n->J.Ai i H x H3->(b i=true->∀H5,aj H H5->R (f i) H5)->(b i=false->∀H5,aj H H5->S H5) →
   g x σ' H3 λxq H4=>Kp σ' xq/\tt xq H4 λb' H5=>if b'=true then te xq H5 R else S H5)
  (fin:∀H',aj H1 H'->H' l=some (.lst (((H_ n).filter b).map f))->D H') :
  ∃W:Nat->Nat->List V->Hp->Prop,(∃m,W 0 m [] (upd H1 l (.lst [])))/\∀i m ys H2,W i m ys H2->(J.stop i H2/\D H2) ∨
   (J.go i H2/\∀x H3,J.Ai i H2 x H3->g x σ' H3 λxq H4=>Kp σ' xq/\tt xq H4 λb H5 =>
    if b=true then te xq H5 (λy H6=>H6 l=some (.lst ys)/\ys.length<A_/\∃m',m'<m/\W (i+1) m' (ys++[y]) (upd H6 l (.lst (ys++[y]))))else ∃m',m'<m/\W (i+1) m' ys H5):=by
 refine#[λi m ys H2=>m=n-i/\i<=n/\ys=((H_ i).filter b).map f/\aj H1 H2/\H2 l=some (.lst ys),#[n,Y,O_ _,Y,GP.aj.upd hl,ai],?_];rintro i m ys H2 ⟨rfl,hi,rfl,s2,h2⟩;by_cases hlt:i<n
 ·refine .inr #[go i H2 s2 hlt,λx H3 y=>el i x H2 H3 _ _ s2 hlt y (λhb H5 s5=>?_) λhb H5 s5=>?_]
  ·refine#[s5 _ _ h2,?_,n-(i+1),by omega,Y,hlt,?_,GP.aj.at (s2.trans s5) hl,ai]
   ·rw[e_];exact o_ (gc (qaH _ _) (by rw[X_];omega)) hn
   ·rw[qbe,qcR,E_,qbr hb];rfl
  ·refine#[n-(i+1),by omega,Y,hlt,?_,s2.trans s5,s5 _ _ h2];rw[qbe,qcR,qbs (by rw[hb];exact K_),List.filter_nil,qaQ]
 ·have e:i=n:=by omega
  subst e;exact .inl #[st H2 s2,fin H2 s2 h2]
end
end L2
namespace GP
open PySem L2 eV
def Rw(K:zaa)(H:Hp)(v:V)(rs:List w_):Prop:=∃a,v= .ref a/\(bq K H a (rs.map V.str)\/bV K H a (rs.map V.str))
theorem Rw.same(h:Rw K H v rs)(e:aj H H'):Rw K H' v rs:=by
 obtain⟨a,h1,h2⟩:=h;exact#[a,h1,h2.imp (aj.seq e) (aj.tup e)]
theorem Rw.cp(h:Rw K H v rs):∃c:Cp,v=c.val/\∀H',aj H H'->c.at K H' (rs.map V.str):=by
 obtain⟨a,rfl,h|h⟩:=h
 ·exact#[.lst a,Y,λH' e=>aj.seq e h]
 ·exact#[.tup a,Y,λH' e=>aj.tup e h]
theorem Rw.len(h:Rw K H v rs):JJ K v H rs.length:=by
 obtain⟨a,rfl,h|h⟩:=h
 ·exact .inl #[_,h,by rw[e_]]
 ·exact .inr #[_,h,by rw[e_]]
theorem Rw.ix{i:Nat}(h:Rw K H v rs)(e:rs[i]? =some r)(q:Q (.str r) H):UH K v (.int (i:Int)) H Q:=by
 obtain⟨a,rfl,h|h⟩:=h
 ·exact .inl #[a,_,_,_,Y,Y,h,bx (by rw[j_,e];rfl),q]
 ·exact .inr (.inl #[a,_,_,_,Y,Y,h,bx (by rw[j_,e];rfl),q])
structure tH(rs:List w_):Prop where
 len:rs.length<=100
 row:∀r∈rs,r.cps.size<=1000
noncomputable def cF(rs:List w_)(n:Nat):List Nat:=rs.map λr=>r.cps.toList.getD n 0
noncomputable def dg(rs:List w_)(n:Nat):w_:=⟨(cF rs n).toArray⟩
noncomputable def cols(rs:List w_)(n:Nat):List w_:=(H_ n).map (dg rs)
noncomputable def bL(x:w_):Bool:=x.cps.toList.all (·==45)
noncomputable def iQ(x:w_):Bool:=(aO 45 x).cps.toList.all dS
noncomputable def gB:List w_->Bool
 |[]=>false
 |r::rs=>(r::rs).all λx=>x.cps.size==r.cps.size
noncomputable def bz(rs:List w_):Nat:=(rs.headD ⟨#[]⟩).cps.size
noncomputable def vP(rs:List w_):Bool:=(cols rs (bz rs)).all λc=>!bL c
noncomputable def bI(rs:List w_):Bool:=gB rs&&(rs.all iQ&&vP rs)
theorem aV:gB rs=true↔rs≠[]/\∀r∈rs,r.cps.size=bz rs:=by
 cases rs with
 |nil=>exact#[λh=>(by cases h),λh=>absurd Y h.1]
 |cons r rs =>
  show((r::rs).all λx=>x.cps.size==r.cps.size)=true↔_;rw[x_];exact#[λh=>#[by simp,λx hx=>eq_of_beq (h x hx)],λh x hx=>beq_iff_eq.mpr (h.2 x hx)]
theorem LR:decide (V.str x=V.str (ny (p_ "-") (x.length:Nat)))=bL x:=by
 have e:(ny (p_ "-") (x.length:Nat)).cps.toList=G_ x.cps.toList.length 45:=by
  rw[rL];show(G_ x.cps.size [45]).flatten=_;rw[k_];generalize x.cps.size=n
  induction n with
  |zero=>rfl
  |succ n ih=>rw[qas,qaV,ih,qas];rfl
 rw[qa6,decide_eq_true_iff];unfold bL;rw[x_];refine#[λh c hc=>?_,λh=>?_]
 ·injection h with h;rw[h,e]at hc;exact beq_iff_eq.mpr (qbk hc)
 ·have z:x.cps.toList=G_ x.cps.toList.length 45:=List.eq_replicate_of_mem λc hc=>eq_of_beq (h c hc);rw[←e]at z;have:x.cps=(ny (p_ "-") (x.length:Nat)).cps:=qbz.mp z;have e2:x=ny (p_ "-") (x.length:Nat):=by
   rcases h3:ny (p_ "-") (x.length:Nat)with⟨cs⟩;rw[h3]at this;rcases x with⟨xs⟩;exact congrArg Str.mk this
  rw[←e2]
def CK(K:zaa):Sp:=λvs H Q _=>iG λ(v:V) (rs:List w_) (n:Nat)=>vs=[v,.int n]/\Rw K H v rs/\tH rs/\(∀r∈rs,n<r.cps.size)/\∀H',aj H H'->Q (.str (dg rs n)) H'
def Hw(K:zaa):Sp:=λvs H Q _=>iG λ(v:V) (rs:List w_) (n:Nat)=>vs=[v,.int n]/\Rw K H v rs/\tH rs/\n<=1000/\(∀r∈rs,n<=r.cps.size) ∧
 ∀l H',aj H H'->H l=none->H' l=some (.lst ((cols rs n).map V.str))->Q (.ref l) H'
def FA(K:zaa):Sp:=λvs H Q _=>bU λ(v:V) (rs:List w_)=>vs=[v]/\Rw K H v rs/\tH rs/\gB rs=true ∧
 ∀l H',aj H H'->H l=none->H' l=some (.lst ((cols rs (bz rs)).map V.str))->Q (.ref l) H'
def HG:Sp:=λvs H Q _=>∃x:w_,vs=[.str x]/\x.cps.size<=1000/\Q (.bl (bL x)) H
def Fv:Sp:=λvs H Q _=>∃x:w_,vs=[.str x]/\x.cps.size<=1000/\Q (.str (aO 45 x)) H
def AQ:Sp:=λvs H Q _=>∃x:w_,vs=[.str x]/\x.cps.size<=1000/\∀H',aj H H'->Q (.bl (iQ x)) H'
def kL(K:zaa)(C:l_)(H:Hp)(b:l_)(rs:List w_):Prop:=bU λdx q=>H b=some (.ins C dx (aQ "rows" (.ref q) []))/\bV K H q (rs.map V.str)
theorem kL.same(h:kL K C H b rs)(e:aj H H'):kL K C H' b rs:=by
 obtain⟨dx,q,h1,h2⟩:=h;exact#[dx,q,e _ _ h1,aj.tup e h2]
end GP
namespace L2
open PySem PySem.Spec PyProof.Rows
theorem Im:jW X (binaryOp .Add) (λx y H Q=>iG λa b ys=>x= .ref a/\y= .ref b/\bV X.K H a []/\bV X.K H b ys/\Q (.ref b) H):=by
 intro pins s σ H x y v u Q I rx ry h;obtain⟨a,b,ys,rfl,rfl,ha,hb,q⟩:=h;cases rx;cases ry;obtain⟨its,r1,p1,_⟩:=I.tuple ha;obtain⟨its2,r2,p2,z2⟩:=I.tuple hb;cases r1;obtain⟨⟨cls,dd,data,sl⟩,ho,hc,n,hd⟩:=id p1;obtain⟨⟨Wm,dd2,data2,sl2⟩,ho2,hc2,n2,hd2⟩:=id p2;simp only at hc hd hc2 hd2;subst hc hd hc2 hd2;exact concat_meets #[_,ho,Y] #[_,ho2,Y] noFill_tuple_add seq_tuple_add zbf zbg (zbh _ _) (tuple_addW0 a b _ _ n n2 dd dd2 sl sl2 (by simp)) #[ho,ho2,.ref b,H,I,Y,q]
theorem uW:jW X (binaryOp .Add) (λx y H Q=>HY X.K x y H Q\/iG λa b ys=>x= .ref a/\y= .ref b/\bV X.K H a []/\bV X.K H b ys/\Q (.ref b) H):=EC.or Im
end L2
namespace GP
open PySem L2 eV
section
theorem bV.UN(hl:H l=some (.ins C dx fs))(h:bV K H a xs):bV K (L2.upd H l o) a xs:=by
 rcases h with(h|⟨u,h⟩)|h
 ·exact .inl (.inl (by rw[ay (kg h hl (by intro z;cases z))];exact h))
 ·exact .inl (.inr #[u,by rw[ay (kg h hl (by intro z;cases z))];exact h])
 ·exact .inr h
theorem bY:(aQ "rows" q []).lookup ("rows" :w_)=some q:=by
 rw[au,if_pos rfl]
def HB(K:zaa)(C:l_):Sp:=λvs H Q _=>iG λ(b:l_) (n:Nat) (rs:List w_)=>vs=[.ref b,.int (n:Int)]/\kL K C H b rs/\n<rs.length/\rs.length<=100 ∧
 ∀q H',aj H H'->bV K H' q ((rs.eraseIdx n).map V.str)->Q (.ref q) H'
noncomputable def packed(rs:List w_):List w_:=cols ((cols rs (bz rs)).filter λc=>!bL c) rs.length
theorem vQ:(cF rs n).length=rs.length:=by unfold cF;rw[e_]
theorem eK:(dg rs n).cps.size=rs.length:=by
 show(cF rs n).length=_;exact vQ
theorem aU{rs:List w_}{n:Nat}:(cols rs n).length=n:=by unfold cols;rw[e_,X_]
theorem o7(h:i<n):(cols rs n)[i]? =some (dg rs i):=by
 unfold cols;rw[j_,List.getElem?_range h];rfl
theorem jX:iQ x=true↔∀c∈x.cps.toList,c≠45->dS c=true:=by
 unfold iQ aO;rw[x_];refine#[λh c hc n=>h c ?_,λh c hc=>?_]
 ·show c∈x.cps.toList.filter (· != 45);exact qaD.mpr #[hc,by simpa using n]
 ·have hc':c∈x.cps.toList.filter (· != 45):=hc;obtain⟨a,b⟩:=qaD.mp hc';exact h c a (by simpa using b)
theorem o6(h:∀c∈cs,c.cps.size=n):cols (cols cs n) cs.length=cs:=by
 refine qc4 λi=>?_;by_cases hi:i<cs.length
 ·rw[o7 hi,d_ hi];have hs:=h _ (D_ hi);have e:cF (cols cs n) i=cs[i].cps.toList:=by
   unfold cF cols;rw[U_];refine qa0 (by simp[hs]) λj h1 h2=>?_;have hj:j<n:=by simpa using h1
   have hj2:j<cs[i].cps.toList.length:=h2;have e1:(dg cs j).cps.toList.getD i 0=cs[i].cps.toList.getD j 0:=by
    show(cF cs j).getD i 0=_;unfold cF;rw[M_,j_,d_ hi];rfl
   simp only[qaL,qbi,Function.comp];rw[e1,M_,d_ hj2,qaZ]
  unfold dg;rw[e]
 ·rw[qar (by rw[aU];omega),qar (by omega)]
theorem lN(hl:gB rs=true)(ht:rs.all iQ=true):bI (packed rs)=true:=by
 obtain⟨hne,hw⟩:=aV.mp hl;have hlen:0<rs.length:=qaT.mpr hne;have hcs:∀c∈(cols rs (bz rs)).filter (λc=>!bL c),c.cps.size=rs.length:=λc hc=>by
  obtain⟨a,_⟩:=qaD.mp hc;unfold cols at a;obtain⟨j,_,rfl⟩:=z_.mp a;exact eK
 have wQ:∀r∈packed rs,r.cps.size=((cols rs (bz rs)).filter λc=>!bL c).length:=λr hr=>by
  unfold packed cols at hr;obtain⟨j,_,rfl⟩:=z_.mp hr;exact eK
 have hpl:(packed rs).length=rs.length:=aU;have XC:packed rs≠[]:=λz=>by rw[z]at hpl;exact absurd hpl.symm (qaU hlen)
 have Rt:bz (packed rs)=((cols rs (bz rs)).filter λc=>!bL c).length:=by
  cases hp:packed rs with
  |nil=>exact absurd hp XC
  |cons r t=>exact wQ r (by rw[hp];exact r_ ..)
 unfold bI;rw[N_,N_];refine#[aV.mpr #[XC,λr hr=>(wQ r hr).trans Rt.symm],x_.mpr λr hr=>jX.mpr λc hc hn=>?_,?_]
 ·unfold packed at hr;unfold cols at hr;obtain⟨j,hj,rfl⟩:=z_.mp hr;have hj':j<rs.length:=qam.mp hj;have hc':c∈cF ((cols rs (bz rs)).filter λc=>!bL c) j:=hc;unfold cF at hc';obtain⟨col,OU,rfl⟩:=z_.mp hc';obtain⟨a,_⟩:=qaD.mp OU;unfold cols at a;obtain⟨i,hi,rfl⟩:=z_.mp a;have hi':i<bz rs:=qam.mp hi;have e1:(dg rs i).cps.toList.getD j 0=rs[j].cps.toList.getD i 0:=by
   show(cF rs i).getD j 0=_;unfold cF;rw[M_,j_,d_ hj'];rfl
  rw[e1]at hn ⊢;have hm:=D_ hj';have hz:i<rs[j].cps.toList.length:=by rw[k_,hw _ hm];exact hi'
  rw[M_,d_ hz,qaZ]at hn ⊢;exact jX.mp (x_.mp ht _ hm) _ (D_ hz) hn
 ·unfold vP;rw[Rt];unfold packed;rw[o6 hcs,x_];intro c hc;exact(qaD.mp hc).2
theorem Gu(h:gB rs=true)(hn:n<rs.length)(h1:rs.length≠1):gB (rs.eraseIdx n)=true:=by
 obtain⟨hne,hw⟩:=aV.mp h;have hl:(rs.eraseIdx n).length=rs.length-1:=qbD hn;have hn2:rs.eraseIdx n≠[]:=λz=>by rw[z]at hl;have:0=rs.length-1:=hl;omega
 refine aV.mpr #[hn2,λr hr=>?_];have PL:bz (rs.eraseIdx n)=bz rs:=by
  cases hp:rs.eraseIdx n with
  |nil=>exact absurd hp hn2
  |cons r t=>exact hw r (T_ (by rw[hp];exact r_ ..))
 rw[PL];exact hw r (T_ hr)
theorem zV{rs:List w_}{n:Nat}(h:rs.all iQ=true):(rs.eraseIdx n).all iQ=true :=
 x_.mpr λr hr=>x_.mp h r (T_ hr)
theorem Gm:((H_ n).filter λi=>!bL (dg rs i)).map (λi=>V.str (dg rs i))=((cols rs n).filter λc=>!bL c).map V.str:=by
 unfold cols;rw[qcN,U_];rfl
theorem D3(hn:n<=100)(hr:rs.length<=100)(p:w_->Bool):tH ((cols rs n).filter p) :=
 #[gc (qaH _ _) (by rw[aU];exact hn),λr h=>by
  obtain⟨a,_⟩:=qaD.mp h;unfold cols at a;obtain⟨j,_,rfl⟩:=z_.mp a;rw[eK];omega]
theorem Mc(h:r∈(cols rs n).filter p):r.cps.size=rs.length:=by
 obtain⟨a,_⟩:=qaD.mp h;unfold cols at a;obtain⟨j,_,rfl⟩:=z_.mp a;exact eK
theorem yQ(hn:bz rs<=100)(hr:rs.length<=100):tH (packed rs) :=
 #[by unfold packed;rw[aU];exact hr,λr h=>by
  unfold packed cols at h;obtain⟨j,_,rfl⟩:=z_.mp h;rw[eK];exact gc (qaH _ _) (by rw[e_,X_];omega)]
theorem Gr(h:gB rs=true)(hn:n<rs.length)(h1:rs.length≠1):bz (rs.eraseIdx n)=bz rs:=by
 obtain⟨hne,hw⟩:=aV.mp h;have hl:(rs.eraseIdx n).length=rs.length-1:=qbD hn
 cases hp:rs.eraseIdx n with
 |nil=>rw[hp]at hl;have:0=rs.length-1:=hl;omega
 |cons r t=>exact hw r (T_ (by rw[hp];exact r_ ..))
end
section
def JQ(c:Nat):Prop:=c=45\/dS c=true
structure w9(rs:List w_)(n i:Nat):Prop where
 len:rs.length=n
 bz:∀r∈rs,r.cps.size=i
 ok:∀r∈rs,∀c∈r.cps.toList,JQ c
 col:∀j,j<i->∃r∈rs,∃c,r.cps.toList[j]? =some c/\c≠45
theorem w9.w(h:w9 rs n i)(hn:0<n):GP.bz rs=i:=by
 cases hr:rs with
 |nil=>have:=h.len;rw[hr]at this;have:0=n:=this;omega
 |cons r t=>exact h.bz r (by rw[hr];exact r_ ..)
theorem w9.gB(h:w9 rs n i)(hn:0<n):GP.gB rs=true:=by
 refine aV.mpr #[λz=>?_,λr hr=>(h.bz r hr).trans (h.w hn).symm];have:=h.len;rw[z]at this;have:0=n:=this;omega
theorem w9.things(h:w9 rs n i):rs.all iQ=true :=
 x_.mpr λr hr=>jX.mpr λc hc hn=>(h.ok r hr c hc).resolve_left hn
theorem vI:bL (dg rs j)=true↔∀r∈rs,r.cps.toList.getD j 0=45:=by
 unfold bL dg cF;rw[x_];refine#[λh r hr=>eq_of_beq (h _ (z_.mpr #[r,hr,Y])),λh c hc=>?_];obtain⟨r,hr,rfl⟩:=z_.mp (show c∈rs.map λr=>r.cps.toList.getD j 0 from hc);exact beq_iff_eq.mpr (h r hr)
theorem w9.block(h:w9 rs n i)(hn:0<n):bI rs=true:=by
 unfold bI;rw[h.gB hn,h.things,qcK,qcK];unfold vP;rw[h.w hn,x_];intro c hc;unfold cols at hc;obtain⟨j,hj,rfl⟩:=z_.mp hc;obtain⟨r,hr,c,hc,hne⟩:=h.col j (qam.mp hj);rw[qbq,Bool.eq_false_iff];intro z;have:=vI.mp z r hr;rw[M_,hc]at this;exact hne this
theorem br{α:Type}{l:List α}{d x:α}(h:l[i]? =some x):l.getD i d=x:=by
 rw[M_,h];rfl
end
end GP
namespace L2
open PySem PySem.Spec PyProof.Rows
end L2
namespace GP
open PySem L2 eV
section
theorem CA{xs:List w_}:ju (xs.map V.str) (xs.map V.str)=true:=by
 unfold ju;rw[beq_self_eq_true,Bool.and_true,x_];intro j hj;have hj':j<xs.length:=by
  have:=qam.mp hj;rw[Nat.min_self,e_]at this;exact this
 rw[br (show(xs.map V.str)[j]? =some (V.str xs[j]) by rw[j_,d_ hj'];rfl)];show(xs[j]==xs[j])=true;exact beq_self_eq_true _
theorem HW(n:Nat)(v:V):(G_ n [v]).flatten=G_ n v:=by
 induction n with
 |zero=>rfl
 |succ n ih=>rw[qas,qaV,ih,qas];rfl
end
section
end
section
end
section
end
section
theorem iJ(h:c∈(aO 45 x).cps.toList):c∈x.cps.toList/\c≠45:=by
 have h':c∈x.cps.toList.filter (· != 45):=h;obtain⟨a,b⟩:=qaD.mp h';exact#[a,by simpa using b]
theorem nP:(aO 45 x).cps.size<=x.cps.size:=by
 show(x.cps.toList.filter (· != 45)).length<=_;exact gc (qaH _ _) (by rw[k_];exact i_ _)
theorem qY{x:w_}(h:∀c∈x.cps.toList,JQ c):bI [aO 45 x]=true:=by
 refine w9.block (n:=1) (i:=(aO 45 x).cps.size) #[Y,λr hr=>by rw[u_.mp hr],λr hr c hc=>?_,λj hj=>?_] (by decide)
 ·rw[u_.mp hr]at hc;exact h c (iJ hc).1
 ·have hj':j<(aO 45 x).cps.toList.length:=by rw[k_];exact hj
  exact#[_,u_.mpr Y,_,d_ hj',(iJ (D_ hj')).2]
end
section
theorem range_getD(L:List Nat):(H_ L.length).map (λj=>L.getD j 0)=L:=by
 refine qa0 (by simp) λi h1 h2=>?_;simp[M_,d_ h2]
theorem BR(L:List Nat):((H_ L.length).filter (λj=>L.getD j 0 != 45)).map (λj=>sg (L.getD j 0))=(L.filter (· != 45)).map sg:=by
 conv=>rhs;rw[←range_getD L]
 rw[qcN,U_];rfl
theorem NS(c:Nat):(!decide (sg c=V.str (p_ "-")))=(c != 45):=by
 have e:decide (sg c=V.str (p_ "-"))=(c==45):=by
  rw[qa6,decide_eq_true_iff,beq_iff_eq];refine#[λh=>?_,λh=>by rw[h];rfl];have h':(⟨#[c]⟩:w_)=⟨#[45]⟩:=by injection h
  injection h' with h';simpa using h'
 rw[e];rfl
end
end GP
namespace L2
end L2
namespace GP
open PySem L2 eV
end GP
namespace L2
open PySem PySem.Spec PyProof.Rows
theorem sY(ns:List Int):∀n:Nat,preSum (λi=>(ns[i]?).getD 0) n=(ns.take n).sum
 | 0=>rfl
 |n+1=>by
  show preSum _ n+(ns[n]?).getD 0=_;rw[sY ns n];by_cases hn:n<ns.length
  ·rw[qc1,d_ hn,List.sum_append];simp
  ·rw[qar (by omega),Y_ (by omega),Y_ (by omega)];simp
theorem ints_get:∀{ns:List Int} {us:List n_},Vals (ns.map V.int) us->∀(i:Nat) (v:n_),us[i]? =some v->bU λn t=>ns[i]? =some n/\v= .int n t
 |[],_,r,i,v,e=>by
  cases r;simp at e
 |n::ns,_,r,i,v,e=>by
  cases r with
  |cons r1 r2 =>
   cases i with
   |zero =>
    simp at e;subst e;obtain⟨t,z⟩:=r1;exact#[n,t,Y,z]
   |succ i=>exact ints_get r2 i v e
theorem iN(hK:X.K=K')(hc:X.calm=true):g7 X (.builtin "sum") (λxs H Q=>bU λ(l:l_) (ns:List Int)=>xs=[.ref l]/\bq K' H l (ns.map V.int)/\Q (.int ns.sum) H):=by
 subst hK;intro pins s σ H xs us Q I r h;obtain⟨l,ns,rfl,hl,q⟩:=h;obtain⟨u,rfl,ru⟩:=vals1 r;cases ru;obtain⟨its,rv,p,hz⟩:=I.list hl;have pl:s.heap.IsList l its.toArray:=p.isList;have hlt:l<s.heap.objs.size:=by obtain⟨_,e,_⟩:=pl;exact C_ e
 have hlen:ns.length=its.length:=by rw[←rv.length,e_]
 refine TK.bP (i_ s.toks) ?_;refine call_sum_walkG (qcq pl ?_);refine#[s.heap.objs.size,[s.heap.objs.size,l],[s.heap.objs.size],its.toArray.size,_,_,λi=>(ns[i]?).getD 0,Y,Walks.list (A:=X.A.in1) (I.ok.hd hc) _ l (V_ hlt) its.toArray,
  #[#[_,I_ _ rfl,rfl,rfl],pl.push _],λb hb=>?_,λi v hP=>?_,λh' tk t' hk hup=>?_]
 ·show b<(s.heap.push _).objs.size;rw[qaX];rcases B_.mp hb with rfl|z
  ·exact qa8 _
  ·rw[u_.mp z];exact qcr hlt
 ·obtain⟨n,t,e,rfl⟩:=ints_get rv i v (by simpa using hP);exact#[t,by show _=Value.int ((ns[i]?).getD 0) t;rw[e];rfl]
 ·rw[sY,y_,←hlen,qcC];refine#[.int ns.sum,H,I.kept (t':=tk) (λb x e=>hk b x (λhm=>?_) (g_ _ e)),#[_,Y],q];rw[u_.mp hm]at e;exact qav _ (C_ e)
end L2
namespace GP
open PySem L2 eV
section
noncomputable def sm(f:Nat->Int):Nat->Int
 | 0=>0
 |n+1=>sm f n+f n
theorem bT{f g:Nat->Int}:∀{n:Nat},(∀i,i<n->f i=g i)->sm f n=sm g n
 | 0,_=>rfl
 |n+1,h=>by
  show sm f n+f n=sm g n+g n;rw[bT λi hi=>h i (by omega),h n (by omega)]
theorem qD:∀n:Nat,sm (λ_=>0) n=0
 | 0=>rfl
 |n+1=>by show sm (λ_=>0) n+0=0;rw[qD n];rfl
theorem rH(f g:Nat->Int):∀n:Nat,sm (λi=>f i+g i) n=sm f n+sm g n
 | 0=>rfl
 |n+1=>by show sm (λi=>f i+g i) n+(f n+g n)=sm f n+f n+(sm g n+g n);rw[rH f g n];omega
theorem tZ(f:Nat->Nat->Int)(m:Nat):∀n:Nat,sm (λi=>sm (f i) m) n=sm (λj=>sm (λi=>f i j) n) m
 | 0=>(qD m).symm
 |n+1=>by
  show sm (λi=>sm (f i) m) n+sm (f n) m=sm (λj=>sm (λi=>f i j) n+f n j) m;rw[rH,tZ f m n]
theorem HL(f:Nat->Int):∀{n:Nat},r<=n->sm f r=sm (λi=>if i<r then f i else 0) n
 | 0,h=>by
  have:r=0:=by omega
  rw[this];rfl
 |n+1,h=>by
  show _=sm (λi=>if i<r then f i else 0) n+(if n<r then f n else 0)
  by_cases e:r=n+1
  ·rw[e,if_pos (by omega)];show sm f n+f n=_;rw[bT (f:=f) λi hi=>(if_pos (show i<n+1 by omega)).symm]
  ·rw[HL f (show r<=n by omega),if_neg (by omega),qcd]
theorem NR(g:Nat->Nat->Nat->Int)(n w:Nat):
  sm (λk=>sm (λr=>sm (λi=>g k i r) r) n) w=sm (λi=>sm (λj=>if i<j then sm (λk=>g k i j) w else 0) n) n:=by
 rw[bT λk _=>bT λr hr=>HL (λi=>g k i r) (qa5 hr)]
 rw[tZ (λk r=>sm (λi=>if i<r then g k i r else 0) n) n w]
 rw[bT λr _=>tZ (λk i=>if i<r then g k i r else 0) n w]
 rw[tZ (λr i=>sm (λk=>if i<r then g k i r else 0) w) n n]
 refine bT λi _=>bT λr _=>?_;by_cases h:i<r
 ·rw[if_pos h];exact bT λk _=>if_pos h
 ·rw[if_neg h];exact(bT λk _=>if_neg h).trans (qD w)
theorem Hr(l:List Int)(x:Int):(l++[x]).sum=l.sum+x:=by rw[List.sum_append];simp
theorem lM(f:Nat->Int):∀n:Nat,((H_ n).map f).sum=sm f n
 | 0=>rfl
 |n+1=>by rw[qbe,E_,List.map_singleton,Hr,lM f n];rfl
noncomputable def nJ(sg:w_):w_:=sg++p_ "-"
theorem fu{sg:w_}:c∈(nJ sg).cps.toList↔c=45\/c∈sg.cps.toList:=by
 have e:(nJ sg).cps.toList=sg.cps.toList++[45]:=cH _ _;rw[e,S_,u_];exact Or.comm
theorem Ol{sg:w_}(h:mE sg):45∉sg.cps.toList:=λz=>by
 have:=h.2.2.1 45 z;revert this;decide
noncomputable def gC(sg:w_)(rows:List (List bJ))(fo fm:bJ)(a b:Nat):Int :=
 if a=45/\b=45 then 0 else if a=45\/b=45 then fm.1*(aC fo.2 fm.2 rows / fm.2)else jc sg rows (aC fo.2 fm.2 rows) a b
noncomputable def nF(tc:Nat->Nat->Int)(L:List Nat)(n:Nat):Int:=sm (λr=>sm (λi=>tc (L.getD i 0) (L.getD r 0)) r) n
noncomputable def dh(tc:Nat->Nat->Int)(rs:List w_):Int:=sm (λk=>nF tc (cF rs k) rs.length) (bz rs)
def sR(kn:w_)(rs:List w_)(i j:Nat):Prop :=
 (bU λr c=>rs[i]? =some r/\r.cps[j]? =some c/\c∉kn.cps.toList/\∀k d,k<j->r.cps[k]? =some d->d∈kn.cps.toList)/\∀m r,m<i->rs[m]? =some r->Of kn r
def HD(K:zaa)(C:l_):Sp:=λvs H Q E=>iG λ(kn:w_) (v:V) (rs:List w_)=>vs=[.str kn,v]/\Rw K H v rs/\tH rs ∧
 ((∀r∈rs,Of kn r)->∀H',aj H H'->Q .dX H')/\(∀i j,sR kn rs i j->∀dx H',aj H H'->H' dx=some (xw dx (zT i j))->E (.ref C) (some dx) H')
def Em(K:zaa)(C:l_):Sp:=λvs H Q _=>GS λ(x:l_) (sg:w_) (rows:List (List bJ)) (fo fm:bJ) (a b:Nat)=>vs=[.ref x,.str ⟨#[a]⟩,.str ⟨#[b]⟩]/\dI K C H x sg rows fo fm/\a∈(nJ sg).cps.toList/\b∈(nJ sg).cps.toList ∧
 ∀H',aj H H'->Q (.int (gC sg rows fo fm a b)) H'
def FD(K:zaa)(C:l_):Sp:=λvs H Q _=>Mm λ(x:l_) (sg:w_) (rows:List (List bJ)) (fo fm:bJ) (c:w_)=>vs=[.ref x,.str c]/\dI K C H x sg rows fo fm/\Of (nJ sg) c/\c.cps.size<=100 ∧
 ∀H',aj H H'->Q (.int (nF (gC sg rows fo fm) c.cps.toList c.cps.size)) H'
def CT(K:zaa)(C CB:l_):Sp:=λvs H Q _=>GS λ(x b:l_) (sg:w_) (rows:List (List bJ)) (fo fm:bJ) (rs:List w_)=>vs=[.ref x,.ref b]/\dI K C H x sg rows fo fm/\kL K CB H b rs/\tH rs/\gB rs=true/\(∀r∈rs,Of (nJ sg) r) ∧
 ∀H',aj H H'->Q (.int (dh (gC sg rows fo fm) rs)) H'
end
section
theorem wU(c:Nat):decide (V.str ⟨#[c]⟩=V.str (p_ "-"))=decide (c=45):=by
 rw[qa6,decide_eq_true_iff,decide_eq_true_iff];refine#[λh=>?_,λh=>by rw[h];rfl];have h':(⟨#[c]⟩:w_)=⟨#[45]⟩:=by injection h
 injection h' with h';simpa using h'
theorem rz{sg:w_}(h:a=45)(h2:b=45):gC sg rows fo fm a b=0:=if_pos #[h,h2]
theorem qA{sg:w_}(h:¬(a=45/\b=45))(h2:a=45\/b=45):gC sg rows fo fm a b=fm.1*(aC fo.2 fm.2 rows / fm.2):=(if_neg h).trans (if_pos h2)
theorem AF{sg:w_}(h:a≠45)(h2:b≠45):gC sg rows fo fm a b=jc sg rows (aC fo.2 fm.2 rows) a b:=(if_neg λz=>h z.1).trans (if_neg λz=>z.elim h h2)
end
section
theorem Ka{i j:Nat}(ht:tv=1\/tv=3\/tv=5\/tv=7\/tv=9\/tv=11)(hij:i<j)(hj:j<6):((a+(i:Int)*tv) % 92).toNat≠((a+(j:Int)*tv) % 92).toNat:=by
 rcases ht with rfl|rfl|rfl|rfl|rfl|rfl<;>omega
theorem Dv{L:List Nat}{p:Nat->Nat}(hL:L.Nodup)(n:Nat)(hp:∀i,i<n->p i<L.length)(hne:∀i j,i<j->j<n->p i≠p j):((H_ n).map λi=>L.getD (p i) 0).Nodup:=by
 rw[List.Nodup,List.pairwise_map];refine List.Pairwise.imp_of_mem ?_ (List.pairwise_lt_range (n:=n));intro i j hi hj hij z;have h1:=hp i (qam.mp hi);have h2:=hp j (qam.mp hj);rw[br (d_ h1),br (d_ h2)]at z;exact hne i j hij (qam.mp hj) ((List.getElem_inj hL).mp z)
noncomputable def IG:List Nat->Bool
 |a::b::r=>decide (a<b)&&IG (b::r)
 |_=>true
theorem zK:∀{a:Nat} {l:List Nat},IG (a::l)=true->(∀c∈l,a<c)/\IG l=true
 |a,[],_=>#[λc hc=>(nomatch hc),rfl]
 |a,b::r,h=>by
  have h':(decide (a<b)&&IG (b::r))=true:=h;rw[N_]at h';have h1:=of_decide_eq_true h'.1;refine#[λc hc=>?_,h'.2];rcases B_.mp hc with rfl|hc
  ·exact h1
  ·exact qcA h1 ((zK h'.2).1 c hc)
theorem vF:∀{l:List Nat},IG l=true->l.Nodup
 |[],_=>List.nodup_nil
 |a::l,h=>qcf.mpr #[λz=>qav _ ((zK h).1 a z),vF (zK h).2]
def Hy(K:zaa):Sp:=λvs H Q _=>tW λ(s t:l_) (ns:List Int) (k:Int) (n:Nat)=>vs=[.ref s,.ref t,.int n]/\tX K H s t ns k/\k<=100000/\n<=6 ∧
 ∀(x:w_) H',x.cps.size=n->(∀c∈x.cps.toList,dS c=true)->x.cps.toList.Nodup->aj (L2.upd H t (.lst [.int (k+1)])) H'->Q (.str x) H'
end
section
noncomputable def pW(rs:List w_)(i k:Nat):Nat:=(rs.getD i ⟨#[]⟩).cps.toList.getD k 0
theorem zY(h:i<rs.length):(cF rs k).getD i 0=pW rs i k:=by
 unfold cF pW;rw[br (by rw[j_,d_ h];rfl),br (d_ h)]
theorem JC(tc:Nat->Nat->Int)(rs:List w_):sm (λi=>sm (λj=>if i<j then sm (λk=>tc (pW rs i k) (pW rs j k)) (bz rs)else 0) rs.length) rs.length=dh tc rs:=by
 rw[←NR λk i r=>tc (pW rs i k) (pW rs r k)];unfold dh nF;refine bT λk _=>bT λr hr=>bT λi hi=>?_;rw[zY hr,zY (qcA hi hr)]
theorem Ep(f:Nat->Int):∀n,n<=i+1->sm (λj=>if i<j then f j else 0) n=0
 | 0,_=>rfl
 |n+1,h=>by
  show sm (λj=>if i<j then f j else 0) n+(if i<n then f n else 0)=0
  rw[Ep f n (by omega),if_neg (by omega)];rfl
end
section
theorem aL(h:bI rs=true):gB rs=true:=by
 unfold bI at h;rw[N_]at h;exact h.1
theorem sR.uniq(h:sR kn rs i j)(h':sR kn rs i' j'):i=i'/\j=j':=by
 obtain⟨⟨r,c,h1,h2,h3,h4⟩,h5⟩:=h;obtain⟨⟨r',c',oZ,h2',h3',Z4⟩,O0⟩:=h';have m:c∈r.cps.toList:=by rw[←P_]at h2;exact h_ h2
 have m':c'∈r'.cps.toList:=by rw[←P_]at h2';exact h_ h2'
 have ei:i=i':=Nat.le_antisymm (qc7.mp λz=>h3' (h5 i' r' z oZ c' m')) (qc7.mp λz=>h3 (O0 i r z h1 c m));subst ei;rw[h1]at oZ;cases oZ;exact#[Y,Nat.le_antisymm (qc7.mp λz=>h3' (h4 j' c' z h2')) (qc7.mp λz=>h3 (Z4 j c z h2))]
theorem sR.no(h:sR kn rs i j):¬ ∀r∈rs,Of kn r:=λz=>by
 obtain⟨⟨r,c,h1,h2,h3,_⟩,_⟩:=h;exact h3 (z r (h_ h1) c (by rw[←P_]at h2;exact h_ h2))
end
section
end
section
section
variable{K:zaa}{CP CB:l_}{H H' GH:Hp}{t a x o:l_}{k k2:Int}{sg:w_}{rows:List (List bJ)}{fo fm:bJ}{rs0 rs rs2:List w_}
end
end
section
theorem kL.wo(ht:H t=some (.lst ys))(h:kL K C H b rs):kL K C (Wo t H) b rs:=by
 obtain⟨dx,q,h1,h2⟩:=h;exact#[dx,q,Wo.in (kg h1 ht (by intro z;cases z)) h1,bV.wo ht h2]
theorem Kc(a b:Int):ju [V.int a,V.int b] [V.int a,V.int b]=true:=by simp[ju,H_,List.range.loop,EW]
end
section
theorem Jk:∀{a b r s:List Nat},c∉a->c∉b->a++c::r=b++c::s->a=b/\r=s
 |[],[],r,s,_,_,h=>#[rfl,by injection h]
 |[],b::bs,r,s,_,hb,h=>by
  injection h with h1 h2;exact absurd (h1▸r_) hb
 |a::as,[],r,s,ha,_,h=>by
  injection h with h1 h2;exact absurd (h1▸r_) ha
 |a::as,b::bs,r,s,ha,hb,h=>by
  injection h with h1 h2;obtain⟨e1,e2⟩:=Jk (λz=>ha (s_ _ z)) (λz=>hb (s_ _ z)) h2;exact#[by rw[h1,e1],e2]
noncomputable def Aj(c:Nat):List (List Nat)->List Nat
 |[]=>[]
 |[a]=>a
 |a::b::r=>a++c::Aj c (b::r)
theorem fJ(c:Nat):∀rs:List w_,(qbx ⟨#[c]⟩ rs).cps.toList=Aj c (rs.map λr=>r.cps.toList)
 |[]=>rfl
 |[a]=>rfl
 |a::b::r=>by
  show(a++(⟨#[c]⟩:w_)++qbx ⟨#[c]⟩ (b::r)).cps.toList=a.cps.toList++c::Aj c ((b::r).map λr=>r.cps.toList);rw[cH,cH,fJ c (b::r),qat];rfl
theorem EE{c:Nat}:∀{p q:List (List Nat)},p≠[]->q≠[]->(∀a∈p,c∉a)->(∀a∈q,c∉a)->Aj c p=Aj c q->p=q
 |[],_,h,_,_,_,_=>absurd rfl h
 |_,[],_,h,_,_,_=>absurd rfl h
 |[a],[b],_,_,_,_,h=>by rw[show a=b from h]
 |[a],b::d::r,_,_,ha,_,h=>by
  have h':a=b++c::Aj c (d::r):=h;exact absurd (by rw[h'];simp) (ha a r_)
 |a::d::r,[b],_,_,_,hb,h=>by
  have h':a++c::Aj c (d::r)=b:=h;exact absurd (by rw[←h'];simp) (hb b r_)
 |a::d::r,b::e::s,_,_,ha,hb,h=>by
  obtain⟨e1,e2⟩:=Jk (ha a r_) (hb b r_) (show a++c::Aj c (d::r)=b++c::Aj c (e::s) from h);rw[e1,EE (by simp) (by simp) (λx hx=>ha x (s_ _ hx)) (λx hx=>hb x (s_ _ hx)) e2]
theorem Ht(x:w_)(c:Nat):Txt.split x ⟨#[c]⟩≠[]:=by
 unfold Txt.split;split
 ·simp
 ·split
  ·simp
  ·intro z;have:=PyProof.Rows.len_partsBetween x (qaB x ⟨#[c]⟩ 0 x.length (x.length+1)) (⟨#[c]⟩:w_).length;rw[z]at this;cases this
theorem gX(hne:rs≠[])(hf:∀r∈rs,c∉r.cps.toList):Txt.split (qbx ⟨#[c]⟩ rs) ⟨#[c]⟩=rs:=by
 have h:=StrLaws.join_split (qbx ⟨#[c]⟩ rs) ⟨#[c]⟩;have h2:Aj c ((Txt.split (qbx ⟨#[c]⟩ rs) ⟨#[c]⟩).map λr=>r.cps.toList)=Aj c (rs.map λr=>r.cps.toList):=by
  rw[←fJ,←fJ,h]
 have h3:=EE (c:=c) (by simpa using Ht _ c) (by simpa using hne) (λa ha=>by
  obtain⟨r,hr,rfl⟩:=z_.mp ha;exact StrLaws.split_free _ c r hr) (λa ha=>by
  obtain⟨r,hr,rfl⟩:=z_.mp ha;exact hf r hr) h2
 have inj:∀{p q:List w_},(p.map λr=>r.cps.toList)=(q.map λr=>r.cps.toList)->p=q:=λ{p q} e=>by
  induction p generalizing q with
  |nil=>cases q with
   |nil=>rfl
   |cons b q=>cases e
  |cons a p ih=>cases q with
   |nil=>cases e
   |cons b q =>
    injection e with e1 e2;rw[ih e2,CD (qbz.mp e1)]
 exact inj h3
end
end GP
namespace L2
open PySem PySem.Spec PyProof.Rows
theorem rm:∀{ys:List w_} {us:List n_},Vals (ys.map V.str) us->StrsAre us ys
 |[],_,.nil=>.nil
 |y::ys,_,.cons r rs=>by
  obtain⟨t,e⟩:=r;rw[e];exact .cons y t (rm rs)
theorem xF:∀l:List (w_×Tok),Vals ((l.map (·.1)).map V.str) (strValues l)
 |[]=>.nil
 |(y,t)::l=>.cons #[t,rfl] (xF l)
theorem lS(hK:X.K=K'):Nb X "str.join" (λx xs H Q=>iG λ(y:w_) (a:l_) (ys:List w_)=>x= .str y/\xs=[.ref a]/\(bq K' H a (ys.map V.str)\/bV K' H a (ys.map V.str))/\y.length<=1/\(∀z∈ys,z.length<=2000)/\ys.length<=2000/\Q (.str (qbx y ys)) H):=by
 subst hK;intro pins s σ H x xs v us Q I rx rs h;obtain⟨y,a,ys,rfl,rfl,hl,hy,hz,hn,q⟩:=h;obtain⟨t,rfl⟩:=rx;have hj:Txt.join y ys=qbx y ys:=StrLaws.glued_eq_join y ys;have hok:(ys.map (·.length)).sum+ys.length*y.length<=16777216:=by
  have h1:=StrLaws.sumLen_le ys hz;have h2:ys.length*2000<=2000*2000:=qaO _ hn;have h3:ys.length*y.length<=2000*1:=qaK hn hy;omega
 cases rs with
 |cons r rr =>
  cases rr;cases r;rcases hl with hl|hl
  ·obtain⟨its,r1,t1,_⟩:=I.list hl;exact TK.bP (i_ s.toks) (join_list (items:=its.toArray) t1.isList (rm r1) hok λt' k hk=>#[.str (qbx y ys),H,I.tok k hk,#[t',by rw[hj]],q])
  ·obtain⟨its,r1,t1,_⟩:=I.tuple hl;exact TK.bP (i_ s.toks) (join_tuple (items:=its.toArray) t1 (rm r1) hok λt' k hk=>#[.str (qbx y ys),H,I.tok k hk,#[t',by rw[hj]],q])
theorem lQ:Nb X "str.split" (λx xs H Q=>bU λ(z:w_) (c:Nat)=>x= .str z/\xs=[.str ⟨#[c]⟩]/\z.length<=200000/\∀l,H l=none->Q (.ref l) (upd H l (.lst ((Txt.split z ⟨#[c]⟩).map V.str)))):=by
 intro pins s σ H x xs v us Q I rx rv h;obtain⟨z,c,rfl,rfl,hz,q⟩:=h;obtain⟨t,rfl⟩:=rx;obtain⟨u,rfl,⟨t',rfl⟩⟩:=rv.one;have Y5:z.length<=A_:=gc hz (by decide);have hlen:(qaB z ⟨#[c]⟩ 0 z.length (z.length+1)).length<=z.length+1:=StrLaws.occ_length_le _ _ _ _ _;have Zr:=len_partsBetween z (qaB z ⟨#[c]⟩ 0 z.length (z.length+1)) (⟨#[c]⟩:w_).length;have hn:(qcL z (qaB z ⟨#[c]⟩ 0 z.length (z.length+1)) (⟨#[c]⟩:w_).length).length<=A_:=by
  rw[Zr];exact gc (show _<=200002 by omega) (by decide)
 have one:Txt.split z ⟨#[c]⟩=[z]->EP X pins σ Q (.ref s.heap.objs.size) { s with heap:=s.heap.push { cls:=.type "list",data:=.seq ([.str z t]:List n_).toArray } }:=λe=>by
  have qq:=q s.heap.objs.size I.fresh;rw[e]at qq;exact#[.ref _,_,I.IA (t':=s.toks) (ys:=[V.str z]) (.cons #[t,Y] .nil) b_,Y,qq]
 cases h1:(decide (z.length<(⟨#[c]⟩:w_).length)||decide (Builtin.Str.strKind z<Builtin.Str.strKind ⟨#[c]⟩))with
 |true =>
  refine qca F.slot_str_split (typeIs_str _ _ _) F.entry_str_split (F.args_str_split_2 _ _) (meets_str_split_cannot_occur z ⟨#[c]⟩ t t' h1) ?_;exact one (if_pos h1)
 |false =>
  cases hf:(qaB z ⟨#[c]⟩ 0 z.length (z.length+1)).isEmpty with
  |true =>
   refine qca F.slot_str_split (typeIs_str _ _ _) F.entry_str_split (F.args_str_split_2 _ _) (meets_str_split_not_found z ⟨#[c]⟩ t t' h1 Y hf) ?_;exact one ((if_neg (by rw[h1];exact K_)).trans (if_pos hf))
  |false =>
   refine qca F.slot_str_split (typeIs_str _ _ _) F.entry_str_split (F.args_str_split_2 _ _) (meets_str_split_sep z ⟨#[c]⟩ t t' h1 Y hf Y5 hn) ?_;have e:Txt.split z ⟨#[c]⟩=qcL z (qaB z ⟨#[c]⟩ 0 z.length (z.length+1)) (⟨#[c]⟩:w_).length:=(if_neg (by rw[h1];exact K_)).trans (if_neg (by rw[hf];exact K_));have qq:=q s.heap.objs.size I.fresh;rw[e]at qq;generalize qcL z (qaB z ⟨#[c]⟩ 0 z.length (z.length+1)) (⟨#[c]⟩:w_).length=ps at hn qq ⊢;have hv:Vals (ps.map V.str) (strsFrom s.toks ps):=by
    have:=xF (numbered s.toks ps);rw[numbered_texts,←strsFrom_eq]at this;exact this
   exact#[.ref _,_,I.IA (t':=s.toks+ps.length) hv (by rw[e_];exact hn) (qan _ _),Y,qq]
end L2
namespace GP
open PySem L2 eV
section
end
section
noncomputable abbrev jn(rs:List w_):w_:=qbx ⟨#[10]⟩ rs
theorem uc(c:Nat):∀p:List (List Nat),(Aj c p).length<=(p.map qaR).sum+p.length
 |[]=>O_ _
 |[a]=>by show a.length<=_;simp
 |a::b::r=>by
  have ih:=uc c (b::r);show(a++c::Aj c (b::r)).length<=_;rw[t_,Q_,qag,qa_,Q_];omega
theorem yu(B:Nat):∀l:List Nat,(∀x∈l,x<=B)->l.sum<=l.length*B
 |[],_=>O_ _
 |a::l,h=>by
  have ih:=yu B l λx hx=>h x (s_ _ hx);have ha:=h a r_;rw[qa_,Q_,qcW];omega
theorem tH.jn(h:tH rs):(GP.jn rs).length<=100000+100:=by
 show(GP.jn rs).cps.size<=_;rw[←k_,fJ];have h1:=uc 10 (rs.map λr=>r.cps.toList);have h2:=yu 1000 ((rs.map λr=>r.cps.toList).map qaR) λx hx=>by
  rw[U_]at hx;obtain⟨r,hr,rfl⟩:=z_.mp hx;show r.cps.toList.length<=1000;rw[k_];exact h.row r hr
 rw[e_,e_]at h2;rw[e_]at h1;have h3:rs.length*1000<=100*1000:=qaO _ h.len;have h4:=h.len;omega
def Qy(K:zaa)(C:l_):Sp:=λvs H Q _=>bU λ(b:l_) (rs:List w_)=>vs=[.ref b]/\kL K C H b rs/\tH rs/\Q (.str (jn rs)) H
end
section
noncomputable def lK(e b b1 r:Int):Int:=if e<=0 then min (e+b1) (min b r)else min b r
noncomputable def pA(e b:Nat->Int)(n:Nat):Nat->Int
 | 0=>0
 |k+1=>lK (e (n-1-k)) (b (n-1-k)) (b (n-k)) (pA e b n k)
noncomputable def FL(E:Nat->Nat->Int)(m n:Nat):Nat->Nat->Int
 | 0,_=>0
 |k+1,j=>pA (E (m-1-k)) (FL E m n k) n (n-j)
noncomputable def ee(E:Nat->Nat->Int)(m n i j:Nat):Int:=FL E m n (m-i) j
theorem qF:ee E m n m j=0:=by unfold ee;rw[qbP];rfl
theorem uN{m n i j:Nat}(hi:i<m):ee E m n i j=pA (E i) (ee E m n (i+1)) n (n-j):=by
 unfold ee;obtain⟨k,hk⟩:∃k,m-i=k+1:=#[m-i-1,by omega];rw[hk];show pA (E (m-1-k)) (FL E m n k) n (n-j)=_;rw[show m-1-k=i by omega,show m-(i+1)=k by omega]
theorem xK(hi:i<=m):ee E m n i n=0:=by
 by_cases h:i<m
 ·rw[uN h,qbP];rfl
 ·rw[show i=m by omega,qF]
theorem FN(hi:i<m)(hj:j<n):ee E m n i j=lK (E i j) (ee E m n (i+1) j) (ee E m n (i+1) (j+1)) (ee E m n i (j+1)):=by
 rw[uN (j:=j) hi,uN (j:=j+1) hi];obtain⟨k,hk⟩:∃k,n-j=k+1:=#[n-j-1,by omega];rw[hk,show n-(j+1)=k by omega];show lK (E i (n-1-k)) (ee E m n (i+1) (n-1-k)) (ee E m n (i+1) (n-k)) _=_;rw[show n-1-k=j by omega,show n-k=j+1 by omega]
theorem Hs:lK e b b1 r<=b/\lK e b b1 r<=r/\(e<=0->lK e b b1 r<=e+b1)/\(lK e b b1 r=e+b1\/lK e b b1 r=b\/lK e b b1 r=r):=by
 unfold lK;split<;>(refine#[by omega,by omega,by omega,by omega])
theorem K5{E:Nat->Nat->Int}(hi:i<m)(hj:j<n):ee E m n i j=E i j+ee E m n (i+1) (j+1)\/ee E m n i j=ee E m n (i+1) j\/ee E m n i j=ee E m n i (j+1):=by
 rw[FN hi hj];exact Hs.2.2.2
noncomputable def Cn(E:Nat->Nat->Int)(m n i j:Nat):Nat :=
 if i=m then 98 else if j<n/\E i j+ee E m n (i+1) (j+1)=ee E m n i j then 112 else if ee E m n (i+1) j=ee E m n i j then 97 else 98
theorem Om:Lq (Cn E m n i j):=by
 unfold Cn Lq;split
 ·exact .inr (.inr Y)
 ·split
  ·exact .inl Y
  ·split
   ·exact .inr (.inl Y)
   ·exact .inr (.inr Y)
inductive lE(m n i j:Nat):Nat->Nat->Nat->Prop
 |p (hi:i<m) (hj:j<n):lE m n i j 112 (i+1) (j+1)
 |a (hi:i<m):lE m n i j 97 (i+1) j
 |b (hj:j<n):lE m n i j 98 i (j+1)
theorem Oo{E:Nat->Nat->Int}(hi:i<=m)(hj:j<=n)(h:¬(i=m/\j=n)):
  bU λi' j'=>lE m n i j (Cn E m n i j) i' j'/\ee E m n i j=(if Cn E m n i j=112 then E i j else 0)+ee E m n i' j':=by
 unfold Cn;by_cases h1:i=m
 ·rw[if_pos h1];refine#[i,j+1,.b (by omega),?_];rw[h1,qF,qF];rfl
 ·rw[if_neg h1];by_cases h2:j<n/\E i j+ee E m n (i+1) (j+1)=ee E m n i j
  ·rw[if_pos h2];refine#[i+1,j+1,.p (by omega) h2.1,?_];rw[if_pos rfl];exact h2.2.symm
  ·rw[if_neg h2];by_cases h3:ee E m n (i+1) j=ee E m n i j
   ·rw[if_pos h3];refine#[i+1,j,.a (by omega),?_];rw[h3];simp
   ·rw[if_neg h3];have hjn:j<n:=by
     by_cases z:j<n
     ·exact z
     ·exfalso;apply h3;rw[show j=n by omega,xK (by omega),xK (by omega)]
    refine#[i,j+1,.b hjn,?_];rcases K5 (E:=E) (show i<m by omega) hjn with z|z|z
    ·exact absurd #[hjn,z.symm] h2
    ·exact absurd z.symm h3
    ·rw[←z];simp
inductive Path(m n:Nat):List Nat->Nat->Nat->Prop
 |nil:Path m n [] 0 0
 |snoc {cs:List Nat} {i j c i' j':Nat}:Path m n cs i j->lE m n i j c i' j'->Path m n (cs++[c]) i' j'
theorem lE.in(h:lE m n i j c i' j')(hi:i<=m)(hj:j<=n):i'<=m/\j'<=n/\i+j<i'+j':=by
 cases h<;>omega
theorem Path.in(h:Path m n cs i j):i<=m/\j<=n/\cs.length<=i+j:=by
 induction h with
 |nil=>exact#[O_ _,O_ _,i_ _]
 |snoc _ s ih =>
  obtain⟨a,b,c⟩:=s.in ih.1 ih.2.1;refine#[a,b,?_];rw[t_];have:=ih.2.2;show _+1<=_;omega
theorem lE.stp(h:lE m n i j c i' j'):GP.stp ((i:Int),(j:Int)) c=((i':Int),(j':Int)):=by
 cases h<;>rfl
theorem lE.ok(h:lE m n i j c i' j'):Lq c:=by
 cases h
 ·exact .inl Y
 ·exact .inr (.inl Y)
 ·exact .inr (.inr Y)
inductive mG(E:Nat->Nat->Int)(m n:Nat):List Nat->Nat->Nat->Prop
 |nil:mG E m n [] 0 0
 |snoc {cs:List Nat} {i j i' j':Nat}:mG E m n cs i j->lE m n i j (Cn E m n i j) i' j'->ee E m n i j=(if Cn E m n i j=112 then E i j else 0)+ee E m n i' j'->mG E m n (cs++[Cn E m n i j]) i' j'
theorem mG.path(h:mG E m n cs i j):Path m n cs i j:=by
 induction h with
 |nil=>exact .nil
 |snoc _ s _ ih=>exact .snoc ih s
noncomputable def pI(cs:List Nat)(k:Nat):Nat:=((cs.take k).filter (· != 98)).length
noncomputable def pJ(cs:List Nat)(k:Nat):Nat:=((cs.take k).filter (· != 97)).length
noncomputable def pG(A B:List w_)(g1 g2:w_)(i j c:Nat):w_:=(if c=98 then g1 else A.getD i ⟨#[]⟩)++(if c=97 then g2 else B.getD j ⟨#[]⟩)
noncomputable def lq(A B:List w_)(g1 g2:w_)(cs:List Nat)(n:Nat):List w_:=(H_ n).map λk=>pG A B g1 g2 (pI cs k) (pJ cs k) (cs.getD k 0)
theorem Df{cs ds:List Nat}{k:Nat}(h:k<=cs.length):pI (cs++ds) k=pI cs k/\pJ (cs++ds) k=pJ cs k:=by
 unfold pI pJ;rw[List.take_append_of_le_length h];exact#[Y,Y]
theorem Lc(h:cs[k]? =some c):pI cs (k+1)=pI cs k+(if c=98 then 0 else 1)/\pJ cs (k+1)=pJ cs k+(if c=97 then 0 else 1):=by
 unfold pI pJ;rw[qc1,h];show(List.filter _ (cs.take k++[c])).length=_/\(List.filter _ (cs.take k++[c])).length=_;rw[qcR,qcR,t_,t_];constructor
 ·by_cases e:c=98<;>simp[e]
 ·by_cases e:c=97<;>simp[e]
theorem Path.at_(h:Path m n cs i j):pI cs cs.length=i/\pJ cs cs.length=j/\∀k,k<cs.length->∃c,cs[k]? =some c/\lE m n (pI cs k) (pJ cs k) c (pI cs (k+1)) (pJ cs (k+1)):=by
 induction h with
 |nil=>exact#[Y,Y,λk hk=>absurd hk (qbu _)]
 | @snoc cs i j c i' j' _ s ih =>
  obtain⟨h1,h2,h3⟩:=ih;have e1:(cs++[c])[cs.length]? =some c:=by rw[qab (i_ _),qbP];rfl
  have e2:=Lc e1;have e3:=Df (cs:=cs) (ds:=[c]) (i_ cs.length);rw[e3.1,e3.2,h1,h2]at e2
  have e4:i'=i+(if c=98 then 0 else 1)/\j'=j+(if c=97 then 0 else 1):=by cases s<;>exact#[Y,Y]
  have el:(cs++[c]).length=cs.length+1:=t_;rw[el];refine#[e2.1.trans e4.1.symm,e2.2.trans e4.2.symm,λk hk=>?_];by_cases z:k=cs.length
  ·subst z;refine#[c,e1,?_];rw[e2.1,e2.2,←e4.1,←e4.2,e3.1,e3.2,h1,h2];exact s
  ·have hk':k<cs.length:=by omega
   obtain⟨d,hd,sd⟩:=h3 k hk';refine#[d,by rw[qad hk'];exact hd,?_];have a1:=Df (cs:=cs) (ds:=[c]) (k:=k) (by omega);have a2:=Df (cs:=cs) (ds:=[c]) (k:=k+1) (by omega);rw[a1.1,a1.2,a2.1,a2.2];exact sd
end
section
noncomputable def fS(f:Nat->Int)(L:List Nat):Int:=(L.map f).sum
theorem lI(f:Nat->Int):fS f []=0:=rfl
theorem dJ(f:Nat->Int)(a:Nat)(L:List Nat):fS f (a::L)=f a+fS f L:=by unfold fS;rw[qag,qa_]
theorem qC(f:Nat->Int)(L M:List Nat):fS f (L++M)=fS f L+fS f M:=by unfold fS;rw[E_,List.sum_append]
theorem Ft(f:Nat->Int)(L:List Nat)(a:Nat):fS f (L++[a])=fS f L+f a:=by rw[qC,dJ,lI];omega
theorem lJ(f g:Nat->Int):∀L:List Nat,fS (λa=>f a+g a) L=fS f L+fS g L
 |[]=>rfl
 |a::L=>by rw[dJ,dJ,dJ,lJ f g L];omega
theorem ff{f g:Nat->Int}:∀{L:List Nat},(∀a∈L,f a=g a)->fS f L=fS g L
 |[],_=>rfl
 |a::L,h=>by rw[dJ,dJ,h a (r_ ..),ff λb hb=>h b (s_ _ hb)]
theorem mK(c:Int):∀L:List Nat,fS (λ_=>c) L=(L.length:Int)*c
 |[]=>by rw[lI];simp
 |a::L=>by rw[dJ,mK c L,Q_,Int.natCast_add,Int.add_mul];simp;omega
noncomputable def pK(L:List Nat):List Nat:=L.filter (· != 45)
theorem lH(f:Nat->Int):∀L:List Nat,fS (λa=>if a=45 then 0 else f a) L=fS f (pK L)
 |[]=>rfl
 |a::L=>by
  rw[dJ,lH f L];unfold pK;by_cases e:a=45
  ·rw[if_pos e,qbs (by simp[e])];omega
  ·rw[if_neg e,qbr (by simp[e]),dJ]
theorem Eo(f:Nat->Int)(L:List Nat):sm (λi=>f (L.getD i 0)) L.length=fS f L:=by
 rw[←lM];unfold fS;congr 1;refine qa0 (by simp) λi h1 h2=>?_;have hi:i<L.length:=by simpa using h2
 rw[qaL,qaL,qbi,br (d_ hi)]
noncomputable def cc(tc:Nat->Nat->Int)(L:List Nat):Int:=nF tc L L.length
theorem zZ(tc:Nat->Nat->Int)(L:List Nat)(x:Nat):cc tc (L++[x])=cc tc L+fS (λl=>tc l x) L:=by
 unfold cc;rw[show(L++[x]).length=L.length+1 from t_];show nF tc (L++[x]) L.length+sm (λi=>tc ((L++[x]).getD i 0) ((L++[x]).getD L.length 0)) L.length=_;have e:∀i,i<L.length->(L++[x]).getD i 0=L.getD i 0:=λi hi=>by rw[M_,qad hi,←M_]
 have e2:(L++[x]).getD L.length 0=x:=by rw[M_,qab (i_ _),qbP];rfl
 rw[e2,bT λi hi=>congrArg (tc · x) (e i hi),Eo λl=>tc l x];unfold nF;rw[bT λr hr=>bT λi hi=>by rw[e i (by omega),e r hr]]
noncomputable def D8(tc:Nat->Nat->Int)(L M:List Nat):Int:=fS (λb=>fS (λa=>tc a b) L) M
theorem oJ(tc:Nat->Nat->Int)(L:List Nat):∀M:List Nat,cc tc (L++M)=cc tc L+cc tc M+D8 tc L M:=by
 intro M;obtain⟨n,hn⟩:∃n,M.length=n:=#[_,rfl]
 induction n generalizing M with
 |zero =>
  have e:M=[]:=List.eq_nil_of_length_eq_zero hn;rw[e,qaQ];show _=cc tc L+0+0;omega
 |succ n ih =>
  obtain⟨M',x,rfl⟩:bU λM' x=>M=M'++[x]:=by
   rcases List.eq_nil_or_concat M with h|⟨M',x,h⟩
   ·rw[h]at hn;cases hn
   ·exact#[M',x,by rw[h,List.concat_eq_append]]
  have hM:M'.length=n:=by rw[t_]at hn;exact Nat.succ.inj hn
  rw[←qat,zZ,ih M' hM,zZ,qC];unfold D8;rw[Ft];omega
noncomputable def EV(pc:Nat->Nat->Int)(mo:Int)(S O:List Nat):Int:=fS (λo=>fS (λs=>pc s o-2*mo) S) O
theorem D7(h0:∀a b,a=45->b=45->tc a b=0)(h1:∀a b,¬(a=45/\b=45)->(a=45\/b=45)->tc a b=mo)(h2:∀a b,a≠45->b≠45->tc a b=pc a b)(L M:List Nat):
  D8 tc L M=EV pc mo (pK L) (pK M)+((pK L).length:Int)*(M.length:Int)*mo+((pK M).length:Int)*(L.length:Int)*mo:=by
 have e:∀a b,tc a b=(if a=45 then 0 else if b=45 then 0 else pc a b-2*mo)+((if a=45 then 0 else mo)+(if b=45 then 0 else mo)):=λa b=>by
  by_cases ha:a=45
  ·by_cases hb:b=45
   ·rw[h0 a b ha hb,if_pos ha,if_pos ha,if_pos hb];rfl
   ·rw[h1 a b (λz=>hb z.2) (.inl ha),if_pos ha,if_pos ha,if_neg hb];omega
  ·by_cases hb:b=45
   ·rw[h1 a b (λz=>ha z.1) (.inr hb),if_neg ha,if_neg ha,if_pos hb,if_pos hb];omega
   ·rw[h2 a b ha hb,if_neg ha,if_neg ha,if_neg hb,if_neg hb];omega
 unfold D8
 rw[ff (g:=λb=>(if b=45 then 0 else fS (λs=>pc s b-2*mo) (pK L))+(((pK L).length:Int)*mo+(if b=45 then 0 else(L.length:Int)*mo))) λb _=>?_]
 ·rw[lJ,lH (λb=>fS (λs=>pc s b-2*mo) (pK L)),lJ,mK,lH (λ_=>(L.length:Int)*mo),mK];unfold EV;rw[Int.mul_comm ((pK L).length:Int) (M.length:Int),qc9,qc9,qda]
 ·rw[ff λa _=>e a b,lJ,lJ,lH (λ_=>mo),mK,mK,lH (λa=>if b=45 then 0 else pc a b-2*mo)]
  by_cases hb:b=45
  ·rw[if_pos hb,if_pos hb,ff (g:=λ_=>0) λa _=>if_pos hb,mK,if_pos hb];omega
  ·rw[if_neg hb,if_neg hb,ff (g:=λa=>pc a b-2*mo) λa _=>if_neg hb,if_neg hb]
theorem AU(n:Nat):pK (G_ n 45)=[]:=by
 unfold pK;rw[List.filter_eq_nil_iff];intro a ha;rw[qbk ha];simp
theorem ue(h0:∀a b,a=45->b=45->tc a b=0):∀n:Nat,cc tc (G_ n 45)=0
 | 0=>rfl
 |n+1=>by
  rw[List.replicate_succ',zZ,ue h0 n,ff (g:=λ_=>0) λa ha=>h0 _ _ (qbk ha) rfl,mK];omega
end
section
noncomputable def aN(n:Nat):w_:=⟨(G_ n 45).toArray⟩
theorem jU(n:Nat):(aN n).cps.toList=G_ n 45:=rfl
theorem dM(n:Nat):(aN n).cps.size=n:=by rw[←k_,jU,qaz]
theorem AW(n:Nat):ny (p_ "-") (n:Nat)=aN n:=by
 have e:(ny (p_ "-") (n:Nat)).cps.toList=G_ n 45:=by
  rw[rL];show(G_ n [45]).flatten=_
  induction n with
  |zero=>rfl
  |succ n ih=>rw[qas,qaV,ih,qas];rfl
 rw[←jU n]at e;have e2:=qbz.mp e;rcases h3:ny (p_ "-") (n:Nat)with⟨cs⟩;rw[h3]at e2;exact congrArg Str.mk e2
structure gW(kn:List Nat)(A:List w_)(n:Nat):Prop where
 size:∀c∈A,c.cps.size=n
 ok:∀c∈A,∀x∈c.cps.toList,JQ x
 of:∀c∈A,∀x∈c.cps.toList,x∈kn
 full:∀c∈A,bL c=false
theorem nO(h:iQ x=true)(hc:c∈x.cps.toList):JQ c:=by
 by_cases e:c=45
 ·exact .inl e
 ·exact .inr (jX.mp h c hc e)
theorem fQ{sg:w_}(hb:bI rs=true)(ho:∀r∈rs,Of (nJ sg) r):gW (nJ sg).cps.toList (cols rs (bz rs)) rs.length:=by
 unfold bI at hb;rw[N_,N_]at hb;obtain⟨hl,ht,hc⟩:=hb;obtain⟨hne,hw⟩:=aV.mp hl;have key:∀c∈cols rs (bz rs),∀x∈c.cps.toList,∃r∈rs,x∈r.cps.toList:=λc hc x hx=>by
  unfold cols at hc;obtain⟨j,hj,rfl⟩:=z_.mp hc;obtain⟨r,hr,rfl⟩:=z_.mp (show x∈rs.map λr=>r.cps.toList.getD j 0 from hx);have hj':j<r.cps.toList.length:=by rw[k_,hw r hr];exact qam.mp hj
  refine#[r,hr,?_];rw[br (d_ hj')];exact D_ hj'
 refine#[λc hc=>?_,λc hc x hx=>?_,λc hc x hx=>?_,λc hc'=>?_]
 ·unfold cols at hc;obtain⟨j,hj,rfl⟩:=z_.mp hc;exact e_ ..
 ·obtain⟨r,hr,hx⟩:=key c hc x hx;exact nO (x_.mp ht r hr) hx
 ·obtain⟨r,hr,hx⟩:=key c hc x hx;exact ho r hr x hx
 ·unfold vP at hc;have:=x_.mp hc c hc';rw[qbq]at this;exact this
theorem yC{α:Type}(F:α->Int)(l:List α)(d:α):sm (λi=>F (l.getD i d)) l.length=(l.map F).sum:=by
 rw[←lM];congr 1;refine qa0 (by simp) λi h1 h2=>?_;have hi:i<l.length:=by simpa using h2
 rw[qaL,qaL,qbi,br (d_ hi)]
theorem sO(tc:Nat->Nat->Int)(rs:List w_):dh tc rs=sm (λi=>cc tc ((cols rs (bz rs)).getD i ⟨#[]⟩).cps.toList) (bz rs):=by
 unfold dh;refine bT λk hk=>?_;rw[br (o7 hk)];show _=nF tc (cF rs k) (cF rs k).length;rw[show(cF rs k).length=rs.length from e_ ..]
theorem xC{os:List w_}(hs:∀o∈os,o.cps.size=N)(hk:os[k]? =some o):cF (cols os N) k=o.cps.toList:=by
 have ho:=hs o (h_ hk);unfold cF cols;rw[U_];refine qa0 (by rw[e_,X_,k_,ho]) λr h1 h2=>?_;rw[qaL,qbi];show(os.map λx=>x.cps.toList.getD r 0).getD k 0=_;rw[br (x:=o.cps.toList.getD r 0) (by rw[j_,hk];rfl),br (d_ h2)]
theorem uo{os:List w_}(h:0<N):bz (cols os N)=os.length:=by
 obtain⟨M,rfl⟩:∃M,N=M+1:=#[N-1,by omega];unfold bz cols;rw[List.range_succ_eq_map,qag];exact e_ ..
theorem yj(tc:Nat->Nat->Int){os:List w_}(h:0<N)(hs:∀o∈os,o.cps.size=N):dh tc (cols os N)=(os.map λo=>cc tc o.cps.toList).sum:=by
 unfold dh;rw[uo h,aU,←yC (λo=>cc tc o.cps.toList) os ⟨#[]⟩];refine bT λk hk=>?_;rw[xC hs (d_ hk),br (d_ hk)];unfold cc;rw[k_,hs _ (D_ hk)]
theorem CZ{os:List w_}(hs:∀o∈os,o.cps.size=N)(hr:r∈cols os N)(hx:x∈r.cps.toList):∃o∈os,x∈o.cps.toList:=by
 unfold cols at hr;obtain⟨j,hj,rfl⟩:=z_.mp hr;obtain⟨o,ho,rfl⟩:=z_.mp (show x∈os.map λr=>r.cps.toList.getD j 0 from hx);have hj':j<o.cps.toList.length:=by rw[k_,hs o ho];exact qam.mp hj
 refine#[o,ho,?_];rw[br (d_ hj')];exact D_ hj'
theorem iI{os:List w_}(hN:0<N)(h:gW kn os N):bI (cols os N)=true/\∀r∈cols os N,∀x∈r.cps.toList,x∈kn:=by
 have hw:=uo (os:=os) hN;have hl:gB (cols os N)=true:=by
  refine aV.mpr #[λz=>?_,λr hr=>?_]
  ·have:=aU (rs:=os) (n:=N);rw[z]at this;have:0=N:=this;omega
  ·rw[hw];unfold cols at hr;obtain⟨j,hj,rfl⟩:=z_.mp hr;exact e_ ..
 refine#[?_,λr hr x hx=>?_]
 ·unfold bI;rw[hl,qcK,N_];refine#[x_.mpr λr hr=>jX.mpr λc hc hn=>?_,?_]
  ·obtain⟨o,ho,hx⟩:=CZ h.size hr hc;exact(h.ok o ho c hx).resolve_left hn
  ·unfold vP;rw[hw,x_];intro c hc;obtain⟨k,hk,rfl⟩:=z_.mp (show c∈(H_ os.length).map (dg (cols os N)) from hc);have hk':=qam.mp hk;have e:=xC h.size (d_ hk');have:=h.full _ (D_ hk');unfold bL at this ⊢;rw[show(dg (cols os N) k).cps.toList=cF (cols os N) k from rfl,e,this];rfl
 ·obtain⟨o,ho,hx⟩:=CZ h.size hr hx;exact h.of o ho x hx
theorem IY:bL (a++b)=(bL a&&bL b):=by
 unfold bL;rw[cH,List.all_append]
section
variable{kn:List Nat}{A B:List w_}{n1 n2:Nat}
theorem getD_mem(h:i<A.length):A.getD i ⟨#[]⟩∈A:=by
 rw[br (d_ h)];exact D_ h
theorem Me(hA:gW kn A n1)(hB:gW kn B n2)(hk:45∈kn)(h:lE A.length B.length i j c i' j'):
  (pG A B (aN n1) (aN n2) i j c).cps.size=n1+n2/\(∀x∈(pG A B (aN n1) (aN n2) i j c).cps.toList,JQ x/\x∈kn)/\bL (pG A B (aN n1) (aN n2) i j c)=false:=by
 have ga:∀n x,x∈(aN n).cps.toList->JQ x/\x∈kn:=λn x hx=>by
  rw[qbk hx];exact#[.inl Y,hk]
 have mk:∀{a b:w_},a.cps.size=n1->b.cps.size=n2->(∀x∈a.cps.toList,JQ x/\x∈kn)->(∀x∈b.cps.toList,JQ x/\x∈kn)->(bL a=false\/bL b=false) →
   (a++b).cps.size=n1+n2/\(∀x∈(a++b).cps.toList,JQ x/\x∈kn)/\bL (a++b)=false:=λ{a b} h1 h2 h3 h4 h5=>by
  refine#[by rw[cG,h1,h2],λx hx=>?_,?_]
  ·rw[cH]at hx;exact(S_.mp hx).elim (h3 x) (h4 x)
  ·rw[IY];rcases h5 with h5|h5<;>rw[h5]
   ·rfl
   ·rw[Bool.and_false]
 unfold pG
 cases h with
 |p hi hj =>
  rw[if_neg (by decide),if_neg (by decide)];exact mk (hA.size _ (getD_mem hi)) (hB.size _ (getD_mem hj)) (λx hx=>#[hA.ok _ (getD_mem hi) x hx,hA.of _ (getD_mem hi) x hx]) (λx hx=>#[hB.ok _ (getD_mem hj) x hx,hB.of _ (getD_mem hj) x hx]) (.inl (hA.full _ (getD_mem hi)))
 |a hi =>
  rw[if_neg (by decide),if_pos rfl];exact mk (hA.size _ (getD_mem hi)) (dM _) (λx hx=>#[hA.ok _ (getD_mem hi) x hx,hA.of _ (getD_mem hi) x hx]) (ga n2) (.inl (hA.full _ (getD_mem hi)))
 |b hj =>
  rw[if_pos rfl,if_neg (by decide)];exact mk (dM _) (hB.size _ (getD_mem hj)) (ga n1) (λx hx=>#[hB.ok _ (getD_mem hj) x hx,hB.of _ (getD_mem hj) x hx]) (.inr (hB.full _ (getD_mem hj)))
theorem Path.cols(hA:gW kn A n1)(hB:gW kn B n2)(hk:45∈kn)(h:Path A.length B.length cs i j):gW kn (lq A B (aN n1) (aN n2) cs cs.length) (n1+n2):=by
 have key:∀o∈lq A B (aN n1) (aN n2) cs cs.length,o.cps.size=n1+n2/\(∀x∈o.cps.toList,JQ x/\x∈kn)/\bL o=false:=λo ho=>by
  unfold lq at ho;obtain⟨k,hk',rfl⟩:=z_.mp ho;obtain⟨c,hc,s⟩:=h.at_.2.2 k (qam.mp hk');rw[br hc];exact Me hA hB hk s
 exact#[λo ho=>(key o ho).1,λo ho x hx=>((key o ho).2.1 x hx).1,λo ho x hx=>((key o ho).2.1 x hx).2,λo ho=>(key o ho).2.2]
end
end
end GP
namespace L2
open PySem PySem.Spec PyProof.Rows
section
noncomputable def Sv(K:zaa)(a:l_)(n:Nat):It :=
 #[λi H=>bU λxs x=>bq K H a xs/\i<n/\xs[n-1-i]? =some x,λi H x H'=>H'=H/\∀xs,bq K H a xs->xs[n-1-i]? =some x,λi _=>n<=i]
theorem Hf{K:zaa}(a it:l_)(n:Nat):Turn P w K tg (Sv K a n) [it] it (λi h=>i<=n/\h.IsRevIter it a ((n:Int)-1-(i:Int))) where
 mem:=by simp
 obj:=λi h st b hb=>by
  have e:b=it:=by simpa using hb
  subst e;obtain⟨o,e,c,d⟩:=st.2;exact#[o,e,λv z=>by rw[d]at z;cases z]
 keep:=λi h h' st k=>#[st.1,st.2.at λo e=>k it (by simp) o e]
 item:=by
  intro X hP hw hK hc i pins s σ H E I hf st hg;subst hP hw hK;obtain⟨xs,x,hq,hi,hx⟩:=hg;obtain⟨its,rv,p,hz⟩:=I.list hq;obtain⟨u,hu,ru⟩:=rv.get hx;obtain⟨f0,f1,f2,f3,f4,f5⟩:=hf it (by simp);have st':s.heap.IsRevIter it a ((n-1-i:Nat):Int):=by
   rw[show((n-1-i:Nat):Int)=(n:Int)-1-(i:Int) by omega];exact st.2
  refine wpAny_pyNext_rev_item st' p.isList (x:=u) (by simpa using hu) λh' st' sb=>?_;have I1:Inv X pins σ H { s with heap:=h' }:=I.turned (t':=s.toks) (λb o hb e=>(sb.2 b hb).trans e) f0 f1 f3 f4 f5;obtain⟨o,e,c,d⟩:=id st';refine#[u,Y,xX (s:={ s with heap:=h' }) e c d (by decide) #[x,H,I1,ru,#[Y,λys hy=>by rw[I.vz hy hq];exact hx],#[by omega,?_],λb hb=>(hf b hb).1]];rw[show(n:Int)-1-((i+1:Nat):Int)=((n-1-i:Nat):Int)-1 by omega];exact st'
 done:=by
  intro X hP hw hK hc i pins s σ H E I hf st hg;subst hP hw hK;obtain⟨f0,f1,f2,f3,f4,f5⟩:=hf it (by simp);have hg':n<=i:=hg;have st':s.heap.IsRevIter it a (-1):=by
   rw[show(-1:Int)=(n:Int)-1-(i:Int) by have:=st.1;omega];exact st.2
  exact wpAny_pyNext_rev_end (I.ok.hd hc) st' λh' eb=>#[Y,I.turned (t':=s.toks) (λb o hb e=>eb b o hb e) f0 f1 f3 f4 f5]
 self:=λ_ _ _ _ _ st h=>wpAny_pyIter_revIter st.2 h
def U8(K:zaa)(ta:TA):TI:=λσ H R=>ta σ H λvs H1=>bU λa xs=>vs=[.ref a]/\bq K H1 a xs/\R (Sv K a xs.length) H1
theorem boot_reversed:bootBuiltins "reversed" =some (.type "reversed"):=by decide +kernel
theorem N9{X:Cx}{tg a:Expr}{ta:TA}{p pos:qc5}(hg:Gl X "reversed")(hm:X.mg "reversed" =none)(ha:PA X [a] ta)(hs:qaa [a] X.env=[(false,eval a X.env)]:=by rfl):PI X tg (.Call (.Name "reversed" p) [a] [] pos) (U8 X.K ta):=by
 intro pins s σ H R I h;refine Call_ (kr I hg hm boot_reversed (qau (dm (ha pos pins s σ H _ I h) λus s1 ⟨vs,H1,I1,r1,q1⟩=>?_) hs Y));obtain⟨l,xs,rfl,hq,q⟩:=q1;obtain⟨u,rfl,ru⟩:=vals1 r1;cases ru;obtain⟨its,rv,pl,hz⟩:=I1.list hq;have hl:s1.heap.IsList l its.toArray:=pl.isList;have hlen:=rv.length;refine call_reversed_list hl ?_;have e0:({ s1 with heap:=s1.heap.push (revObj l ((its.toArray.size:Int)-1)) }:v_).heap.IsRevIter s1.heap.objs.size l ((xs.length:Int)-1-((0:Nat):Int)) :=
  #[_,I_ _ rfl,rfl,by rw[show(xs.length:Int)-1-((0:Nat):Int)=(its.toArray.size:Int)-1 by rw[y_];omega];rfl]
 refine wpAny_pyIter_revIter e0 ?_;refine#[s1.heap.objs.size,[s1.heap.objs.size],_,_,H1,Y,I1.kept (t':=s1.toks) λb o e=>g_ _ e,Hf l _ xs.length,#[O_ _,e0],λb hb=>?_,q];have e:b=s1.heap.objs.size:=by simpa using hb
 subst e;exact I1.sG (i_ _) (I1.hok.fresh (i_ _))
end
section
theorem Dh(hu:X.A.units+1<cLine):jW X (compareOp .NotIn) (λx y H Q=>bU λa o=>y= .ref a/\pH H a x o/\Q (.bl (!o.isSome)) H):=by
 intro pins s σ H x y u v Q I rx ry h;obtain⟨a,o,rfl,g,q⟩:=h;cases (show v=Value.ref a from ry);exact L8 hu I g rx λs3 I3=>#[.bl (!o.isSome),H,I3,Y,q]
theorem LV{K:zaa}{a:l_}{xs:List V}{g:TG}{tb:TS}{D:Ends}(Pv:Nat->St->Hp->Prop)(h0:Pv 0 σ H)(hl:∀i σ H,i<xs.length->Pv i σ H->bq K H a xs)
  (hs:∀i x σ H,i<xs.length->xs[xs.length-1-i]? =some x->Pv i σ H->g x σ H λσ2 H2=>tb { D with nx:=Pv (i+1),ct:=Pv (i+1),bk:=D.nx } σ2 H2) (hd:∀ σ H,Pv xs.length σ H->D.nx σ H) :
  ∃W:Nat->Nat->St->Hp->Prop,(∃m,W 0 m σ H)/\∀i m σ H,W i m σ H →
   ((Sv K a xs.length).stop i H/\D.nx σ H)\/((Sv K a xs.length).go i H/\∃N:St->Hp->Prop,(∀ σ' H',N σ' H'->∃m',m'<m/\W (i+1) m' σ' H')/\∀x H',(Sv K a xs.length).Ai i H x H'->g x σ H' λσ2 H2=>tb { D with nx:=N,ct:=N,bk:=D.nx } σ2 H2):=by
 refine#[λi m σ H=>m=xs.length-i/\i<=xs.length/\Pv i σ H,#[xs.length,by simp,O_ _,h0],?_];rintro i m σ H ⟨rfl,hi,p⟩;by_cases hlt:i<xs.length
 ·have hx:xs[xs.length-1-i]? =some xs[xs.length-1-i]:=d_ (by omega);refine .inr #[#[xs,_,hl i σ H hlt p,hlt,hx],Pv (i+1),λσ' H' p'=>#[xs.length-(i+1),by omega,Y,hlt,p'],λx H' y=>?_];obtain⟨e,y⟩:=y;subst e;exact hs i x σ _ hlt (y xs (hl i σ _ hlt p)) p
 ·have e:i=xs.length:=by omega
  subst e;exact .inl #[i_ _,hd σ H p]
end
end L2
namespace GP
open PySem L2 eV
theorem bM{α β:Type}{d:α}(l:List α)(F:α->β):(H_ l.length).map (λj=>F (l.getD j d))=l.map F:=by
 refine qa0 (by simp) λi h1 h2=>?_;have hi:i<l.length:=by simpa using h2
 rw[qaL,qaL,qbi,br (d_ hi)]
theorem Et{P:Nat->l_->Prop}:∀{m:Nat},(∀j,j<m->∃r,f j= .ref r/\P j r)->∃rs:List l_,rs.length=m/\(H_ m).map f=rs.map V.ref/\∀i r,rs[i]? =some r->P i r
 | 0,_=>#[[],rfl,rfl,λi r h=>by simp at h]
 |m+1,h=>by
  obtain⟨rs,h1,h2,h3⟩:=Et (m:=m) λj hj=>h j (by omega);obtain⟨r,e,hr⟩:=h m (qa8 _);refine#[rs++[r],by rw[t_,h1];rfl,by rw[qbe,E_,h2,E_,List.map_singleton,e];rfl,λi q hq=>?_];by_cases z:i<rs.length
  ·rw[qad z]at hq;exact h3 i q hq
  ·rw[qab (by omega)]at hq;have ei:i=m:=by
    have:=(m_.mp hq).1;have:i-rs.length<1:=this;omega
   subst ei;rw[h1,qbP]at hq;cases hq;exact hr
theorem FJ{α:Type}(F:Nat->α)(n:Nat):((H_ (n+1)).map F).reverse=(H_ (n+1)).map λj=>F (n-j):=by
 refine qa0 (by simp) λi h1 h2=>?_;rw[List.getElem_reverse,qaL,qaL,qbi,qbi];have e:((H_ (n+1)).map F).length-1-i=n-i:=by simp
 rw[e]
theorem fG{α:Type}{F:Nat->α}(h:j<n):((H_ n).map F)[j]? =some (F j):=by
 rw[j_,List.getElem?_range h];rfl
theorem p5{α:Type}{F:Nat->α}{n:Nat}:(H_ (n+1)).map F=(H_ n).map F++[F n]:=by
 rw[qbe,E_];rfl
noncomputable def jv(rows:List (List bJ))(fo fm:bJ):Int:=fm.1*(aC fo.2 fm.2 rows / fm.2)
noncomputable def Am(mo:Int)(c:w_)(n:Nat):Int:=((pK c.cps.toList).length:Int)*(n:Int)*mo
def oO(H:Hp)(l:l_)(m n:Nat)(f:Nat->Nat->Int):Prop :=
 ∃rs:List l_,rs.length=m/\H l=some (.lst (rs.map V.ref))/\∀i r,rs[i]? =some r->H r=some (.lst ((H_ n).map λj=>V.int (f i j)))
theorem oO.same(h:oO H l m n f)(e:aj H H'):oO H' l m n f:=by
 obtain⟨rs,h1,h2,h3⟩:=h;exact#[rs,h1,e _ _ h2,λi r hr=>e _ _ (h3 i r hr)]
noncomputable def qk(pc:Nat->Nat->Int)(mo:Int)(A B:List w_)(i j:Nat):Int:=EV pc mo (pK (A.getD i ⟨#[]⟩).cps.toList) (pK (B.getD j ⟨#[]⟩).cps.toList)
noncomputable abbrev y1(l1:l_):List (w_×V):=aQ "ones" (.ref l1) []
noncomputable abbrev y2(l1 l2:l_):=aQ "others" (.ref l2) (y1 l1)
noncomputable abbrev y3(l1 l2:l_)(g1:w_):=aQ "one_gaps" (.str g1) (y2 l1 l2)
noncomputable abbrev y4(l1 l2:l_)(g1 g2:w_):=aQ "other_gaps" (.str g2) (y3 l1 l2 g1)
noncomputable abbrev y5(l1 l2:l_)(g1 g2:w_)(a:l_):=aQ "by_a" (.ref a) (y4 l1 l2 g1 g2)
noncomputable abbrev y6(l1 l2:l_)(g1 g2:w_)(a b:l_):=aQ "by_b" (.ref b) (y5 l1 l2 g1 g2 a)
noncomputable abbrev y7(l1 l2:l_)(g1 g2:w_)(a b e:l_):=aQ "extras" (.ref e) (y6 l1 l2 g1 g2 a b)
noncomputable def jF(l1 l2:l_)(g1 g2:w_)(a b e r:l_):List (w_×V):=aQ "rests" (.ref r) (y7 l1 l2 g1 g2 a b e)
def JK(C:l_)(H:Hp)(jn:l_)(A B:List w_)(n1 n2:Nat)(pc:Nat->Nat->Int)(mo:Int):Prop :=
 GS λdx l1 l2 a b e r=>H jn=some (.ins C dx (jF l1 l2 (aN n1) (aN n2) a b e r))/\H l1=some (.lst (A.map V.str))/\H l2=some (.lst (B.map V.str)) ∧
  H a=some (.lst (A.map λc=>V.int (Am mo c n2)))/\H b=some (.lst (B.map λc=>V.int (Am mo c n1)))/\oO H e A.length B.length (qk pc mo A B)/\oO H r (A.length+1) (B.length+1) (ee (qk pc mo A B) A.length B.length)
theorem JK.same{jn:l_}(h:JK C H jn A B n1 n2 pc mo)(s:aj H H'):JK C H' jn A B n1 n2 pc mo:=by
 obtain⟨dx,l1,l2,a,b,e,r,h1,h2,h3,h4,h5,h6,h7⟩:=h;exact#[dx,l1,l2,a,b,e,r,s _ _ h1,s _ _ h2,s _ _ h3,s _ _ h4,s _ _ h5,h6.same s,h7.same s]
theorem DH:(aQ f v fs).lookup f=some v:=by rw[au,if_pos rfl]
theorem qO(h:fs.lookup f=r)(n:¬f=g):(aQ g u fs).lookup f=r:=by rw[au,if_neg n];exact h
section
variable{l1 l2 a b e r:l_}{g1 g2:w_}
theorem vE:(jF l1 l2 g1 g2 a b e r).lookup ("rests" :w_)=some (.ref r):=DH
theorem Gd:(jF l1 l2 g1 g2 a b e r).lookup ("extras" :w_)=some (.ref e):=qO (DH) (by decide +kernel)
theorem Lz:(jF l1 l2 g1 g2 a b e r).lookup ("by_b" :w_)=some (.ref b):=qO (qO (DH) (by decide +kernel)) (by decide +kernel)
theorem LA:(jF l1 l2 g1 g2 a b e r).lookup ("by_a" :w_)=some (.ref a):=qO (qO (qO (DH) (by decide +kernel)) (by decide +kernel)) (by decide +kernel)
theorem pQ:(jF l1 l2 g1 g2 a b e r).lookup ("other_gaps" :w_)=some (.str g2):=qO (qO (qO (qO (DH) (by decide +kernel)) (by decide +kernel)) (by decide +kernel)) (by decide +kernel)
theorem tw:(jF l1 l2 g1 g2 a b e r).lookup ("one_gaps" :w_)=some (.str g1):=qO (qO (qO (qO (qO (DH) (by decide +kernel)) (by decide +kernel)) (by decide +kernel)) (by decide +kernel)) (by decide +kernel)
theorem sD:(jF l1 l2 g1 g2 a b e r).lookup ("others" :w_)=some (.ref l2):=qO (qO (qO (qO (qO (qO (DH) (by decide +kernel)) (by decide +kernel)) (by decide +kernel)) (by decide +kernel)) (by decide +kernel)) (by decide +kernel)
theorem zI:(jF l1 l2 g1 g2 a b e r).lookup ("ones" :w_)=some (.ref l1):=qO (qO (qO (qO (qO (qO (qO (DH) (by decide +kernel)) (by decide +kernel)) (by decide +kernel)) (by decide +kernel)) (by decide +kernel)) (by decide +kernel)) (by decide +kernel)
end
theorem oO.congr(h:oO H l m n f)(e:∀i j,i<m->j<n->f i j=g i j):oO H l m n g:=by
 obtain⟨rs,h1,h2,h3⟩:=h;refine#[rs,h1,h2,λi r hr=>?_];have hi:i<m:=by rw[←h1];exact(m_.mp hr).1
 rw[h3 i r hr];congr 2;exact qa1 λj hj=>by rw[e i j hi (qam.mp hj)]
theorem dI.Nh{C CJ jn dj:l_}{sg:w_}(hj:H jn=some (.ins CJ dj []))(h:dI K C H x sg rows fo fm):dI K C (Wo jn H) x sg rows fo fm:=by
 have D:Dat H (Wo jn H):=λb u n e=>Wo.in (λz=>by rw[z,hj]at e;exact n _ _ _ (Z_ e).symm) e;obtain⟨a,b,c,d,f,g,i,dx,P,o,m,dd,kvs,h1,h2,h3,h4,h5,h6,fs,h7,h8,h9⟩:=h;refine#[a,b,c,d,f,g,i,dx,P,o,m,dd,kvs,Wo.in (λz=>?_) h1,h2.dat D,h3.dat D,h4.dat D,D _ _ (λ_ _ _ z=>by cases z) h5,h6,fs,h7,h8,D _ _ (λ_ _ _ z=>by cases z) h9];rw[z,hj]at h1;have e:=HO.ins.inj (Z_ h1);have e2:=congrArg (λl=>qb6 ("factors" :w_) l) e.2.2;rw[jE]at e2;cases e2
theorem kL.Nh{C CJ jn dj:l_}(hj:H jn=some (.ins CJ dj []))(h:kL K C H b rs):kL K C (Wo jn H) b rs:=by
 have D:Dat H (Wo jn H):=λb u n e=>Wo.in (λz=>by rw[z,hj]at e;exact n _ _ _ (Z_ e).symm) e;obtain⟨dx,q,h1,h2⟩:=h;refine#[dx,q,Wo.in (λz=>?_) h1,Dat.tup D h2];rw[z,hj]at h1;have e:=HO.ins.inj (Z_ h1);have e2:=congrArg (λl=>qb6 ("rows" :w_) l) e.2.2;rw[DH]at e2;cases e2
theorem xG{sg c:w_}(h:∀x∈c.cps.toList,x∈(nJ sg).cps.toList):Of sg (aO 45 c):=λx hx=>by
 obtain⟨h1,h2⟩:=qaD.mp (show x∈c.cps.toList.filter (· != 45) from hx);exact(fu.mp (h x h1)).resolve_left (by simpa using h2)
theorem uz(h:c.cps.size<=n):(aO 45 c).cps.size<=n:=gc (qaH _ _) (by rw[k_];exact h)
theorem sX{cs:List w_}(h:i<cs.length):(cs.map (aO 45)).getD i ⟨#[]⟩=aO 45 (cs.getD i ⟨#[]⟩):=by
 rw[br (d_ h),br (by rw[j_,d_ h];rfl)]
theorem oO.Nh{C jn dj:l_}(hj:H jn=some (.ins C dj fs))(h:oO H l m n f):oO (Wo jn H) l m n f:=by
 have ni:∀{l:l_} {xs:List V},H l=some (.lst xs)->l≠jn:=λh2 z=>by rw[z,hj]at h2;cases h2
 obtain⟨rs,h1,h2,h3⟩:=h;exact#[rs,h1,Wo.in (ni h2) h2,λi r hr=>Wo.in (ni (h3 i r hr)) (h3 i r hr)]
theorem oO.at_(h:oO H l m n f):∃L:List V,H l=some (.lst L)/\L.length=m/\∀i,i<m->∃r,L[i]? =some (.ref r)/\H r=some (.lst ((H_ n).map λj=>V.int (f i j))):=by
 obtain⟨rs,h1,h2,h3⟩:=h;refine#[_,h2,by rw[e_,h1],λi hi=>?_];have hi':i<rs.length:=by omega
 exact#[rs[i],by rw[j_,d_ hi'];rfl,h3 i _ (d_ hi')]
theorem L7[Decidable (V.int i=V.int j)]:decide (V.int i=V.int j)=decide (i=j):=by
 by_cases h:i=j
 ·rw[decide_eq_true h,decide_eq_true (by rw[h])]
 ·rw[decide_eq_false h,decide_eq_false λz=>h (V.int.inj z)]
theorem Hg:ju [V.int a,V.int b] [V.int c,V.int d]=decide (a=c/\b=d):=by
 by_cases h:a=c/\b=d
 ·rw[decide_eq_true h,h.1,h.2];exact Kc c d
 ·rw[decide_eq_false h];by_cases h1:a=c
  ·have h2:¬b=d:=λz=>h #[h1,z];simp[ju,H_,List.range.loop,EW,h1,h2]
  ·simp[ju,H_,List.range.loop,EW,h1]
def Cr(rs:List w_):Prop:=rs.length<=40/\∀r∈rs,r.cps.size<=50
theorem Cr.sm(h:Cr rs):tH rs:=#[gc h.1 (by decide),λy hy=>gc (h.2 y hy) (by decide)]
theorem Cr.bz(h:Cr rs)(hl:gB rs=true):bz rs<=50:=by
 obtain⟨hne,hw⟩:=aV.mp hl;obtain⟨r0,hr0⟩:=qcF rs hne;rw[←hw r0 hr0];exact h.2 r0 hr0
def R9(K:zaa)(C:l_)(x:l_)(sg:w_)(rows:List (List bJ))(fo fm:bJ)(c:w_)(n:Nat)(H:Hp)(Q:VK):Prop:=dI K C H x sg rows fo fm/\c.cps.size<=1000/\n<=1000/\Q (.int (Am (jv rows fo fm) c n)) H
def NK(K:zaa)(C:l_):Sp:=λvs H Q _=>GS λ(x:l_) (sg:w_) (rows:List (List bJ)) (fo fm:bJ) (c:w_) (n:Nat)=>vs=[.ref x,.str c,.int n]/\R9 K C x sg rows fo fm c n H Q
def Pa(K:zaa)(C:l_)(x l:l_)(sg:w_)(rows:List (List bJ))(fo fm:bJ)(cs:List w_)(n:Nat)(H:Hp)(Q:VK):Prop:=dI K C H x sg rows fo fm/\H l=some (.lst (cs.map V.str))/\cs.length<=1000/\(∀c∈cs,c.cps.size<=1000)/\n<=1000 ∧
 ∀l' H',aj H H'->H l'=none->H' l'=some (.lst (cs.map λc=>V.int (Am (jv rows fo fm) c n)))->Q (.ref l') H'
def KL(K:zaa)(C:l_):Sp:=λvs H Q _=>Pe λ(x l:l_) (sg:w_) (rows:List (List bJ)) (fo fm:bJ) (cs:List w_) (n:Nat)=>vs=[.ref x,.ref l,.int n]/\Pa K C x l sg rows fo fm cs n H Q
def R7(K:zaa)(C:l_)(x:l_)(sg:w_)(rows:List (List bJ))(fo fm:bJ)(S:w_)(H:Hp)(Q:VK):Prop:=dI K C H x sg rows fo fm/\Of sg S/\S.cps.size<=1000 ∧
 ∀(d:l_) H' (kvs:List (Key×V)),aj H H'->H d=none->H' d=some (.dK kvs)->(∀o∈sg.cps.toList,eZ kvs (.inr ⟨#[o]⟩)=some (.int (fS (λs=>jc sg rows (aC fo.2 fm.2 rows) s o-2*jv rows fo fm) S.cps.toList)))->Q (.ref d) H'
def Nz(K:zaa)(C:l_):Sp:=λvs H Q _=>Mm λ(x:l_) (sg:w_) (rows:List (List bJ)) (fo fm:bJ) (S:w_)=>vs=[.ref x,.str S]/\R7 K C x sg rows fo fm S H Q
def Wq(K:zaa)(C:l_)(x l:l_)(sg:w_)(rows:List (List bJ))(fo fm:bJ)(S:w_)(os:List w_)(H:Hp)(Q:VK):Prop:=dI K C H x sg rows fo fm/\Of sg S/\S.cps.size<=1000/\H l=some (.lst (os.map V.str))/\os.length<=1000/\(∀o∈os,Of sg o/\o.cps.size<=1000) ∧
 ∀l' H',aj H H'->H l'=none->H' l'=some (.lst (os.map λo=>V.int (EV (jc sg rows (aC fo.2 fm.2 rows)) (jv rows fo fm) S.cps.toList o.cps.toList)))->Q (.ref l') H'
def QB(K:zaa)(C:l_):Sp:=λvs H Q _=>Pe λ(x l:l_) (sg:w_) (rows:List (List bJ)) (fo fm:bJ) (S:w_) (os:List w_)=>vs=[.ref x,.str S,.ref l]/\Wq K C x l sg rows fo fm S os H Q
def Wr(K:zaa)(C:l_)(x l1 l2:l_)(sg:w_)(rows:List (List bJ))(fo fm:bJ)(ss os:List w_)(H:Hp)(Q:VK):Prop:=dI K C H x sg rows fo fm/\H l1=some (.lst (ss.map V.str))/\ss.length<=1000/\(∀o∈ss,Of sg o/\o.cps.size<=1000)/\H l2=some (.lst (os.map V.str))/\os.length<=1000/\(∀o∈os,Of sg o/\o.cps.size<=1000) ∧
 ∀l' H',aj H H'->H l'=none->oO H' l' ss.length os.length (λi j=>EV (jc sg rows (aC fo.2 fm.2 rows)) (jv rows fo fm) (ss.getD i ⟨#[]⟩).cps.toList (os.getD j ⟨#[]⟩).cps.toList)->Q (.ref l') H'
def QC(K:zaa)(C:l_):Sp:=λvs H Q _=>M6 λ(x l1 l2:l_) (sg:w_) (rows:List (List bJ)) (fo fm:bJ) (ss os:List w_)=>vs=[.ref x,.ref l1,.ref l2]/\Wr K C x l1 l2 sg rows fo fm ss os H Q
def Pc(l b:l_)(n:Nat)(f g:Nat->Int)(H:Hp)(Q:VK):Prop:=H l=some (.lst ((H_ n).map λj=>V.int (f j)))/\H b=some (.lst ((H_ (n+1)).map λj=>V.int (g j)))/\n<=1000 ∧
 ∀l' H',aj H H'->H l'=none->H' l'=some (.lst ((H_ (n+1)).map λj=>V.int (pA f g n (n-j))))->Q (.ref l') H'
def K0:Sp:=λvs H Q _=>tW λ(l b:l_) (n:Nat) (f g:Nat->Int)=>vs=[.ref l,.ref b]/\Pc l b n f g H Q
def O8(l:l_)(m n:Nat)(E:Nat->Nat->Int)(H:Hp)(Q:VK):Prop:=oO H l m n E/\m<=1000/\n<=1000 ∧
 ∀l' H',aj H H'->H l'=none->oO H' l' (m+1) (n+1) (ee E m n)->Q (.ref l') H'
def KH:Sp:=λvs H Q _=>mZ λ(l:l_) (m n:Nat) (E:Nat->Nat->Int)=>vs=[.ref l,.int n]/\O8 l m n E H Q
def Sa(K:zaa)(CJ:l_)(jn:l_)(A B:List w_)(n1 n2:Nat)(pc:Nat->Nat->Int)(mo:Int)(i j:Nat)(H:Hp)(Q:VK):Prop:=JK CJ H jn A B n1 n2 pc mo/\A.length<=400/\B.length<=400/\i<=A.length/\j<=B.length ∧
 Q (.str ⟨#[Cn (qk pc mo A B) A.length B.length i j]⟩) H
def NN(K:zaa)(CJ:l_):Sp:=λvs H Q _=>M6 λ(jn:l_) (A B:List w_) (n1 n2:Nat) (pc:Nat->Nat->Int) (mo:Int) (i j:Nat)=>vs=[.ref jn,.int i,.int j]/\Sa K CJ jn A B n1 n2 pc mo i j H Q
def Pb(K:zaa)(CJ:l_)(jn:l_)(A B:List w_)(n1 n2:Nat)(pc:Nat->Nat->Int)(mo:Int)(H:Hp)(Q:VK):Prop:=JK CJ H jn A B n1 n2 pc mo/\A.length<=400/\B.length<=400 ∧
 ∀l H' cs,aj H H'->H l=none->H' l=some (.lst (cs.map sg))->mG (qk pc mo A B) A.length B.length cs A.length B.length->Q (.ref l) H'
def KN(K:zaa)(CJ:l_):Sp:=λvs H Q _=>GS λ(jn:l_) (A B:List w_) (n1 n2:Nat) (pc:Nat->Nat->Int) (mo:Int)=>vs=[.ref jn]/\Pb K CJ jn A B n1 n2 pc mo H Q
def O7(K:zaa)(l1 l2 lm:l_)(A B:List w_)(g1 g2:w_)(cs:List Nat)(i j:Nat)(H:Hp)(Q:VK):Prop:=H l1=some (.lst (A.map V.str))/\H l2=some (.lst (B.map V.str))/\H lm=some (.lst (cs.map sg))/\A.length<=400/\B.length<=400/\(∀c∈A,c.cps.size<=1000)/\(∀c∈B,c.cps.size<=1000)/\g1.cps.size<=1000/\g2.cps.size<=1000/\Path A.length B.length cs i j ∧
 ∀l H',aj H H'->H l=none->H' l=some (.lst ((lq A B g1 g2 cs cs.length).map V.str))->Q (.ref l) H'
def KD(K:zaa):Sp:=λvs H Q _=>Pf λ(l1 l2 lm:l_) (A B:List w_) (g1 g2:w_) (cs:List Nat) (i j:Nat)=>vs=[.ref l1,.ref l2,.str g1,.str g2,.ref lm]/\O7 K l1 l2 lm A B g1 g2 cs i j H Q
structure WA(kn:List Nat)(A B:List w_)(n1 n2:Nat):Prop where
 a:gW kn A n1
 b:gW kn B n2
 la:A.length<=50
 lb:B.length<=50
 s1:n1<=40
 s2:n2<=40
 p1:0<n1
 kn:45∈kn
def KI(K:zaa)(CB CJ:l_):Sp:=λvs H Q _=>Pe λ(jn:l_) (A B:List w_) (n1 n2:Nat) (pc:Nat->Nat->Int) (mo:Int) (kn:List Nat)=>vs=[.ref jn]/\JK CJ H jn A B n1 n2 pc mo/\WA kn A B n1 n2 ∧
 ∀b H' cs,aj H H'->H b=none->mG (qk pc mo A B) A.length B.length cs A.length B.length->kL K CB H' b (cols (lq A B (aN n1) (aN n2) cs cs.length) (n1+n2))->Q (.ref b) H'
def Ml(K:zaa)(C CB:l_)(x o1 o2:l_)(sg:w_)(rows:List (List bJ))(fo fm:bJ)(r1 r2:List w_)(H:Hp)(Q:VK):Prop:=dI K C H x sg rows fo fm/\kL K CB H o1 r1/\kL K CB H o2 r2/\Cr r1/\Cr r2/\bI r1=true/\bI r2=true/\(∀r∈r1++r2,Of (nJ sg) r) ∧
 ∀b H' cs,aj H H'->H b=none->mG (qk (jc sg rows (aC fo.2 fm.2 rows)) (jv rows fo fm) (cols r1 (bz r1)) (cols r2 (bz r2))) (bz r1) (bz r2) cs (bz r1) (bz r2)->kL K CB H' b (cols (lq (cols r1 (bz r1)) (cols r2 (bz r2)) (aN r1.length) (aN r2.length) cs cs.length) (r1.length+r2.length))->Q (.ref b) H'
def HE(K:zaa)(C CB:l_):Sp:=λvs H Q _=>M6 λ(x o1 o2:l_) (sg:w_) (rows:List (List bJ)) (fo fm:bJ) (r1 r2:List w_)=>vs=[.ref x,.ref o1,.ref o2]/\Ml K C CB x o1 o2 sg rows fo fm r1 r2 H Q
end GP
namespace L2
open PySem PySem.Spec PyProof.Rows
end L2
namespace GP
open PySem L2 eV
section
theorem Kp.two{r:L2.St}:Kp (none::none::r) (a::b::r):=λi v e=>by
 match i with
 | 0=>cases e
 | 1=>cases e
 |i+2=>exact e
section
variable{sg:w_}{rows:List (List bJ)}{fo fm:bJ}{r1 r2:List w_}
end
end
section
section
variable{K:zaa}{CP CB:l_}{H H' GH:Hp}{t x a1 a2 o1 o2:l_}{k k2:Int}{sg:w_}{rows:List (List bJ)}{fo fm:bJ}{r1 r2:List w_}
end
end
section
noncomputable def stI(c:Nat):Nat:=if c=98 then 0 else 1
noncomputable def uC(c:Nat):Nat:=if c=97 then 0 else 1
def Jw(m n:Nat):Nat->Nat->List Nat->Prop
 |i,j,[]=>i=m/\j=n
 |i,j,c::cs=>lE m n i j c (i+stI c) (j+uC c)/\Jw m n (i+stI c) (j+uC c) cs
def Fe(E:Nat->Nat->Int)(m n:Nat):Nat->Nat->List Nat->Prop
 |i,j,[]=>i=m/\j=n
 |i,j,c::cs=>c=Cn E m n i j/\ee E m n i j=(if c=112 then E i j else 0)+ee E m n (i+stI c) (j+uC c)/\lE m n i j c (i+stI c) (j+uC c)/\Fe E m n (i+stI c) (j+uC c) cs
noncomputable def TF(E:Nat->Nat->Int):Nat->Nat->List Nat->Int
 |_,_,[]=>0
 |i,j,c::cs=>(if c=112 then E i j else 0)+TF E (i+stI c) (j+uC c) cs
noncomputable def sM(A B:List w_)(g1 g2:w_):Nat->Nat->List Nat->List w_
 |_,_,[]=>[]
 |i,j,c::cs=>pG A B g1 g2 i j c::sM A B g1 g2 (i+stI c) (j+uC c) cs
theorem lE.st(h:lE m n i j c i' j'):i'=i+stI c/\j'=j+uC c:=by
 cases h<;>exact#[Y,Y]
theorem Path.wk(h:Path m n cs i j):∀{ds:List Nat},Jw m n i j ds->Jw m n 0 0 (cs++ds):=by
 induction h with
 |nil=>exact λh=>h
 | @snoc cs i j c i' j' hp s ih =>
  intro ds hd;rw[qat];obtain⟨e1,e2⟩:=s.st;subst e1 e2;exact ih #[s,hd]
theorem Jw.path:∀{ds:List Nat} {cs:List Nat} {i j:Nat},Path m n cs i j->Jw m n i j ds->Path m n (cs++ds) m n
 |[],cs,i,j,hp,h=>by
  obtain⟨rfl,rfl⟩:=h;rw[qaQ];exact hp
 |c::ds,cs,i,j,hp,h=>by
  have:=Jw.path (hp.snoc h.1) h.2;rw[qat]at this;exact this
theorem mG.Wb(h:mG E m n cs i j):∀{ds:List Nat},Fe E m n i j ds->Fe E m n 0 0 (cs++ds):=by
 induction h with
 |nil=>exact λh=>h
 | @snoc cs i j i' j' hp s e ih =>
  intro ds hd;rw[qat];obtain⟨e1,e2⟩:=s.st;subst e1 e2;exact ih #[Y,e,s,hd]
theorem Fe.wk:∀{cs:List Nat} {i j:Nat},Fe E m n i j cs->Jw m n i j cs
 |[],_,_,h=>h
 |_::_,_,_,h=>#[h.2.2.1,Fe.wk h.2.2.2]
theorem Fe.ex:∀{cs:List Nat} {i j:Nat},Fe E m n i j cs->TF E i j cs=ee E m n i j
 |[],_,_,h=>by rw[h.1,qF];rfl
 |c::cs,i,j,h=>by
  rw[h.2.1,←Fe.ex h.2.2.2];rfl
theorem E4:∀{cs:List Nat} {i j:Nat},(H_ cs.length).map (λk=>pG A B g1 g2 (i+pI cs k) (j+pJ cs k) (cs.getD k 0))=sM A B g1 g2 i j cs
 |[],_,_=>rfl
 |c::cs,i,j=>by
  rw[Q_,List.range_succ_eq_map,qag,U_];show _::_=pG A B g1 g2 i j c::sM A B g1 g2 (i+stI c) (j+uC c) cs;rw[←E4];congr 1;refine qa1 λk _=>?_;have e1:pI (c::cs) (k+1)=stI c+pI cs k:=by
   unfold pI stI;rw[List.take_succ_cons,List.filter_cons];by_cases h:c=98
   ·rw[if_pos h,if_neg (by simp[h]),qc3]
   ·rw[if_neg h,if_pos (by simpa using h),Q_,Nat.add_comm]
  have e2:pJ (c::cs) (k+1)=uC c+pJ cs k:=by
   unfold pJ uC;rw[List.take_succ_cons,List.filter_cons];by_cases h:c=97
   ·rw[if_pos h,if_neg (by simp[h]),qc3]
   ·rw[if_neg h,if_pos (by simpa using h),Q_,Nat.add_comm]
  show pG A B g1 g2 (i+pI (c::cs) (k+1)) (j+pJ (c::cs) (k+1)) ((c::cs).getD (k+1) 0)=_;rw[e1,e2,←Nat.add_assoc,←Nat.add_assoc];rfl
theorem Bf:lq A B g1 g2 cs cs.length=sM A B g1 g2 0 0 cs:=by
 rw[←E4];unfold lq;refine qa1 λk _=>?_;rw[qc3,qc3]
section
variable{A B:List w_}{n1 n2:Nat}
theorem Gx(hA:∀c∈A,c.cps.size=n1)(hB:∀c∈B,c.cps.size=n2)(h0:∀a b,a=45->b=45->tc a b=0)(h1:∀a b,¬(a=45/\b=45)->(a=45\/b=45)->tc a b=mo)(h2:∀a b,a≠45->b≠45->tc a b=pc a b)
  {E:Nat->Nat->Int} (hE:∀i j,i<A.length->j<B.length->E i j=EV pc mo (pK (A.getD i ⟨#[]⟩).cps.toList) (pK (B.getD j ⟨#[]⟩).cps.toList)) (s:lE A.length B.length i j c i' j') :
  cc tc (pG A B (aN n1) (aN n2) i j c).cps.toList+sm (λi=>cc tc (A.getD i ⟨#[]⟩).cps.toList+((pK (A.getD i ⟨#[]⟩).cps.toList).length:Int)*(n2:Int)*mo) i+sm (λj=>cc tc (B.getD j ⟨#[]⟩).cps.toList+((pK (B.getD j ⟨#[]⟩).cps.toList).length:Int)*(n1:Int)*mo) j
   = sm (λi=>cc tc (A.getD i ⟨#[]⟩).cps.toList+((pK (A.getD i ⟨#[]⟩).cps.toList).length:Int)*(n2:Int)*mo) i'+sm (λj=>cc tc (B.getD j ⟨#[]⟩).cps.toList+((pK (B.getD j ⟨#[]⟩).cps.toList).length:Int)*(n1:Int)*mo) j'+(if c=112 then E i j else 0):=by
 have hl:∀{i},i<A.length->(A.getD i ⟨#[]⟩).cps.toList.length=n1:=λ{i} hi=>by rw[k_];exact hA _ (getD_mem hi)
 have hr:∀{j},j<B.length->(B.getD j ⟨#[]⟩).cps.toList.length=n2:=λ{j} hj=>by rw[k_];exact hB _ (getD_mem hj)
 unfold pG
 cases s with
 |p hi hj =>
  rw[if_neg (by decide),if_neg (by decide),cH,oJ,D7 h0 h1 h2,hl hi,hr hj,←hE i j hi hj,if_pos rfl];show _=sm _ i+(_+_)+(sm _ j+(_+_))+_;omega
 |a hi =>
  rw[if_neg (by decide),if_pos rfl,if_neg (by decide),cH,oJ,D7 h0 h1 h2,hl hi,jU,AU,ue h0,qaz];show _=sm _ i+(_+_)+sm _ j+_;rw[show EV pc mo (pK (A.getD i ⟨#[]⟩).cps.toList) []=0 from rfl,qcj,show((0:Nat):Int)*(n1:Int)*mo=0 by simp];omega
 |b hj =>
  rw[if_pos rfl,if_neg (by decide),if_neg (by decide),cH,oJ,D7 h0 h1 h2,hr hj,jU,AU,ue h0,qaz];show _=sm _ i+(sm _ j+(_+_))+_;rw[show EV pc mo [] (pK (B.getD j ⟨#[]⟩).cps.toList)=0 from(ff λ_ _=>lI _).trans ((mK 0 _).trans (Int.mul_zero _)),qcj,show((0:Nat):Int)*(n2:Int)*mo=0 by simp];omega
theorem Jw.cost(hA:∀c∈A,c.cps.size=n1)(hB:∀c∈B,c.cps.size=n2)(h0:∀a b,a=45->b=45->tc a b=0)(h1:∀a b,¬(a=45/\b=45)->(a=45\/b=45)->tc a b=mo)(h2:∀a b,a≠45->b≠45->tc a b=pc a b)
  (hE:∀i j,i<A.length->j<B.length->E i j=EV pc mo (pK (A.getD i ⟨#[]⟩).cps.toList) (pK (B.getD j ⟨#[]⟩).cps.toList)):∀{cs:List Nat} {i j:Nat},Jw A.length B.length i j cs →
  ((sM A B (aN n1) (aN n2) i j cs).map λo=>cc tc o.cps.toList).sum+sm (λi=>cc tc (A.getD i ⟨#[]⟩).cps.toList+((pK (A.getD i ⟨#[]⟩).cps.toList).length:Int)*(n2:Int)*mo) i+sm (λj=>cc tc (B.getD j ⟨#[]⟩).cps.toList+((pK (B.getD j ⟨#[]⟩).cps.toList).length:Int)*(n1:Int)*mo) j
   = sm (λi=>cc tc (A.getD i ⟨#[]⟩).cps.toList+((pK (A.getD i ⟨#[]⟩).cps.toList).length:Int)*(n2:Int)*mo) A.length+sm (λj=>cc tc (B.getD j ⟨#[]⟩).cps.toList+((pK (B.getD j ⟨#[]⟩).cps.toList).length:Int)*(n1:Int)*mo) B.length+TF E i j cs
 |[],i,j,h=>by
  obtain⟨rfl,rfl⟩:=h;show(0:Int)+_+_=_+_+0;omega
 |c::cs,i,j,h=>by
  have e1:=Gx hA hB h0 h1 h2 hE h.1;have e2:=Jw.cost hA hB h0 h1 h2 hE h.2
  show(cc tc (pG A B (aN n1) (aN n2) i j c).cps.toList::((sM A B (aN n1) (aN n2) (i+stI c) (j+uC c) cs).map λo=>cc tc o.cps.toList)).sum+_+_=_+_+((if c=112 then E i j else 0)+TF E (i+stI c) (j+uC c) cs)
  rw[qa_];omega
end
end
end GP
namespace L2
open PySem PySem.Spec PyProof.Rows
section
open PySem.SeqAt
open PySem.AutoSeq1 (wpAny_loadPart')
open PySem.MeetsSeq PySem.MeetsSeq2 PySem.MeetsSeq3
end
end L2
namespace GP
open PySem L2 eV
section
noncomputable def AE(A:List w_)(g:w_):Nat->List Nat->List w_
 |_,[]=>[]
 |i,c::cs=>(if c=98 then g else A.getD i ⟨#[]⟩)::AE A g (i+stI c) cs
noncomputable def Ab(B:List w_)(g:w_):Nat->List Nat->List w_
 |_,[]=>[]
 |j,c::cs=>(if c=97 then g else B.getD j ⟨#[]⟩)::Ab B g (j+uC c) cs
theorem sZ(hN:0<N)(hs:∀o∈T,o.cps.size=N):packed (cols T N)=cols (T.filter λc=>!bL c) N:=by
 unfold packed;rw[uo hN,o6 hs,aU]
section
variable{A B:List w_}{n1 n2:Nat}{kn:List Nat}
theorem Q2(h:lE m n i j c i' j'):c≠98->i<m:=λz=>by
 cases h with
 |p a b=>exact a
 |a a=>exact a
 |b b=>exact absurd Y z
theorem Q0(h:lE m n i j c i' j'):c≠97->j<n:=λz=>by
 cases h with
 |p a b=>exact b
 |a a=>exact absurd Y z
 |b b=>exact b
theorem oU(hA:∀c∈A,c.cps.size=n1):∀{cs:List Nat} {i j:Nat},Jw A.length n i j cs->∀o∈AE A (aN n1) i cs,o.cps.size=n1
 |[],_,_,_,o,ho=>absurd ho R_
 |c::cs,i,j,h,o,ho=>by
  rcases B_.mp (show o∈_::AE A (aN n1) (i+stI c) cs from ho)with rfl|ho
  ·by_cases z:c=98
   ·rw[if_pos z,dM]
   ·rw[if_neg z];exact hA _ (getD_mem (Q2 h.1 z))
  ·exact oU hA h.2 o ho
theorem yh(hB:∀c∈B,c.cps.size=n2):∀{cs:List Nat} {i j:Nat},Jw n B.length i j cs->∀o∈Ab B (aN n2) j cs,o.cps.size=n2
 |[],_,_,_,o,ho=>absurd ho R_
 |c::cs,i,j,h,o,ho=>by
  rcases B_.mp (show o∈_::Ab B (aN n2) (j+uC c) cs from ho)with rfl|ho
  ·by_cases z:c=97
   ·rw[if_pos z,dM]
   ·rw[if_neg z];exact hB _ (getD_mem (Q0 h.1 z))
  ·exact yh hB h.2 o ho
theorem xY(n:Nat):bL (aN n)=true:=by
 unfold bL;rw[jU,x_];exact λx hx=>by rw[qbk hx];rfl
theorem sV{n1:Nat}(hA:∀c∈A,bL c=false):∀{cs:List Nat} {i j:Nat},Jw A.length n i j cs->(AE A (aN n1) i cs).filter (λc=>!bL c)=A.drop i
 |[],i,_,h=>by rw[h.1,List.drop_length];rfl
 |c::cs,i,j,h=>by
  show(_::AE A (aN n1) (i+stI c) cs).filter (λc=>!bL c)=_;have ih:=sV (n1:=n1) hA h.2;by_cases z:c=98
  ·rw[if_pos z,qbs (by rw[xY];decide),ih];unfold stI;rw[if_pos z,Nat.add_zero]
  ·have hi:=Q2 h.1 z;rw[if_neg z,qbr (by rw[hA _ (getD_mem hi)];rfl),ih,qcG hi,br (d_ hi)];unfold stI;rw[if_neg z]
theorem tF{n2:Nat}(hB:∀c∈B,bL c=false):∀{cs:List Nat} {i j:Nat},Jw n B.length i j cs->(Ab B (aN n2) j cs).filter (λc=>!bL c)=B.drop j
 |[],_,j,h=>by rw[h.2,List.drop_length];rfl
 |c::cs,i,j,h=>by
  show(_::Ab B (aN n2) (j+uC c) cs).filter (λc=>!bL c)=_;have ih:=tF (n2:=n2) hB h.2;by_cases z:c=97
  ·rw[if_pos z,qbs (by rw[xY];decide),ih];unfold uC;rw[if_pos z,Nat.add_zero]
  ·have hj:=Q0 h.1 z;rw[if_neg z,qbr (by rw[hB _ (getD_mem hj)];rfl),ih,qcG hj,br (d_ hj)];unfold uC;rw[if_neg z]
theorem B3(hA:∀c∈A,c.cps.size=n1)(hr:r<n1):∀{cs:List Nat} {i j:Nat},Jw A.length n i j cs->cF (sM A B (aN n1) (aN n2) i j cs) r=cF (AE A (aN n1) i cs) r
 |[],_,_,_=>rfl
 |c::cs,i,j,h=>by
  show(pG A B (aN n1) (aN n2) i j c).cps.toList.getD r 0::cF (sM A B (aN n1) (aN n2) (i+stI c) (j+uC c) cs) r=(if c=98 then aN n1 else A.getD i ⟨#[]⟩).cps.toList.getD r 0::cF (AE A (aN n1) (i+stI c) cs) r
  rw[B3 hA hr h.2];congr 1;have hz:=oU hA (cs:=c::cs) h _ (r_ ..)
  have hz':(if c=98 then aN n1 else A.getD i ⟨#[]⟩).cps.toList.length=n1:=by rw[k_];exact hz
  unfold pG
  generalize (if c=98 then aN n1 else A.getD i ⟨#[]⟩)=U at hz'
  rw[cH];simp only[M_];rw[qad (by omega)]
theorem B4(hA:∀c∈A,c.cps.size=n1):∀{cs:List Nat} {i j:Nat},Jw A.length B.length i j cs->cF (sM A B (aN n1) (aN n2) i j cs) (n1+r)=cF (Ab B (aN n2) j cs) r
 |[],_,_,_=>rfl
 |c::cs,i,j,h=>by
  show(pG A B (aN n1) (aN n2) i j c).cps.toList.getD (n1+r) 0::cF (sM A B (aN n1) (aN n2) (i+stI c) (j+uC c) cs) (n1+r)=(if c=97 then aN n2 else B.getD j ⟨#[]⟩).cps.toList.getD r 0::cF (Ab B (aN n2) (j+uC c) cs) r
  rw[B4 hA h.2];congr 1;have hz:=oU hA (cs:=c::cs) h _ (r_ ..)
  have hz':(if c=98 then aN n1 else A.getD i ⟨#[]⟩).cps.toList.length=n1:=by rw[k_];exact hz
  unfold pG
  generalize (if c=98 then aN n1 else A.getD i ⟨#[]⟩)=U at hz'
  generalize (if c=97 then aN n2 else B.getD j ⟨#[]⟩)=U2
  rw[cH];simp only[M_];rw[qab (by omega),hz',Nat.add_sub_cancel_left]
theorem Jq(hA:∀c∈A,c.cps.size=n1)(h:Jw A.length B.length 0 0 cs):(cols (sM A B (aN n1) (aN n2) 0 0 cs) (n1+n2)).take n1=cols (AE A (aN n1) 0 cs) n1:=by
 unfold cols;rw[←qdb,List.take_range,qbK (qan _ _)];refine qa1 λr hr=>?_;unfold dg;rw[B3 hA (qam.mp hr) h]
theorem Jr(hA:∀c∈A,c.cps.size=n1)(h:Jw A.length B.length 0 0 cs):(cols (sM A B (aN n1) (aN n2) 0 0 cs) (n1+n2)).drop n1=cols (Ab B (aN n2) 0 cs) n2:=by
 refine qc4 λr=>?_;rw[List.getElem?_drop];by_cases hr:r<n2
 ·rw[show(cols (sM A B (aN n1) (aN n2) 0 0 cs) (n1+n2))[n1+r]? =some (dg _ (n1+r)) from fG (by omega),show(cols (Ab B (aN n2) 0 cs) n2)[r]? =some (dg _ r) from fG hr];unfold dg;rw[B4 hA h]
 ·rw[qar (by rw[aU];omega),qar (by rw[aU];omega)]
end
theorem qP{r1 r2:List w_}(h1:gW kn (cols r1 (bz r1)) r1.length)(h2:gW kn (cols r2 (bz r2)) r2.length)(l1:gB r1=true)(l2:gB r2=true)(h:Jw (bz r1) (bz r2) 0 0 cs):
  packed ((cols (lq (cols r1 (bz r1)) (cols r2 (bz r2)) (aN r1.length) (aN r2.length) cs cs.length) (r1.length+r2.length)).take r1.length)=r1 ∧
  packed ((cols (lq (cols r1 (bz r1)) (cols r2 (bz r2)) (aN r1.length) (aN r2.length) cs cs.length) (r1.length+r2.length)).drop r1.length)=r2:=by
 have h':Jw (cols r1 (bz r1)).length (cols r2 (bz r2)).length 0 0 cs:=by rw[aU,aU];exact h
 rw[Bf,Jq h1.size h',Jr h1.size h',sZ (qaT.mpr (aV.mp l1).1) (oU h1.size h'),sZ (qaT.mpr (aV.mp l2).1) (yh h2.size h'),sV h1.full h',tF h2.full h',qcz,qcz];exact#[o6 (aV.mp l1).2,o6 (aV.mp l2).2]
end
section
noncomputable abbrev YY(r1 r2:List w_)(ms:List Nat):List w_:=lq (cols r1 (bz r1)) (cols r2 (bz r2)) (aN r1.length) (aN r2.length) ms ms.length
noncomputable abbrev U5(r1 r2:List w_)(ms:List Nat):List w_:=cols (YY r1 r2 ms) (r1.length+r2.length)
theorem Jw.len(h:Jw m n 0 0 cs):cs.length<=m+n:=by
 have h':Path m n cs m n:=(Jw.path (cs:=[]) .nil h);have:=h'.in;omega
end
end GP
namespace L2
open PySem PySem.Spec PyProof.Rows
theorem mw(hK:X.K=K'):g7 X (.builtin "len") (λxs H Q=>bU λx n=>xs=[x]/\JJ K' x H n/\Q (.int (n:Int)) H):=by subst hK;exact aK
end L2
namespace GP
open PySem L2 eV
section
def Kb(k a c:Int):Prop:=k<=a/\a<=k+c
theorem Fe.uniq:∀{cs ds:List Nat} {i j:Nat},Fe E m n i j cs->Fe E m n i j ds->cs=ds
 |[],[],_,_,_,_=>rfl
 |c::cs,d::ds,i,j,h,h'=>by
  have e:c=d:=h.1.trans h'.1.symm;subst e;rw[Fe.uniq h.2.2.2 h'.2.2.2]
 |[],d::ds,i,j,h,h'=>by
  obtain⟨rfl,rfl⟩:=h;have s:=h'.2.2.1;exfalso;generalize i+stI d=i' at s;generalize j+uC d=j' at s
  cases s with
  |p a b=>omega
  |a a=>omega
  |b b=>omega
 |d::ds,[],i,j,h',h=>by
  obtain⟨rfl,rfl⟩:=h;have s:=h'.2.2.1;exfalso;generalize i+stI d=i' at s;generalize j+uC d=j' at s
  cases s with
  |p a b=>omega
  |a a=>omega
  |b b=>omega
theorem mG.uniq(h:mG E m n cs m n)(h':mG E m n ds m n):cs=ds:=by
 have a:=h.Wb (ds:=[]) #[rfl,rfl];have b:=h'.Wb (ds:=[]) #[rfl,rfl];rw[qaQ]at a b;exact a.uniq b
end
section
noncomputable def fY(r:Nat)(x:w_)(os:List w_):List w_:=os.take r++[x]++os.drop r
theorem jZ{r:Nat}{x:w_}{os:List w_}:(fY r x os).length=os.length+1:=by
 unfold fY;rw[t_,t_,W_,qaY,qbf];omega
theorem ja{x y:w_}{os:List w_}(h:y∈fY r x os):y=x\/y∈os:=by
 unfold fY at h;rcases S_.mp h with h|h
 ·rcases S_.mp h with h|h
  ·exact .inr (qbo h)
  ·exact .inl (u_.mp h)
 ·exact .inr (List.mem_of_mem_drop h)
theorem xN(h:rs[r]? =some x):fY r x (rs.eraseIdx r)=rs:=by
 obtain⟨hr,e⟩:=m_.mp h;unfold fY;rw[List.eraseIdx_eq_take_drop_succ,List.take_append_of_le_length (by rw[W_];omega),List.take_take,Nat.min_self,List.drop_append_of_le_length (by rw[W_];omega),List.drop_eq_nil_of_le (by rw[W_];omega),List.nil_append,qat,List.singleton_append,←e,←qcG hr,qcn]
theorem O4(hs:∀a b,tc a b=tc b a)(x:Nat)(A B:List Nat):cc tc (A++[x]++B)=cc tc (x::(A++B)):=by
 have e:∀L:List Nat,D8 tc L [x]=D8 tc [x] L:=λL=>by
  unfold D8;rw[dJ,lI,qcd];refine ff λa _=>?_;rw[dJ,lI,qcd];exact hs a x
 have c1:cc tc [x]=0:=rfl;have b1:∀L M N:List Nat,D8 tc (L++M) N=D8 tc L N+D8 tc M N:=λL M N=>by
  unfold D8;rw[←lJ];exact ff λb _=>qC _ _ _
 have b2:∀L M N:List Nat,D8 tc L (M++N)=D8 tc L M+D8 tc L N:=λL M N=>qC _ _ _;rw[oJ,oJ,b1,e A,show x::(A++B)=[x]++(A++B) from rfl,oJ,oJ,b2,c1];omega
theorem yd{os:List w_}:cF (fY r x os) k=(cF os k).take r++[x.cps.toList.getD k 0]++(cF os k).drop r:=by
 unfold cF fY;rw[E_,E_,qdb,List.map_drop];rfl
theorem GC(hs:∀a b,tc a b=tc b a){os:List w_}(hx:x.cps.size=w)(ho:∀o∈os,o.cps.size=w):dh tc (fY r x os)=dh tc (x::os):=by
 have w1:bz (fY r x os)=w:=by
  cases h:fY r x os with
  |nil =>
   have:=jZ (r:=r) (x:=x) (os:=os);rw[h]at this;cases this
  |cons a l =>
   rcases ja (y:=a) (by rw[h];exact r_ ..)with e|e
   ·show a.cps.size=w;rw[e];exact hx
   ·exact ho a e
 have w2:bz (x::os)=w:=hx;unfold dh;rw[w1,w2,jZ];refine bT λk _=>?_;have e1:nF tc (cF (fY r x os) k) (os.length+1)=cc tc (cF (fY r x os) k):=by
  unfold cc;rw[show(cF (fY r x os) k).length=os.length+1 from(e_ ..).trans jZ]
 have e2:nF tc (cF (x::os) k) (x::os).length=cc tc (cF (x::os) k):=by
  unfold cc;rw[show(cF (x::os) k).length=(x::os).length from e_ ..]
 rw[e1,e2,yd,O4 hs,qcn];rfl
theorem iR{rs:List w_}{r:Nat}{x:w_}(hl:gB rs=true)(h:rs[r]? =some x):∃y,(packed rs)[r]? =some y/\aO 45 y=aO 45 x:=by
 obtain⟨hr,ex⟩:=m_.mp h;have hw:=(aV.mp hl).2 x (h_ h);refine#[_,fG hr,?_];have e:∀k,(dg rs k).cps.toList.getD r 0=x.cps.toList.getD k 0:=λk=>by
  show(rs.map λr=>r.cps.toList.getD k 0).getD r 0=_;rw[br (x:=x.cps.toList.getD k 0) (by rw[j_,h];rfl)]
 have hF:(cols rs (bz rs)).filter (λc=>!bL c)=((H_ (bz rs)).filter λi=>!bL (dg rs i)).map (dg rs):=by
  unfold cols;rw[qcN];rfl
 have ex2:x.cps.toList=(H_ (bz rs)).map λk=>x.cps.toList.getD k 0:=by
  have:=bM (d:=0) x.cps.toList λc=>c;rw[k_,hw,List.map_id']at this;exact this.symm
 have key:(dg ((cols rs (bz rs)).filter λc=>!bL c) r).cps.toList.filter (· != 45)=x.cps.toList.filter (· != 45):=by
  show(((cols rs (bz rs)).filter λc=>!bL c).map λc=>c.cps.toList.getD r 0).filter (· != 45)=_;rw[hF,U_,ex2];have e3:((λc:w_=>c.cps.toList.getD r 0) ∘ dg rs)=λk=>x.cps.toList.getD k 0:=funext e;rw[e3,qcN,qcN,List.filter_filter];congr 1;refine List.filter_congr λk _=>?_;show(x.cps.toList.getD k 0 != 45&& !bL (dg rs k))=(x.cps.toList.getD k 0 != 45)
  cases hc:(x.cps.toList.getD k 0 != 45)with
  |false=>rfl
  |true =>
   rw[qcK,qbq]
   cases hg:bL (dg rs k)with
   |false=>rfl
   |true =>
    exfalso;have hm:x.cps.toList.getD k 0∈(dg rs k).cps.toList:=z_.mpr #[x,h_ h,rfl];have:=x_.mp hg _ hm;rw[beq_iff_eq]at this;rw[this]at hc;cases hc
 show(⟨((dg _ r).cps.toList.filter (· != 45)).toArray⟩:w_)=⟨(x.cps.toList.filter (· != 45)).toArray⟩;rw[key]
theorem LS(hs:o.cps.size=n)(h:bL o=true):o=aN n:=by
 have e:o.cps.toList=(aN n).cps.toList:=by
  rw[jU];refine List.eq_replicate_iff.mpr #[by rw[k_];exact hs,λb hb=>?_];have:=x_.mp h b hb;simpa using this
 cases o with
 |mk a =>
  have:=qbz.mp e;exact congrArg Str.mk this
end
section
theorem Ma{a b:Nat}(h:a<=b)(hb:b<=xs.length):lA xs (some (a:Int)) (some (b:Int))=(xs.drop a).take (b-a):=by
 unfold lA;rw[HT.jA,HT.jA,qbK hb,qbK (gc h hb)]
theorem B6(ha:bV K H a xs)(hb:bV K H b ys)(hz:xs.length+ys.length<=A_)(k:∀p H',aj H H'->bV K H' p (xs++ys)->Q (.ref p) H'):
  HY K (.ref a) (.ref b) H Q\/iG λa' b' ys'=>V.ref a= .ref a'/\V.ref b= .ref b'/\bV K H a' []/\bV K H b' ys'/\Q (.ref b') H:=by
 by_cases h:xs=[]
 ·subst h;exact .inr #[a,b,ys,Y,Y,ha,hb,k b H (aj.refl _) hb]
 ·refine .inl #[a,b,xs,ys,Y,Y,ha,hb,h,hz,λz=>?_,λ_ p hp=>k p _ (aj.upd hp) (bV.of ai)];subst z;exact k a H (aj.refl _) (by rw[qaQ];exact ha)
theorem Gj{os:List w_}:bL (dg (fY r x os) k)=bL (dg (x::os) k):=by
 show(cF (fY r x os) k).all (·==45)=(x.cps.toList.getD k 0::cF os k).all (·==45);have e:(cF os k).all (·==45)=((cF os k).take r++(cF os k).drop r).all (·==45):=by rw[qcn]
 rw[yd,List.all_append,List.all_append,List.all_cons,List.all_nil,Bool.and_true,List.all_cons,e,List.all_append];cases ((cF os k).take r).all (·==45)<;>cases (x.cps.toList.getD k 0==45)<;>rfl
theorem Ay{r w:Nat}{os:List w_}(hx:x.cps.size=w)(ho:∀o∈os,o.cps.size=w):bz (fY r x os)=w:=by
 cases h:fY r x os with
 |nil =>
  have:=jZ (r:=r) (x:=x) (os:=os);rw[h]at this;cases this
 |cons a l =>
  rcases ja (y:=a) (by rw[h];exact r_ ..)with e|e
  ·show a.cps.size=w;rw[e];exact hx
  ·exact ho a e
theorem tG{r:Nat}{os:List w_}(h:bI (x::os)=true):bI (fY r x os)=true:=by
 unfold bI at h ⊢;rw[N_,N_]at h ⊢;obtain⟨h1,h2,h3⟩:=h;obtain⟨_,hw⟩:=aV.mp h1;have hx:x.cps.size=bz (x::os):=hw x (r_ ..);have ho:∀o∈os,o.cps.size=bz (x::os):=λo hm=>hw o (s_ _ hm);have hwp:=Ay (r:=r) hx ho;refine#[aV.mpr #[λz=>?_,λy hy=>?_],x_.mpr λy hy=>?_,x_.mpr λc hc=>?_]
 ·have:=jZ (r:=r) (x:=x) (os:=os);rw[z]at this;cases this
 ·rw[hwp];rcases ja hy with rfl|hy
  ·exact hx
  ·exact ho y hy
 ·rcases ja hy with rfl|hy
  ·exact x_.mp h2 _ (r_ ..)
  ·exact x_.mp h2 _ (s_ _ hy)
 ·rw[hwp]at hc;obtain⟨k,hk,rfl⟩:=z_.mp (show c∈(H_ (bz (x::os))).map (dg (fY r x os)) from hc);rw[Gj];exact x_.mp h3 _ (z_.mpr #[k,hk,Y])
theorem mR(hl:gB rs=true)(hi:i<rs.length)(h1:rs.length≠1):gB (rs.eraseIdx i)=true/\bz (rs.eraseIdx i)=bz rs/\(rs.eraseIdx i).length+1=rs.length:=by
 obtain⟨hne,hw⟩:=aV.mp hl;have hlen:(rs.eraseIdx i).length+1=rs.length:=by rw[qbD hi];omega
 have hm:∀r∈rs.eraseIdx i,r.cps.size=bz rs:=λr hr=>hw r (T_ hr);have MM:bz (rs.eraseIdx i)=bz rs:=by
  cases h:rs.eraseIdx i with
  |nil=>rw[h]at hlen;have:0+1=rs.length:=hlen;omega
  |cons a l=>exact hm a (by rw[h];exact r_ ..)
 exact#[aV.mpr #[λz=>by rw[z]at hlen;have:0+1=rs.length:=hlen;omega,λr hr=>by rw[MM];exact hm r hr],MM,hlen]
theorem oY(hl:gB rs=true)(ho:∀r∈rs,Of kn r):∀r∈packed rs,Of kn r:=λr hr x hx=>by
 have hF:∀c∈(cols rs (bz rs)).filter (λc=>!bL c),c.cps.size=rs.length:=λc hc=>by
  obtain⟨k,_,rfl⟩:=z_.mp (show c∈(H_ (bz rs)).map (dg rs) from(qaD.mp hc).1);exact e_ ..
 obtain⟨o,Zu,Y9⟩:=CZ hF hr hx;obtain⟨k,hk,rfl⟩:=z_.mp (show o∈(H_ (bz rs)).map (dg rs) from(qaD.mp Zu).1);obtain⟨q,hq,rfl⟩:=z_.mp (show x∈rs.map λr=>r.cps.toList.getD k 0 from Y9);have hk':k<q.cps.toList.length:=by rw[k_,(aV.mp hl).2 q hq];exact qam.mp hk
 rw[br (d_ hk')];exact ho q hq _ (D_ hk')
theorem rP(hl:gB rs=true)(hn:rs.length<=40)(hw:bz rs<=50):Cr (packed rs):=by
 refine#[by unfold packed;rw[aU];exact hn,λr hr=>?_];obtain⟨j,_,rfl⟩:=z_.mp (show r∈(H_ rs.length).map (dg ((cols rs (bz rs)).filter λc=>!bL c)) from hr);rw[eK];exact gc (qaH _ _) (by rw[aU];exact hw)
theorem fF(h:bI rs=true):rs.all iQ=true:=by
 unfold bI at h;rw[N_,N_]at h;exact h.2.1
noncomputable abbrev aA(y:w_):List w_:=cols [aO 45 y] (bz [aO 45 y])
noncomputable abbrev aB(rs:List w_)(r:Nat):List w_:=cols (packed (rs.eraseIdx r)) (bz (packed (rs.eraseIdx r)))
abbrev aF(sg:w_)(rows:List (List bJ))(fo fm:bJ)(rs:List w_)(r:Nat)(y:w_)(cs:List Nat):Prop:=mG (qk (jc sg rows (aC fo.2 fm.2 rows)) (jv rows fo fm) (aA y) (aB rs r)) (bz [aO 45 y]) (bz (packed (rs.eraseIdx r))) cs (bz [aO 45 y]) (bz (packed (rs.eraseIdx r)))
noncomputable abbrev P1(rs:List w_)(r:Nat)(x:w_)(cs:List Nat):List w_:=U5 [aO 45 x] (packed (rs.eraseIdx r)) cs
noncomputable def Eb(rs:List w_)(r:Nat)(x:w_)(cs:List Nat):List w_:=fY r ((P1 rs r x cs).headD ⟨#[]⟩) ((P1 rs r x cs).tail)
def R8(K:zaa)(CB CJ:l_)(jn:l_)(r n2:Nat)(A B:List w_)(pc:Nat->Nat->Int)(mo:Int)(kn:List Nat)(H:Hp)(Q:VK):Prop:=JK CJ H jn A B 1 n2 pc mo/\WA kn A B 1 n2/\r<=n2/\0<n2 ∧
 ∀b H' cs,aj H H'->H b=none->mG (qk pc mo A B) A.length B.length cs A.length B.length->kL K CB H' b (fY r ((cols (lq A B (aN 1) (aN n2) cs cs.length) (1+n2)).headD ⟨#[]⟩) (cols (lq A B (aN 1) (aN n2) cs cs.length) (1+n2)).tail)->Q (.ref b) H'
def NC(K:zaa)(CB CJ:l_):Sp:=λvs H Q _=>Pe λ(jn:l_) (r n2:Nat) (A B:List w_) (pc:Nat->Nat->Int) (mo:Int) (kn:List Nat)=>vs=[.ref jn,.int (r:Int)]/\R8 K CB CJ jn r n2 A B pc mo kn H Q
end
section
theorem vR{kn:List Nat}(hl:gB rs=true)(ho:∀r∈rs,∀x∈r.cps.toList,x∈kn)(h:∀a∈kn,∀b∈kn,tc a b=Nl a b):dh tc rs=dh Nl rs:=by
 unfold dh;refine bT λk hk=>?_;have mem:∀i,i<rs.length->(cF rs k).getD i 0∈kn:=λi hi=>by
  rw[zY hi];unfold pW;rw[br (d_ hi)];have hk':k<rs[i].cps.toList.length:=by rw[k_,(aV.mp hl).2 _ (D_ hi)];exact hk
  rw[br (d_ hk')];exact ho _ (D_ hi) _ (D_ hk')
 unfold nF;exact bT λr hr=>bT λi hi=>h _ (mem i (qcA hi hr)) _ (mem r hr)
theorem B9{kn:List Nat}(hs:∀a∈kn,∀b∈kn,tc a b=tc b a){os:List w_}(hl:gB (x::os)=true)(ho:∀y∈x::os,∀c∈y.cps.toList,c∈kn):dh tc (fY r x os)=dh tc (x::os):=by
 obtain⟨_,hw⟩:=aV.mp hl;have hx:x.cps.size=bz (x::os):=hw x (r_ ..);have hos:∀o∈os,o.cps.size=bz (x::os):=λo hm=>hw o (s_ _ hm);have Tj:gB (fY r x os)=true:=by
  refine aV.mpr #[λz=>?_,λy hy=>?_]
  ·have:=jZ (r:=r) (x:=x) (os:=os);rw[z]at this;cases this
  ·rw[Ay hx hos];rcases ja hy with rfl|hy
   ·exact hx
   ·exact hos y hy
 have hop:∀y∈fY r x os,∀c∈y.cps.toList,c∈kn:=λy hy=>by
  rcases ja hy with rfl|hy
  ·exact ho _ (r_ ..)
  ·exact ho y (s_ _ hy)
 obtain⟨Nl,ht⟩:∃Nl:Nat->Nat->Int,∀a b,Nl a b=if a∈kn/\b∈kn then tc a b else 0:=#[_,λ_ _=>rfl]
 have e:∀a∈kn,∀b∈kn,tc a b=Nl a b:=λa ha b hb=>by rw[ht,if_pos #[ha,hb]]
 have hs':∀a b,Nl a b=Nl b a:=λa b=>by
  rw[ht,ht];by_cases h:a∈kn/\b∈kn
  ·rw[if_pos h,if_pos #[h.2,h.1],hs a h.1 b h.2]
  ·rw[if_neg h,if_neg λz=>h #[z.2,z.1]]
 rw[vR Tj hop e,vR hl ho e];exact GC hs' hx hos
theorem yx:aO 45 (aO 45 x)=aO 45 x:=by
 show(⟨((x.cps.toList.filter (· != 45)).filter (· != 45)).toArray⟩:w_)=⟨(x.cps.toList.filter (· != 45)).toArray⟩;rw[List.filter_filter];congr 2;exact List.filter_congr λa _=>by cases (a != 45)<;>rfl
theorem Ba{os:List w_}(f:w_->w_):(fY r x os).map f=fY r (f x) (os.map f):=by
 unfold fY;rw[E_,E_,qdb,List.map_drop];rfl
structure m8(kn:List Nat)(rs:List w_)(r:Nat)(y:w_)(cs:List Nat):Prop where
 at_:rs[r]? =some y
 bk:bI rs=true
 more:rs.length≠1
 of:∀q∈rs,∀x∈q.cps.toList,x∈kn
 gap:45∈kn
 way:Jw (bz [aO 45 y]) (bz (packed (rs.eraseIdx r))) 0 0 cs
section
variable{kn:List Nat}{rs:List w_}{r:Nat}{y:w_}{cs:List Nat}
theorem m8.lt(h:m8 kn rs r y cs):r<rs.length:=(m_.mp h.at_).1
theorem m8.alone(h:m8 kn rs r y cs):bI [aO 45 y]=true :=
 qY (x:=y) λc hc=>nO (x_.mp (fF h.bk) y (h_ h.at_)) hc
theorem m8.rest(h:m8 kn rs r y cs):gB (rs.eraseIdx r)=true/\bz (rs.eraseIdx r)=bz rs/\(rs.eraseIdx r).length+1=rs.length:=mR (aL h.bk) h.lt h.more
theorem m8.pk(h:m8 kn rs r y cs):bI (packed (rs.eraseIdx r))=true :=
 lN h.rest.1 (x_.mpr λq hq=>x_.mp (fF h.bk) q (T_ hq))
theorem m8.split(h:m8 kn rs r y cs):bU λz zs=>P1 rs r y cs=z::zs/\zs.length+1=rs.length/\Eb rs r y cs=fY r z zs:=by
 have hl:(P1 rs r y cs).length=1+(packed (rs.eraseIdx r)).length:=aU;have hp:(packed (rs.eraseIdx r)).length=(rs.eraseIdx r).length:=aU;have:=h.rest.2.2
 cases hc:P1 rs r y cs with
 |nil=>rw[hc]at hl;have:0=1+(packed (rs.eraseIdx r)).length:=hl;omega
 |cons z zs =>
  rw[hc]at hl;refine#[z,zs,Y,by have:zs.length+1=1+(packed (rs.eraseIdx r)).length:=hl;omega,?_];unfold Eb;rw[hc];rfl
theorem m8.cA(h:m8 kn rs r y cs){sg:w_}(hk:kn=(nJ sg).cps.toList):gW kn (aA y) 1/\gW kn (aB rs r) (packed (rs.eraseIdx r)).length:=by
 subst hk;have ho:∀q∈rs,Of (nJ sg) q:=h.of;refine#[fQ h.alone λq hq=>?_,fQ h.pk (oY h.rest.1 λq hq=>ho q (T_ hq))];rw[u_.mp hq];exact λc hc=>ho y (h_ h.at_) c (iJ hc).1
theorem m8.signs(h:m8 kn rs r y cs){sg:w_}(hk:kn=(nJ sg).cps.toList):(Eb rs r y cs).map (aO 45)=rs.map (aO 45):=by
 obtain⟨z,zs,hc,Xn,hR⟩:=h.split;obtain⟨cA,cB⟩:=h.cA hk;obtain⟨p1,p2⟩:=qP (r1:=[aO 45 y]) cA cB (aL h.alone) (aL h.pk) h.way;have hc':cols (lq (aA y) (aB rs r) (aN [aO 45 y].length) (aN (packed (rs.eraseIdx r)).length) cs cs.length) ([aO 45 y].length+(packed (rs.eraseIdx r)).length)=z::zs:=hc;rw[hc']at p1 p2;have hJ':Jw (aA y).length (aB rs r).length 0 0 cs:=by rw[aU,aU];exact h.way
 obtain⟨bk,_⟩:=iI (by omega) ((show Path (aA y).length (aB rs r).length cs _ _ from Jw.path (cs:=[]) .nil hJ').cols cA cB (by rw[hk];exact fu.mpr (.inl Y)));have hl:gB (z::zs)=true:=by rw[←hc];exact aL bk
 obtain⟨_,hw⟩:=aV.mp hl;have sub:∀{ws:List w_},ws≠[]->(∀q∈ws,q∈z::zs)->gB ws=true:=λ{ws} h0 hq=>by
  have Ve:bz ws=bz (z::zs):=by
   cases ws with
   |nil=>exact absurd Y h0
   |cons a l=>exact hw a (hq a (r_ ..))
  exact aV.mpr #[h0,λq h=>by rw[Ve];exact hw q (hq q h)]
 have e1:aO 45 z=aO 45 y:=by
  obtain⟨u,hu,e⟩:=iR (rs:=[z]) (r:=0) (x:=z) (sub (by intro z;cases z) λq hq=>by rw[u_.mp hq];exact r_ ..) rfl;have p1':packed [z]=[aO 45 y]:=p1;rw[p1']at hu;cases hu;rw[←e,yx]
 have e2:zs.map (aO 45)=(rs.eraseIdx r).map (aO 45):=by
  have hpl:(packed (rs.eraseIdx r)).length=(rs.eraseIdx r).length:=aU;have hrl:=h.rest.2.2;refine qa0 (by rw[e_,e_];omega) λj h1 h2=>?_;rw[e_]at h1 h2;rw[qaL,qaL];have hz0:zs≠[]:=λe=>by rw[e]at h1;cases h1
  obtain⟨u,hu,e⟩:=iR (rs:=zs) (r:=j) (sub hz0 λq hq=>s_ _ hq) (d_ h1);have p2':packed zs=packed (rs.eraseIdx r):=p2;obtain⟨v,hv,e'⟩:=iR h.rest.1 (d_ h2);rw[p2']at hu;rw[hu]at hv;cases hv;rw[←e,e']
 rw[hR,Ba,e1,e2,←Ba,xN h.at_]
end
end
section
def KW:Sp:=λvs H Q _=>∃x:w_,vs=[.str x]/\x.cps.size<=1000/\∀H',aj H H'->Q (.str (aO 45 x)) H'
theorem Rw.Xl{i:Nat}(h:Rw K H v rs)(e:rs[i]? =some r)(he:z=(i:Int))(q:Q (.str r) H):UH K v (.int z) H Q:=by
 subst he;exact h.ix e q
def KR(K:zaa)(C:l_):Sp:=λvs H Q _=>GS λ(x:l_) (v:V) (sg:w_) (rows:List (List bJ)) (fo fm:bJ) (rs:List w_)=>vs=[.ref x,v]/\dI K C H x sg rows fo fm/\Rw K H v rs/\tH rs/\gB rs=true/\(∀r∈rs,Of (nJ sg) r) ∧
 ∀H',aj H H'->Q (.int (dh (gC sg rows fo fm) rs)) H'
theorem m8.good(h:m8 kn rs r y cs){sg:w_}(hk:kn=(nJ sg).cps.toList):bI (Eb rs r y cs)=true/\(∀q∈Eb rs r y cs,∀c∈q.cps.toList,c∈kn)/\∀q∈Eb rs r y cs,q.cps.size=cs.length:=by
 obtain⟨z,zs,hc,Xn,hR⟩:=h.split;obtain⟨cA,cB⟩:=h.cA hk;have hJ':Jw (aA y).length (aB rs r).length 0 0 cs:=by rw[aU,aU];exact h.way
 obtain⟨bk,bo⟩:=iI (by omega) ((show Path (aA y).length (aB rs r).length cs _ _ from Jw.path (cs:=[]) .nil hJ').cols cA cB h.gap);have hc2:cols (lq (aA y) (aB rs r) (aN 1) (aN (packed (rs.eraseIdx r)).length) cs cs.length) (1+(packed (rs.eraseIdx r)).length)=z::zs:=hc;have sz:∀q∈z::zs,q.cps.size=cs.length:=λq hq=>by
  rw[←hc2]at hq;obtain⟨j,_,rfl⟩:=z_.mp (show q∈(H_ (1+(packed (rs.eraseIdx r)).length)).map (dg (lq (aA y) (aB rs r) (aN 1) (aN (packed (rs.eraseIdx r)).length) cs cs.length)) from hq);rw[eK];unfold lq;rw[e_,X_]
 rw[hc2]at bk bo;rw[hR];have mm:∀{q:w_},q∈fY r z zs->q∈z::zs:=λ{q} hq=>by
  rcases ja hq with rfl|hq
  ·exact r_ ..
  ·exact s_ _ hq
 exact#[tG bk,λq hq=>bo q (mm hq),λq hq=>sz q (mm hq)]
theorem Nk{sg:w_}(h:∀a∈sg.cps.toList,∀c∈sg.cps.toList,jc sg rows (aC fo.2 fm.2 rows) a c=jc sg rows (aC fo.2 fm.2 rows) c a):∀a∈(nJ sg).cps.toList,∀b∈(nJ sg).cps.toList,gC sg rows fo fm a b=gC sg rows fo fm b a:=λa ha b hb=>by
 by_cases ea:a=45
 ·by_cases eb:b=45
  ·rw[rz ea eb,rz eb ea]
  ·rw[qA (λz=>eb z.2) (.inl ea),qA (λz=>eb z.1) (.inr ea)]
 ·by_cases eb:b=45
  ·rw[qA (λz=>ea z.1) (.inr eb),qA (λz=>ea z.2) (.inl eb)]
  ·rw[AF ea eb,AF eb ea];exact h a ((fu.mp ha).resolve_left ea) b ((fu.mp hb).resolve_left eb)
end
section
noncomputable def sP(tc:Nat->Nat->Int)(y:w_)(os:List w_):Int:=(os.map λo=>sm (λk=>tc (y.cps.toList.getD k 0) (o.cps.toList.getD k 0)) y.cps.size).sum
theorem yD{α:Type}(f:Nat->α->Int)(n:Nat):∀l:List α,sm (λk=>(l.map (f k)).sum) n=(l.map λo=>sm (λk=>f k o) n).sum
 |[]=>qD n
 |o::l=>by
  rw[qag,qa_,←yD f n l,←rH];rfl
theorem Js(tc:Nat->Nat->Int)(x:Nat):cc tc [x]=0:=rfl
theorem GD(tc:Nat->Nat->Int){os:List w_}(hl:gB os=true)(hw:bz os=y.cps.size):dh tc (y::os)=dh tc os+sP tc y os:=by
 unfold dh sP;have e0:=yD (λk (o:w_)=>tc (y.cps.toList.getD k 0) (o.cps.toList.getD k 0)) y.cps.size os;rw[hw,show bz (y::os)=y.cps.size from rfl,←e0,←rH];refine bT λk hk=>?_;have e1:cF (y::os) k=[y.cps.toList.getD k 0]++cF os k:=rfl;have e2:nF tc (cF (y::os) k) (y::os).length=cc tc (cF (y::os) k):=by unfold cc;rw[vQ]
 have e3:nF tc (cF os k) os.length=cc tc (cF os k):=by unfold cc;rw[vQ]
 rw[e2,e3,e1,oJ,Js,qbl];congr 1;unfold D8 cF;show((os.map _).map _).sum=_;rw[U_];congr 1;refine qa1 λo _=>?_;show fS (λa=>tc a (o.cps.toList.getD k 0)) [y.cps.toList.getD k 0]=_;rw[dJ,lI,qcd]
theorem sum_filter{α:Type}(f:α->Int)(p:α->Bool):∀l:List α,(∀x∈l,p x=false->f x=0)->((l.filter p).map f).sum=(l.map f).sum
 |[],_=>rfl
 |x::l,h=>by
  have ih:=sum_filter f p l λy hy=>h y (s_ _ hy)
  cases e:p x with
  |true=>rw[qbr e,qag,qag,qa_,qa_,ih]
  |false=>rw[qbs (by rw[e];exact K_),qag,qa_,h x r_ e,qbl,ih]
theorem B0(h:c∈cols rs n):c.cps.size=rs.length:=by
 obtain⟨j,_,rfl⟩:=z_.mp (show c∈(H_ n).map (dg rs) from h);exact eK
theorem Cb(tc:Nat->Nat->Int)(h0:∀a b,a=45->b=45->tc a b=0){os:List w_}(hl:gB os=true):dh tc (packed os)=dh tc os:=by
 have hp:0<os.length:=qaT.mpr (aV.mp hl).1;unfold packed;rw[yj tc hp λo ho=>B0 (qaD.mp ho).1,sO tc os];have e:=yC (λc:w_=>cc tc c.cps.toList) (cols os (bz os)) ⟨#[]⟩;rw[aU]at e;rw[e];refine sum_filter _ _ _ λc hc hg=>?_;have hg':bL c=true:=by simpa using hg
 rw[LS (B0 hc) hg'];show cc tc (aN os.length).cps.toList=0;have e2:(aN os.length).cps.toList=G_ os.length 45:=by unfold aN;simp
 rw[e2];exact ue h0 _
noncomputable def wN(pc:Nat->Nat->Int)(mo:Int)(A B:List w_)(n1 n2:Nat):Int:=(A.map λc=>Am mo c n2).sum+(B.map λc=>Am mo c n1).sum+ee (qk pc mo A B) A.length B.length 0 0
theorem Ly{sg:w_}{rows:List (List bJ)}{fo fm:bJ}{r1 r2:List w_}(h1:gW kn (cols r1 (bz r1)) r1.length)(h2:gW kn (cols r2 (bz r2)) r2.length)(hk:45∈kn)(hp:0<r1.length)
  (hf:mG (qk (jc sg rows (aC fo.2 fm.2 rows)) (jv rows fo fm) (cols r1 (bz r1)) (cols r2 (bz r2))) (bz r1) (bz r2) cs (bz r1) (bz r2)) :
  dh (gC sg rows fo fm) (U5 r1 r2 cs)=dh (gC sg rows fo fm) r1+dh (gC sg rows fo fm) r2+wN (jc sg rows (aC fo.2 fm.2 rows)) (jv rows fo fm) (cols r1 (bz r1)) (cols r2 (bz r2)) r1.length r2.length:=by
 have l1:(cols r1 (bz r1)).length=bz r1:=aU;have l2:(cols r2 (bz r2)).length=bz r2:=aU;have hw:Fe (qk (jc sg rows (aC fo.2 fm.2 rows)) (jv rows fo fm) (cols r1 (bz r1)) (cols r2 (bz r2))) (bz r1) (bz r2) 0 0 (cs++[]):=hf.Wb #[rfl,rfl];rw[qaQ]at hw;have h':Jw (cols r1 (bz r1)).length (cols r2 (bz r2)).length 0 0 cs:=by rw[l1,l2];exact hw.wk
 have hC:=(show Path (cols r1 (bz r1)).length (cols r2 (bz r2)).length cs _ _ from Jw.path (cs:=[]) .nil h').cols h1 h2 hk;have e:=Jw.cost h1.size h2.size (tc:=gC sg rows fo fm) (pc:=jc sg rows (aC fo.2 fm.2 rows)) (mo:=jv rows fo fm) (E:=qk (jc sg rows (aC fo.2 fm.2 rows)) (jv rows fo fm) (cols r1 (bz r1)) (cols r2 (bz r2))) (λ_ _ a b=>rz a b) (λ_ _ a b=>qA a b) (λ_ _ a b=>AF a b) (λ_ _ _ _=>rfl) h';have z:∀f:Nat->Int,sm f 0=0:=λ_=>rfl;rw[z,z,qcd,qcd]at e;have e0:dh (gC sg rows fo fm) (U5 r1 r2 cs)=((lq (cols r1 (bz r1)) (cols r2 (bz r2)) (aN r1.length) (aN r2.length) cs cs.length).map λo=>cc (gC sg rows fo fm) o.cps.toList).sum:=yj _ (by omega) hC.size;rw[Bf]at e0;rw[e0,e,hw.ex,rH,rH,sO _ r1,sO _ r2];unfold wN;have g1:=yC (λc:w_=>Am (jv rows fo fm) c r2.length) (cols r1 (bz r1)) ⟨#[]⟩;have g2:=yC (λc:w_=>Am (jv rows fo fm) c r1.length) (cols r2 (bz r2)) ⟨#[]⟩;unfold Am at g1 g2 ⊢;rw[←g1,←g2,l1,l2];omega
end
section
theorem JB(tc:Nat->Nat->Int)(y:w_):dh tc [y]=0:=by
 unfold dh;refine(bT λk _=>?_).trans (qD _);exact Js tc _
section
variable{kn:List Nat}{rs:List w_}{r:Nat}{y:w_}{cs:List Nat}
theorem m8.less(h:m8 kn rs r y cs){sg:w_}(hk:kn=(nJ sg).cps.toList)(hF:aF sg rows fo fm rs r y cs)
  (hs:∀a∈kn,∀b∈kn,gC sg rows fo fm a b=gC sg rows fo fm b a) :
  dh (gC sg rows fo fm) (Eb rs r y cs)+sP (gC sg rows fo fm) y (rs.eraseIdx r)=dh (gC sg rows fo fm) rs+wN (jc sg rows (aC fo.2 fm.2 rows)) (jv rows fo fm) (aA y) (aB rs r) 1 (packed (rs.eraseIdx r)).length:=by
 obtain⟨z,zs,hc,Xn,hR⟩:=h.split;obtain⟨cA,cB⟩:=h.cA hk;obtain⟨l1,l2,l3⟩:=h.rest;have hl:=aL h.bk;obtain⟨_,hw⟩:=aV.mp hl;have hy:=hw y (h_ h.at_);have hos:∀o∈rs.eraseIdx r,o.cps.size=bz rs:=λo ho=>hw o (T_ ho);have X6:45∈kn:=h.gap;have hJ':Jw (aA y).length (aB rs r).length 0 0 cs:=by rw[aU,aU];exact h.way
 obtain⟨bk,bo⟩:=iI (by omega) ((show Path (aA y).length (aB rs r).length cs _ _ from Jw.path (cs:=[]) .nil hJ').cols cA cB X6);have hc2:cols (lq (aA y) (aB rs r) (aN 1) (aN (packed (rs.eraseIdx r)).length) cs cs.length) (1+(packed (rs.eraseIdx r)).length)=z::zs:=hc;rw[hc2]at bk bo;have ez:dh (gC sg rows fo fm) (fY r z zs)=dh (gC sg rows fo fm) (z::zs):=B9 hs (aL bk) bo;have Zz:gB (y::rs.eraseIdx r)=true:=by
  refine aV.mpr #[qcD _ _,λq hq=>?_];rw[show bz (y::rs.eraseIdx r)=y.cps.size from rfl,hy];rcases B_.mp hq with rfl|hq
  ·exact hy
  ·exact hos q hq
 have ey:dh (gC sg rows fo fm) (fY r y (rs.eraseIdx r))=dh (gC sg rows fo fm) (y::rs.eraseIdx r):=B9 hs Zz λq hq=>by
  rcases B_.mp hq with rfl|hq
  ·exact h.of _ (h_ h.at_)
  ·exact h.of q (T_ hq)
 rw[xN h.at_,GD _ l1 (by rw[l2,hy])]at ey;have ej:=Ly (r1:=[aO 45 y]) (sg:=sg) (rows:=rows) (fo:=fo) (fm:=fm) cA cB X6 (Nat.succ_pos _) hF;rw[JB,Cb _ (λ_ _ a b=>rz a b) l1]at ej;have ec:dh (gC sg rows fo fm) (P1 rs r y cs)=dh (gC sg rows fo fm) (z::zs):=by rw[hc]
 rw[hR,ez,ey];have ej':dh (gC sg rows fo fm) (z::zs)=0+dh (gC sg rows fo fm) (rs.eraseIdx r)+wN (jc sg rows (aC fo.2 fm.2 rows)) (jv rows fo fm) (aA y) (aB rs r) 1 (packed (rs.eraseIdx r)).length:=ec.symm.trans ej;rw[ej'];omega
end
noncomputable abbrev rj:=w_×List (List bJ)×bJ×bJ
noncomputable def lF(T:rj)(R:List w_):Int:=dh (gC T.1 T.2.1 T.2.2.1 T.2.2.2) R
def An(T:rj)(R:List w_)(r:Nat)(R':List w_):Prop:=bU λy cs=>R[r]? =some y/\aF T.1 T.2.1 T.2.2.1 T.2.2.2 R r y cs/\R'=Eb R r y cs
theorem An.uniq{R R1 R2:List w_}(h:An T R r R1)(h':An T R r R2):R1=R2:=by
 obtain⟨y,cs,e,f,rfl⟩:=h;obtain⟨z,ds,e',f',rfl⟩:=h';rw[e]at e';cases e';rw[f.uniq f']
def Wz(T:rj)(R:List w_)(r:Nat):Prop:=∀q R',q<r->An T R q R'->lF T R<=lF T R'
def Cj(T:rj)(R:List w_)(r:Nat)(R':List w_):Prop:=1<R.length/\An T R r R'/\lF T R'<lF T R/\Wz T R r
def Na(T:rj)(R:List w_):Prop:=1<R.length->Wz T R R.length
theorem Cj.uniq{R R1 R2:List w_}(h:Cj T R r R1)(h':Cj T R q R2):r=q/\R1=R2:=by
 obtain⟨_,a,b,c⟩:=h;obtain⟨_,a',b',c'⟩:=h';have e:r=q:=by
  rcases Nat.lt_trichotomy r q with z|z|z
  ·exact absurd (c' r R1 z a) (by omega)
  ·exact z
  ·exact absurd (c q R2 z a') (by omega)
 subst e;exact#[Y,a.uniq a']
theorem Cj.no(h:Cj T R r R1)(hn:Na T R):False:=by
 obtain⟨l,⟨y,cs,e,f,e'⟩,b,_⟩:=h;have:=hn l r R1 (m_.mp e).1 #[y,cs,e,f,e'];omega
inductive nG(T:rj):List w_->List (Nat×Int)->List w_->Prop
 |nil {R:List w_}:nG T R [] R
 |cons {R R1 R2:List w_} {r:Nat} {ss:List (Nat×Int)} (h:Cj T R r R1) (m:nG T R1 ss R2):nG T R ((r,lF T R1)::ss) R2
theorem nG.snoc{R R1 R2:List w_}(m:nG T R ss R1)(h:Cj T R1 r R2):nG T R (ss++[(r,lF T R2)]) R2:=by
 induction m with
 |nil=>exact .cons h .nil
 |cons a _ ih=>exact .cons a (ih h)
theorem nG.same:∀{R R1 R2:List w_} {ss ts:List (Nat×Int)},nG T R ss R1->nG T R ts R2->ss.length<=n->ts.length<=n->(ss.length<n->Na T R1)->(ts.length<n->Na T R2)->ss=ts/\R1=R2:=by
 induction n with
 |zero =>
  intro R R1 R2 ss ts m m' h1 h2 _ _
  cases m with
  |nil =>
   cases m' with
   |nil=>exact#[Y,Y]
   |cons=>exact absurd h2 (by simp)
  |cons=>exact absurd h1 (by simp)
 |succ n ih =>
  intro R R1 R2 ss ts m m' h1 h2 n1 n2
  cases m with
  |nil =>
   cases m' with
   |nil=>exact#[Y,Y]
   |cons a _=>exact(a.no (n1 (Nat.succ_pos _))).elim
  |cons a b =>
   cases m' with
   |nil=>exact(a.no (n2 (Nat.succ_pos _))).elim
   |cons a' b' =>
    obtain⟨rfl,rfl⟩:=a.uniq a';obtain⟨rfl,rfl⟩:=ih b b' (Nat.le_of_succ_le_succ h1) (Nat.le_of_succ_le_succ h2) (λz=>n1 (Nat.succ_lt_succ z)) (λz=>n2 (Nat.succ_lt_succ z));exact#[Y,Y]
end
section
theorem Fj(h:bI R=true):(bz R:Int)<=(R.map λr=>((aO 45 r).cps.size:Int)).sum:=by
 have hl:=aL h;obtain⟨_,hw⟩:=aV.mp hl
 have e1:∀r∈R,((aO 45 r).cps.size:Int)=sm (λk=>if r.cps.toList.getD k 0=45 then 0 else 1) (bz R):=λr hr=>by
  have a:((aO 45 r).cps.size:Int)=fS (λ_=>1) (pK r.cps.toList):=by
   rw[mK,Int.mul_one];rfl
  rw[a,←lH,←Eo (λa=>if a=45 then 0 else 1) r.cps.toList,k_,hw r hr]
 have e2:(R.map λr=>((aO 45 r).cps.size:Int)).sum=sm (λk=>(R.map λr=>if r.cps.toList.getD k 0=45 then(0:Int)else 1).sum) (bz R):=by
  rw[yD (λk (r:w_)=>if r.cps.toList.getD k 0=45 then(0:Int)else 1)]
  congr 1;exact qa1 e1
 rw[e2]
 have pos:∀(k:Nat) (L:List w_),0<=(L.map λr=>if r.cps.toList.getD k 0=45 then(0:Int)else 1).sum:=λk L=>by
  induction L with
  |nil=>exact Int.le_refl _
  |cons r L ih=>rw[qag,qa_];split<;>omega
 have one:∀(k:Nat) (L:List w_),(∃r∈L,r.cps.toList.getD k 0≠45)->1<=(L.map λr=>if r.cps.toList.getD k 0=45 then(0:Int)else 1).sum:=λk L=>by
  induction L with
  |nil=>rintro⟨r,hr,_⟩;cases hr
  |cons r L ih =>
   rintro⟨q,hq,hn⟩;rw[qag,qa_];have:=pos k L;rcases B_.mp hq with rfl|hq
   ·rw[if_neg hn];omega
   ·have:=ih #[q,hq,hn];split<;>omega
 have col:∀k,k<bz R->∃r∈R,r.cps.toList.getD k 0≠45:=λk hk=>by
  unfold bI at h;rw[N_,N_]at h;have h3:=h.2.2;unfold vP cols at h3;have:=x_.mp h3 _ (z_.mpr #[k,qam.mpr hk,rfl]);have hg:bL (dg R k)=false:=by simpa using this
  by_cases z:∃r∈R,r.cps.toList.getD k 0≠45
  ·exact z
  ·have:bL (dg R k)=true:=vI.mpr λr hr=>by
    by_cases q:r.cps.toList.getD k 0=45
    ·exact q
    ·exact absurd #[r,hr,q] z
   rw[hg]at this;cases this
 have le:∀(n:Nat) (f:Nat->Int),(∀k,k<n->1<=f k)->(n:Int)<=sm f n:=λn f=>by
  induction n with
  |zero=>intro _;exact Int.le_refl _
  |succ n ih =>
   intro hf;have a:=ih λk hk=>hf k (by omega);have b:=hf n (by omega);show((n+1:Nat):Int)<=sm f n+f n;omega
 exact le _ _ λk hk=>one k R (col k hk)
structure yq(T:rj)(R:List w_):Prop where
 bk:bI R=true
 kn:∀r∈R,Of (nJ T.1) r
 len:R.length<=8
 few:(R.map λr=>((aO 45 r).cps.size:Int)).sum<=40
section
variable{T:rj}{R R':List w_}{r:Nat}
theorem yq.bz(h:yq T R):GP.bz R<=40:=by
 have:=Fj h.bk;have:=h.few;omega
theorem yq.sm(h:yq T R):Cr R:=by
 obtain⟨_,hw⟩:=aV.mp (aL h.bk);exact#[gc h.len (by decide),λr hr=>by rw[hw r hr];exact gc h.bz (by decide)]
theorem An.ok(h:yq T R)(h1:1<R.length)(hy:R[r]? =some y)(hF:aF T.1 T.2.1 T.2.2.1 T.2.2.2 R r y cs):m8 (nJ T.1).cps.toList R r y cs:=by
 have hJ:Jw (GP.bz [aO 45 y]) (GP.bz (packed (R.eraseIdx r))) 0 0 cs:=by
  have:=hF.path.wk (ds:=[]) #[rfl,rfl];rw[qaQ]at this;exact this
 exact#[hy,h.bk,by omega,h.kn,fu.mpr (.inl Y),hJ]
theorem An.gd(h:yq T R)(h1:1<R.length)(a:An T R r R'):yq T R'/\R'.map (aO 45)=R.map (aO 45):=by
 obtain⟨y,cs,hy,hF,rfl⟩:=a;have ok:=An.ok h h1 hy hF;obtain⟨gb,go,gz⟩:=ok.good rfl;have sg:=ok.signs rfl;have hl:(Eb R r y cs).length=R.length:=by
  have:=congrArg qaR sg
  rwa [e_,e_]at this
 refine#[#[gb,go,by rw[hl];exact h.len,?_],sg];have e:∀S:List w_,(S.map λr=>((aO 45 r).cps.size:Int))=(S.map (aO 45)).map λc=>(c.cps.size:Int):=λS=>by rw[U_];rfl
 rw[e,sg,←e];exact h.few
theorem An.len(h:yq T R)(h1:1<R.length)(a:An T R r R'):R'.length=R.length:=by
 have:=congrArg qaR (An.gd h h1 a).2
 rwa [e_,e_]at this
end
def Sym(T:rj):Prop:=∀a∈(nJ T.1).cps.toList,∀b∈(nJ T.1).cps.toList,gC T.1 T.2.1 T.2.2.1 T.2.2.2 a b=gC T.1 T.2.1 T.2.2.1 T.2.2.2 b a
def KC(CJ:l_):Sp:=λvs H Q _=>GS λ(jn:l_) (A B:List w_) (n1 n2:Nat) (pc:Nat->Nat->Int) (mo:Int)=>vs=[.ref jn]/\JK CJ H jn A B n1 n2 pc mo/\A.length<=400/\B.length<=400/\∀H',aj H H'->Q (.int (wN pc mo A B n1 n2)) H'
def K1(K:zaa)(C CB:l_):Sp:=λvs H Q _=>Mm λ(x b:l_) (r:Nat) (T:rj) (R:List w_) (y:w_)=>vs=[.ref x,.ref b,.int r]/\dI K C H x T.1 T.2.1 T.2.2.1 T.2.2.2/\kL K CB H b R/\yq T R/\R[r]? =some y ∧
 ∀H',aj H H'->Q (.int (sP (gC T.1 T.2.1 T.2.2.1 T.2.2.2) y (R.eraseIdx r))) H'
def NL(K:zaa)(C CB:l_):Sp:=λvs H Q _=>mZ λ(x b:l_) (T:rj) (R:List w_)=>vs=[.ref x,.ref b]/\dI K C H x T.1 T.2.1 T.2.2.1 T.2.2.2/\kL K CB H b R/\yq T R/\1<R.length/\Sym T ∧
 (∀(r:Nat) (R':List w_) (q bb:l_) (H':Hp),aj H H'->Cj T R r R'->H' q=some (.tup [.int r,.ref bb,.int (lF T R-lF T R')])->kL K CB H' bb R'->Q (.ref q) H')/\(Na T R->∀H',aj H H'->Q .dX H')
end
section
theorem OA{sg:w_}(hb:bI rs=true)(hS:Cr rs)(hO:∀r∈rs,Of (nJ sg) r)(hy:rs[i]? =some y)(h1:rs.length≠1):
  WA (nJ sg).cps.toList (aA y) (aB rs i) 1 (packed (rs.eraseIdx i)).length/\i<=(packed (rs.eraseIdx i)).length/\0<(packed (rs.eraseIdx i)).length/\(aA y).length<=400/\(aB rs i).length<=400:=by
 have hl:=aL hb;have hil:i<rs.length:=(m_.mp hy).1;have hy':=h_ hy;obtain⟨l1,l2,l3⟩:=mR hl hil h1;have hal:=qY (x:=y) λc hc=>nO (x_.mp (fF hb) y hy') hc;have DL:=lN l1 (x_.mpr λr hr=>x_.mp (fF hb) r (T_ hr));have hw:=hS.bz hl;have hz:=hS.1;have hpl:(packed (rs.eraseIdx i)).length=(rs.eraseIdx i).length:=aU;have JO:=rP l1 (by omega) (by omega);have w1:(aA y).length<=50:=by rw[aU];exact gc nP (hS.2 y hy')
 have w2:(aB rs i).length<=50:=by rw[aU];exact JO.bz (aL DL)
 refine#[#[fQ hal λr hr=>?_,fQ DL (oY l1 λr hr=>hO r (T_ hr)),w1,w2,by decide,by omega,by decide,fu.mpr (.inl Y)],by omega,by omega,by omega,by omega];rw[u_.mp hr];exact λc hc=>hO y hy' c (iJ hc).1
end
end GP
namespace L2
open PySem PySem.Spec PyProof.Rows
section
variable{P:qal}{w:qaG}{K:zaa}{mg:w_->Option n_}{base:qaE}{x qual:w_}{st:qcU}{f:l_}{fd:qce}{N ps:List w_}{k:Nat}{sp:Sp}
theorem X7{sc:qcT}(a:sc.kind= .function:=by rfl)(b:sc.isCoroutine=false:=by rfl)(c:sc.isGenerator=false:=by rfl)(d:N.Nodup:=by decide +kernel)(e:N.take ps.length=ps:=by rfl)(f:∀x∈ps,sc.names.lookup x=some .local\/sc.names.lookup x=some .cell:=by decide +kernel)(g:∀y∈sc.names,y.2≠ .free:=by decide +kernel):m7 N ps sc:=#[a,b,c,d,e,f,g]
end
section
variable{X:Cx}
theorem LZ{σ:St}(I:Inv X pins σ H s)(hu:A.units<cLine)(ha:H a=some (.tup xs))(hb:H b=some (.tup ys))(hl:xs.length=ys.length)
  (he:∀(i:Nat) (x y:V) (u v:n_),xs[i]? =some x->ys[i]? =some y->RelV x u->RelV y v->qbS A.in1 s u v true):qbS A s (.ref a) (.ref b) true:=by
 by_cases e:a=b
 ·subst e;exact SeqAt.EqAt.same _
 obtain⟨us,r1,t1,_⟩:=I.tuple (bV.of (K:=X.K) ha);obtain⟨vs,r2,t2,_⟩:=I.tuple (bV.of (K:=X.K) hb);have z:=SeqAt.RcAt.tuples (A:=A) (s:=s) (e:=λ_=>true) t1 t2 hu λj h1 h2=>by
  have oZ:j<us.length:=by simpa using h1
  have h2':j<vs.length:=by simpa using h2
  obtain⟨u,e1,ru⟩:=r1.get (d_ (show j<xs.length by rw[r1.length];exact oZ));obtain⟨v,e2,rv⟩:=r2.get (d_ (show j<ys.length by rw[r2.length];exact h2'));have g1:us.toArray[j]=u:=by rw[d_ oZ]at e1;simpa using e1
  have g2:vs.toArray[j]=v:=by rw[d_ h2']at e2;simpa using e2
  rw[g1,g2];exact he j _ _ u v (d_ (show j<xs.length by rw[r1.length];exact oZ)) (d_ (show j<ys.length by rw[r2.length];exact h2')) ru rv
 rw[show((H_ (min us.toArray.size vs.toArray.size)).all (λ_=>true)&&us.toArray.size==vs.toArray.size)=true by
  rw[y_,y_,←r1.length,←r2.length,hl];simp]at z
 exact SeqAt.EqAt.of_refs e z
end
end L2
namespace GP
open PySem L2 eV
section
def Pn(rows:List (List bJ)):Prop:=∃rows0,rows=nE rows0/\∀r∈rows0,∀f∈r,0<f.2
def Ph(sg:w_)(rows:List (List bJ))(u:Int):Prop:=∀a∈sg.cps.toList,∀c∈sg.cps.toList,jc sg rows u a c=jc sg rows u c a
theorem JF(h:mH rows i j f):mH (nE rows) i j (cM f):=by
 obtain⟨r,h1,h2⟩:=h;exact#[r.map cM,by unfold nE;rw[j_,h1];rfl,by rw[j_,h2];rfl]
theorem JE(h:mH rows i j f)(h':mH rows i j g):f=g:=by
 obtain⟨r,h1,h2⟩:=h;obtain⟨r',oZ,h2'⟩:=h';rw[h1]at oZ;cases oZ;rw[h2]at h2';exact Z_ h2'
theorem Il{sg:w_}{u:Int}(hs:mE sg)(sq:GF sg.cps.size rows)(hi:sg.cps[i]? =some a)(hj:sg.cps[j]? =some b)(h:mH rows i j f):jc sg rows u a b=f.1*(u / f.2):=by
 obtain⟨i',j',f',e1,e2,e3,e4⟩:=nW (u:=u) sq (h_ (gF hi)) (h_ (gF hj));have ei:i=i':=by
  by_cases z:i=i'
  ·exact z
  ·exact absurd Y (fX hs.2.2.2 hi e1 z)
 have ej:j=j':=by
  by_cases z:j=j'
  ·exact z
  ·exact absurd Y (fX hs.2.2.2 hj e2 z)
 subst ei ej;rw[e4,JE h e3]
theorem Km{sg:w_}(hP:dI K C H x sg rows fo fm)(hL:Pn rows):Ph sg rows (aC fo.2 fm.2 rows)↔bN rows:=by
 obtain⟨rows0,e0,pos⟩:=hL;have hs:=hP.sig;have sq:=hP.AL;have YJ:∀r∈rows,∀f∈r,0<f.2:=λr hr f hf=>by have:=(hP.ok r hr f hf).1.1;omega
 have dv:=(G7 (o:=fo.2) (m:=fm.2) (rows:=rows) (by have:=hP.yV.1.1;omega) (by have:=hP.yW.1.1;omega) YJ).2.2;have u0:=hP.pos;constructor
 ·intro h;rw[e0,Jx pos];intro i j f g hf hg;have hf':=JF hf;have hg':=JF hg;rw[←e0]at hf' hg';obtain⟨rf,f1,f2⟩:=id hf';obtain⟨rg,g1,g2⟩:=id hg';have li:i<sg.cps.size:=by rw[←sq.1];exact(m_.mp f1).1
  have lj:j<sg.cps.size:=by rw[←sq.1];exact(m_.mp g1).1
  obtain⟨a,ha⟩:=Jl li;obtain⟨c,hc⟩:=Jl lj;have e:=h a (h_ (gF ha)) c (h_ (gF hc));rw[Il hs sq ha hc hf',Il hs sq hc ha hg']at e;have cf:=uv (f:=f) (dv rf (h_ f1) _ (h_ f2));have cg:=uv (f:=g) (dv rg (h_ g1) _ (h_ g2));rw[←e]at cg;generalize (cM f).1*(aC fo.2 fm.2 rows / (cM f).2)=v at cf cg;generalize aC fo.2 fm.2 rows=uu at cf cg u0;have key:f.1*g.2*uu=g.1*f.2*uu:=by
   rw[qcc f.1,←cf,qcc g.1,←cg];exact qcc _ _ _
  exact qbc (by omega) key
 ·intro h a ha c hc;obtain⟨i,j,f,e1,e2,e3,e4⟩:=nW (u:=aC fo.2 fm.2 rows) sq ha hc;obtain⟨i2,j2,g,d1,d2,d3,d4⟩:=nW (u:=aC fo.2 fm.2 rows) sq hc ha;have d5:=Il (u:=aC fo.2 fm.2 rows) hs sq e1 e2 e3;have e5:i2=j:=by
   by_cases z:i2=j
   ·exact z
   ·exact absurd Y (fX hs.2.2.2 d1 e2 z)
  have e6:j2=i:=by
   by_cases z:j2=i
   ·exact z
   ·exact absurd Y (fX hs.2.2.2 d2 e1 z)
  subst e5 e6;rw[e4,d4,h _ _ f g e3 d3]
def Ks(K:zaa)(C:l_):Sp:=λvs H Q _=>tW λ(x:l_) (sg:w_) (rows:List (List bJ)) (fo fm:bJ)=>vs=[.ref x]/\dI K C H x sg rows fo fm/\sg.cps.size<=100/\∀b H',aj H H'->(b=true↔Ph sg rows (aC fo.2 fm.2 rows))->Q (.bl b) H'
theorem S6[Decidable p]{A B:Prop}(h:p)(x:A):if(decide p)=true then A else B:=cS (λ_=>x) λz=>absurd h z
theorem BE[Decidable p]{A B:Prop}(h:¬p)(x:B):if(decide p)=true then A else B:=cS (λz=>absurd z h) λ_=>x
theorem nG.gd(h:nG T R ss R')(hG:yq T R):yq T R'/\R'.map (aO 45)=R.map (aO 45):=by
 induction h with
 |nil=>exact#[hG,Y]
 |cons a _ ih =>
  obtain⟨g,e⟩:=An.gd hG a.1 a.2.1;obtain⟨g',e'⟩:=ih g;exact#[g',e'.trans e]
end
section
end
end GP
namespace PySem.SeqAt
open AutoSeq1 (wpAny_loadPart')
open MeetsSeq MeetsSeq2 MeetsSeq3 SeqRoads2 AutoSeq1
theorem tT(l:l_)(items:Array n_)(n:Nat)(b:l_)(items2:Array n_)(n2:Nat)(dd:Option l_)(sl:Array (Option n_))(hs0:¬(!items.isEmpty&&qa4 (items.size+items2.size))=true)(hs1:items.size<=A_)(hs2:items.size+items2.size<=A_+1):
  Meets (Builtin.«list.extend» #[[.ref l,.ref b],[]]) (λ_ R s=>s.heap.get? l=some { cls:=.type "list",dict:=none,data:=.seq items n,slots:= #[] }/\s.heap.get? b=some { cls:=.type "tuple",dict:=dd,data:=.seq items2 n2,slots:=sl }/\R (.ok (.ret Value.none)) { s with heap:=s.heap.update l (qay λx=>x++items2),toks:=s.toks }) :=
 .of_wp λprog w A R s h=>by
  obtain⟨hp,g,d,tk,os⟩:=s;obtain⟨hl,hb,h⟩:=h;have f1:=idx_int;have f2:=sub_tuple_tuple;have f3:=sub_list_list;have f4:=sub_tuple_list;have f5:=sub_list_tuple;have hz':(items++items2).size<=A_+1:=by rw[Array.size_append];exact hs2
  wp_walk using(wpAny_updateSeq hl rfl (hz:=hs1) (_hz':=hz')),wpAny_loadPart' hl,wpAny_loadPart' hb
  exact#[_,Y,h]
end PySem.SeqAt
namespace L2
open PySem PySem.Spec PyProof.Rows
section
variable{X:Cx}
def QN:V->List V->Hp->VK->Prop:=λx vs H Q=>mZ λ(l b:l_) (xs zs:List V)=>x= .ref l/\vs=[.ref b]/\H l=some (.lst xs)/\H b=some (.tup zs)/\xs.length+zs.length<=A_/\Q .dX (upd H l (.lst (xs++zs)))
theorem Dz:Sl X "list.extend" QN:=by
 intro pins s σ H x vs v us Q I rx rv h;obtain⟨l,b,xs,zs,rfl,rfl,hH,hB,hz,q⟩:=h;cases rx;obtain⟨u,rfl,ru⟩:=rv.one;cases ru;obtain⟨z,its,n,r,hl,e⟩:=I.zw hH;obtain⟨its2,r2,⟨⟨cls,dd,data,sl⟩,ho,hc,n2,hd⟩,_⟩:=I.tuple (bV.of hB);simp only at hc hd;subst hc hd;have hl2:=r2.length;have hsz:its.toArray.size+its2.toArray.size<=A_:=by rw[y_,y_];omega
 have BG:¬(!its.toArray.isEmpty&&qa4 (its.toArray.size+its2.toArray.size))=true:=by
  rw[vj hsz,Bool.and_false];exact K_
 refine qca F.slot_list_extend #[_,e,Y] F.entry_list_extend (F.args_list_extend_2 _ _)
  (SeqAt.tT l its.toArray n b its2.toArray n2 dd sl BG (by rw[y_];omega) (by omega)) #[e,ho,?_]
 refine#[.dX,_,I.Iz (its':=its++its2) hH e (by simp) (r.append r2) ?_,Y,q];rw[t_];omega
end
end L2
namespace GP
open PySem L2 eV
end GP
namespace L2
open PySem PySem.Spec PyProof.Rows
theorem Lh(hu:X.A.units+1<cLine):jW X (compareOp .In) (λx y H Q=>bU λa o=>y= .ref a/\pH H a x o/\Q (.bl o.isSome) H):=by
 intro pins s σ H x y u v Q I rx ry h;obtain⟨a,o,rfl,g,q⟩:=h;cases (show v=Value.ref a from ry);exact Wj hu I g rx λs' I'=>#[.bl o.isSome,H,I',Y,q]
theorem B7:g7 X (.builtin "len") (λxs H Q=>bU λa kvs=>xs=[.ref a]/\H a=some (.dK kvs)/\Q (.int (kvs.length:Nat)) H):=by
 intro pins s σ H xs us Q I r h;obtain⟨a,kvs,rfl,e,q⟩:=h;obtain⟨u,rfl,rx⟩:=vals1 r;cases rx;exact R5 I (.inl e) λt s' I'=>#[.int _,H,I',#[_,Y],q]
end L2
namespace GP
open PySem L2 eV
section
def vU(kvs:List (Key×V))(seen:List Int):Prop:=kvs.length=seen.length/\∀k:Int,(eZ kvs (.inl k)).isSome=decide (k∈seen)
theorem vU.put(h:vU kvs seen)(hk:k∉seen)(v:V):vU (putK kvs (.inl k) v) (seen++[k]):=by
 have hn:eZ kvs (.inl k)=none:=by
  have:=h.2 k;rw[decide_eq_false hk]at this
  cases z:eZ kvs (.inl k)with
  |none=>rfl
  |some x=>rw[z]at this;cases this
 refine#[by rw[HZ v hn,t_,t_,h.1];rfl,λj=>?_];rw[nK];by_cases e:j=k
 ·rw[if_pos (by rw[e])];exact(decide_eq_true (by rw[e];simp)).symm
 ·rw[if_neg (λz=>e (Sum.inl.inj z)),h.2 j];congr 1;simp[e]
end
section
end
section
noncomputable abbrev PB:=w_×List (List bJ)×bJ×bJ
def Jn(T:PB)(r1 r2 R:List w_):Prop:=∃cs,mG (qk (jc T.1 T.2.1 (aC T.2.2.1.2 T.2.2.2.2 T.2.1)) (jv T.2.1 T.2.2.1 T.2.2.2) (cols r1 (bz r1)) (cols r2 (bz r2))) (bz r1) (bz r2) cs (bz r1) (bz r2) ∧
 R=cols (lq (cols r1 (bz r1)) (cols r2 (bz r2)) (aN r1.length) (aN r2.length) cs cs.length) (r1.length+r2.length)
theorem Jn.uniq(h:Jn T r1 r2 R)(h':Jn T r1 r2 S):R=S:=by
 obtain⟨cs,h1,rfl⟩:=h;obtain⟨ds,h2,rfl⟩:=h';rw[mG.uniq h1 h2]
structure qw(sg:w_)(R:List w_)(n m:Nat):Prop where
 bk:bI R=true
 kn:∀r∈R,Of (nJ sg) r
 len:R.length=n
 w:∀r∈R,r.cps.size<=m
theorem qw.sm{sg:w_}(h:qw sg R n m)(hn:n<=40)(hm:m<=50):Cr R:=#[by rw[h.len];exact hn,λr hr=>gc (h.w r hr) hm]
theorem qw.bz{sg:w_}(h:qw sg R n m):bz R<=m:=by
 obtain⟨hne,hw⟩:=aV.mp (aL h.bk);obtain⟨r0,hr0⟩:=qcF R hne;rw[←hw r0 hr0];exact h.w r0 hr0
theorem qw.pos{sg:w_}(h:qw sg R n m):0<n:=by
 rw[←h.len];exact qaT.mpr (aV.mp (aL h.bk)).1
section
variable{T:PB}{r1 r2 R:List w_}{n1 n2 m1 m2:Nat}
theorem Jn.way(h:Jn T r1 r2 R):∃cs,Jw (GP.bz r1) (GP.bz r2) 0 0 cs/\R=cols (lq (cols r1 (GP.bz r1)) (cols r2 (GP.bz r2)) (aN r1.length) (aN r2.length) cs cs.length) (r1.length+r2.length):=by
 obtain⟨cs,hF,e⟩:=h;refine#[cs,?_,e];have:=hF.path.wk (ds:=[]) #[rfl,rfl];rw[qaQ]at this;exact this
theorem Jn.ok(h:Jn T r1 r2 R)(a:qw T.1 r1 n1 m1)(b:qw T.1 r2 n2 m2):qw T.1 R (n1+n2) (m1+m2):=by
 obtain⟨cs,hJ,rfl⟩:=h.way;have cA:=fQ a.bk a.kn;have cB:=fQ b.bk b.kn;have h':Jw (cols r1 (GP.bz r1)).length (cols r2 (GP.bz r2)).length 0 0 cs:=by rw[aU,aU];exact hJ
 have hp:=a.pos;have el:=a.len;obtain⟨t1,t2⟩:=iI (by omega) ((show Path (cols r1 (GP.bz r1)).length (cols r2 (GP.bz r2)).length cs _ _ from Jw.path (cs:=[]) .nil h').cols cA cB (fu.mpr (.inl rfl)));refine#[t1,t2,by rw[aU,a.len,b.len],λr hr=>?_];obtain⟨j,_,rfl⟩:=z_.mp (show r∈(H_ (r1.length+r2.length)).map (dg (lq (cols r1 (GP.bz r1)) (cols r2 (GP.bz r2)) (aN r1.length) (aN r2.length) cs cs.length)) from hr);rw[show(dg (lq (cols r1 (GP.bz r1)) (cols r2 (GP.bz r2)) (aN r1.length) (aN r2.length) cs cs.length) j).cps.size=(lq (cols r1 (GP.bz r1)) (cols r2 (GP.bz r2)) (aN r1.length) (aN r2.length) cs cs.length).length from e_ ..];unfold lq;rw[e_,X_];have:=hJ.len;have:=a.bz;have:=b.bz;omega
theorem Jn.signs(h:Jn T r1 r2 R)(a:qw T.1 r1 n1 m1)(b:qw T.1 r2 n2 m2):R.map (aO 45)=(r1++r2).map (aO 45):=by
 have ok:=h.ok a b;obtain⟨cs,hJ,e⟩:=h.way;obtain⟨p1,p2⟩:=qP (fQ a.bk a.kn) (fQ b.bk b.kn) (aL a.bk) (aL b.bk) hJ;rw[←e]at p1 p2;have sub:∀{ws:List w_},ws≠[]->(∀q∈ws,q∈R)->gB ws=true:=λ{ws} h0 hq=>by
  obtain⟨_,hw⟩:=aV.mp (aL ok.bk);have Ve:GP.bz ws=GP.bz R:=by
   cases ws with
   |nil=>exact absurd Y h0
   |cons a l=>exact hw a (hq a (r_ ..))
  exact aV.mpr #[h0,λq h=>by rw[Ve];exact hw q (hq q h)]
 have one:∀{ws rs:List w_},packed ws=rs->ws≠[]->(∀q∈ws,q∈R)->ws.map (aO 45)=rs.map (aO 45):=λ{ws rs} hp h0 hq=>by
  have hl:rs.length=ws.length:=by rw[←hp];exact aU
  refine qc4 λi=>?_;rw[j_,j_]
  cases z:ws[i]? with
  |none=>rw[qar (by rw[hl];exact qbF.mp z)]
  |some x =>
   obtain⟨y,hy,e⟩:=iR (sub h0 hq) z;rw[hp]at hy;rw[hy];exact congrArg some e.symm
 have l1:=a.len;have l2:=b.len;have lR:=ok.len;have q1:=a.pos;have q2:=b.pos;rw[←qcn r1.length R,E_,E_];rw[one p1 (λz=>by have:=congrArg qaR z;rw[W_]at this;simp only[qcj]at this;omega) λq hq=>qbo hq];rw[one p2 (λz=>by have:=congrArg qaR z;rw[qaY]at this;simp only[qcj]at this;omega) λq hq=>List.mem_of_mem_drop hq]
end
end
section
def Ku(K:zaa)(C X:l_):Sp:=λvs H Q E=>GS λ(x:l_) (sg:w_) (rows:List (List bJ)) (fo fm:bJ) (v:V) (rs:List w_)=>vs=[.ref x,v]/\dI K C H x sg rows fo fm/\Rw K H v rs/\tH rs ∧
 ((∀r∈rs,Of sg r)->∀H',aj H H'->Q .dX H')/\(∀i j,sR sg rs i j->∀dx H',aj H H'->H' dx=some (xw dx (zT i j))->E (.ref X) (some dx) H')
def nH(K:zaa)(CB:l_)(H:Hp)(p:l_)(R:List w_)(N:List Int):Prop:=bU λln b=>H p=some (.tup [.ref ln,.ref b])/\H ln=some (.lst (N.map V.int))/\kL K CB H b R
theorem nH.same(h:nH K CB H p R N)(e:aj H H'):nH K CB H' p R N:=by
 obtain⟨ln,b,h1,h2,h3⟩:=h;exact#[ln,b,e _ _ h1,e _ _ h2,h3.same e]
def KJ(K:zaa)(C CB:l_):Sp:=λvs H Q _=>Se λ(x p q:l_) (T:PB) (R1 R2:List w_) (N1 N2:List Int) (n1 n2 m1 m2:Nat)=>vs=[.ref x,.ref p,.ref q]/\dI K C H x T.1 T.2.1 T.2.2.1 T.2.2.2/\nH K CB H p R1 N1/\nH K CB H q R2 N2/\qw T.1 R1 n1 m1/\qw T.1 R2 n2 m2/\n1+n2<=40/\m1+m2<=50/\N1.length+N2.length<=100 ∧
 ∀r R H',aj H H'->Jn T R1 R2 R->nH K CB H' r R (N1++N2)->Q (.ref r) H'
end
section
end
section
end
section
section
variable{t:Tr}{n:Nat}{k:Int}
end
end
end GP
namespace L2
open PySem PySem.Spec PyProof.Rows
section
theorem Ct:typeLookup (.type "zip") "__len__" =pure none:=by rw[typeLookup_type,builtinLookup_eq_fast];kernel_rfl
theorem Ao:typeLookup (.type "zip") "__length_hint__" =pure none:=by rw[typeLookup_type,builtinLookup_eq_fast];kernel_rfl
structure ZO(h:qaE)(z TI TO i1 i2:l_)(c d:Cp)(a:l_)(f:Bool)(i:Nat):Prop where
 zz:h.get? z=some { cls:=.type "zip",dict:=none,data:=.fields (List.toArray [rawInt a,.bool f,.bool false,.ref TI,.ref TO]),slots:= #[] }
 ti:qcm h TI (.ref i1) (.ref i2)
 h1:c.Ak h i1 i
 h2:d.Ak h i2 i
 al:∃o,h.get? a=some o
theorem Cp.tY{c:Cp}{L:List l_}(hs:c.src h xs)(ho:∀b∈L,c.off b)(k:∀b o,b∉L->h.get? b=some o->h'.get? b=some o):c.src h' xs:=by
 cases c with
 |lst a=>obtain⟨its,r,o,h1,q⟩:=hs;exact#[its,r,o,k _ _ (λz=>ho a z Y) h1,q]
 |tup a=>obtain⟨its,r,o,h1,q⟩:=hs;exact#[its,r,o,k _ _ (λz=>ho a z Y) h1,q]
 |txt x=>exact hs
section
variable{prog:qal}{w:qaG}{A:qaP}{E:n_->v_->Prop}{s:v_}{c d:Cp}{xs ys:List V}{z TI TO i1 i2 a:l_}{f:Bool}{i:Nat}
theorem ZO.free{Q:Bool->v_->Prop}(Z:ZO s.heap z TI TO i1 i2 c d a f i)(h:∀h',h'.get? z=some { cls:=.type "zip",dict:=none,data:=.fields (List.toArray [rawInt a,.bool true,.bool false,.ref TI,.ref TO]),slots:= #[] }->qbj z s.heap h'->Q false { s with heap:=h' }) :
  F_ (model prog w) A (qai (.ref z)) Q E s:=by
 obtain⟨hz,_,_,_,o,ho⟩:=Z;unfold qai;refine f_ (qao hz Y (x:=rawInt a) Y ?_);show F_ _ _ (loadIfAlive ((a:Int).toNat) >>= _) _ _ _;rw[qax];refine f_ (PySem.W.kdx_alive ho ?_);simp only[Option.isNone_some,qaF,if_false];refine f_ (qao hz Y (x:=.bool f) Y ?_)
 cases f with
 |true =>
  rw[if_neg (show ¬((Value.bool true != Value.bool true)=true) from K_)];exact q_ (h _ hz (Heap.SameBut.refl _ _))
 |false =>
  rw[if_pos (show(Value.bool false != Value.bool true)=true from rfl)];refine f_ (qbh hz (by simp) λh₃ RJ jx=>q_ (h _ RJ jx))
theorem Fg(D:kK z TI TO i1 i2)(Z:ZO s.heap z TI TO i1 i2 c d a f i)(na:a∉[z,TI,TO,i1,i2])
  (sc:c.src s.heap xs) (sd:d.src s.heap ys) (hx:xs[i]? =some x) (hy:ys[i]? =some y)
  (hQ:∀u v h' tk,RelV x u->RelV y v->ZO h' z TI TO i1 i2 c d a true (i+1)->qcm h' s.heap.objs.size u v →
   (∀b o,b∉[z,TO,i1,i2]->s.heap.get? b=some o->h'.get? b=some o)->Q (some (.ref s.heap.objs.size)) { s with heap:=h',toks:=tk }) :
  F_ (model prog w) A (pyNext (.ref z)) Q E s:=by
 obtain⟨hz,hTI,h1,h2,o,ho⟩:=id Z;simp only[B_,R_,or_false,not_or]at na;have hT:s.TypeIs (.ref z) "zip" :=#[_,hz,rfl];obtain⟨QU,T1,_,hi1,Mf,_,Lp,GK⟩:=Cp.fz h1;obtain⟨SR,T2,_,hi2,Wn,_,UT,US⟩:=Cp.fz h2;have cz:c.off z:=Cp.fZ sc hz rfl (by decide) (by decide);have dz:d.off z:=Cp.fZ sd hz rfl (by decide) (by decide);have di:d.off i1:=Cp.fZ sd hi1 Mf Lp GK;unfold pyNext;refine f_ (qbT (qaJ (name:=p_ "__next__") hT qbt
  (qa9 qbt hT qc6 ?_ (qcY _))))
 show F_ _ _ (field (.ref z) 2 >>= _) _ _ _;refine f_ (qao hz Y (x:=.bool false) Y ?_);show F_ _ _ (field (.ref z) 3 >>= _) _ _ _;refine f_ (qao hz Y (x:=.ref TI) Y ?_);refine f_ (qba hTI Y ?_);show F_ _ _ (qai (.ref z) >>= _) _ _ _;refine f_ (Z.free λh₁ oB hs₁=>?_);simp only[qaF,if_false,List.forIn_toArray,qbJ,qcX];refine f_ (f_ (f_ (qaw ?_)));show F_ _ _ (qae (.ref i1) >>= _) _ _ _;refine f_ (Cp.item (c:=c) (Cp.cU h1 λo e=>hs₁.extBut _ _ D.i1z e) (Cp.fN sc hs₁.extBut cz) hx λu h₂ tk₂ ru EN hs₂=>q_ ?_);refine q_ (f_ (f_ (qaw ?_)));show F_ _ _ (qae (.ref i2) >>= _) _ _ _;refine f_ (Cp.item (c:=d) (Cp.cU h2 λo e=>hs₂.extBut _ _ D.i12.symm (hs₁.extBut _ _ D.i2z e)) (Cp.fN (Cp.fN sd hs₁.extBut dz) hs₂.extBut di) hy λv h₄ tk₄ rv IW lY=>q_ ?_);refine q_ (q_ ?_);refine f_ (wpAny_newTuple ?_ c_);have hsz:h₄.objs.size=s.heap.objs.size:=by rw[lY.1,hs₂.1,hs₁.1]
 have up:∀e o,e≠z->e≠i1->e≠i2->s.heap.get? e=some o->(h₄.push { cls:=.type "tuple",data:=.seq (List.toArray [u,v]) }).get? e=some o:=λe o e1 e2 e3 q =>
  g_ _ (lY.extBut _ _ e3 (hs₂.extBut _ _ e2 (hs₁.extBut _ _ e1 q)))
 refine q_ #[_,Y,q_ ?_];show Q (some (.ref h₄.objs.size)) { s with heap:=h₄.push { cls:=.type "tuple",data:=.seq (List.toArray [u,v]) },toks:=tk₄ };rw[hsz];refine hQ u v _ _ ru rv #[g_ _ (lY.extBut _ _ D.i2z.symm (hs₂.extBut _ _ D.i1z.symm oB)),up _ _ D.TIz D.TIi1 D.TIi2 hTI,
  Cp.cU EN λo e=>g_ _ (lY.extBut _ _ D.i12 e),Cp.cU IW λo e=>g_ _ e,o,up _ _ na.1 na.2.2.2.1 na.2.2.2.2 ho] ?_ λe o ne q=>?_
 ·rw[←hsz];exact I_ _ Y
 ·simp only[B_,R_,or_false,not_or]at ne;exact up e o ne.1 ne.2.2.1 ne.2.2.2 q
theorem GW{Q:Option n_->v_->Prop}(hh:A.handled=none)(D:kK z TI TO i1 i2)(Z:ZO s.heap z TI TO i1 i2 c d a f i)
  (sc:c.src s.heap xs) (hx:xs[i]? =none)
  (hQ:∀h',(∀b o,b∉[z,TO,i1,i2]->s.heap.get? b=some o->h'.get? b=some o)->Q none { s with heap:=h' }) :
  F_ (model prog w) A (pyNext (.ref z)) Q E s:=by
 obtain⟨hz,hTI,h1,h2,o,ho⟩:=id Z;have hT:s.TypeIs (.ref z) "zip" :=#[_,hz,rfl];have cz:c.off z:=Cp.fZ sc hz rfl (by decide) (by decide);unfold pyNext;refine f_ (qbT (qaJ (name:=p_ "__next__") hT qbt
  (qa9 qbt hT qc6 ?_ (qcY _))))
 show F_ _ _ (field (.ref z) 2 >>= _) _ _ _;refine f_ (qao hz Y (x:=.bool false) Y ?_);show F_ _ _ (field (.ref z) 3 >>= _) _ _ _;refine f_ (qao hz Y (x:=.ref TI) Y ?_);refine f_ (qba hTI Y ?_);show F_ _ _ (qai (.ref z) >>= _) _ _ _;refine f_ (Z.free λh₁ oB hs₁=>?_);simp only[qaF,if_false,List.forIn_toArray,qbJ,qcX];refine f_ (f_ (f_ (qaw ?_)));show F_ _ _ (qae (.ref i1) >>= _) _ _ _;refine f_ (Cp.fin (c:=c) hh (Cp.cU h1 λo e=>hs₁.extBut _ _ D.i1z e) (Cp.fN sc hs₁.extBut cz) hx λh₂ e hs₂ he=>?_);obtain⟨oe,LK,hce⟩:=he;refine f_ (wpAny_isInstance (T:= "StopIteration") (b:=true) #[oe,LK,hce] isSubtype_stop ?_);refine q_ (hQ h₂ λb o ne q=>?_);simp only[B_,R_,or_false,not_or]at ne;exact hs₂ _ _ ne.2.2.1 (hs₁.extBut _ _ ne.1 q)
end
end
section
def ZA(h:qaE)(z TI TO i1 i2:l_)(c d:Cp)(S:l_)(i:Nat):Prop:=yp h z TI TO i1 i2 c d .none i\/bU λa f=>S<a/\ZO h z TI TO i1 i2 c d a f i
structure ZG(h:qaE)(S:l_)(xs ys:List V)(as:List l_):Prop where
 rise:as.Pairwise (·<·)
 above:∀a∈as,S<a
 pairs:∀(j:Nat) (a:l_),as[j]? =some a->mZ λx y u v=>xs[j]? =some x/\ys[j]? =some y/\RelV x u/\RelV y v/\qcm h a u v
theorem ZG.keep(g:ZG h S xs ys as)(k:∀b o,S<b->h.get? b=some o->h'.get? b=some o):ZG h' S xs ys as :=
 #[g.rise,g.above,λj a e=>by
  obtain⟨x,y,u,v,e1,e2,r1,r2,p⟩:=g.pairs j a e;exact#[x,y,u,v,e1,e2,r1,r2,k _ _ (g.above a (h_ e)) p]]
theorem ZG.there(g:ZG h S xs ys as)(ha:a∈as):a<h.objs.size:=by
 obtain⟨j,hj⟩:=qco.mp ha;obtain⟨_,_,_,_,_,_,_,_,p⟩:=g.pairs j a hj;exact C_ p
theorem ZG.snoc(g:ZG h S xs ys as)(hb:S<b)(ha:∀a∈as,a<b)(hx:xs[as.length]? =some x)(hy:ys[as.length]? =some y)(r1:RelV x u)(r2:RelV y v)(p:qcm h b u v):ZG h S xs ys (as++[b]):=by
 refine#[List.pairwise_append.mpr #[g.rise,List.pairwise_singleton _ _,λa h1 b' h2=>by rw[u_.mp h2];exact ha a h1],λa h1=>?_,λj a e=>?_]
 ·rcases S_.mp h1 with q|q
  ·exact g.above a q
  ·rw[u_.mp q];exact hb
 ·rcases Nat.lt_trichotomy j as.length with h1|h1|h1
  ·rw[qad h1]at e;exact g.pairs j a e
  ·subst h1;have eb:b=a:=by simpa using e
   subst eb;exact#[x,y,u,v,hx,hy,r1,r2,p]
  ·have hnone:(as++[b])[j]? =none:=qar (by rw[t_,qbf];omega);rw[hnone]at e;cases e
section
variable{prog:qal}{w:qaG}{A:qaP}{E:n_->v_->Prop}{s:v_}{c d:Cp}{xs ys:List V}{z TI TO i1 i2 S:l_}{i:Nat}
theorem ZA.typ(Z:ZA s.heap z TI TO i1 i2 c d S i):s.TypeIs (.ref z) "zip" :=by
 rcases Z with Z|⟨a,f,_,Z⟩
 ·exact#[_,Z.zz,Y]
 ·exact#[_,Z.zz,Y]
theorem ZA.keep{h h':qaE}(Z:ZA h z TI TO i1 i2 c d S i)(lo:∀b∈[z,TI,TO,i1,i2],b<S)(k:∀b o,b≠S->h.get? b=some o->h'.get? b=some o):ZA h' z TI TO i1 i2 c d S i:=by
 simp only[B_,R_,or_false,forall_eq_or_imp,forall_eq]at lo;obtain⟨l1,l2,l3,l4,l5⟩:=lo;have up:∀b o,b<S->h.get? b=some o->h'.get? b=some o:=λb o hb e=>k b o (V_ hb) e;rcases Z with Z|⟨a,f,ha,Z⟩
 ·obtain⟨z1,z2,⟨p,q,z3⟩,z4,z5,z6,z7⟩:=Z;exact .inl #[up _ _ l1 z1,up _ _ l2 z2,#[p,q,up _ _ l3 z3],Cp.cU z4 λo e=>up _ o l4 e,Cp.cU z5 λo e=>up _ o l5 e,z6,z7]
 ·obtain⟨z1,z2,z4,z5,o,z6⟩:=Z;exact .inr #[a,f,ha,up _ _ l1 z1,up _ _ l2 z2,Cp.cU z4 λo e=>up _ o l4 e,Cp.cU z5 λo e=>up _ o l5 e,o,k _ _ (qaU ha) z6]
theorem Fi(D:kK z TI TO i1 i2)(lo:∀b∈[z,TI,TO,i1,i2],b<S)(hS:S<s.heap.objs.size)(Z:ZA s.heap z TI TO i1 i2 c d S i)
  (sc:c.src s.heap xs) (sd:d.src s.heap ys) (hx:xs[i]? =some x) (hy:ys[i]? =some y)
  (hQ:∀u v h' tk,RelV x u->RelV y v->ZA h' z TI TO i1 i2 c d S (i+1)->qcm h' s.heap.objs.size u v →
   (∀b o,b∉[z,TO,i1,i2]->s.heap.get? b=some o->h'.get? b=some o)->Q (some (.ref s.heap.objs.size)) { s with heap:=h',toks:=tk }) :
  F_ (model prog w) A (pyNext (.ref z)) Q E s:=by
 rcases Z with Z|⟨a,f,ha,Z⟩
 ·refine Aq D Z sc sd hx hy λu v h' tk ru rv Z' hp kk=>hQ u v h' tk ru rv (.inr #[s.heap.objs.size,false,hS,Z'.zz,Z'.ti,Z'.h1,Z'.h2,_,hp]) hp λb o nb e=>?_;simp only[B_,R_,or_false,not_or]at nb;exact kk b o nb.1 nb.2.1 nb.2.2.1 nb.2.2.2 e
 ·exact Fg D Z (λq=>qav _ (qcA ha (lo a q))) sc sd hx hy λu v h' tk ru rv Z' hp kk=>hQ u v h' tk ru rv (.inr #[a,true,ha,Z']) hp kk
theorem GX(hh:A.handled=none)(D:kK z TI TO i1 i2)(Z:ZA s.heap z TI TO i1 i2 c d S i)
  (sc:c.src s.heap xs) (sd:d.src s.heap ys) (hx:xs[i]? =none)
  (hQ:∀h' tk,(∀b o,b∉[z,TO,i1,i2]->s.heap.get? b=some o->h'.get? b=some o)->Q none { s with heap:=h',toks:=tk }) :
  F_ (model prog w) A (pyNext (.ref z)) Q E s:=by
 rcases Z with Z|⟨a,f,ha,Z⟩
 ·refine Ej hh D Z sc sd (.inl hx) λh' tk kk=>hQ h' tk λb o nb e=>?_;simp only[B_,R_,or_false,not_or]at nb;exact kk b o nb.1 nb.2.1 nb.2.2.1 nb.2.2.2 e
 ·exact GW hh D Z sc hx λh' kk=>hQ h' s.toks kk
theorem GV{R:Result->v_->Prop}{h₀:qaE}(hh:A.handled=none)(D:kK z TI TO i1 i2)(lo:∀b∈[z,TI,TO,i1,i2],b<S)(hl:ys.length=xs.length)(hn:xs.length<=A_)
  (oc:∀b∈[S,z,TO,i1,i2],c.off b) (od:∀b∈[S,z,TO,i1,i2],d.off b)
  (hR:∀(h':qaE) (tk:Nat) (acc:Array n_) (n:Nat) (as:List l_),(∀b o,b∉[S,z,TO,i1,i2]->h₀.get? b=some o->h'.get? b=some o)->h'.get? S=some { cls:=.type "list",dict:=none,data:=.seq acc n,slots:= #[] }->acc.toList=as.map Value.ref->as.length=xs.length->ZG h' S xs ys as->R (.ok (.ret res)) { s with heap:=h',toks:=tk }) :
  ∀(k i:Nat) (h:qaE) (tk n:Nat) (acc:Array n_) (as:List l_),xs.length-i=k->i<=xs.length->ZA h z TI TO i1 i2 c d S i->c.src h xs->d.src h ys->(∀b o,b∉[S,z,TO,i1,i2]->h₀.get? b=some o->h.get? b=some o) →
   h.get? S=some { cls:=.type "list",dict:=none,data:=.seq acc n,slots:= #[] }->acc.toList=as.map Value.ref->as.length=i->ZG h S xs ys as →
   codeAny (model prog w) A (.builtin "list.extend.loop" #[[.ref S,.ref z,res],[]]) R { s with heap:=h,toks:=tk }:=by
 have lo':=lo;simp only[B_,R_,or_false,forall_eq_or_imp,forall_eq]at lo';obtain⟨l1,l2,l3,l4,l5⟩:=lo';have nS:S∉[z,TO,i1,i2]:=λq=>by
  simp only[B_,R_,or_false]at q;rcases q with q|q|q|q
  ·rw[←q]at l1;exact qav _ l1
  ·rw[←q]at l3;exact qav _ l3
  ·rw[←q]at l4;exact qav _ l4
  ·rw[←q]at l5;exact qav _ l5
 have nb:∀b,S<b->b∉[z,TO,i1,i2]:=λb hb q=>by
  simp only[B_,R_,or_false]at q;rcases q with q|q|q|q<;>subst q
  ·exact Nat.lt_asymm hb l1
  ·exact Nat.lt_asymm hb l3
  ·exact Nat.lt_asymm hb l4
  ·exact Nat.lt_asymm hb l5
 intro k
 induction k with
 |zero =>
  intro i h tk n acc as hk hi Z sc sd kp hS ha hal G;have e:i=xs.length:=by omega
  subst e;refine qbL F.entry_extend_loop ?_;rw[qbn qcI _];show F_ _ A.in1 (pyNext (.ref z) >>= _) _ _ _;refine f_ (GX hh D Z sc sd (qar (i_ _)) λh' tk' kk=>?_);exact q_ (hR h' tk' acc n as (λb o q e=>kk b o (λr=>q (s_ _ r)) (kp b o q e)) (kk S _ nS hS) ha hal (G.keep λb o hb e=>kk b o (nb b hb) e))
 |succ k ih =>
  intro i h tk n acc as hk hi Z sc sd kp hS ha hal G;have hlt:i<xs.length:=by omega
  refine qbL F.entry_extend_loop ?_;rw[qbn qcI _];show F_ _ A.in1 (pyNext (.ref z) >>= _) _ _ _;have VY:S<h.objs.size:=C_ hS;obtain⟨x,hx⟩:∃x,xs[i]? =some x:=#[_,d_ hlt];obtain⟨y,hy⟩:∃y,ys[i]? =some y:=#[_,d_ (by omega)];refine f_ (Fi D lo VY Z sc sd hx hy λu v h' tk' ru rv Z' hp kk=>?_);have hS':=kk S _ nS hS;have hsz:acc.size=i:=by rw[←k_,ha,e_,hal]
  show F_ _ A.in1 (updateSeq S (·.push (Value.ref h.objs.size)) >>= _) _ _ _;refine f_ ?_;have Od:∀b o,b≠S->h'.get? b=some o->(h'.update S (qay (·.push (Value.ref h.objs.size)))).get? b=some o:=λb o hb e=>(qaj _ _ (Ne.symm hb)).trans e;have k2:∀b o,b∉[S,z,TO,i1,i2]->h.get? b=some o->(h'.update S (qay (·.push (Value.ref h.objs.size)))).get? b=some o:=λb o q e=>Od b o (λr=>q (by rw[r];exact r_)) (kk b o (λr=>q (s_ _ r)) e);refine wpAny_updateSeq hS' Y (q_ #[plainId_quiet qcI _,ih (i+1) _ _ _ (acc.push (.ref h.objs.size)) (as++[h.objs.size]) (by omega) hlt (Z'.keep lo Od) (Cp.tY sc oc k2) (Cp.tY sd od k2)
   (λb o q e=>k2 b o q (kp b o q e)) (qaq _ hS' rfl) (by rw[Array.toList_push,ha,E_];rfl) (by rw[t_,hal];rfl) ?_]) (by rw[hsz];omega) (by show(acc.push _).size<=A_+1;rw[Array.size_push,hsz];omega)
  have G':ZG (h'.update S (qay (·.push (Value.ref h.objs.size)))) S xs ys as:=G.keep λb o hb e=>Od b o (qaU hb) (kk b o (nb b hb) e);exact G'.snoc VY (λa h1=>G.there h1) (by rw[hal];exact hx) (by rw[hal];exact hy) ru rv (Od _ _ (qaU VY) hp)
theorem Ar{Q:List n_->v_->Prop}(hh:A.handled=none)(D:kK z TI TO i1 i2)(Z:yp s.heap z TI TO i1 i2 c d .none 0)(sc:c.src s.heap xs)(sd:d.src s.heap ys)(oc:c.off TO)(od:d.off TO)(hl:ys.length=xs.length)(hn:xs.length<=A_)
  (hQ:∀(h':qaE) (tk:Nat) (as:List l_),(∀b o,b∉[z,TO,i1,i2]->s.heap.get? b=some o->h'.get? b=some o)->as.length=xs.length->ZG h' s.heap.objs.size xs ys as->Q (as.map Value.ref) { s with heap:=h',toks:=tk }) :
  F_ (model prog w) A (collect (.ref z)) Q E s:=by
 obtain⟨QU,T1,_,hi1,Mf,_,Lp,GK⟩:=Cp.fz Z.h1;obtain⟨SR,T2,_,hi2,Wn,_,UT,US⟩:=Cp.fz Z.h2;obtain⟨pa,pb,hTO⟩:=Z.to;have lo:∀b∈[z,TI,TO,i1,i2],b<s.heap.objs.size:=by
  simp only[B_,R_,or_false,forall_eq_or_imp,forall_eq];exact#[C_ Z.zz,C_ Z.ti,C_ hTO,C_ hi1,C_ hi2]
 have SS:∀{c':Cp} {xs':List V},c'.src s.heap xs'->c'.off TO->∀b∈[s.heap.objs.size,z,TO,i1,i2],c'.off b:=λ{c' xs'} q q2=>by
  simp only[B_,R_,or_false,forall_eq_or_imp,forall_eq];exact#[Cp.qL q (i_ _),Cp.fZ q Z.zz Y (by decide) (by decide),q2,Cp.fZ q hi1 Mf Lp GK,Cp.fZ q hi2 Wn UT US]
 have zS:s.heap.objs.size≠z:=qaU (lo z r_);have Z1:ZA (s.heap.push { cls:=.type "list",data:=.seq ([]:List n_).toArray }) z TI TO i1 i2 c d s.heap.objs.size 0:=ZA.keep (.inl Z) lo λb o _ e=>g_ _ e;unfold collect;refine f_ (wpAny_runValue (qbL F.entry_proto_collect ?_));rw[qbn F.plain_proto_collect _];show F_ _ A.in1 (newList [] >>= λl=>again (.builtin "list.__iadd__" #[[l,.ref z],[]])) _ _ s;refine f_ (qa3 ?_);refine q_ #[plainId_quiet F.plain_list_iadd _,qbL F.entry_list_iadd ?_];rw[qbn F.plain_list_iadd _];show F_ _ A.in1 (Builtin.List.listExtendWith (.ref s.heap.objs.size) (.ref z) (.ref s.heap.objs.size)) _ _ _;unfold Builtin.List.listExtendWith;have hT:=ZA.typ (s:={ s with heap:=s.heap.push { cls:=.type "list",data:=.seq ([]:List n_).toArray } }) Z1;refine f_ (wpAny_typeOf hT ?_);have h1:Builtin.List.listSameRef (.ref s.heap.objs.size) (.ref z)=false:=by simp[Builtin.List.listSameRef,zS]
 have h2:(Value.type "zip" ==Value.type "list")=false:=by decide
 have h3:(Value.type "zip" ==Value.type "tuple")=false:=by decide
 simp only[h1,h2,h3,Bool.or_false,qaF,if_false];refine f_ (wpAny_pyIter_zip (g_ _ Z.zz) ?_);refine f_ (qaw ?_);unfold Builtin.List.listLengthHint;refine f_ (wpAny_specialOf hT Ct ?_);show F_ _ A.in1 (specialOf (Value.ref z) (p_ "__length_hint__") >>= _) _ _ _;refine f_ (wpAny_specialOf hT Ao ?_);refine q_ ?_;show F_ _ A.in1 (rule "list.extend.makes-room" >>= λ_=>Builtin.List.listTouch (.ref s.heap.objs.size) >>= λ_ =>
  again (.builtin "list.extend.loop" #[[.ref s.heap.objs.size,.ref z,.ref s.heap.objs.size],[]])) _ _ _
 refine f_ (wpAny_rule ?_);have MY:(s.heap.push { cls:=.type "list",data:=.seq ([]:List n_).toArray }).get? s.heap.objs.size=some { cls:=.type "list",data:=.seq ([]:List n_).toArray }:=I_ _ rfl;refine f_ ?_;show F_ _ A.in1 (updateSeq s.heap.objs.size (·.push .none) >>= λ_=>updateSeq s.heap.objs.size (·.pop)) _ _ _;refine f_ (wpAny_updateSeq MY Y ?_);have MX:=qaq (qay (·.push Value.none)) MY rfl;refine wpAny_updateSeq MX Y ?_;have RN:=qaq (qay (·.pop)) MX rfl;have Od:∀b o,b≠s.heap.objs.size->(s.heap.push { cls:=.type "list",data:=.seq ([]:List n_).toArray }).get? b=some o →
   (((s.heap.push { cls:=.type "list",data:=.seq ([]:List n_).toArray }).update s.heap.objs.size (qay (·.push Value.none))).update s.heap.objs.size (qay (·.pop))).get? b=some o :=
  λb o hb e=>(qaj _ _ (Ne.symm hb)).trans ((qaj _ _ (Ne.symm hb)).trans e)
 have k0:∀b o,b∉[s.heap.objs.size,z,TO,i1,i2]->s.heap.get? b=some o->(((s.heap.push { cls:=.type "list",data:=.seq ([]:List n_).toArray }).update s.heap.objs.size (qay (·.push Value.none))).update s.heap.objs.size (qay (·.pop))).get? b=some o :=
  λb o hb e=>Od b o (λr=>hb (by rw[r];exact r_)) (g_ _ e)
 refine q_ #[plainId_quiet qcI _,GV (s:=s) (h₀:=s.heap) hh D lo hl hn (SS sc oc) (SS sd od) (λh' tk acc n as kk hS' ha hal G=>?_) xs.length 0 _ _ _ #[] [] (Nat.sub_zero _) (O_ _) (Z1.keep lo Od)
  (Cp.tY sc (SS sc oc) k0) (Cp.tY sd (SS sd od) k0) k0 RN rfl rfl #[List.Pairwise.nil,(λ_ q=>nomatch q),λj a q=>by simp at q]]
 show F_ _ A (load s.heap.objs.size >>= _) _ _ _;refine f_ (wpAny_load hS' ?_);refine q_ ?_;show Q acc.toList _;rw[ha];exact hQ h' tk as (λb o q e=>kk b o (λr=>by
  rcases B_.mp r with r|r
  ·rw[r]at e;exact qav _ (C_ e)
  ·exact q r) e) hal G
end
end
section
noncomputable def UK(z:Int×w_):HO:=.tup [.int z.1,.str z.2]
theorem Inv.Hi{σ:St}{key:l_->Int×w_}(I1:Inv X pins σ H1 s1):∀(as:List l_) (H':Hp),Inv X pins σ H' s->as.Nodup->(∀a∈as,s1.heap.objs.size<=a/\H' a=none/\bU λu v=>RelV (.int (key a).1) u/\RelV (.str (key a).2) v/\qcm s.heap a u v) →
  ∃H2,Inv X pins σ H2 s/\(∀b,b∉as->H2 b=H' b)/\∀a∈as,H2 a=some (UK (key a))
 |[],H',I,_,_=>#[H',I,λ_ _=>rfl,λ_ q=>nomatch q]
 |a::as,H',I,nd,h=>by
  obtain⟨n1,n2⟩:=qcf.mp nd;obtain⟨h1,h2,u,v,r1,r2,p⟩:=h a r_;have I':Inv X pins σ (upd H' a (UK (key a))) s:=I.Ek (I1.sG h1 h2) #[c_,[u,v],.cons r1 (.cons r2 .nil),#[_,p,rfl,_,rfl]];obtain⟨H2,I2,o2,t2⟩:=Inv.Hi I1 as _ I' n2 λb hb=>by
   obtain⟨q1,q2,q3⟩:=h b (s_ _ hb);exact#[q1,by rw[ay (λz:b=a=>n1 (by rw[←z];exact hb))];exact q2,q3]
  refine#[H2,I2,λb hb=>?_,λb hb=>?_]
  ·rw[o2 b λq=>hb (s_ _ q),ay (λz=>hb (by rw[z];exact r_))]
  ·by_cases q:b∈as
   ·exact t2 b q
   ·rw[o2 b q];rcases B_.mp hb with z|z
    ·rw[z,ai]
    ·exact absurd z q
def Hl(K:zaa)(ta:TA):TE:=λσ H Q=>ta σ H λvs H1=>mZ λ(c d:Cp) (ks:List Int) (ts:List w_)=>vs=[c.val,d.val]/\c.at K H1 (ks.map V.int)/\d.at K H1 (ts.map V.str)/\ts.length=ks.length/\ks.length<64/\ks.Pairwise (·<·) ∧
 ∀(l:l_) (H2:Hp) (ps:List l_) (key:l_->Int×w_),H1 l=none->(∀b o,H1 b=some o->H2 b=some o)->H2 l=some (.lst (ps.map V.ref))->(∀p∈ps,H2 p=some (UK (key p)))->ps.map key=ks.zip ts->Q (.ref l) H2
theorem De{X:Cx}{a b:Expr}{ta:TA}{p p2 pos pos2:qc5}(hc:X.calm=true)(hg:Gl X "sorted")(hm:X.mg "sorted" =none)(ZF:Gl X "zip")(hm2:X.mg "zip" =none)(ha:PA X [a,b] ta)
  (hs:qaa [a,b] X.env=[(false,eval a X.env),(false,eval b X.env)]:=by rfl) (hs2:qaa [b] X.env=[(false,eval b X.env)]:=by rfl)
  (Xy:qaa [Expr.Call (.Name "zip" p2) [a,b] [] pos2] X.env=[(false,eval (.Call (.Name "zip" p2) [a,b] [] pos2) X.env)]:=by rfl) :
  PE X (.Call (.Name "sorted" p) [.Call (.Name "zip" p2) [a,b] [] pos2] [] pos) (Hl X.K ta):=by
 intro pins s σ H Q I h;refine qbg (kr I hg hm boot_sorted (callWith_builtin1 ?_ (by rw[Xy];rfl) Y));rw[Xy];show F_ _ _ (spliced [(false,eval (.Call (.Name "zip" p2) [a,b] [] pos2) X.env)]) _ _ s;refine qcO (Call_ (kr I ZF hm2 boot_zip (qau (dm (ha pos2 pins s σ H _ I h) λus s1 ⟨vs,H1,I1,r1,q1⟩=>?_) (by rw[hs,hs2]) (by rw[hs2];rfl))));obtain⟨c,d,ks,ts,e,hx,hy,hl,h64,nd,q⟩:=q1;subst e;obtain⟨u,v,rfl,ru,rv⟩:=vals2 r1;obtain⟨t1,rfl⟩:=Cp.value_of ru;obtain⟨t2,rfl⟩:=Cp.value_of rv;have sc:=Cp.jY I1 hx;have sd:=Cp.jY I1 hy;refine ye sc sd λh' hz hTI hTO h1 h2 kk=>?_;refine Calls.spliced_nil ?_;have D:=uf s1.heap.objs.size;have oc:=Cp.qL sc (qan _ 3);have od:=Cp.qL sd (qan _ 3);have Vb:ks.length<=A_:=by rw[qb5];omega
 refine TK.bP (n:=s1.toks) (i_ _) ?_;refine Calls.call_function_entry kind_sorted plain_sorted entry_sorted (args_sorted1 _) ?_;unfold Builtin.«sorted»;refine f_ (m:=checkCount "sorted" 1 1 _) (q_ ?_);refine f_ (Ar (I.ok.hd hc) D #[hz,hTI,#[_,_,hTO],h1,h2,oc,od] (Cp.uD sc kk) (Cp.uD sd kk) oc od (by rw[e_,e_];exact hl) (by rw[e_];exact Vb) λh2 tk as k2 hal G=>?_);rw[e_]at hal;have W8:as.Nodup:=G.rise.imp λz=>V_ z
 let key:l_->Int×w_:=λa=>((ks.zip ts)[as.idxOf a]?).getD (0,"")
 have hkey:∀j a,as[j]? =some a->(ks.zip ts)[j]? =some (key a):=λj a e=>by
  have hj:j<as.length:=(m_.mp e).1;have ej:as.idxOf a=j:=by
   obtain⟨_,e'⟩:=m_.mp e;rw[←e'];exact W8.idxOf_getElem j hj
  show _=some (((ks.zip ts)[as.idxOf a]?).getD (0,""));rw[ej,d_ (show j<(ks.zip ts).length by rw[List.length_zip];omega)];rfl
 have pairs:∀a∈as,bU λu v=>RelV (.int (key a).1) u/\RelV (.str (key a).2) v/\qcm h2 a u v:=λa ha=>by
  obtain⟨j,hj⟩:=qco.mp ha;obtain⟨x,y,u,v,e1,e2,r1,r2,pp⟩:=G.pairs j a hj;have ek:=hkey j a hj;rw[List.getElem?_zip_eq_some]at ek;rw[j_,ek.1]at e1;rw[j_,ek.2]at e2;cases e1;cases e2;exact#[u,v,r1,r2,pp]
 have Q5:as.map key=ks.zip ts:=by
  apply qc4;intro j;rw[j_]
  cases e:as[j]? with
  |none=>rw[qar (by rw[List.length_zip];have:=qbF.mp e;omega)];rfl
  |some a=>rw[hkey j a e];rfl
 let f:n_->Int:=λv=>match v with| .ref a=>(key a).1|_=>0
 have at2:∀v∈as.map Value.ref,TS.mH h2 v (f v):=λv hv=>by
  obtain⟨a,ha,rfl⟩:=z_.mp hv;obtain⟨u,v,⟨t,rfl⟩,⟨t',rfl⟩,pp⟩:=pairs a ha;exact#[a,_,_,t,_,t',Y,pp,Y,Y]
 have YW:(as.map λa=>(key a).1)=ks:=by
  have:=congrArg (List.map (·.1)) Q5;rw[U_,List.map_fst_zip (by omega)]at this;exact this
 refine f_ (wpAny_newList ?_ (by rw[e_];omega));have Rx:(h2.push (seqObj "list" (as.map Value.ref).toArray 0)).get? h2.objs.size=some (seqObj "list" (as.map Value.ref).toArray 0):=I_ _ rfl;have rise:∀i,i+1<(as.map Value.ref).length->f ((as.map Value.ref).getD i .none)<f ((as.map Value.ref).getD (i+1) .none):=λi hi=>by
  have hi1:i+1<as.length:=by simpa using hi
  have e:∀j (hj:j<as.length),f ((as.map Value.ref).getD j .none)=ks[j]'(by omega):=λj hj=>by
   rw[M_,j_,d_ hj];have:=congrArg (λl:List Int=>l[j]?) YW;simp only[j_,d_ hj,d_ (show j<ks.length by omega)]at this;exact Z_ this
  rw[e i (by omega),e (i+1) hi1];exact List.pairwise_iff_getElem.mp nd i (i+1) _ _ (qa8 i)
 refine f_ (qaw (qa9 slot_list_sort #[_,Rx,Y] entry_list_sort (TS.DI (f:=f) Rx (λv hv=>(at2 v hv).keep λb o _ e=>g_ _ e) rise (by rw[e_];omega) #[_,Y,?_]) (args_list_sort _)));refine q_ #[_,Y,λhup=>?_];have hs2:s1.heap.objs.size<=h'.objs.size:=qa5 (o_ (qan _ 4) (C_ hz));have nb:∀b o,s1.heap.get? b=some o->b∉[s1.heap.objs.size+4,s1.heap.objs.size+3,s1.heap.objs.size,s1.heap.objs.size+1]:=λb o e z=>by
  have lt:∀k:Nat,b≠s1.heap.objs.size+k:=λk z=>by
   have l:=C_ e;rw[z]at l;exact qc7.mpr (qan _ k) l
  simp only[B_,R_,or_false]at z;rcases z with z|z|z|z
  ·exact lt 4 z
  ·exact lt 3 z
  ·exact lt 0 z
  ·exact lt 1 z
 have up:∀b o,h2.get? b=some o->(sortedHeap (h2.push (seqObj "list" (as.map Value.ref).toArray 0)) h2.objs.size (as.map Value.ref) (as.map Value.ref).toArray).get? b=some o:=λb o e =>
  TS.rG (V_ (C_ e)) (g_ _ e)
 have I3:Inv X pins σ H1 { s1 with heap:=sortedHeap (h2.push (seqObj "list" (as.map Value.ref).toArray 0)) h2.objs.size (as.map Value.ref) (as.map Value.ref).toArray,toks:=tk } :=
  I1.kept (λb o e=>up b o (k2 b o (nb b o e) (kk b o e))) hup
 have le:∀a∈as,s1.heap.objs.size<=a:=λa ha=>gc hs2 (qa5 (G.above a ha));obtain⟨H2,I4,o2,t2⟩:=Inv.Hi (key:=key) I1 as H1 I3 W8 λa ha=>by
  obtain⟨u,v,r1,r2,pp⟩:=pairs a ha;exact#[le a ha,I1.hok.fresh (le a ha),u,v,r1,r2,up _ _ pp]
 have kS:h'.get? (s1.heap.objs.size+2)=some _:=hTI;have lL:s1.heap.objs.size<=h2.objs.size:=by
  have ne:∀{a b:Nat},a≠b->s1.heap.objs.size+a≠s1.heap.objs.size+b:=λh z=>h (Nat.add_left_cancel z);have e:=k2 _ _ (λz=>by
   simp only[B_,R_,or_false]at z;rcases z with z|z|z|z
   ·exact ne (by decide) z
   ·exact ne (by decide) z
   ·exact ne (b:=0) (by decide) z
   ·exact ne (by decide) z) kS
  exact gc (qan _ 2) (qa5 (C_ e))
 have nL:h2.objs.size∉as:=λz=>qav _ (G.there z);have hn:H1 h2.objs.size=none:=I1.hok.fresh lL;obtain⟨m,en⟩:=TS.uF (vs:=as.map Value.ref) (out:=(as.map Value.ref).toArray) Rx;have vv:∀bs:List l_,Vals (bs.map V.ref) (bs.map Value.ref):=λbs=>by
  induction bs with
  |nil=>exact .nil
  |cons b bs ih=>exact .cons Y ih
 refine#[.ref h2.objs.size,upd H2 h2.objs.size (.lst (as.map V.ref)),I4.Ek (I1.sG lL (by rw[o2 _ nL];exact hn)) #[?_,as.map Value.ref,m,vv as,en],Y,
  q h2.objs.size _ as key hn (λb o e=>?_) ai (λb hb=>?_) Q5]
 ·rw[e_];omega
 ·rw[ay (bA e hn)];by_cases z:b∈as
  ·rw[I1.hok.fresh (le b z)]at e;cases e
  ·rw[o2 b z];exact e
 ·rw[ay (λz:b=_=>nL (by rw[←z];exact hb))];exact t2 b hb
end
end L2
namespace GP
open PySem L2 eV
section
theorem yU{sg r:w_}(hs:mE sg)(hr:Of sg r)(hm:r.cps.size<=m):qw sg [r] 1 m:=by
 refine#[w9.block (n:=1) (i:=r.cps.size) #[Y,λq hq=>by rw[u_.mp hq],λq hq c hc=>?_,λj hj=>?_] (by decide),λq hq c hc=>?_,Y,λq hq=>by rw[u_.mp hq];exact hm]
 ·rw[u_.mp hq]at hc;exact .inr (hs.2.2.1 c (hr c hc))
 ·refine#[r,u_.mpr Y,r.cps.toList[j]'(by rw[k_];exact hj),d_ _,λz=>Ol hs (hr 45 ?_)];rw[←z];exact D_ _
 ·rw[u_.mp hq]at hc;exact fu.mpr (.inr (hr c hc))
theorem nH.wo(ht:H la=some (.lst ps))(hr:∀u∈ps,∃a,u=V.ref a)(hN:N≠[])(h:nH K CB H p R N):nH K CB (Wo la H) p R N:=by
 obtain⟨ln,b,h1,h2,h3⟩:=h;refine#[ln,b,Wo.in (kg h1 ht (by intro z;cases z)) h1,Wo.in (λz=>?_) h2,h3.wo ht];rw[z,ht]at h2
 cases N with
 |nil=>exact hN Y
 |cons n N =>
  obtain rfl:ps=(n::N).map V.int:=by injection h2 with h2;injection h2
  obtain⟨a,e⟩:=hr (.int n) r_;cases e
end
section
end
section
theorem xH(h:45∉x.cps.toList):aO 45 x=x:=by
 have e:(aO 45 x).cps.toList=x.cps.toList:=by
  show x.cps.toList.filter _=_;exact List.filter_eq_self.mpr λc hc=>by
   have:c≠45:=λz=>h (by rw[←z];exact hc);simpa using this
 have e2:=qbz.mp e;cases x;cases hq:aO 45 _;rw[hq]at e2;exact congrArg _ e2
section
variable{K:zaa}{C:l_}{H H' GH:Hp}{t x lr:l_}{k k':Int}{T:PB}{rs:List w_}{u:Tr}{tv:V}
end
end
end GP
namespace L2
open PySem PySem.Spec PyProof.Rows
theorem F4:Nb X "str.startswith" (λx xs H Q=>bU λz y:w_=>x= .str z/\xs=[.str y]/\Q (.bl (Txt.startswith z y)) H):=by
 intro pins s σ H x xs v us Q I rx rv h;obtain⟨z,y,rfl,rfl,q⟩:=h;obtain⟨t,rfl⟩:=rx;obtain⟨u,rfl,⟨t',rfl⟩⟩:=rv.one;exact SC.startswith #[.bl _,H,I,Y,q]
theorem Iq:Nb X "str.zfill" (λx xs H Q=>∃z:w_,x= .str z/\xs=[.int 60]/\Q (.str (Txt.zfill z 60)) H):=by
 intro pins s σ H x xs v us Q I rx rv h;obtain⟨z,rfl,rfl,q⟩:=h;obtain⟨t,rfl⟩:=rx;obtain⟨u,rfl,⟨t',rfl⟩⟩:=rv.one;exact TK.bP (i_ s.toks) (SC.zfill (by decide) λt' k hk=>#[.str _,H,I.tok k hk,#[_,Y],q])
theorem yg:g7 X (.type "int") (λxs H Q=>bU λ(x:w_) (n:Int)=>xs=[.str x]/\PySem.intText? x=some n/\x.length<=640/\Q (.int n) H):=by
 intro pins s σ H xs us Q I r h;obtain⟨x,n,rfl,hn,hl,q⟩:=h;obtain⟨u,rfl,t,rfl⟩:=vals1 r;exact PySem.W.KIN.call_text hn hl #[.int n,H,I.tok _,#[_,Y],q]
theorem Dk(hu:X.A.units+1<cLine):jW X (compareOp .In) (λx y H Q=>bU λ(p:l_) (os:List l_)=>x= .dX/\y= .ref p/\bq X.K H p (os.map V.ref)/\(∀q∈os,∃ys,bV X.K H q ys)/\Q (.bl false) H):=by
 intro pins s σ H x y v u Q I rx ry h;obtain⟨p,os,rfl,rfl,hq,ho,q⟩:=h;cases rx;cases ry;obtain⟨its,r,pl,hz⟩:=I.list hq;have key:∀{os:List l_} {us:List n_},Vals (os.map V.ref) us->(∀q∈os,∃ys,bV X.K H q ys)->(∀w∈us,qbS X.A.in1 s w .none false):=by
  intro os
  induction os with
  |nil =>
   intro us r _ w hw;cases r;cases hw
  |cons q os ih =>
   intro us r hz w hw
   cases r with
   |cons r1 rs =>
    rcases B_.mp hw with rfl|hw
    ·obtain⟨ys,ht⟩:=hz q r_;cases r1;obtain⟨its',r',YI,_⟩:=I.tuple ht;exact SeqAt.EqAt.tuple_none YI hu
    ·exact ih rs (λq' hq'=>hz q' (s_ _ hq')) w hw
 refine SeqAt.in_listAt (λ_=>false) pl.isList (λw hw=>key r ho w (by simpa using hw)) #[.bl _,H,I,Y,?_];rw[show its.toArray.any (λ_=>false)=false by simp];exact q
theorem Ig:PH X hs λ_ _ _ _ _=>False:=λ_ _ _ _ _ _ _ _ _ _ h=>h.elim
end L2
namespace GP
open PySem L2 eV
section
open PySem.NumText
theorem YZ(h:Q (if c=true then a else b) H):if c=true then tC a σ H Q else tC b σ H Q:=by cases c<;>exact h
noncomputable def sI(n:Int):w_:=p_ (toString n)
theorem g9(m:Nat):(sI (m:Int)).cps.toList=(qaW 10 m).map qbV:=PySem.W.KIN.signs_num m
theorem uM(m:Nat):AllDigits (sI (m:Int)).cps.toList:=by
 intro c hc;rw[g9]at hc;obtain⟨ch,hch,e⟩:=z_.mp hc;have r:=PyProof.Rows.digit_range (Nat.isDigit_of_mem_toDigits (by decide) (by decide) hch);rw[←e];exact r
theorem NV(m:Nat):((digitsVal (sI (m:Int)).cps.toList:Nat):Int)=m:=by
 rw[g9,PySem.W.KIN.val_back]
theorem pZ{m k:Nat}(hk:0<k)(h:m<10 ^ k):1<=(sI (m:Int)).cps.size/\(sI (m:Int)).cps.size<=k:=by
 rw[←k_,g9,e_];exact#[zb0 10 m,PyProof.Rows.digits10_le hk h]
theorem uL{n:Int}(h:0<=n):∃m:Nat,n=m/\sI n=sI (m:Int):=#[n.toNat,by omega,by rw[qaS h]]
theorem yK(h:0<=n)(hc:c<48\/57<c):c∉(sI n).cps.toList:=λz=>by
 obtain⟨m,rfl,_⟩:=uL h;have:=uM m c z;omega
theorem uK(o:Int):sI o=(if o<0 then(⟨#[45]⟩:w_)else⟨#[]⟩)++sI (o.natAbs:Int):=by
 cases o with
 |ofNat m =>
  rw[if_neg (show ¬(Int.ofNat m)<0 from Int.not_lt.mpr (qcS m))];refine uA ?_;rw[cH];rfl
 |negSucc m =>
  rw[if_pos (Int.negSucc_lt_zero m)];refine uA ?_;rw[cH];show(p_ ("-" ++toString (m+1))).cps.toList=[45]++(p_ (toString ((m+1:Nat):Int))).cps.toList;rw[zb1,zb1,String.toList_append,E_];rfl
noncomputable def JP:Nat->Nat->List Nat
 | 0,_=>[]
 |k+1,r=>JP k (r / 10)++[48+r % 10]
theorem zW(h:r<10):(qaW 10 r).map qbV=[48+r]:=by
 rw[Nat.toDigits_of_lt_base h]
 match r,h with
 | 0,_=>rfl
 | 1,_=>rfl
 | 2,_=>rfl
 | 3,_=>rfl
 | 4,_=>rfl
 | 5,_=>rfl
 | 6,_=>rfl
 | 7,_=>rfl
 | 8,_=>rfl
 | 9,_=>rfl
theorem BW{n:Nat}(h:0<n)(r:Nat)(hr:r<10):(qaW 10 (10*n+r)).map qbV=(qaW 10 n).map qbV++[48+r]:=by
 rw[←Nat.toDigits_append_toDigits (by decide) h hr,E_,zW hr]
theorem EX(h:0<n):∀(k r:Nat),r<10 ^ k->(qaW 10 (10 ^ k*n+r)).map qbV=(qaW 10 n).map qbV++JP k r
 | 0,r,hr=>by
  have:r=0:=by simpa using hr
  subst this;rw[Nat.pow_zero,Nat.one_mul];simp[JP]
 |k+1,r,hr=>by
  have hr':r / 10<10 ^ k:=Nat.div_lt_of_lt_mul (by rw[Nat.pow_succ]at hr;omega);have e:10 ^ (k+1)*n+r=10*(10 ^ k*n+r / 10)+r % 10:=by
   rw[Nat.pow_succ,Nat.mul_comm (10 ^ k) 10,Nat.mul_assoc];omega
  have hp:0<10 ^ k*n+r / 10:=Nat.add_pos_left (Nat.mul_pos (Nat.pow_pos (by decide)) h) _;rw[e,BW hp _ (Nat.mod_lt _ (by decide)),EX h k _ hr',qat];rfl
theorem Ez:∀k,JP k 0=G_ k 48
 | 0=>rfl
 |k+1=>by
  show JP k (0 / 10)++[48+0 % 10]=_;rw[Nat.zero_div,Ez k,List.replicate_succ']
theorem MC:∀(k r:Nat),r<10 ^ (k+1)->JP (k+1) r=G_ (k+1-(qaW 10 r).length) 48++(qaW 10 r).map qbV
 |k,r,hr=>by
  by_cases h:r<10
  ·have e:JP (k+1) r=JP k (r / 10)++[48+r % 10]:=rfl;have l:(qaW 10 r).length=1:=by rw[←e_ (f:=qbV),zW h];rfl
   rw[e,Nat.div_eq_of_lt h,Ez,Nat.mod_eq_of_lt h,zW h,l];rfl
  ·match k,hr with
   | 0,hr=>exact absurd (by simpa using hr) h
   |k+1,hr =>
    have hr':r / 10<10 ^ (k+1):=Nat.div_lt_of_lt_mul (by rw[Nat.pow_succ]at hr;omega);have e:JP (k+2) r=JP (k+1) (r / 10)++[48+r % 10]:=rfl;have d:(qaW 10 r).map qbV=(qaW 10 (r / 10)).map qbV++[48+r % 10]:=by
     have:=BW (n:=r / 10) (by omega) (r % 10) (Nat.mod_lt _ (by decide))
     rwa [show 10*(r / 10)+r % 10=r by omega]at this
    have l:(qaW 10 r).length=(qaW 10 (r / 10)).length+1:=by
     rw[←e_ (f:=qbV),d,t_,e_];rfl
    rw[e,MC k _ hr',d,l,←qat];congr 3;omega
theorem HS{n r:Nat}(h:0<n)(hr:r<10 ^ 60):sI ((10 ^ 60*n+r:Nat):Int)=sI (n:Int)++Txt.zfill (sI (r:Int)) 60:=by
 refine uA ?_;rw[cH,g9,g9,EX h 60 r hr,MC 59 r hr];congr 1;obtain⟨l1,l2⟩:=pZ (by decide) hr;have el:(sI (r:Int)).cps.size=(qaW 10 r).length:=by rw[←k_,g9,e_]
 unfold Txt.zfill;by_cases z:(60:Int)<=((sI (r:Int)).length:Int)
 ·rw[if_pos z];have:(sI (r:Int)).cps.size=60:=by
   have z':(60:Int)<=((sI (r:Int)).cps.size:Int):=z;omega
  rw[show 59+1-(qaW 10 r).length=0 by omega,g9];rfl
 ·rw[if_neg z];have hd:=uM r;have zf:zfilled (sI (r:Int)) ((60:Int).toNat-(sI (r:Int)).length)=Builtin.Str.padded (sI (r:Int)) ((60:Int).toNat-(sI (r:Int)).length) 0 48:=by
   unfold zfilled;split
   ·rename_i e
    have:=hd 43 (h_ (by rw[P_];exact e));omega
   ·rename_i e
    have:=hd 45 (h_ (by rw[P_];exact e));omega
   ·rfl
  rw[zf];unfold Builtin.Str.padded;show _=(Array.replicate ((60:Int).toNat-(sI (r:Int)).cps.size) 48++(sI (r:Int)).cps++Array.replicate 0 48).toList;rw[el];simp[g9]
end
section
theorem Bg.le(h1:0<a)(h2:a<=b)(h:Bg b):Bg a:=o_ (show a.natAbs<=b.natAbs by omega) h
theorem Bg.of (hk:k<=2000)(h:a.natAbs<10 ^ k):Bg a:=J_ h (gc (qaN (by decide) hk) (show 10 ^ 2000<=2 ^ 9000 by decide +kernel))
end
section
open PySem.NumText
structure jt(n:Nat)(f:bJ):Prop where
 low:cM f=f
 pos:1<=f.2
 HP:f.1.natAbs<10 ^ n
 JO:f.2.natAbs<10 ^ n
theorem jt.mono(h:jt n f)(hm:n<=m):jt m f :=
 #[h.low,h.pos,J_ h.HP (qaN (by decide) hm),J_ h.JO (qaN (by decide) hm)]
noncomputable def qz(f:bJ):w_:=(if f.1<0 then(⟨#[45]⟩:w_)else⟨#[]⟩)++sI (f.1.natAbs:Int)
noncomputable def Ke(f:bJ):w_:=if f.2>1 then(⟨#[47]⟩:w_)++sI f.2 else⟨#[]⟩
noncomputable def sW(f:bJ):w_:=qz f++Ke f
theorem qQ(f:bJ):(qz f).cps.toList=(if f.1<0 then [45]else [])++(sI (f.1.natAbs:Int)).cps.toList:=by
 unfold qz;rw[cH];split<;>rfl
theorem vG(hc:c<45\/c=46\/c=47\/57<c):c∉(qz f).cps.toList:=by
 rw[qQ,S_];rintro(z|z)
 ·split at z
  ·rw[u_]at z;omega
  ·cases z
 ·exact yK (qcS _) (by omega) z
noncomputable def Ia(f:bJ):List w_:=if f.2>1 then [sI f.2]else []
theorem HQ(h:jt n f):Txt.split (sW f) ⟨#[47]⟩=qz f::Ia f:=by
 unfold sW Ke Ia;split
 ·have e:qz f++((⟨#[47]⟩:w_)++sI f.2)=qbx ⟨#[47]⟩ [qz f,sI f.2]:=uA (by
   rw[fJ,cH,cH];rfl)
  rw[e];refine gX (by simp) λr hr=>?_;rcases B_.mp hr with rfl|hr
  ·exact vG (by omega)
  ·rw[u_.mp hr];exact yK (by have:=h.pos;omega) (by omega)
 ·have e:qz f++(⟨#[]⟩:w_)=qbx ⟨#[47]⟩ [qz f]:=uA (by rw[fJ,cH];simp[Aj]);rw[e];refine gX (by simp) λr hr=>?_;rw[u_.mp hr];exact vG (by omega)
theorem CH(x:w_)(c:Nat):Txt.startswith x ⟨#[c]⟩=decide (x.cps.toList[0]? =some c):=by
 unfold Txt.startswith;have z:=StrLaws.subAt_one x c 0;rw[qa6,N_,decide_eq_true_eq,decide_eq_true_eq];exact z
theorem K4{n:Int}(h:0<=n):bU λc r=>(sI n).cps.toList=c::r/\48<=c/\c<=57:=by
 obtain⟨m,rfl,_⟩:=uL h;have hd:=uM m;have hl:1<=(sI (m:Int)).cps.toList.length:=by
  rw[g9,e_];exact zb0 10 m
 cases e:(sI (m:Int)).cps.toList with
 |nil=>rw[e]at hl;exact absurd hl (by decide)
 |cons c r=>exact#[c,r,Y,hd c (by rw[e];exact r_)]
theorem FG(f:bJ):Txt.startswith (sW f) ⟨#[45]⟩=decide (f.1<0):=by
 unfold sW;rw[CH,cH,qQ];by_cases hn:f.1<0
 ·rw[if_pos hn,decide_eq_true hn];rfl
 ·rw[if_neg hn,decide_eq_false hn];obtain⟨c,r,e,h1,h2⟩:=K4 (n:=(f.1.natAbs:Int)) (qcS _);rw[e];refine decide_eq_false λz=>?_;have z':some c=some 45:=z;injection z' with z';omega
theorem LN(hn:f.1<0):Txt.slice (qz f) (some 1) none=sI (f.1.natAbs:Int):=by
 refine uA ?_;have hl:(qz f).cps.toList=45::(sI (f.1.natAbs:Int)).cps.toList:=by rw[qQ,if_pos hn];rfl
 have hz:(1:Int)<=((qz f).cps.size:Int):=by
  have:(qz f).cps.toList.length=(sI (f.1.natAbs:Int)).cps.toList.length+1:=by rw[hl];rfl
  rw[k_]at this;omega
 rw[AS (by decide) hz,hl];rfl
theorem LL(hn:¬f.1<0):qz f=sI (f.1.natAbs:Int):=by
 refine uA ?_;rw[qQ,if_neg hn];rfl
noncomputable def Wi(c:Nat):Bool:=decide (48<=c)&&decide (c<=57)
theorem R3(c:Nat):decide (c∈(p_ "0123456789").cps.toList)=Wi c:=by
 unfold Wi;rw[qa6,N_,decide_eq_true_eq,decide_eq_true_eq,decide_eq_true_eq];show c∈[48,49,50,51,52,53,54,55,56,57]↔_;simp only[B_,R_,or_false];omega
theorem HR{m:Nat}(h:m<10 ^ 60):PySem.intText? (sI (m:Int))=some (m:Int)/\(sI (m:Int)).length<=640:=by
 obtain⟨l1,l2⟩:=pZ (by decide) h;have h4:(sI (m:Int)).length<=60:=l2;have e:=intText_digits (uM m) (λz=>by
  have e:(sI (m:Int)).cps.toList.length=0:=by rw[z];rfl
  rw[k_]at e;omega) (by omega)
 rw[NV]at e;exact#[e,by omega]
theorem yJ{n:Int}{k:Nat}(hk:k<=500)(h:n.natAbs<10 ^ k):n.natAbs.log2<1920:=by
 rcases Nat.eq_zero_or_pos n.natAbs with h0|hp
 ·rw[h0];decide
 ·exact(Nat.log2_lt (by omega)).mpr (J_ h (gc (qaN (by decide) hk) (show 10 ^ 500<=2 ^ 1920 by decide +kernel)))
theorem uJ(hn:0<n)(h:jt n f):(if f.1<0 then(⟨#[45]⟩:w_)else⟨#[]⟩).length<=1/\(sI (f.1.natAbs:Int)).length<=n/\(sI f.2).length<=n:=by
 refine#[by split<;>decide,(pZ hn h.HP).2,?_];obtain⟨m,e,es⟩:=uL (n:=f.2) (by have:=h.pos;omega);have hm:m<10 ^ n:=by have:=h.JO;rw[e]at this;simpa using this
 rw[es];exact(pZ hn hm).2
theorem pY(hn:0<n)(h:jt n f):(qz f).cps.size<=1+n/\(sW f).cps.size<=2+2*n:=by
 obtain⟨a,b,c⟩:=uJ hn h
 have a':(if f.1<0 then(⟨#[45]⟩:w_)else⟨#[]⟩).cps.size<=1:=a
 have b':(sI (f.1.natAbs:Int)).cps.size<=n:=b;have c':(sI f.2).cps.size<=n:=c;have d:(Ke f).cps.size<=1+n:=by
  unfold Ke;split
  ·rw[cG];exact qcH c' 1
  ·exact O_ _
 have e:(qz f).cps.size<=1+n:=by
  unfold qz;rw[cG];omega
 refine#[e,?_];unfold sW;rw[cG];omega
theorem yI(h:jt n f)(hc:c<45\/c=46\/57<c):c∉(sW f).cps.toList:=by
 unfold sW;rw[cH,S_];rintro(z|z)
 ·exact vG (by omega) z
 ·unfold Ke at z;split at z
  ·rw[cH,S_]at z;rcases z with z|z
   ·have:c=47:=by simpa using z
    omega
   ·exact yK (by have:=h.pos;omega) (by omega) z
  ·cases z
theorem NT(h:f.2=1):sI f.1=sW f:=by
 unfold sW Ke qz;rw[if_neg (show ¬f.2>1 by omega),←uK f.1];exact uA (by rw[cH];simp)
theorem K3(h0:1<=f.2)(h:¬f.2=1):(sI f.1++(⟨#[47]⟩:w_))++sI f.2=sW f:=by
 unfold sW Ke qz;rw[if_pos (show f.2>1 by omega),←uK f.1];exact uA (by simp only[cH,qat])
def NI(K:zaa):Sp:=λvs H Q _=>bU λ(p:l_) (f:bJ)=>vs=[.ref p]/\gI K H p f/\0<f.2/\Bg f.2 ∧
 ∀q,H q=none->Q (.ref q) (L2.upd H q (.tup [.int (cM f).1,.int (cM f).2]))
def Qw:Sp:=λvs H Q _=>∃n:Int,vs=[.int n]/\0<=n/\n.natAbs<10 ^ 120/\∀H',aj H H'->Q (.str (sI n)) H'
def Qx(K:zaa):Sp:=λvs H Q _=>bU λ(p:l_) (f:bJ)=>vs=[.ref p]/\gI K H p f/\jt 120 f/\∀H',aj H H'->Q (.str (sW f)) H'
def Qz(K:zaa):Sp:=λvs H Q _=>bU λ(p:l_) (f:bJ)=>vs=[.ref p]/\gI K H p f/\jt 120 f/\Q (.str (sW f)) H
def NO:Sp:=λvs H Q _=>∃m:Nat,vs=[.str (sI (m:Int))]/\m<10 ^ 60/\∀H',aj H H'->Q (.bl true) H'
def Kz(K:zaa):Sp:=λvs H Q _=>∃f:bJ,vs=[.str (sW f)]/\jt 60 f/\∀q H',aj H H'->H q=none->H' q=some (.tup [.int f.1,.int f.2])->Q (.ref q) H'
noncomputable abbrev jb(rs:List w_):w_:=qbx ⟨#[32]⟩ rs
noncomputable def oS(sg:w_)(rows:List (List bJ))(fo fm:bJ):List w_:=sg::(rows.map (λr=>jb (r.map sW))++[jb [sW fo,sW fm]])
def Kw:Sp:=λvs H Q _=>∃x:w_,vs=[.str x]/\mE x/\∀H',aj H H'->Q (.str x) H'
def HA(K:zaa):Sp:=λvs H Q _=>mZ λ(l:l_) (rs:List w_) (i:Nat) (fs:List bJ)=>vs=[.ref l,.int i,.int fs.length]/\bq K H l (rs.map V.str)/\rs[i]? =some (jb (fs.map sW))/\fs≠[]/\fs.length<=12/\(∀f∈fs,jt 60 f)/\rs.length<=100 ∧
 ∀q ps H',aj H H'->H q=none->H' q=some (.lst (ps.map V.ref))->Paired (λp f=>H' p=some (.tup [.int f.1,.int f.2])) ps fs->Q (.ref q) H'
structure Tab(sg:w_)(R:List (List bJ))(fo fm:bJ):Prop where
 sig:mE sg
 sm:sg.cps.size<=12
 AL:GF sg.cps.size R
 ok:∀r∈R,∀f∈r,jt 60 f/\f.2<1073741824
 yV:jt 60 fo/\fo.2<1073741824
 yW:jt 60 fm/\fm.2<1073741824
 WK:(aC fo.2 fm.2 R).natAbs<=10 ^ 54
def Ky(K:zaa)(C:l_):Sp:=λvs H Q _=>mZ λ(sg:w_) (R:List (List bJ)) (fo fm:bJ)=>vs=[.str (jn (oS sg R fo fm))]/\Tab sg R fo fm/\∀x H',aj H H'->H x=none->dI K C H' x sg R fo fm->Q (.ref x) H'
def Qv(K:zaa)(C:l_):Sp:=λvs H Q _=>tW λ(x:l_) (sg:w_) (R:List (List bJ)) (fo fm:bJ)=>vs=[.ref x]/\dI K C H x sg R fo fm/\Tab sg R fo fm/\∀H',aj H H'->Q (.str (jn (oS sg R fo fm))) H'
structure Mq(rs:List w_):Prop where
 ne:rs≠[]
 sg:∀r∈rs,∀c∈r.cps.toList,dS c=true
 len:rs.length<=8
 bz:∀r∈rs,r.cps.size<=7
def CL:Sp:=λvs H Q _=>∃rs:List w_,vs=[.str (jn rs)]/\Mq rs/\∀l H',aj H H'->H l=none->H' l=some (.lst (rs.map V.str))->Q (.ref l) H'
theorem DJ{fs:List bJ}(h:∀f∈fs,jt 60 f)(hl:fs.length<=12):(jb (fs.map sW)).cps.size<=2000:=by
 rw[←k_,fJ];have h1:=uc 32 ((fs.map sW).map λr=>r.cps.toList);have h2:=yu 122 (((fs.map sW).map λr=>r.cps.toList).map qaR) λx hx=>by
  rw[U_,U_]at hx;obtain⟨f,hf,rfl⟩:=z_.mp hx;show(sW f).cps.toList.length<=122;rw[k_];exact(pY (by decide) (h f hf)).2
 rw[e_,e_,e_]at h2;rw[e_,e_]at h1;have h3:fs.length*122<=12*122:=qaO _ hl;omega
theorem ID(hne:fs≠[])(h:∀f∈fs,jt 60 f):Txt.split (jb (fs.map sW)) ⟨#[32]⟩=fs.map sW:=gX (by simpa using hne) λr hr=>by
 obtain⟨f,hf,rfl⟩:=z_.mp hr;exact yI (h f hf) (by omega)
section
variable{sg:w_}{R:List (List bJ)}{fo fm:bJ}
theorem Nj(h:R[j]? =some r):(oS sg R fo fm)[j+1]? =some (jb (r.map sW)):=by
 have hj:=(m_.mp h).1;show(R.map (λr=>jb (r.map sW))++[jb [sW fo,sW fm]])[j]? =_;rw[qad (by rw[e_];exact hj),j_,h];rfl
theorem JZ:(oS sg R fo fm)[R.length+1]? =some (jb [sW fo,sW fm]):=by
 show(R.map (λr=>jb (r.map sW))++[jb [sW fo,sW fm]])[R.length]? =_;rw[qab (by rw[e_];exact i_ _),e_,qbP];rfl
theorem mJ:(oS sg R fo fm).length=R.length+2:=by
 unfold oS;rw[Q_,t_,e_];rfl
theorem yG(h:dS c=true):32<=c/\c<=126:=by
 unfold dS at h;rw[N_,N_,decide_eq_true_eq,decide_eq_true_eq]at h;omega
theorem BB:∀{p:List (List Nat)} {x:Nat},x∈Aj c p->x=c\/∃a∈p,x∈a
 |[],_,h=>by cases h
 |[a],_,h=>.inr #[a,u_.mpr rfl,h]
 |a::b::r,x,h=>by
  rcases S_.mp (show x∈a++c::Aj c (b::r) from h)with h|h
  ·exact .inr #[a,r_,h]
  ·rcases B_.mp h with h|h
   ·exact .inl h
   ·rcases BB h with h|⟨d,hd,h⟩
    ·exact .inl h
    ·exact .inr #[d,s_ _ hd,h]
theorem EF{fs:List bJ}(h:∀f∈fs,jt 60 f):10∉(jb (fs.map sW)).cps.toList:=λz=>by
 rw[fJ]at z;rcases BB z with z|⟨a,ha,z⟩
 ·omega
 ·obtain⟨p,hp,rfl⟩:=z_.mp ha;obtain⟨f,hf,rfl⟩:=z_.mp hp;exact yI (h f hf) (by omega) z
theorem Tab.two(T:Tab sg R fo fm):∀f∈[fo,fm],jt 60 f:=λf hf=>by
 rcases B_.mp hf with rfl|hf
 ·exact T.yV.1
 ·rw[u_.mp hf];exact T.yW.1
theorem Tab.row(T:Tab sg R fo fm):∀z∈oS sg R fo fm,10∉z.cps.toList/\z.cps.size<=2000:=by
 intro z hz;unfold oS at hz;rcases B_.mp hz with rfl|hz
 ·exact#[λh=>by have:=yG (T.sig.2.2.1 10 h);omega,by have:=T.sm;omega]
 rcases S_.mp hz with hz|hz
 ·obtain⟨r,hr,rfl⟩:=z_.mp hz;have h:=λf hf=>(T.ok r hr f hf).1;exact#[EF h,DJ h (by rw[T.AL.2 r hr];exact T.sm)]
 ·rw[u_.mp hz];exact#[EF (fs:=[fo,fm]) T.two,DJ (fs:=[fo,fm]) T.two (by show 2<=12;decide)]
theorem Tab.split(T:Tab sg R fo fm):Txt.split (jn (oS sg R fo fm)) ⟨#[10]⟩=oS sg R fo fm/\(jn (oS sg R fo fm)).length<=200000:=by
 refine#[gX (qcD _ _) λr hr=>(T.row r hr).1,?_];show(jn (oS sg R fo fm)).cps.size<=_;rw[←k_,fJ];have h1:=uc 10 ((oS sg R fo fm).map λr=>r.cps.toList);have h2:=yu 2000 (((oS sg R fo fm).map λr=>r.cps.toList).map qaR) λx hx=>by
  rw[U_]at hx;obtain⟨r,hr,rfl⟩:=z_.mp hx;show r.cps.toList.length<=2000;rw[k_];exact(T.row r hr).2
 rw[e_,e_,mJ,T.AL.1]at h2;rw[e_,mJ,T.AL.1]at h1;have h3:(sg.cps.size+2)*2000<=14*2000:=qaO _ (by have:=T.sm;omega);have h4:=T.sm;omega
end
theorem jt.UL(h:jt 60 f)(h2:f.2<1073741824):P5 f:=#[#[h.pos,h2],J_ h.HP (by decide +kernel)]
theorem Tab.nE{sg:w_}(T:Tab sg R fo fm):GP.nE R=R:=by
 unfold GP.nE
 conv=>rhs;rw[←List.map_id R]
 refine qa1 λr hr=>?_
 conv=>rhs;rw[show id r=r from rfl,←List.map_id r]
 exact qa1 λf hf=>(T.ok r hr f hf).1.low
def JH(f:bJ):Prop:=Wy f/\f.1.natAbs<10 ^ 60
theorem AV(h1: -(10 ^ 40)<=c)(h2:c<=10 ^ 40):Sm c/\c.natAbs<10 ^ 60:=#[JD h1 h2,o_ (show c.natAbs<=10 ^ 40 by omega) (by decide +kernel)]
theorem FH(e:Int):Sm (e % ((10:Int) ^ (40:Int).toNat)-5*(10:Int) ^ (39:Int).toNat)/\(e % ((10:Int) ^ (40:Int).toNat)-5*(10:Int) ^ (39:Int).toNat).natAbs<10 ^ 60:=by
 have e1:(10:Int) ^ (40:Int).toNat=10000000000000000000000000000000000000000:=by decide
 have e2:(10:Int) ^ (39:Int).toNat=1000000000000000000000000000000000000000:=by decide
 rw[e1,e2];have h1:=qap e (show(10000000000000000000000000000000000000000:Int)≠0 by decide);have h2:=qaf e (show(0:Int)<10000000000000000000000000000000000000000 by decide);exact AV (by omega) (by omega)
def KO(K:zaa):Sp:=λvs H Q _=>mZ λ(s t:l_) (ns:List Int) (k:Int)=>vs=[.ref s,.ref t]/\tX K H s t ns k/\k<=100000 ∧
 ∀(f:bJ) (q:l_) (H':Hp),JH f->aj (L2.upd H t (.lst [.int (k+1)])) H'->H q=none->H' q=some (.tup [.int f.1,.int f.2])->Q (.ref q) H'
def Fw(K:zaa)(C:l_):Sp:=λvs H Q _=>Mm λ(s t:l_) (ns:List Int) (k:Int) (sg:w_) (b:Bool)=>vs=[.ref s,.ref t,.str sg,.bl b]/\tX K H s t ns k/\k<=80000/\mE sg/\sg.cps.size<=4 ∧
 ∀x H' k' rows fo fm,Pn rows->Tab sg rows fo fm->dI K C (Wo t H') x sg rows fo fm->H x=none->aj (Wo t H) (Wo t H')->H' t=some (.lst [.int k'])->k<=k'->k'<=k+200->Q (.ref x) H'
theorem JH.low(h:JH f):jt 60 (cM f)/\(cM f).2<1073741824:=by
 obtain⟨⟨h1,h2,_⟩,h4⟩:=h;have h0:0<f.2:=by omega
 have p:0<(cM f).2:=oi f.1 h0;have l:(cM f).2<=f.2:=lo_le f.1 h0;exact#[#[BA h0,by omega,o_ (iM _ _) h4,o_ (show _<=999 by omega) (by decide +kernel)],by omega]
theorem JH.T9(h:JH f):(cM f).2.natAbs<=1000:=by
 have h0:=h.1.1;have h1:=h.1.2.1;have p:0<(cM f).2:=oi f.1 (by omega);have l:(cM f).2<=f.2:=lo_le f.1 (by omega);omega
theorem ES(B:Nat):∀(l:List Int) (u:Int),(∀b∈l,b.natAbs<=B)->(l.foldl lm u).natAbs<=u.natAbs*B ^ l.length
 |[],u,_=>by simp
 |b::l,u,h=>by
  refine gc (ES B l _ λc hc=>h c (s_ _ hc)) ?_;rw[Q_,Nat.pow_succ,Nat.mul_comm (B ^ l.length),←Nat.mul_assoc];exact qaO _ (gc (zG _ _) (Nat.mul_le_mul_left _ (h b r_)))
theorem tab_of {sg:w_}(h1:mE sg)(h2:sg.cps.size<=4)(h3:GF sg.cps.size R)(h4:∀r∈R,∀f∈r,JH f)(h5:JH fo)(h6:JH fm):Tab sg (nE R) (cM fo) (cM fm):=by
 have hq:GF sg.cps.size (GP.nE R):=by
  refine#[by unfold GP.nE;rw[e_];exact h3.1,λr hr=>?_];obtain⟨r0,hr0,rfl⟩:=z_.mp hr;rw[e_];exact h3.2 r0 hr0
 refine#[h1,by omega,hq,λr hr f hf=>?_,h5.low,h6.low,?_]
 ·obtain⟨r0,hr0,rfl⟩:=z_.mp hr;obtain⟨f0,VP,rfl⟩:=z_.mp hf;exact(h4 r0 hr0 f0 VP).low
 ·have a:=ES 1000 ((GP.nE R).flatten.map (·.2)) (lm (cM fo).2 (cM fm).2) λb hb=>by
   obtain⟨f,hf,rfl⟩:=z_.mp hb;obtain⟨r,hr,hfr⟩:=qb2.mp hf;obtain⟨r0,hr0,rfl⟩:=z_.mp hr;obtain⟨f0,VP,rfl⟩:=z_.mp hfr;exact(h4 r0 hr0 f0 VP).T9
  have b:(lm (cM fo).2 (cM fm).2).natAbs<=1000*1000:=gc (zG _ _) (qaK h5.T9 h6.T9);have c:((GP.nE R).flatten.map (·.2)).length<=16:=by
   rw[e_,qS hq.2,hq.1];exact gc (qaK h2 h2) (by decide)
  exact gc a (gc (qaK b (qaN (by decide) c)) (by decide))
theorem yE:∀{n:Nat},(∀i,i<n->(f i).natAbs<=M)->(sm f n).natAbs<=n*M
 | 0,_=>O_ _
 |n+1,h=>by
  have a:=yE λi hi=>h i (qcr hi);have b:=h n (qa8 n);show(sm f n+f n).natAbs<=_;rw[qcW];exact gc (Int.natAbs_add_le _ _) (qbE a b)
theorem Mj(h:∀a b,(tc a b).natAbs<=M)(R:List w_):(dh tc R).natAbs<=bz R*(R.length*(R.length*M)) :=
 yE λk _=>yE λr hr=>gc (yE λi _=>h _ _) (qaO _ (qa5 hr))
theorem Tab.tc{sg:w_}(T:Tab sg R fo fm)(a b:Nat):(gC sg R fo fm a b).natAbs<=10 ^ 60*10 ^ 54:=by
 have one:∀{f:bJ},jt 60 f->(f.1*(aC fo.2 fm.2 R / f.2)).natAbs<=10 ^ 60*10 ^ 54:=λ{f} h=>by
  rw[Int.natAbs_mul];exact qaK (qa5 h.HP) (gc (iM _ _) T.WK)
 unfold gC;split
 ·exact O_ _
 ·split
  ·exact one T.yW.1
  ·unfold jc;split
   ·rename_i f e
    obtain⟨r,e1,e2⟩:=Option.bind_eq_some_iff.mp e;exact one (T.ok r (h_ e1) f (h_ e2)).1
   ·exact O_ _
theorem Tab.cost{sg:w_}(T:Tab sg R fo fm)(hu:0<aC fo.2 fm.2 R)(hw:bz rs<=40)(hl:rs.length<=8):jt 120 (cM (dh (gC sg R fo fm) rs,aC fo.2 fm.2 R)):=by
 have a:=Mj T.tc rs;have b:bz rs*(rs.length*(rs.length*(10 ^ 60*10 ^ 54)))<=40*(8*(8*(10 ^ 60*10 ^ 54))):=qaK hw (qaK hl (qaO _ hl));have p:=oi (dh (gC sg R fo fm) rs) hu;have l:=lo_le (dh (gC sg R fo fm) rs) hu;have l':(cM (dh (gC sg R fo fm) rs,aC fo.2 fm.2 R)).2.natAbs<=(aC fo.2 fm.2 R).natAbs:=by
  have l2:(cM (dh (gC sg R fo fm) rs,aC fo.2 fm.2 R)).2<=aC fo.2 fm.2 R:=l;have p2:0<(cM (dh (gC sg R fo fm) rs,aC fo.2 fm.2 R)).2:=p;omega
 exact#[BA hu,p,o_ (gc (iM _ _) (gc a b)) (by decide +kernel),o_ (gc l' T.WK) (by decide +kernel)]
theorem Mq.split(h:Mq rs):Txt.split (jn rs) ⟨#[10]⟩=rs/\(jn rs).length<=200000:=by
 refine#[gX h.ne λr hr z=>by have:=yG (h.sg r hr 10 z);omega,?_];have:=tH.jn (rs:=rs) #[gc h.len (by decide),λr hr=>gc (h.bz r hr) (by decide)];omega
end
section
def q9(H:Hp):Nat->V->Prop
 | 0,v=>v= .int 0
 |n+1,v=>bU λa u=>v= .ref a/\H a=some (.tup [u,.int ((n+1:Nat):Int)])/\q9 H n u
theorem q9.same(e:aj H H'):∀{n:Nat} {v:V},q9 H n v->q9 H' n v
 | 0,_,h=>h
 |_+1,_,⟨a,u,h1,h2,h3⟩=>#[a,u,h1,e _ _ h2,q9.same e h3]
noncomputable def vV:Nat->List V
 | 0=>[.int 0]
 |n+1=>.dX:: .int ((n+1:Nat):Int)::vV n
theorem t7:∀n,(vV n).length=2*n+1
 | 0=>rfl
 |n+1=>by show(vV n).length+2=_;rw[t7 n];omega
def Hu:Sp:=λvs H Q _=>∃k:Int,vs=[.int k]/\Q (.bl true) H
def KA:Sp:=λvs H Q _=>∃v,vs=[v]/\((∃k,v= .int k/\Q (.bl false) H)\/iG λa x y=>v= .ref a/\H a=some (.tup [x,y])/\Q (.bl true) H)
def KS:Sp:=λvs H Q _=>tW λ(k:Int) (n:Nat) (d:l_) (kvs:List (Key×V)) (seen:List Int)=>vs=[.int k,.int n,.ref d]/\H d=some (.dK kvs)/\vU kvs seen/\0<=k/\k<(n:Int)/\k∉seen/\Q .dX H
def Kr:Sp:=λvs H Q _=>bU λ(v:V) (n:Nat)=>vs=[v,.int ((n+1:Nat):Int)]/\q9 H n v/\n<=100/\∀l H',aj H H'->H l=none->H' l=some (.lst (vV n).reverse)->Q (.ref l) H'
def Ko:Sp:=λvs H Q _=>∃n:Nat,vs=[.int ((n+1:Nat):Int)]/\n<=100/\∀v H',aj H H'->q9 H' n v->Q v H'
inductive oN(T:PB)(rs:List w_):Nat->List w_->Prop
 |one {r:w_} (h:rs[0]? =some r):oN T rs 0 [r]
 |more {n:Nat} {R R':List w_} {r:w_} (h:oN T rs n R) (hr:rs[n+1]? =some r) (j:Jn T R [r] R'):oN T rs (n+1) R'
theorem oN.uniq:∀{n:Nat} {R S:List w_},oN T rs n R->oN T rs n S->R=S
 |_,_,_,.one h,.one h'=>by rw[h]at h';cases h';rfl
 |_,_,_,.more a h j,.more a' h' j'=>by
  obtain rfl:=oN.uniq a a';rw[h]at h';cases h';exact Jn.uniq j j'
noncomputable def gy(n:Nat):List Int:=(H_ (n+1)).map λi:Nat=>(i:Int)
theorem Bt(n:Nat):gy (n+1)=gy n++[((n+1:Nat):Int)]:=by
 unfold gy;rw[qbe,E_];rfl
theorem oN.ok(hs:mE T.1)(hr:∀r∈rs,Of T.1 r/\r.cps.size<=mx):∀{n:Nat} {R:List w_},oN T rs n R->qw T.1 R (n+1) (mx*(n+1))/\R.map (aO 45)=rs.take (n+1)
 |_,_,.one h=>by
  obtain⟨h1,h2⟩:=hr _ (h_ h);refine#[by rw[qc3,Nat.mul_one];exact yU hs h1 h2,?_];rw[take_snoc h,List.take_zero];show [aO 45 _]=[_];rw[xH λz=>Ol hs (h1 45 z)]
 |_,_,.more (n:=n) a h j=>by
  obtain⟨b,e⟩:=oN.ok hs hr a;obtain⟨h1,h2⟩:=hr _ (h_ h);have o:=yU hs h1 h2;refine#[by rw[Nat.mul_succ mx];exact j.ok b o,?_];rw[j.signs b o,E_,e,take_snoc h];congr 1;show [aO 45 _]=[_];rw[xH λz=>Ol hs (h1 45 z)]
def KG(K:zaa)(C CB CS:l_):Sp:=λvs H Q E=>GS λ(x:l_) (T:PB) (v tv:V) (rs:List w_) (n mx:Nat)=>vs=[.ref x,v,tv]/\dI K C H x T.1 T.2.1 T.2.2.1 T.2.2.2/\Rw K H v rs/\rs.length=n+1/\n<=7/\(∀r∈rs,r.cps.size<=mx)/\mx<=7/\mx*(n+1)<=40/\q9 H n tv ∧
 ((∀r∈rs,Of T.1 r)->∀(bb:l_) (R:List w_) (H':Hp),aj H H'->oN T rs n R->kL K CB H' bb R->Q (.ref bb) H') ∧
 (∀i j,sR T.1 rs i j->∀dx H',aj H H'->H' dx=some (xw dx (zT i j))->E (.ref CS) (some dx) H')
theorem EB:∀{n i:Nat} {y:V},(vV n).reverse[i]? =some y->(i=0/\y= .int 0)\/(∃j,i=2*j+1/\j<n/\y= .int ((j+1:Nat):Int))\/∃j,i=2*j+2/\j<n/\y= .dX
 | 0,0,_,h=>by cases h;exact .inl #[Y,Y]
 | 0,i+1,_,h=>by cases h
 |n+1,i,y,h=>by
  rw[show(vV (n+1)).reverse=(vV n).reverse++[.int ((n+1:Nat):Int),.dX] by simp[vV]]at h;have hl:(vV n).reverse.length=2*n+1:=by rw[qbX,t7]
  by_cases z:i<(vV n).reverse.length
  ·rw[qad z]at h;rcases EB h with h|⟨j,h1,h2,h3⟩|⟨j,h1,h2,h3⟩
   ·exact .inl h
   ·exact .inr (.inl #[j,h1,by omega,h3])
   ·exact .inr (.inr #[j,h1,by omega,h3])
  ·rw[qab (by omega),hl]at h;obtain⟨k,hk⟩:∃k,i=2*n+1+k:=#[i-(2*n+1),by omega];rw[hk,Nat.add_sub_cancel_left]at h
   match k,h,hk with
   | 0,h,hk=>cases h;exact .inr (.inl #[n,by omega,by omega,Y])
   | 1,h,hk=>cases h;exact .inr (.inr #[n,by omega,by omega,Y])
theorem F3(n:Nat):(gy n).Pairwise (·<·):=List.pairwise_map.mpr (List.Pairwise.imp (λh=>Int.ofNat_lt.mpr h) List.pairwise_lt_range)
def TU(K:zaa)(CB:l_)(T:PB)(rs:List w_)(H:Hp)(i:Nat)(ps:List V):Prop:=(i=0/\ps=[])\/(iG λj p R=>i=2*j+1/\ps=[.ref p]/\nH K CB H p R (gy j)/\oN T rs j R) ∨
 tW λj p R q r=>i=2*j+2/\ps=[.ref p,.ref q]/\nH K CB H p R (gy j)/\oN T rs j R/\rs[j+1]? =some r/\nH K CB H q [r] [((j+1:Nat):Int)]
theorem TU.refs(h:TU K CB T rs H i ps):(∀u∈ps,∃a,u=V.ref a)/\ps.length<=2:=by
 rcases h with⟨_,rfl⟩|⟨_,p,_,_,rfl,_⟩|⟨_,p,_,q,_,_,rfl,_⟩
 ·exact#[(λu hu=>nomatch hu),by decide]
 ·exact#[λu hu=>#[p,u_.mp hu],by show 1<=2;decide]
 ·refine#[λu hu=>?_,by show 2<=2;decide];rcases B_.mp hu with rfl|hu
  ·exact#[p,Y]
  ·exact#[q,u_.mp hu]
theorem Ln(n:Nat):gy n≠[]:=λz=>by
 have:=congrArg qaR z;unfold gy at this;rw[e_,X_]at this;cases this
end
section
open PySem.NumText
structure Ms(T:rj)(rs:List w_)(n mx:Nat):Prop where
 tab:Tab T.1 T.2.1 T.2.2.1 T.2.2.2
 tx:Mq rs
 len:rs.length=n+1
 few:mx*(n+1)<=40
 le:mx<=7
 bz:∀r∈rs,r.cps.size<=mx
 sym:bN T.2.1->Sym T
section
variable{T:rj}{rs:List w_}{n mx:Nat}{R:List w_}
theorem Ms.n7(h:Ms T rs n mx):n<=7:=by
 have:=h.len;have:=h.tx.len;omega
theorem Hq:∀{rs:List w_},(∀r∈rs,r.cps.size<=mx)->(rs.map λr=>(r.cps.size:Int)).sum<=((mx*rs.length:Nat):Int)
 |[],_=>by simp
 |r::rs,h=>by
  have a:=Hq λq hq=>h q (s_ r hq);have b:=h r r_;rw[qag,qa_,Q_,Nat.mul_succ];omega
theorem Ms.gd(h:Ms T rs n mx)(hk:∀r∈rs,Of T.1 r)(ly:oN T rs n R):yq T R/\R.map (aO 45)=rs:=by
 obtain⟨b,e⟩:=ly.ok h.tab.sig λr hr=>#[hk r hr,h.bz r hr];rw[Y_ (qb8 h.len)]at e;have:=h.n7;refine#[#[b.bk,b.kn,by rw[b.len];omega,?_],e];have e2:(R.map λr=>((aO 45 r).cps.size:Int))=(R.map (aO 45)).map λr=>(r.cps.size:Int):=by rw[U_];rfl
 rw[e2,e];have a:=Hq h.bz;rw[h.len]at a;have:=h.few;omega
end
noncomputable def wZ(T:rj)(R:List w_):w_:=(sW (cM (lF T R,aC T.2.2.1.2 T.2.2.2.2 T.2.1))++(⟨#[10]⟩:w_))++jn R
def q8(T:rj)(rs:List w_)(n:Nat)(m:Int)(R:List w_):Prop:=bU λR1 ss=>oN T rs n R1/\nG T R1 ss R/\(ss.length:Int)<=m/\((ss.length:Int)<m->Na T R)/\yq T R
def RY(T:rj)(rs:List w_)(m:Int)(CS CP CM:l_)(H:Hp)(E:XK):Prop:=(∀i j,sR T.1 rs i j->∀dx H',aj H H'->H' dx=some (xw dx (zT i j))->E (.ref CS) (some dx) H') ∧
 ((∀r∈rs,Of T.1 r)->¬bN T.2.1->∀H',aj H H'->E (.ref CP) none H')/\((∀r∈rs,Of T.1 r)->bN T.2.1->m<0->∀H',aj H H'->E (.ref CM) none H')
def NH(CS CP CM:l_):Sp:=λvs H Q E=>tW λ(T:rj) (rs:List w_) (n mx:Nat) (m:Int)=>vs=[.str (jn (oS T.1 T.2.1 T.2.2.1 T.2.2.2)),.str (jn rs),.int m]/\Ms T rs n mx/\m<=1000 ∧
 ((∀r∈rs,Of T.1 r)->bN T.2.1->0<=m->∀R H',aj H H'->q8 T rs n m R->Q (.str (wZ T R)) H')/\RY T rs m CS CP CM H E
end
end GP
namespace L2
open PySem PySem.Spec PyProof.Rows
section
variable{X:Cx}
def TV(H:Hp)(x y:V):Prop:=tW λ(p q:l_) (s:w_) (a b:V)=>x= .ref p/\y= .ref q/\H p=some (.tup [.str s,a])/\H q=some (.tup [.str s,b]) ∧
 ((∃t,a= .str t/\b= .str t)\/mZ λc d i j=>a= .ref c/\b= .ref d/\H c=some (.tup [.int i,.int j])/\H d=some (.tup [.int i,.int j]))
theorem eq_str(hu:RelV (.str x) u)(hv:RelV (.str x) v):qbS A s u v true:=by
 obtain⟨a,rfl⟩:=hu;obtain⟨b,rfl⟩:=hv;have z:=SeqAt.EqAt.str_str (A:=A) (s:=s) x a x b
 rwa [beq_self_eq_true]at z
theorem eq_int(hu:RelV (.int x) u)(hv:RelV (.int x) v):qbS A s u v true:=by
 obtain⟨a,rfl⟩:=hu;obtain⟨b,rfl⟩:=hv;have z:=SeqAt.EqAt.int_int (A:=A) (s:=s) x a x b
 rwa [beq_self_eq_true]at z
theorem HN{σ:St}{A:qaP}(I:Inv X pins σ H s)(hu:A.units+1<cLine)
  (h:(∃t,a= .str t/\b= .str t)\/mZ λc d i j=>a= .ref c/\b= .ref d/\H c=some (.tup [.int i,.int j])/\H d=some (.tup [.int i,.int j])) (ru:RelV a u) (rv:RelV b v):qbS A.in1 s u v true:=by
 rcases h with⟨t,rfl,rfl⟩|⟨c,d,i,j,rfl,rfl,hc,hd⟩
 ·exact eq_str ru rv
 ·cases (show u=Value.ref c from ru);cases (show v=Value.ref d from rv);refine LZ I hu hc hd Y λn x y u v ex ey ru rv=>?_;rw[ex]at ey;cases ey
  match n,ex with
  | 0,ex=>cases ex;exact eq_int ru rv
  | 1,ex=>cases ex;exact eq_int ru rv
theorem HM(r1:Vals [.str w,a] us)(r2:Vals [.str w,b] vs)(h:∀u v,RelV a u->RelV b v->qbS A s u v true):
  ∀j (h1:j<us.toArray.size) (h2:j<vs.toArray.size),qbS A s us.toArray[j] vs.toArray[j] true:=by
 cases r1 with
 |cons a1 r1 =>
 cases r1 with
 |cons a2 r1 =>
 cases r1
 cases r2 with
 |cons b1 r2 =>
 cases r2 with
 |cons b2 r2 =>
 cases r2;intro j h1 h2
 match j,h1,h2 with
 | 0,_,_=>exact eq_str a1 b1
 | 1,_,_=>exact h _ _ a2 b2
 |j+2,h1,_=>exact absurd h1 (by simp)
theorem Lg(hu:X.A.units+1<cLine):jW X (compareOp .Eq) (λx y H Q=>TV H x y/\Q (.bl true) H):=by
 intro pins s σ H x y v u Q I rx ry ⟨h,k⟩;obtain⟨p,q,w,a,b,rfl,rfl,hp,hq,hab⟩:=h;cases rx;cases ry;obtain⟨us,r1,t1,_⟩:=I.tuple (bV.of (K:=X.K) hp);obtain⟨vs,r2,t2,_⟩:=I.tuple (bV.of (K:=X.K) hq);refine SeqAt.RcAt.tuples (A:=X.A) (s:=s) (e:=λ_=>true) t1 t2 (by omega) (HM r1 r2 λ_ _ ru rv=>HN I hu hab ru rv) X.prog X.w X.xe _ #[.bl true,H,I,?_,k];rw[y_,y_,←r1.length,←r2.length];rfl
theorem Le(hu:X.A.units+1<cLine):jW X (compareOp .NotEq) (λx y H Q=>TV H x y/\Q (.bl false) H):=by
 intro pins s σ H x y v u Q I rx ry ⟨h,k⟩;obtain⟨p,q,w,a,b,rfl,rfl,hp,hq,hab⟩:=h;cases rx;cases ry;obtain⟨us,r1,t1,_⟩:=I.tuple (bV.of (K:=X.K) hp);obtain⟨vs,r2,t2,_⟩:=I.tuple (bV.of (K:=X.K) hq);refine SeqAt.RcNeAt.tuples (A:=X.A) (s:=s) (e:=λ_=>true) t1 t2 (by omega) (HM r1 r2 λ_ _ ru rv=>HN I hu hab ru rv) X.prog X.w X.xe _ #[.bl false,H,I,?_,k];rw[y_,y_,←r1.length,←r2.length];rfl
theorem Ld(hu:X.A.units<cLine):jW X (compareOp .NotEq) (λx y H Q=>∃t:w_,y= .str t/\((∃z:w_,x= .str z/\Q (.bl (!decide (V.str z=V.str t))) H)\/bU λp xs=>x= .ref p/\bV X.K H p xs/\Q (.bl true) H)):=by
 intro pins s σ H x y v u Q I rx ry h;obtain⟨t,rfl,⟨z,rfl,k⟩|⟨p,xs,rfl,hp,k⟩⟩:=h
 ·exact nj pins s σ H _ _ v u Q I rx ry #[Y,k]
 ·cases rx;obtain⟨t',rfl⟩:=ry;obtain⟨us,r1,t1,_⟩:=I.tuple hp;exact SeqAt.RcNeAt.tuple_str _ _ t1 hu X.prog X.w X.xe _ #[.bl true,H,I,Y,k]
end
end L2
namespace GP
open PySem L2 eV PySem.NumText
def JG(T:rj)(rs:List w_)(n:Nat)(m:Int)(H:Hp)(q:l_):Prop :=
 (∃R,(∀r∈rs,Of T.1 r)/\bN T.2.1/\0<=m/\q8 T rs n m R/\H q=some (.tup [.str "told",.str (wZ T R)])) ∨
 (iG λ(i j:Nat) (a:l_)=>sR T.1 rs i j/\H q=some (.tup [.str "sign",.ref a])/\H a=some (.tup [.int i,.int j])) ∨
 ((∀r∈rs,Of T.1 r)/\¬bN T.2.1/\H q=some (.tup [.str "prices",.str ""])) ∨
 ((∀r∈rs,Of T.1 r)/\bN T.2.1/\m<0/\H q=some (.tup [.str "most",.str ""]))
def Kq:Sp:=λvs H Q _=>tW λ(T:rj) (rs:List w_) (n mx:Nat) (m:Int)=>vs=[.str (jn (oS T.1 T.2.1 T.2.2.1 T.2.2.2)),.str (jn rs),.int m]/\Ms T rs n mx/\m<=1000 ∧
 ∀q H',aj H H'->JG T rs n m H' q->Q (.ref q) H'
theorem q8.uniq(h:q8 T rs n m R)(h':q8 T rs n m S):R=S:=by
 obtain⟨R1,ss,a,b,c,d,_⟩:=h;obtain⟨S1,ts,a',b',c',d',_⟩:=h';obtain rfl:=a.uniq a';exact(nG.same (n:=m.toNat) b b' (by omega) (by omega) (λz=>d (by omega)) (λz=>d' (by omega))).2
theorem JG.same(h:JG T rs n m H q)(e:aj H H'):JG T rs n m H' q:=by
 rcases h with⟨R,a,b,c,d,f⟩|⟨i,j,a,b,c,d⟩|⟨a,b,c⟩|⟨a,b,c,d⟩
 ·exact .inl #[R,a,b,c,d,e _ _ f]
 ·exact .inr (.inl #[i,j,a,b,e _ _ c,e _ _ d])
 ·exact .inr (.inr (.inl #[a,b,e _ _ c]))
 ·exact .inr (.inr (.inr #[a,b,c,e _ _ d]))
theorem JG.sm(h:JG T rs n m H p)(h':JG T rs n m H q):TV H (.ref p) (.ref q):=by
 rcases h with⟨R,a,b,c,d,f⟩|⟨i,j,a,b,c,d⟩|⟨a,b,c⟩|⟨a,b,c,d⟩
 ·rcases h' with⟨R',a',b',c',d',f'⟩|⟨i',j',a',b',c',d'⟩|⟨a',b',c'⟩|⟨a',b',c',d'⟩
  ·rw[←d.uniq d']at f';exact#[p,q,_,_,_,Y,Y,f,f',.inl #[_,Y,Y]]
  ·exact absurd a b'.no
  ·exact absurd b b'
  ·omega
 ·rcases h' with⟨R',a',b',c',d',f'⟩|⟨i',j',a',b',c',d'⟩|⟨a',b',c'⟩|⟨a',b',c',d'⟩
  ·exact absurd a' b.no
  ·obtain⟨rfl,rfl⟩:=b.uniq b';exact#[p,q,_,_,_,Y,Y,c,c',.inr #[_,_,_,_,Y,Y,d,d']]
  ·exact absurd a' b.no
  ·exact absurd a' b.no
 ·rcases h' with⟨R',a',b',c',d',f'⟩|⟨i',j',a',b',c',d'⟩|⟨a',b',c'⟩|⟨a',b',c',d'⟩
  ·exact absurd b' b
  ·exact absurd a b'.no
  ·exact#[p,q,_,_,_,Y,Y,c,c',.inl #[_,Y,Y]]
  ·exact absurd b' b
 ·rcases h' with⟨R',a',b',c',d',f'⟩|⟨i',j',a',b',c',d'⟩|⟨a',b',c'⟩|⟨a',b',c',d'⟩
  ·omega
  ·exact absurd a b'.no
  ·exact absurd b b'
  ·exact#[p,q,_,_,_,Y,Y,d,d',.inl #[_,Y,Y]]
end GP
namespace L2
open PySem PySem.Spec PyProof.Rows
theorem Q4{val:Nat->Int}{c:Int}:∀i,(∀j,j<i->val j=c)->firstMet val i=G_ (min i 1) c
 | 0,_=>rfl
 |i+1,h=>by
  rw[firstMet_succ,Q4 i (λj hj=>h j (qcr hj)),h i (qa8 _)]
  cases i with
  |zero=>rfl
  |succ i=>rw[show min (i+1) 1=1 by omega,show min (i+1+1) 1=1 by omega];simp[qcQ]
theorem IF{c:Int}:∀{ys:List V} {its:List n_},Vals ys its->(∀y∈ys,y= .int c)->IntsAre its (G_ its.length c)
 |_,_,.nil,_=>.nil
 |_,_,.cons r t,h=>by
  rw[h _ r_]at r;obtain⟨k,rfl⟩:=r;exact .cons c k (IF t λy hy=>h y (s_ _ hy))
noncomputable def QF(P:qal)(w:qaG)(a:l_)(n:Nat):HO:=.ext λh=>∃S,h.SetOf (intKind P w) a S n
section
variable{X:Cx}
theorem Gz(hc:X.calm=true):g7 X (.type "set") (λxs H Q=>iG λ(l:l_) (ys:List V) (c:Int)=>xs=[.ref l]/\bq X.K H l ys/\(∀y∈ys,y= .int c)/\ys.length+1<scanBound/\∀p,H p=none->Q (.ref p) (upd H p (QF X.prog X.w p (min ys.length 1)))):=by
 intro pins s σ H xs us Q I r h;obtain⟨l,ys,c,rfl,hl,hy,hb,q⟩:=h;obtain⟨u,rfl,ru⟩:=vals1 r;cases ru;obtain⟨its,r1,pl,_⟩:=I.list hl;refine TK.bP (i_ s.toks) (call_set_list (I.ok.hd hc) pl.isList (IF r1 hy) (by rw[y_,←r1.length];exact hb) λh' tk hS kk hup=>?_);rw[show firstMet (λi=>(G_ its.toArray.toList.length c).getD i 0) its.toArray.size=G_ (min its.length 1) c from Q4 its.length λj hj=>by simp[hj],qaz]at hS;have hn:H s.heap.objs.size=none:=I.fresh;have k:∀b o,s.heap.get? b=some o->h'.get? b=some o:=λb o e=>kk b o (C_ e) e;have q':=q _ hn;rw[r1.length]at q';refine#[.ref s.heap.objs.size,_,I.laid (t':=tk) k (i_ _) ?_,Y,q'];refine#[#[_,hS],?_,λh1 h2 p e=>?_]
 ·obtain⟨o,_,_,_,ho,_⟩:=hS;exact#[o,ho]
 ·obtain⟨S,o,es,ep,t,ho,rest⟩:=p;exact#[S,o,es,ep,t,e o ho,rest]
theorem wX:g7 X (.builtin "len") (λxs H Q=>bU λp n=>xs=[.ref p]/\H p=some (QF X.prog X.w p n)/\Q (.int (n:Nat)) H):=by
 intro pins s σ H xs us Q I r h;obtain⟨p,n,rfl,hp,q⟩:=h;obtain⟨u,rfl,ru⟩:=vals1 r;cases ru;obtain⟨⟨S,o,es,ep,t,ho,hex,hd,_,_,hz,hf,hn⟩,_⟩:=I.hok p _ hp;subst hn;have:es.size<4096:=hz;exact call_len_set ho hex hd hf (by omega) #[.int es.size,H,I.tok _,#[_,Y],q]
end
end L2
namespace GP
open PySem L2 eV
section
open PySem.NumText
theorem Jj(a:V)(xs:List V):lA (a::xs) (some 1) none=xs:=by
 unfold lA HT.iS;simp
theorem nG.le(h:nG T R ss R'):lF T R'<=lF T R:=by
 induction h with
 |nil=>exact Int.le_refl _
 |cons a _ ih=>have:=a.2.2.1;omega
def NP(K:zaa)(C:l_):Sp:=λvs H Q _=>mZ λ(x l:l_) (T:rj) (R:List w_)=>vs=[.ref x,.ref l]/\dI K C H x T.1 T.2.1 T.2.2.1 T.2.2.2/\H l=some (.lst (R.map V.str))/\yq T R/\Na T R/\∀H',aj H H'->Q (.bl true) H'
def KP(K:zaa)(C:l_):Sp:=λvs H Q _=>Pe λ(x l:l_) (T:rj) (rs:List w_) (n mx:Nat) (m:Int) (R:List w_)=>vs=[.ref x,.ref l,.int m,.str (wZ T R)]/\dI K C H x T.1 T.2.1 T.2.2.1 T.2.2.2/\H l=some (.lst (rs.map V.str))/\Ms T rs n mx/\(∀r∈rs,Of T.1 r)/\bN T.2.1/\0<=m/\m<=1000/\q8 T rs n m R/\∀H',aj H H'->Q (.bl true) H'
theorem join_cons(a:w_)(h:R≠[]):qbx ⟨#[c]⟩ (a::R)=(a++(⟨#[c]⟩:w_))++qbx ⟨#[c]⟩ R:=by
 cases R with
 |nil=>exact absurd Y h
 |cons b R =>
  refine uA ?_;rw[fJ,cH,cH,fJ];show a.cps.toList++c::Aj c ((b::R).map λr=>r.cps.toList)=_;simp
theorem yq.txt(h:yq T R)(hs:mE T.1)(hf:jt n f):Txt.split ((sW f++(⟨#[10]⟩:w_))++jn R) ⟨#[10]⟩=sW f::R:=by
 rw[←join_cons _ (aV.mp (aL h.bk)).1];refine gX (qcD _ _) λr hr=>?_;rcases B_.mp hr with rfl|hr
 ·exact yI hf (by omega)
 ·intro z;rcases fu.mp (h.kn r hr 10 z)with z|z
  ·omega
  ·have:=yG (hs.2.2.1 10 z);omega
def Hx(K:zaa):Sp:=λvs H Q _=>GS λ(s t:l_) (ns:List Int) (k:Int) (sg:w_) (n m:Nat)=>vs=[.ref s,.ref t,.str sg,.int n,.int m]/\tX K H s t ns k/\k<=60000/\n<=10/\m<=10/\0<sg.cps.size/\sg.cps.size<=100 ∧
 ∀(l:l_) (rs:List w_) (H':Hp) (k':Int),rs.length=n->(∀r∈rs,Of sg r/\r.cps.size<=m)->aj (Wo t H) (Wo t H')->H' t=some (.lst [.int k'])->k<=k'->k'<=k+200->H' l=some (.lst (rs.map V.str))->H l=none->Q (.ref l) H'
def Hz(K:zaa):Sp:=λvs H Q _=>mZ λ(s t:l_) (ns:List Int) (k:Int)=>vs=[.ref s,.ref t]/\tX K H s t ns k/\k<=50000 ∧
 ∀(k':Int) (H':Hp),aj (Wo t H) (Wo t H')->H' t=some (.lst [.int k'])->k<=k'->k'<=k+3000->Q (.bl true) H'
def JL(T:rj)(m:Int)(H:Hp)(v:V):Prop:=(v= .str "" /\0<=m/\bN T.2.1)\/(∃q,v= .ref q/\bN T.2.1/\m<0/\H q=some (.tup [.str "most",.str ""]))\/∃q,v= .ref q/\¬bN T.2.1/\H q=some (.tup [.str "prices",.str ""])
def JM(T:rj)(rs:List w_)(m:Int)(H:Hp)(v:V):Prop:=((∀r∈rs,Of T.1 r)/\JL T m H v)\/mZ λ(i j:Nat) (q a:l_)=>sR T.1 rs i j/\v= .ref q/\H q=some (.tup [.str "sign",.ref a])/\H a=some (.tup [.int i,.int j])
theorem JL.same(h:JL T m H v)(e:aj H H'):JL T m H' v:=by
 rcases h with h|⟨q,a,b,c,d⟩|⟨q,a,b,c⟩
 ·exact .inl h
 ·exact .inr (.inl #[q,a,b,c,e _ _ d])
 ·exact .inr (.inr #[q,a,b,e _ _ c])
theorem JM.same(h:JM T rs m H v)(e:aj H H'):JM T rs m H' v:=by
 rcases h with⟨a,b⟩|⟨i,j,q,a,b,c,d,f⟩
 ·exact .inl #[a,b.same e]
 ·exact .inr #[i,j,q,a,b,c,e _ _ d,e _ _ f]
theorem JG.due(h:JG T rs n m H q)(d:JM T rs m H v):(v= .str "" /\∃R,(∀r∈rs,Of T.1 r)/\bN T.2.1/\0<=m/\q8 T rs n m R/\H q=some (.tup [.str "told",.str (wZ T R)]))\/((bU λp xs=>v= .ref p/\H p=some (.tup xs))/\TV H (.ref q) v):=by
 rcases d with⟨hk,⟨rfl,m0,bw⟩|⟨p,rfl,bw,m0,hp⟩|⟨p,rfl,nb,hp⟩⟩|⟨i,j,p,a,hb,rfl,hp,ha⟩
 ·rcases h with⟨R,h⟩|⟨i,j,a,hb,_⟩|⟨_,nb,_⟩|⟨_,_,m1,_⟩
  ·exact .inl #[Y,R,h]
  ·exact absurd hk hb.no
  ·exact absurd bw nb
  ·omega
 ·exact .inr #[#[p,_,Y,hp],h.sm (.inr (.inr (.inr #[hk,bw,m0,hp])))]
 ·exact .inr #[#[p,_,Y,hp],h.sm (.inr (.inr (.inl #[hk,nb,hp])))]
 ·exact .inr #[#[p,_,Y,hp],h.sm (.inr (.inl #[i,j,a,hb,hp,ha]))]
theorem K8{sg:w_}{rs:List w_}(hrs:∀q∈rs,Of sg q)(hr:rs[r]? =some row)(hk:k<=row.cps.size)(ho:o.cps.toList=row.cps.toList.take k++c::row.cps.toList.drop k)(hc:c∉sg.cps.toList):sR sg (rs.set r o) r k:=by
 have hlt:=(m_.mp hr).1;have wQ:=hrs row (h_ hr);have hl:(row.cps.toList.take k).length=k:=by rw[W_,k_];omega
 refine#[#[o,c,qb7 hlt,?_,hc,λj d hj hd=>?_],λm q hm hq=>?_]
 ·rw[←P_,ho,qab (by omega),hl,qbP];rfl
 ·rw[←P_,ho,qad (by omega)]at hd;exact wQ d (qbo (h_ hd))
 ·rw[qcv (by omega)]at hq;exact hrs q (h_ hq)
end
section
open PySem.NumText
def CQ(K:zaa):Sp:=λvs H Q _=>bU λ(v:V) (rs:List w_)=>vs=[v]/\Rw K H v rs/\tH rs/\bI rs=true/\∀H',aj H H'->Q .dX H'
def AO(K:zaa)(C:l_):Sp:=λvs H Q _=>mZ λ(b dx:l_) (v:V) (rs:List w_)=>vs=[.ref b,v]/\H b=some (.ins C dx [])/\Rw K H v rs/\tH rs/\bI rs=true ∧
 ∀H',(∀a u,H a=some u->a≠b->H' a=some u)->kL K C H' b rs->Q .dX H'
theorem xQ{K:zaa}{C:l_}{H:Hp}{v:V}{rs:List w_}{R:l_->Hp->Prop}{E:XK}(hR:Rw K H v rs)(hS:tH rs)(hb:bI rs=true)(k:∀o H',aj H H'->H o=none->kL K C H' o rs->R o H'):
  ∀o dx,H o=none->H dx=none->dx≠o->AO K C [.ref o,v] (upd (upd H dx (.own o)) o (.ins C dx [])) (λv H2=>v= .dX/\R o H2) E:=λo dx ho hdx _=>by
 have s:aj H (upd (upd H dx (.own o)) o (.ins C dx [])):=aj.at (aj.upd hdx) ho;exact#[o,dx,v,rs,Y,ai,hR.same s,hS,hb,λH8 q1 q2=>#[Y,k o H8 (λc u hc=>q1 _ _ (s _ _ hc) (λz=>by rw[z,ho]at hc;cases hc)) ho q2]]
def NB(K:zaa)(C:l_):Sp:=λvs H Q _=>iG λ(b:l_) (n:Nat) (rs:List w_)=>vs=[.ref b,.int n]/\kL K C H b rs/\n<rs.length/\Q .dX H
def KY(K:zaa)(C:l_):Sp:=λvs H Q _=>mZ λ(b:l_) (n:Nat) (rs:List w_) (r:w_)=>vs=[.ref b,.int n]/\kL K C H b rs/\tH rs/\rs[n]? =some r/\Q (.str (aO 45 r)) H
def HK(K:zaa)(C:l_):Sp:=λvs H Q _=>∃x:w_,vs=[.str x]/\x.cps.size<=1000/\bI [x]=true/\∀b H',aj H H'->H b=none->kL K C H' b [x]->Q (.ref b) H'
def CI(K:zaa)(C:l_):Sp:=λvs H Q _=>iG λ(b:l_) (n:Nat) (rs:List w_)=>vs=[.ref b,.int n]/\kL K C H b rs/\tH rs/\bz rs<=100/\bI rs=true/\n<rs.length/\rs.length≠1 ∧
 ∀b' H',aj H H'->H b'=none->kL K C H' b' (packed (rs.eraseIdx n))->Q (.ref b') H'
def Kv(K:zaa)(C CB CJ:l_):Sp:=λvs H Q _=>M6 λ(x b:l_) (n:Nat) (sg:w_) (rows:List (List bJ)) (fo fm:bJ) (rs:List w_) (y:w_)=>vs=[.ref x,.ref b,.int n]/\dI K C H x sg rows fo fm/\kL K CB H b rs/\Cr rs/\bI rs=true/\(∀r∈rs,Of (nJ sg) r)/\rs[n]? =some y/\rs.length≠1 ∧
 ∀jn H',aj H H'->JK CJ H' jn (aA y) (aB rs n) 1 (packed (rs.eraseIdx n)).length (jc sg rows (aC fo.2 fm.2 rows)) (jv rows fo fm)->Q (.ref jn) H'
def KZ(K:zaa)(C CB:l_):Sp:=λvs H Q _=>M6 λ(x b:l_) (n:Nat) (sg:w_) (rows:List (List bJ)) (fo fm:bJ) (rs:List w_) (y:w_)=>vs=[.ref x,.ref b,.int n]/\dI K C H x sg rows fo fm/\kL K CB H b rs/\Cr rs/\bI rs=true/\(∀r∈rs,Of (nJ sg) r)/\rs[n]? =some y/\rs.length≠1 ∧
 ∀b' H' cs,aj H H'->H b'=none->aF sg rows fo fm rs n y cs->kL K CB H' b' (Eb rs n y cs)->Q (.ref b') H'
def AN(K:zaa)(C CB CJ:l_):Sp:=λvs H Q _=>Sf λ(jn dx x o1 o2:l_) (sg:w_) (rows:List (List bJ)) (fo fm:bJ) (r1 r2:List w_)=>vs=[.ref jn,.ref x,.ref o1,.ref o2]/\H jn=some (.ins CJ dx [])/\dI K C H x sg rows fo fm/\kL K CB H o1 r1/\kL K CB H o2 r2/\Cr r1/\Cr r2/\bI r1=true/\bI r2=true/\(∀r∈r1++r2,Of (nJ sg) r) ∧
 ∀H',(∀a u,H a=some u->a≠jn->H' a=some u)->JK CJ H' jn (cols r1 (bz r1)) (cols r2 (bz r2)) r1.length r2.length (jc sg rows (aC fo.2 fm.2 rows)) (jv rows fo fm)->Q .dX H'
theorem Q3{K:zaa}{C CB CJ x o1 o2:l_}{H:Hp}{sg:w_}{rows:List (List bJ)}{fo fm:bJ}{r1 r2:List w_}{R:l_->Hp->Prop}{E:XK}(hP:dI K C H x sg rows fo fm)(h1:kL K CB H o1 r1)(h2:kL K CB H o2 r2)(m1:Cr r1)(m2:Cr r2)(b1:bI r1=true)(b2:bI r2=true)(hO:∀r∈r1++r2,Of (nJ sg) r)
  (k:∀o H',aj H H'->JK CJ H' o (cols r1 (bz r1)) (cols r2 (bz r2)) r1.length r2.length (jc sg rows (aC fo.2 fm.2 rows)) (jv rows fo fm)->R o H') :
  ∀o dx,H o=none->H dx=none->dx≠o->AN K C CB CJ [.ref o,.ref x,.ref o1,.ref o2] (upd (upd H dx (.own o)) o (.ins CJ dx [])) (λv H2=>v= .dX/\R o H2) E:=λo dx ho hdx _=>by
 have s:aj H (upd (upd H dx (.own o)) o (.ins CJ dx [])):=aj.at (aj.upd hdx) ho;exact#[o,dx,x,o1,o2,sg,rows,fo,fm,r1,r2,Y,ai,hP.same s,h1.same s,h2.same s,m1,m2,b1,b2,hO,λH8 q1 q2=>#[Y,k o H8 (λc u hc=>q1 _ _ (s _ _ hc) (λz=>by rw[z,ho]at hc;cases hc)) q2]]
def CU(K:zaa)(C:l_):Sp:=λvs H Q _=>GS λ(x:l_) (sg:w_) (rows:List (List bJ)) (fo fm:bJ) (v:V) (rs:List w_)=>vs=[.ref x,v]/\dI K C H x sg rows fo fm/\Rw K H v rs/\tH rs/\(∀r∈rs,Of (nJ sg) r)/\∀H',aj H H'->Q .dX H'
def CV(K:zaa)(C CB:l_):Sp:=λvs H Q _=>mZ λ(x b:l_) (T:rj) (rs:List w_)=>vs=[.ref x,.ref b]/\dI K C H x T.1 T.2.1 T.2.2.1 T.2.2.2/\kL K CB H b rs/\tH rs/\gB rs=true/\(∀r∈rs,Of (nJ T.1) r) ∧
 ∀q H',aj H H'->H q=none->H' q=some (.tup [.int (cM (lF T rs,aC T.2.2.1.2 T.2.2.2.2 T.2.1)).1,.int (cM (lF T rs,aC T.2.2.1.2 T.2.2.2.2 T.2.1)).2])->Q (.ref q) H'
def Je(T:rj)(CP CM:l_)(m:Int)(H:Hp)(E:XK):Prop:=(¬bN T.2.1->∀H',aj H H'->E (.ref CP) none H')/\(bN T.2.1->m<0->∀H',aj H H'->E (.ref CM) none H')
def KU(K:zaa)(C CB CP CM:l_):Sp:=λvs H Q E=>tW λ(x b:l_) (m:Int) (T:rj) (R:List w_)=>vs=[.ref x,.ref b,.int m]/\dI K C H x T.1 T.2.1 T.2.2.1 T.2.2.2/\kL K CB H b R/\tH R/\(∀r∈R,Of (nJ T.1) r) ∧
 (bN T.2.1->0<=m->∀H',aj H H'->Q .dX H')/\Je T CP CM m H E
def Fx(K:zaa)(C CB CP CM:l_):Sp:=λvs H Q E=>tW λ(x b:l_) (m:Int) (T:rj) (R:List w_)=>vs=[.ref x,.ref b,.int m]/\dI K C H x T.1 T.2.1 T.2.2.1 T.2.2.2/\kL K CB H b R/\yq T R/\m<=1000 ∧
 (bN T.2.1->0<=m->Sym T/\∀(q bb l:l_) (R':List w_) (ss:List (Nat×Int)) (vs:List V) (H':Hp),aj H H'->nG T R ss R'->(ss.length:Int)<=m->((ss.length:Int)<m->Na T R')->yq T R' →
  H' q=some (.tup [.ref bb,.ref l])->kL K CB H' bb R'->H' l=some (.lst vs)->vs.length=ss.length->Q (.ref q) H')/\Je T CP CM m H E
end
section
open PyProof.Rows
noncomputable def fA(mg:w_->Option n_)(x:w_):l_:=match mg x with
 |some (.ref f)=>f
 |_=>0
noncomputable def fD(K:zaa)(f:l_):qce:=match K.lookup f with
 |some ⟨_,_,.func d,_⟩=>d
 |_=>default
structure Ca(P:qal)(w:qaG)(K:zaa)(mg:w_->Option n_)(base:qaE)(n:Nat)(C:Ei)(k:Nat)(M:Prop)(f:l_)(x y:w_)(s:qcU)(ps:List w_)(sp:Sp):Prop where
 d:Dm K x y s ps f (fD K f)
 m:M
 g:k<=n->nI P w K mg base C k f (fD K f) ps sp
abbrev Sx(P:qal)(w:qaG)(K:zaa)(mg:w_->Option n_)(base:qaE)(n:Nat)(C:Ei)(k:Nat)(x y:w_)(s:qcU)(ps:List w_)(sp:Sp):Prop:=Ca P w K mg base n C k (mg x=some (.ref (fA mg x))) (fA mg x) y y s ps sp
abbrev Cl(P:qal)(w:qaG)(K:zaa)(mg:w_->Option n_)(base:qaE)(n:Nat)(C:Ei)(k:Nat)(x:w_)(s:qcU)(ps:List w_)(sp:Sp):Prop:=Sx P w K mg base n C k x x s ps sp
section
variable{P:qal}{w:qaG}{K:zaa}{mg:w_->Option n_}{base:qaE}{n j k:Nat}{C:Ei}{x y:w_}{s:qcU}{ps:List w_}{sp:Sp}{M:Prop}{f:l_}
abbrev Ca.Ok(_:Ca P w K mg base n C k M f x y s ps sp):Prop:=nI P w K mg base C k f (fD K f) ps sp
theorem Ca.up(a:Ca P w K mg base j C k M f x y s ps sp)(h:k<=n->a.Ok):Ca P w K mg base n C k M f x y s ps sp:=#[a.d,a.m,h]
theorem Ca.nv(a:Ca P w K mg base n (vY P w) k M f x y s ps sp):Ca P w K mg base n cZ k M f x y s ps (nv sp):=#[a.d,a.m,λh=>(a.g h).nv]
theorem Ca.dP(c:Ca P w K mg base n cZ (k+1) M f x y s ps sp)(N:List w_)
  (hb:∀{cdv:n_} {A:qaP} {outer:List Env} {s':v_} (H:Hp) (vs:List V) (Q:VK) (E:XK),g8 k (A.deeper (envOfC y (cj s) s'.heap.objs.size f cdv))->sp vs H Q E->N.Nodup →
   let X:=(qm cZ P w K mg base N y (cj s) f cdv A outer s' H E).Pz;∃t,xh X (gq s) t/\t { nx:=λ_ H'=>Q .dX H',rt:=Q } (start N vs) H)
  (S:m7 N ps (cj s):=by exact X7) (len:∀vs H Q E,sp vs H Q E->vs.length=ps.length:=by intro _ _ _ _ h;cases h;rename_i h;cases h.1;rfl):c.Ok:=c.d.fn.ok S len λ_ _ _ _ H vs Q E hr h=>hb H vs Q E hr h S.nd
theorem Ca.Lk(c:Ca P w K mg base n (vY P w) (k+1) M f x y s ps sp)(N:List w_)
  (hb:∀{cdv:n_} {A:qaP} {outer:List Env} {s':v_} (H:Hp) (vs:List V) (Q:VK) (E:XK),g8 k (A.deeper (envOfC y (cj s) s'.heap.objs.size f cdv))->sp vs H Q E->N.Nodup →
   let X:=qm (vY P w) P w K mg base N y (cj s) f cdv A outer s' H E;∃t,xh X (gq s) t/\t { nx:=λ_ H'=>Q .dX H',rt:=Q } (start N vs) H)
  (S:m7 N ps (cj s):=by exact X7) (len:∀vs H Q E,sp vs H Q E->vs.length=ps.length:=by intro _ _ _ _ h;cases h;rename_i h;cases h.1;rfl):c.Ok:=c.d.fn.Lk S len λ_ _ _ _ H vs Q E hr h=>hb H vs Q E hr h S.nd
end
theorem aD{X:Cx}{n k:Nat}{x y:w_}{s:qcU}{ps:List w_}{sp:Sp}{e:Expr}{es:List Expr}{t:TA}{p pos:qc5}(c:Sx X.prog X.w X.K X.mg X.base n cZ k x y s ps sp)(hr:g8 n X.A)(ha:PA X (e::es) t)(hg:Gl X x:=by exact Y)(hn:k<=n:=by decide)
  (hdb:(x==("__debug__" :w_))=false:=by decide) (he:qaa (e::es) X.env=(false,eval e X.env)::qaa es X.env:=by rfl) (hpl:(backTo pos (qaa es X.env)).any (·.1)=false:=by rfl):PE X (.Call (.Name x p) (e::es) [] pos) (Mx sp [] E0 t):=oX (c.g hn) (hr.mono hn) hg c.m c.d.fn.kp c.d.b .nil MD ha hdb he hpl
theorem lg{X:Cx}{n k:Nat}{C f:l_}{x y z:w_}{s:qcU}{ps:List w_}{sp:Sp}{e:Expr}{es:List Expr}{t:TA}{p pos:qc5}(c:Ca X.prog X.w X.K X.mg X.base n cZ k (Mk X.K C f) f z y s ps sp)(hr:g8 n X.A)(hm:X.mg x=some (.ref C))(ha:PA X (e::es) t)(hg:Gl X x:=by exact Y)(hn:k+1<=n:=by decide)
  (hdb:(x==("__debug__" :w_))=false:=by decide) (he:qaa (e::es) X.env=(false,eval e X.env)::qaa es X.env:=by rfl) (hpl:(backTo pos (qaa es X.env)).any (·.1)=false:=by rfl):PE X (.Call (.Name x p) (e::es) [] pos) (Mw C sp [] E0 t):=K9 c.m (c.g (Nat.le_of_succ_le hn)) (hr.mono hn) hg hm c.d.b .nil MD ha hdb he hpl
theorem D0{X:Cx}{sc:qcT}{N:List w_}(k:sc.kind= .function:=by rfl)(a:∀x∈sc.names,x.2≠ .free:=by decide +kernel)(b:∀y∈sc.names,y.2= .cell->(y.1,qak)∉sc.names:=by decide +kernel)(c:∀y∈sc.names,y.2= .local->sc.names.lookup y.1=some .local:=by decide +kernel)(_:X.Ok):∃cl,eT X sc cl N (λ_=>G_ N.length none):=#[[],eT.plain a k b c]
theorem DZ{X:Cx}{sc:qcT}{N:List w_}(nt:Nat)(ix:List Nat)(k:sc.kind= .function:=by rfl)(b:∀y∈sc.names,y.2= .cell->(y.1,qak)∉sc.names:=by decide +kernel)(c:∀y∈sc.names,y.2= .local->sc.names.lookup y.1=some .local:=by decide +kernel)(hf:L2.EO sc X=true:=by kernel_rfl)(hl:N.length=nt+ix.length:=by rfl)(hx:Xm sc X N nt ix=true:=by kernel_rfl)(ok:X.Ok):∃cl,eT X sc cl N (Qu nt ix):=eT.EO k b c hf hl hx ok
theorem pM{X:Cx}{x:w_}{pos:qc5}(N:List w_)(i:Nat)(d:N.Nodup:=by decide +kernel)(e:X.N=N:=by rfl)(hi:X.N[i]? =some x:=by rfl)(hx:Loc X.env.scope x:=by exact Or.inl Y)(hf:X.fn x=true\/X.env.scope.names.lookup x=some .local:=by first|exact .inl rfl|exact .inr rfl|assumption):PG X (.Name x pos) (BI i):=aY (by rw[e];exact d) hi hx hf
theorem xS{x y:w_}{v u:V}{fs:List (w_×V)}(h:fs.lookup x=some v)(d:x≠y:=by decide +kernel):(aQ y u fs).lookup x=some v:=qO h d
section
variable{P:qal}{w:qaG}{K:zaa}{mg:w_->Option n_}{base h:qaE}{k:Nat}{C:Ei}{x y:w_}{s:qcU}{ps:List w_}{sp:Sp}{M:Prop}{f:l_}{oc kV dc pm cd ct:n_}{od an:Option l_}{sl:Array (Option n_)}
theorem Ju(m:M)(l:K.lookup f=some #[oc,od,.func (zaj x y (jG s) (gq s) (cj s) .none kV dc pm an cd ct),sl])(c:zaw K cd y=true)(kp:zap K (.ref f)=true)
  (b:∀(kV doc pm:n_) (an:Option l_) (cdv ct:n_) (us:List n_),us.length=ps.length->bindArgs (zaj x y (jG s) (gq s) (cj s) .none kV doc pm an cdv ct) #[us,[]]=pure (ps.zip us)):Ca P w K mg base 0 C (k+1) M f x y s ps sp:=by
 refine#[?_,m,λz=>absurd z (Nat.not_succ_le_zero k)];rw[show fD K f=zaj x y (jG s) (gq s) (cj s) .none kV dc pm an cd ct by unfold fD;rw[l]];exact#[IZ l c kp,(IZ l c kp).binds b]
theorem R6(X:K.In h)(G:h.Ns qa7 mg)(a:za6 K qa7 x=some (some (.ref f)))(l:K.lookup f=some #[oc,od,.func (zaj y y (jG s) (gq s) (cj s) .none kV dc pm an cd ct),sl])(c:zaw K cd y=true)(kp:zap K (.ref f)=true)
  (b:∀(kV doc pm:n_) (an:Option l_) (cdv ct:n_) (us:List n_),us.length=ps.length->bindArgs (zaj y y (jG s) (gq s) (cj s) .none kV doc pm an cdv ct) #[us,[]]=pure (ps.zip us)):Sx P w K mg base 0 C (k+1) x y s ps sp:=by
 have m:=PySem.W.mg_of X G a;obtain rfl:f=fA mg x:=by unfold fA;rw[m]
 exact Ju m l c kp b
end
end
end GP
set_option Elab.async false
set_option linter.all false
set_option maxRecDepth 100000
set_option maxHeartbeats 4000000
seal PySem.wpAny
namespace Pq
open PySem L2 eV GP PySem.NumText
noncomputable def top(i:Nat):qcU:=PySem.Challenge.pw_gapweave_k91_whole_many.main.body.getD i (.Pass #[0,0,0,0])
noncomputable abbrev l6:List w_:=["text"]
noncomputable abbrev l7:List w_:=["column"]
noncomputable abbrev l8:List w_:=["block","row"]
noncomputable abbrev l9:List w_:=["prices","one","other"]
noncomputable abbrev PK:List w_:=["_law_row"]
noncomputable abbrev Rg:List w_:=["prices","block"]
noncomputable abbrev Rf:List w_:=["prices","block","row"]
noncomputable abbrev S4:List w_:=["prices","rows"]
noncomputable abbrev S3:List w_:=["_law_price_here"]
noncomputable abbrev S2:List w_:=["one","prices","other"]
noncomputable abbrev U3:List w_:=["_law_script","_law_at"]
noncomputable abbrev U1:List w_:=["_law_prices_here","_law_one","_law_other"]
noncomputable abbrev U0:List w_:=["prices","block","most"]
noncomputable abbrev UZ:List w_:=["one","thing","prices"]
noncomputable abbrev Xh:List w_:=["self","signs","pairs","opening","more"]
noncomputable abbrev Xg:List w_:=["_law_k","_law_some","_law_m","_law_turn"]
noncomputable abbrev Xf:List w_:=["_law_one","_law_script","_law_at","_law_signs_here"]
noncomputable abbrev Xe:List w_:=["_law_other","_law_script","_law_at"]
structure Pm where
 yt:Tok
 AJ:Tok
 qv:l_
 gT:l_
 fW:l_
 fV:l_
 fU:l_
 Qh:Tok
 CC:Tok
 Fq:Tok
 Nm:Tok
 uy:Tok
 Fp:Tok
 ux:Tok
 aG:l_
 bF:l_
 aJ:l_
 gx:l_
 bX:l_
 dG:l_
 bR:l_
 BS:l_
 BU:l_
 EU:l_
 x9:l_
structure Txt(K:zaa)(mg:w_->Option n_)(p:Pm)(w:qaG):Prop where
 z_abs:mg "abs" =none
 bB:mg "len" =none
 z_ord:mg "ord" =none
 GY:mg "set" =none
 oR:mg "tuple" =none
 As:mg "zip" =none
 fT:mg "enumerate" =none
 dH:mg "range" =none
 dN:mg "isinstance" =none
 Av:mg "int" =none
 G0:mg "bool" =none
 Aw:mg "all" =none
 sS:mg "sum" =none
 Ng:mg "list" =none
 GZ:mg "min" =none
 uh:mg "reversed" =none
 Au:mg "sorted" =none
 ug:mg "str" =none
 g_FIRST_SIGN:mg "FIRST_SIGN" =some (.int 32 p.yt)
 tE:mg "LAST_SIGN" =some (.int 126 p.AJ)
 vJ:mg "NO_SIGNS" =some (.ref p.qv)
 q_NO_SIGNS:∀H:Hp,bV K H p.qv [.int 34,.int 37,.int 45]
 ud:mg "STEPS" =some (.ref p.gT)
 kd_STEPS:∀P:qal,KDict P w K p.gT [(.inr (p_ "p"),.ref p.fW),(.inr (p_ "a"),.ref p.fV),(.inr (p_ "b"),.ref p.fU)]
 q_STEPS0:∀H:Hp,bV K H p.fW [.int 1,.int 1]
 uQ:∀H:Hp,bV K H p.fV [.int 1,.int 0]
 uP:∀H:Hp,bV K H p.fU [.int 0,.int 1]
 pR:mg "GAP" =some (.str (p_ "-") p.Qh)
 kG:mg "LINE_END" =some (.str (p_ "\n") p.CC)
 x6:mg "BETWEEN" =some (.str (p_ " ") p.Fq)
 DP:mg "LINE" =some (.str (p_ "/") p.Nm)
 kH:mg "BELOW_NOUGHT" =some (.str (p_ "-") p.uy)
 xZ:mg "FIGURES" =some (.str (p_ "0123456789") p.Fp)
 oE:mg "MOST_FIGURES" =some (.int 60 p.ux)
 sj:mg "Prices" =some (.ref p.aG)
 bh:JX K p.aG
 cJ:cL K p.aG "signs"
 dB:cL K p.aG "pairs"
 eF:cL K p.aG "opening"
 gE:cL K p.aG "more"
 gm:cL K p.aG "factors"
 gD:cL K p.aG "unit"
 kh:cL K p.aG "costs"
 ic:cL K p.aG "opening_units"
 gA:cL K p.aG "more_units"
 ko:mg "Block" =some (.ref p.bF)
 bH:JX K p.bF
 aS:cL K p.bF "rows"
 qe:mg "Joining" =some (.ref p.aJ)
 bf:JX K p.aJ
 dD:cL K p.aJ "ones"
 cD:cL K p.aJ "others"
 fj:cL K p.aJ "one_gaps"
 dQ:cL K p.aJ "other_gaps"
 kj:cL K p.aJ "by_a"
 ki:cL K p.aJ "by_b"
 gp:cL K p.aJ "extras"
 fH:cL K p.aJ "rests"
 lu:mg "WeaveError" =some (.ref p.gx)
 xb_WeaveError:XB K p.gx
 n9:mg "NoPrices" =some (.ref p.bX)
 xc_NoPrices:Fd K p.bX
 sU:Mn K p.bX
 Ax:XB K p.bX
 su:mg "NoMost" =some (.ref p.dG)
 xx:Fd K p.dG
 xu:Mn K p.dG
 sr:mg "NoSign" =some (.ref p.bR)
 xr:Mn K p.bR
 xs_NoSign:Sg K p.bR
 mP:cL K p.bR "row"
 n_NoSign_place:cL K p.bR "place"
 xw_WeaveError:XBase K p.gx
 ks_NoSign_WeaveError:zat K (.ref p.bR) (.ref p.gx)=some true
 ig:zat K (.ref p.bX) (.ref p.gx)=some true
 jf:zat K (.ref p.dG) (.ref p.gx)=some true
 ki_NoSign_NoSign:zad K (.ref p.bR) (.ref p.bR)=some true
 ku:zad K (.ref p.bR) (.ref p.bX)=some false
 lT:zad K (.ref p.bR) (.ref p.dG)=some false
 kB:zad K (.ref p.bX) (.ref p.bR)=some false
 jg:zad K (.ref p.bX) (.ref p.bX)=some true
 kC:zad K (.ref p.bX) (.ref p.dG)=some false
 lU:zad K (.ref p.dG) (.ref p.bR)=some false
 kD:zad K (.ref p.dG) (.ref p.bX)=some false
 lV:zad K (.ref p.dG) (.ref p.dG)=some true
structure Gs(P:qal)(w:qaG)(K:zaa)(mg:w_->Option n_)(p:Pm)(base:qaE)(n:Nat)(C:Ei->Nat->w_->qcU->List w_->Sp->Prop:=Cl P w K mg base n):Prop extends Txt K mg p w where
 cN:C cZ 1 "greatest_divisor" (top 11) ["one","other"] QA
 oK:C cZ 2 "lowest" (top 12) ["fraction"] (NI K)
 eS:C cZ 3 "lowest_price" (top 22) ["price"] (CO K)
 gQ:C cZ 4 "lowest_prices" (top 23) ["row"] (AM K)
 jR:C cZ 1 "all_unders" (top 24) ["pairs","opening","more"] (Hv K)
 iw:C cZ 2 "unit_factors" (top 25) ["unders"] (Fz K)
 jJ:C cZ 1 "product_of" (top 26) ["factors"] (ND K)
 jV:C cZ 1 "by_unit" (top 27) ["price","unit"] (HH K)
 o9:C cZ 1 "is_sign" (top 17) ["sign"] HF
 g6:C cZ 2 "are_signs" (top 18) l6 CW
 gG:C cZ 3 "check_signs" (top 19) ["signs"] yz
 c5:Sx P w K mg base n cZ 1 "check_lengths_prices" "check_lengths" (top 20) ["signs","pairs"] (uE K)
 gw:C cZ 2 "costs_by_signs" (top 28) ["signs","pairs","unit"] (KQ K)
 eY:C cZ 1 "pair_cost" (top 30) l9 (CN K p.aG)
 gh:C cZ 2 "more_cost" (top 31) ["prices"] (NG K p.aG)
 iO:C cZ 2 "in_units" (top 32) ["prices","number"] (Fy K p.aG)
 oA:Ca P w K mg base n cZ 5 (Mk K p.aG p.BS) p.BS "__init__" "Prices.__init__" (inClass (top 29) 0) Xh (NJ K p.aG)
 fC:C cZ 1 "_law_next" (top 112) U3 (NF K)
 kR:C cZ 1 "things_at" (top 41) ["texts","place"] (CK K)
 mz:C cZ 2 "turned" (top 42) ["texts","many"] (Hw K)
 dW:C cZ 3 "columns_of" (top 43) ["rows"] (FA K)
 mD:C cZ 1 "is_gaps" (top 45) l7 HG
 gf:C cZ 1 "signs_of" (top 46) ["things"] Fv
 jQ:C cZ 3 "are_things" (top 49) ["row"] AQ
 c6:Sx P w K mg base n cZ 1 "check_lengths_blocks" "check_lengths" (top 47) ["rows"] (CQ K)
 iC:C cZ 4 "check_things" (top 50) ["rows"] (CQ K)
 gS:C cZ 4 "check_columns" (top 51) ["rows"] (CQ K)
 gg:C cZ 1 "place_behind" (top 38) ["place","move"] (HJ K)
 kF:Ca P w K mg base n (vY P w) 1 (Yh K p.bR p.BU) p.BU "__init__" "NoSign.__init__" (inClass (top 8) 0) ["self","row","place"] (HC p.bR)
 jD:Ca P w K mg base n cZ 5 (Mk K p.bF p.EU) p.EU "__init__" "Block.__init__" (inClass (top 52) 0) ["self","rows"] (AO K p.bF)
 c7:C (vY P w) 3 "check_known" (top 36) ["known","rows"] (HD K p.bR)
 cC:C cZ 4 "check_block_rows" (top 58) S4 (CU K p.aG)
 iy:C cZ 3 "thing_cost" (top 59) l9 (Em K p.aG)
 kU:C cZ 3 "_law_thing" (top 116) U1 (Em K p.aG)
 i8:C cZ 4 "column_cost" (top 60) ["prices","column"] (FD K p.aG)
 gH:C cZ 5 "block_units" (top 61) Rg (CT K p.aG p.bF)
 kX:C cZ 2 "_law_signs" (top 113) ["_law_script","_law_at","_law_many"] (Hy K)
 gY:C cZ 2 "_law_price" (top 114) U3 (KO K)
 jK:C cZ 7 "_law_prices" (top 115) ["_law_script","_law_at","_law_signs_here","_law_same"] (Fw K p.aG)
 iB:C cZ 3 "cost_by_gaps" (top 67) ["prices","column","many"] (NK K p.aG)
 fK:C cZ 4 "costs_by_gaps" (top 68) ["prices","columns","many"] (KL K p.aG)
 iW:C cZ 3 "sign_extras" (top 69) ["prices","signs"] (Nz K p.aG)
 gR:C cZ 4 "extras_beside" (top 70) ["prices","signs","others"] (QB K p.aG)
 jS:C cZ 5 "all_extras" (top 71) ["prices","ones","others"] (QC K p.aG)
 iX:C cZ 1 "rests_ahead" (top 72) ["extras","below"] K0
 jL:C cZ 2 "join_rests" (top 73) ["extras","many"] KH
 lX:Ca P w K mg base n cZ 6 (Mk K p.aJ p.x9) p.x9 "__init__" "Joining.__init__" (inClass (top 74) 0) ["self","prices","one","other"] (AN K p.aG p.bF p.aJ)
 jO:C cZ 1 "first_move" (top 76) ["joining","i","j"] (NN K p.aJ)
 i7:C cZ 2 "first_moves" (top 77) ["joining"] (KN K p.aJ)
 iA:C cZ 2 "laid_columns" (top 44) ["ones","others","one_gaps","other_gaps","moves"] (KD K)
 gk:C cZ 7 "joined_block" (top 78) ["joining"] (KI K p.bF p.aJ)
 qW:C cZ 8 "joined" (top 79) l9 (HE K p.aG p.bF)
 jm:C cZ 1 "check_row" (top 53) l8 (NB K p.bF)
 Aa:C cZ 2 "bare" (top 54) l8 (KY K p.bF)
 qX:C cZ 7 "alone" (top 55) l6 (HK K p.bF)
 iz:C cZ 1 "other_rows" (top 56) l8 (HB K p.bF)
 o8:C cZ 7 "without" (top 57) l8 (CI K p.bF)
 dU:C cZ 9 "row_with_others" (top 85) Rf (Kv K p.aG p.bF p.aJ)
 cY:C cZ 8 "with_row_put_back" (top 86) ["joining","row"] (NC K p.bF p.aJ)
 kZ:C cZ 11 "laid_anew" (top 87) Rf (KZ K p.aG p.bF)
 mW:C cZ 1 "_law_bare" (top 118) PK KW
 gr:C cZ 1 "same_both_ways" (top 33) ["prices"] (NQ K p.aG)
 fE:C (vY P w) 4 "check_rows" (top 37) S4 (Ku K p.aG p.bR)
 i6:C cZ 9 "joined_laid" (top 82) ["prices","left","right"] (KJ K p.aG p.bF)
 mY:C cZ 1 "is_whole" (top 64) ["thing"] Hu
 pq:C cZ 1 "is_pair" (top 65) ["thing"] KA
 iD:C cZ 3 "check_number" (top 80) ["part","many","seen"] KS
 jH:C cZ 4 "tree_order" (top 81) ["tree","many"] Kr
 gO:C cZ 1 "tree_in_order" (top 109) ["many"] Ko
 gZ:C (vY P w) 10 "laid_by" (top 83) ["prices","rows","tree"] (KG K p.aG p.bF p.bR)
 eN:C cZ 1 "written_number" (top 99) ["number"] Qw
 dF:C cZ 4 "written_fraction" (top 100) ["fraction"] (Qx K)
 fB:C cZ 1 "_law_number" (top 121) S3 (Qz K)
 jM:C cZ 1 "is_figures" (top 102) l6 NO
 gP:C cZ 5 "read_fraction" (top 103) l6 (Kz K)
 jI:C cZ 4 "read_signs" (top 104) ["row"] Kw
 eO:C cZ 7 "read_fractions" (top 105) ["rows","line","many"] (HA K)
 kT:C cZ 3 "read_rows" (top 108) l6 CL
 iY:C cZ 9 "read_prices" (top 106) l6 (Ky K p.aG)
 i0:C cZ 2 "_law_written" (top 122) ["_law_prices_here"] (Qv K p.aG)
 gj:C cZ 4 "_law_cost" (top 117) ["_law_prices_here","_law_rows"] (KR K p.aG)
 iZ:C cZ 1 "least_added" (top 75) ["joining"] (KC p.aJ)
 iE:C cZ 4 "added_by_row" (top 88) Rf (K1 K p.aG p.bF)
 cV:C (vY P w) 6 "check_mending" (top 90) U0 (KU K p.aG p.bF p.bX p.dG)
 jN:C cZ 10 "first_step" (top 89) Rg (NL K p.aG p.bF)
 jj:C (vY P w) 11 "mended" (top 91) U0 (Fx K p.aG p.bF p.bX p.dG)
 fR:C cZ 2 "_law_same_prices" (top 119) ["_law_prices_here"] (Ks K p.aG)
 jP:C cZ 6 "block_cost" (top 62) Rg (CV K p.aG p.bF)
 gM:C cZ 1 "written_block" (top 101) ["block"] (Qy K p.bF)
 kW:C cZ 2 "_law_texts" (top 120) ["_law_script","_law_at","_law_signs_here","_law_many","_law_most"] (Hx K)
 gi:C (vY P w) 13 "many_text" (top 110) ["prices_text","rows_text","most"] (NH p.bR p.bX p.dG)
 kJ:C cZ 16 "_law_told" (top 123) ["_law_prices_text","_law_rows_text","_law_most"] Kq
 mV:C cZ 12 "_law_calm" (top 124) ["_law_prices_here","_law_rows"] (NP K p.aG)
 mU:C cZ 14 "_law_fine" (top 125) ["_law_prices_here","_law_rows","_law_most","_law_answer"] (KP K p.aG)
 kY:C cZ 17 "_law_round" (top 126) U3 (Hz K)
 E7:C cZ 18 "law" (top 127) ["_law_script"] (En K)
theorem JA:bootBuiltins "abs" =some (.builtin "abs"):=by decide +kernel
theorem aZ:bootBuiltins "len" =some (.builtin "len"):=by decide +kernel
theorem O5:bootBuiltins "ord" =some (.builtin "ord"):=by decide +kernel
theorem Jy:bootBuiltins "set" =some (.type "set"):=by decide +kernel
theorem oM:bootBuiltins "tuple" =some (.type "tuple"):=by decide +kernel
theorem dZ:bootBuiltins "isinstance" =some (.builtin "isinstance"):=by decide +kernel
theorem Ac:bootBuiltins "int" =some (.type "int"):=by decide +kernel
theorem Mi:bootBuiltins "bool" =some (.type "bool"):=by decide +kernel
theorem Ad:bootBuiltins "all" =some (.builtin "all"):=by decide +kernel
theorem qu:bootBuiltins "sum" =some (.builtin "sum"):=by decide +kernel
theorem Jz:bootBuiltins "min" =some (.builtin "min"):=by decide +kernel
theorem sN:bootBuiltins "str" =some (.type "str"):=by decide +kernel
section
variable{P:qal}{w:qaG}{K:zaa}{mg:w_->Option n_}{base:qaE}
theorem pC(T:Gs P w K mg p base 0):T.cN.Ok:=by
 refine T.cN.dP ["one","other","rest"] λH vs Q E hr h nD=>?_;obtain⟨a,b,rfl,hb,k⟩:=h;intro X;refine#[_,(ak (nU L_ (aM nj (pv 1) aq (aW _)) (ak (Z9X 2 nD (aI cT (pv 0) (pv 1)))
   (ak (Z9X 0 nD (pv 1))
   (ao (Z9X 1 nD (pv 2))))))
   (ao (aE (av (B8) rfl T.z_abs JA (aa (pv 0) ah))))),?_]
 refine#[λm σ H'=>H'=H/\iG λ(x y:Int) (r:Option V)=>σ=[some (.int x),some (.int y),r]/\0<=y/\qah x y=qah a b/\m=y.toNat,#[b.toNat,Y,a,b,none,Y,hb,Y,Y],?_];rintro m σ H' ⟨rfl,x,y,r,rfl,hy,hg,rfl⟩;refine#[_,Y,Y,_,Y,?_];refine ow (λh0=>?_) (λh0=>?_)
 ·have l1:=qap x h0;have l2:=qaf x (show 0<y by omega);refine#[λσ' GH=>GH=H'/\∃r,σ'=[some (.int y),some (.int (x % y)),r],?_,?_]
  ·rintro σ' GH ⟨rfl,r,rfl⟩;exact#[(x % y).toNat,by omega,Y,y,x % y,r,Y,l1,(IX x y).trans hg,Y]
  ·exact#[_,Y,_,Y,_,_,Y,Y,(by show 0<y;omega),_,Y,_,Y,Y,_,Y]
 ·subst h0;refine#[_,Y,_,Y,?_];rw[LQ,hg];exact k
theorem F0(T:Gs P w K mg p base 1):T.oK.Ok:=by
 refine T.oK.dP ["fraction","divisor"] λH vs Q E hr h nD=>?_;obtain⟨p,⟨a,b⟩,rfl,hS,hb,hb2,k⟩:=h;have hb0:0<b:=hb;have g1:=iU a hb0;have g2:=DO a hb0;intro X;refine#[_,(ak (Z9X 1 nD (aD T.cN hr (aa (aR bG (pv 0) aq (λ_ _=>rfl)) (aa (aR bG (pv 0) aq (λ_ _=>rfl)) ah))))
   (ao (aE (ck (aa (aI uV (aR bG (pv 0) aq (λ_ _=>rfl)) (pv 1)) (aa (aI uV (aR bG (pv 0) aq (λ_ _=>rfl)) (pv 1)) ah)))))),?_]
 refine#[_,Y,_,_,_,_,Y,Y,hS,Y,_,Y,_,_,_,_,Y,Y,hS,Y,a,b,Y,qbb hb,?_];refine#[_,Y,_,_,_,_,Y,Y,hS,Y,_,Y,_,_,Y,Y,#[g1,Bg.le g1 g2 hb2],_,Y,_,_,_,_,Y,Y,hS,Y,_,Y,_,_,Y,Y,#[g1,Bg.le g1 g2 hb2],?_];exact#[c_,λq hq=>k q hq]
theorem tM(T:Gs P w K mg p base 2):T.eS.Ok:=by
 refine T.eS.dP ["price"] λH vs Q E hr h nD=>?_;obtain⟨p,f,rfl,hS,⟨h1,h2⟩,k⟩:=h;intro X;refine#[_,(ak (bC (aM nX (aR bG (pv 0) aq (λ_ _=>rfl)) aq (aW _)) bO aP)
   (ao (aE (aD T.oK hr (aa (pv 0) ah))))),?_]
 refine#[_,Y,_,_,_,_,Y,Y,hS,Y,_,_,Y,Y,_,Y,?_];refine cS (λz=>absurd z (by omega)) λ_=>?_;exact#[_,Y,p,f,Y,hS,by omega,Bg.of (k:=10) (by decide) (by omega),k]
theorem rW(T:Gs P w K mg p base 3):T.gQ.Ok:=by
 refine T.gQ.dP ["row"] λH vs Q E hr h nD=>?_;obtain⟨c,fs,rfl,⟨ps,hc,hp⟩,ho,hz,k⟩:=h;have hl:=Paired.len hp;intro X;refine#[_,(ao (aE (cR (iV) Y T.oR oM (aa (cI (N:=["price"]) Y D0 (nV (pv 0)) (λ_ _ _ _ _ _ _=>(pM ["price"] 0)) (λ_ _ _ _ _ _ _=>(aD T.eS hr (aa (pv 0) ah)))) ah)))),?_];refine#[_,Y,c,_,Y,hc,λl MS=>?_];refine#[λi m ys H2=>m=fs.length-i/\i<=fs.length/\aj H H2/\H2 l=some (.lst ys)/\∃qs:List l_,ys=qs.map V.ref/\qs.length=i/\Paired (λq f=>H2 q=some (.tup [.int f.1,.int f.2])) qs ((fs.map cM).take i),#[fs.length,Y,O_ _,aj.upd MS,ai,[],Y,Y,.nil],?_];rintro i m ys H2 ⟨rfl,hi,s2,hl2,qs,rfl,hq,hP⟩;have zc:c.at K H2 (ps.map V.ref):=aj.cp s2 hc;by_cases hlt:i<fs.length
 ·have XD:i<ps.length:=by omega
  have e1:(ps.map V.ref)[i]? =some (.ref ps[i]):=by rw[j_,d_ XD];rfl
  refine .inr #[#[_,_,zc,e1],?_];rintro x H3 ⟨rfl,hx⟩;have ex:=hx _ zc;rw[e1]at ex;cases ex;obtain⟨f,ef,hf⟩:=Paired.at hp (d_ XD);refine#[Kp.rep _ _,?_];refine#[_,Y,ps[i],f,Y,hf.same s2,ho f (h_ ef),λq hqn=>?_];have QX:q≠l:=λz=>by rw[z,hl2]at hqn;cases hqn
  refine#[by rw[ay (Ne.symm QX)];exact hl2,?_,fs.length-(i+1),by omega,Y,hlt,aj.at (s2.trans (aj.upd hqn)) MS,ai,qs++[q],by rw[E_];rfl,by rw[t_,hq];rfl,?_]
  ·rw[e_,hq];exact J_ hlt (gc hz (by decide))
  ·rw[pP ef];refine GP.Paired.snoc (Paired.jr hP λa b z=>?_) ?_
   ·have n1:a≠q:=bA z hqn;have n2:a≠l:=kg z hl2 (by intro z;cases z);rw[ay n2,ay n1];exact z
   ·rw[ay QX];exact ai
 ·have ei:i=fs.length:=by omega
  subst ei;refine .inl #[#[_,zc,by rw[e_];omega],?_];refine#[l,_,Y,.inl #[bq.of hl2,λq hqn=>?_]];refine k q _ (s2.trans (aj.upd hqn)) (aj.free s2 hqn) #[qs,bV.of ai,?_];rw[Y_ (by rw[e_];exact i_ _)]at hP;exact Paired.jr hP λa b z=>bV.of (by rw[ay (bA z hqn)];exact z)
theorem wL(T:Gs P w K mg p base 0):T.jR.Ok:=by
 refine T.jR.dP ["pairs","opening","more","unders","row"] λH vs Q E hr h nD=>?_;obtain⟨Pp,o,m,rows,fo,fm,rfl,⟨cs,hc,hp⟩,hfo,hfm,ZD,OI,k⟩:=h;intro X;refine#[_,(ak (Z9X 3 nD (dY (aa (aR bG (pv 1) aq (λ_ _=>rfl)) (aa (aR bG (pv 2) aq (λ_ _=>rfl)) ah))))
   (ak (bK L_ rfl (nV (pv 0)) (Z9Y 4 nD) (ao (bD (cW zab zb2 zb3 F5 (pv 3) (aa (cI (N:=["price"]) rfl D0 (nV (pv 4)) (λ_ _ _ _ _ _ _=>(pM ["price"] 0)) (λ_ _ _ _ _ _ _=>(aR (LC (K':=K) rfl) (pv 0) aq (λ_ _=>rfl)))) ah)))))
   (ao (aE (pv 3))))),?_]
 refine#[_,Y,_,_,_,_,Y,Y,hfo,Y,_,Y,_,_,_,_,Y,Y,hfm,Y,c_,λl hl=>?_];have We:∀i,((rows.take i).flatten.map (·.2)).length<=12*12:=λi=>by
  have:∀(q:List (List bJ)),(∀r∈q,r.length<=12)->q.flatten.length<=12*q.length:=λq=>by
   induction q with
   |nil=>intro _;simp
   |cons r q ih =>
    intro h;have a:=h r r_;have b:=ih λr' hr=>h r' (s_ _ hr);rw[qaV,t_,Q_];omega
  have a:=this (rows.take i) λr hr=>OI r (qbo hr);have b:(rows.take i).length<=12:=by rw[W_];omega
  rw[e_];omega
 refine#[_,Y,.tup Pp,_,Y,aj.cp (aj.upd hl) (c:=.tup Pp) hc,sH (K:=K) (c:=.tup Pp) (xs:=cs.map Cp.val) (λi σ H2=>∃v4,σ=[some (.ref Pp),some (.ref o),some (.ref m),some (.ref l),v4]/\aj H H2/\H2 l=some (.lst ((fo.2::fm.2::(rows.take i).flatten.map (·.2)).map V.int)))
  #[_,rfl,aj.upd hl,ai] (λi σ H2 _ ⟨_,_,s2,_⟩=>aj.cp s2 hc) ?_ ?_]
 ·rintro i x σ H2 hx ⟨v4,rfl,s2,hl2⟩;obtain⟨c,ec,rfl⟩:=fk hx;obtain⟨row,er,⟨ps,hc2,hp2⟩⟩:=Paired.at hp ec;have RM:=aj.cp s2 hc2;refine#[_,Y,.inl #[Y,_,bq.of hl2],?_];refine#[_,Y,c,_,Y,RM,λlx hlx=>?_];refine#[λj m' ys H3=>m'=row.length-j/\j<=row.length/\aj H2 H3/\H3 lx=some (.lst ys)/\ys=((row.take j).map (·.2)).map V.int,#[row.length,Y,O_ _,aj.upd hlx,ai,Y],?_];rintro j m' ys H3 ⟨rfl,hj,s3,OO,rfl⟩;have zr:=aj.cp s3 RM;by_cases GO:j<row.length
  ·have Ru:j<ps.length:=by rw[Paired.len hp2];exact GO
   have e1:(ps.map V.ref)[j]? =some (.ref ps[j]):=by rw[j_,d_ Ru];rfl
   refine .inr #[#[_,_,zr,e1],?_];rintro y H4 ⟨rfl,Y8⟩;have ey:=Y8 _ zr;rw[e1]at ey;cases ey;refine#[Kp.rep _ _,?_];obtain⟨f,ef,hf⟩:=Paired.at hp2 (d_ Ru);have hf':=hf.same (s2.trans s3);refine#[_,Y,_,_,_,_,Y,Y,hf',Y,?_];refine#[OO,?_,row.length-(j+1),by omega,Y,GO,aj.at s3 hlx,ai,?_]
   ·rw[e_,e_,W_];have:=OI row (h_ er);exact J_ (show min j row.length<100 by omega) (by decide)
   ·rw[take_snoc ef,E_,E_];rfl
  ·have ej:j=row.length:=by omega
   subst ej;rw[Y_ (i_ _)]at OO;refine .inl #[#[_,zr,by rw[e_,Paired.len hp2];exact i_ _],?_];have hl3:=s3 _ _ hl2;refine#[l,lx,_,_,Y,Y,hl3,OO,?_,?_]
   ·have a:=We i;have a2:=OI row (h_ er);have a3:((fo.2::fm.2::(rows.take i).flatten.map (·.2)).map V.int).length+((row.map (·.2)).map V.int).length<=200:=by
     rw[e_,Q_,Q_,e_,e_,e_];rw[e_]at a;omega
    exact gc a3 (by decide)
   refine#[_,Y,aj.at (s2.trans s3) hl,?_];rw[ai,take_snoc er,List.flatten_append,E_];simp
 ·rintro σ H2 ⟨v4,rfl,s2,hl2⟩;refine#[_,Y,?_];rw[e_,Paired.len hp,Y_ (i_ _)]at hl2;exact k l H2 s2 hl hl2
theorem tK(T:Gs P w K mg p base 1):T.iw.Ok:=by
 refine T.iw.dP ["unders","factors","unit","under","factor"] λH vs Q E hr h nD=>?_;obtain⟨l,ns,rfl,hl,hn,hs,k⟩:=h;intro X;refine#[_,(ak (Z9X 1 nD (dY ah))
   (ak (Z9X 2 nD aq)
   (ak (bK L_ rfl (cQ (pv 0)) (Z9Y 3 nD) (ak (Z9X 4 nD (aI d8 (pv 3) (aD T.cN hr (aa (pv 2) (aa (pv 3) ah)))))
   (ao (bC (aM pN (pv 4) aq (aW _)) (ak (bD (cW zab zag zah cK (pv 1) (aa (pv 4) ah)))
   (ao (Z9X 2 nD (aI jq (pv 2) (pv 4))))) aP))))
   (ao (aE (pv 1)))))),?_]
 refine#[a_,λq hq=>?_];refine#[_,Y,l,Y,#[_,aj.seq (aj.upd hq) hl],kI (K:=K) (a:=l) (xs:=ns.map V.int) (λi σ H2=>bU λv3 v4=>σ=[some (.ref l),some (.ref q),some (.int (mq (ns.take i)).2),v3,v4]/\aj H H2/\H2 q=some (.lst ((mq (ns.take i)).1.map V.int)))
  #[_,_,rfl,aj.upd hq,ai] (λi σ H2 _ ⟨_,_,_,s2,_⟩=>aj.seq s2 hl) ?_ ?_]
 ·rintro i x σ H2 hx ⟨v3,v4,rfl,s2,hq2⟩;obtain⟨b,eb,rfl⟩:=fk hx;have hi:i<ns.length:=(m_.mp eb).1;have hb:=hs b (h_ eb);have F:=sL hs i (qa5 hi);have es:mq (ns.take (i+1))=o4 (mq (ns.take i)) b:=by rw[take_snoc eb,vM]
  have fl:=F.len;rw[W_]at fl;rw[es];unfold o4;generalize hp:mq (ns.take i)=pr at *;obtain⟨fs,u⟩:=pr;obtain⟨b1,b2⟩:=hb;have g1:=iU u b1;have g2:=DO u b1;obtain⟨d1,d2⟩:=ET (u:=u) #[b1,b2];refine#[_,Y,_,Y,_,Y,u,b,Y,qbb b1,_,_,Y,Y,#[g1,by omega],_,Y,_,_,Y,Y,_,Y,?_];refine cS (λh1=>?_) (λh1=>?_)
  ·rw[if_pos h1];refine#[_,Y,.inl #[Y,_,bq.of hq2],_,Y,q,_,_,Y,Y,hq2,?_,?_]
   ·rw[e_];exact o_ (show fs.length<=1000 by dsimp only at fl;omega) (by decide)
   refine#[_,Y,_,Y,_,_,Y,Y,.inr #[by omega,by omega],?_];exact#[_,_,Y,aj.at s2 hq,by rw[ai,E_];rfl]
  ·rw[if_neg h1];exact#[_,_,Y,s2,hq2]
 ·rintro σ H2 ⟨v3,v4,rfl,s2,hq2⟩;refine#[_,Y,?_];rw[e_,Y_ (i_ _)]at hq2;exact k q H2 s2 hq hq2
theorem wm(T:Gs P w K mg p base 0):T.jJ.Ok:=by
 refine T.jJ.dP ["factors","product","factor"] λH vs Q E hr h nD=>?_;obtain⟨l,fs,rfl,hl,hs,k⟩:=h;intro X;refine#[_,(ak (Z9X 1 nD aq)
   (ak (bK L_ rfl (cQ (pv 0)) (Z9Y 2 nD) (ao (Z9X 1 nD (aI jq (pv 1) (pv 2)))))
   (ao (aE (pv 1))))),?_]
 refine#[_,Y,l,Y,#[_,hl],kI (K:=K) (a:=l) (xs:=fs.map V.int) (λi σ H2=>H2=H/\∃v2,σ=[some (.ref l),some (.int (pL (fs.take i))),v2])
  #[rfl,_,rfl] (λi σ H2 _ ⟨e,_⟩=>by subst e;exact hl) ?_ ?_]
 ·rintro i x σ H2 hx ⟨rfl,v2,rfl⟩;obtain⟨b,eb,rfl⟩:=fk hx;obtain⟨b1,b2⟩:=hs b (h_ eb);refine#[_,Y,_,Y,_,_,Y,Y,.inr #[by omega,by omega],Y,some (.int b),?_];rw[take_snoc eb,p6];rfl
 ·rintro σ H2 ⟨rfl,v2,rfl⟩;refine#[_,Y,?_];rw[e_,Y_ (i_ _)];exact k
theorem Ds(T:Gs P w K mg p base 0):T.jV.Ok:=by
 refine T.jV.dP ["price","unit"] λH vs Q E hr h nD=>?_;obtain⟨p,f,u,rfl,hS,⟨h1,h2⟩,b1,b2,k⟩:=h;intro X;refine#[_,(ao (aE (aI Lf (aR bG (pv 0) aq (λ_ _=>rfl)) (aI d8 (pv 1) (aR bG (pv 0) aq (λ_ _=>rfl)))))),?_];exact#[_,Y,_,_,_,_,Y,Y,hS,Y,_,Y,_,Y,_,_,_,_,Y,Y,hS,Y,_,_,Y,Y,#[by omega,h2],_,_,Y,Y,#[b1,b2],k]
theorem Dp(T:Gs P w K mg p base 0):T.o9.Ok:=by
 refine T.o9.dP ["sign","number"] λH vs Q E hr h nD=>?_;obtain⟨c,rfl,k⟩:=h;intro X;refine#[_,(ak (Z9X 1 nD (av (Jt) Y T.z_ord O5 (aa (pv 0) ah)))
   (ao (aE (uT (Be uU uU (bS (v:=.int 32) rfl T.g_FIRST_SIGN #[_,rfl]) (pv 1) (bS (v:=.int 126) rfl T.tE #[_,rfl])) (rO (iT yT (pv 1) (bS (v:=.ref p.qv) rfl T.vJ rfl) (by with_unfolding_all rfl))))))),?_]
 refine#[_,Y,_,Y,Y,?_];have k':Q (.bl ((decide ((32:Int)<=(c:Int))&&decide ((c:Int)<=126))&& !S7 (.int c) [.int 34,.int 37,.int 45])) H:=k;refine#[_,Y,_,_,Y,Y,_,Y,?_];refine cS (λh1=>?_) (λh1=>?_)
 ·refine#[_,_,Y,Y,_,Y,?_];have oZ:(32:Int)<=(c:Int):=h1;rw[decide_eq_true oZ,qcK]at k';refine cS (λh2=>?_) (λh2=>?_)
  ·have h2':(c:Int)<=126:=h2;rw[decide_eq_true h2',qcK]at k';exact#[_,Y,_,_,Y,.inr (T.q_NO_SIGNS _),Y,Y,k']
  ·have h2':¬(c:Int)<=126:=h2;rw[decide_eq_false h2',Bool.false_and]at k';exact k'
 ·have oZ:¬(32:Int)<=(c:Int):=h1;rw[decide_eq_false oZ,Bool.false_and,Bool.false_and]at k';exact#[_,Y,eX k']
theorem zp(T:Gs P w K mg p base 1):T.g6.Ok:=by
 refine T.g6.dP l6 λH vs Q E hr h nD=>?_;obtain⟨x,rfl,hx,k⟩:=h;intro X;refine#[_,(ao (aE (av (kQ Y) Y T.Aw Ad (aa (cI (N:=["sign"]) Y D0 (j9 (pv 0)) (λ_ _ _ _ _ _ _=>(pM ["sign"] 0)) (λ_ _ _ _ _ _ _=>(aD T.o9 hr (aa (pv 0) ah)))) ah)))),?_];refine#[_,Y,x,Y,λl hl=>?_];refine#[λi m ys H2=>m=x.cps.size-i/\i<=x.cps.size/\aj H H2/\H2 l=some (.lst ys)/\ys=((x.cps.toList.take i).map dS).map V.bl,#[x.cps.size,Y,O_ _,aj.upd hl,ai,Y],?_];rintro i m ys H2 ⟨rfl,hi,s2,hl2,rfl⟩;by_cases hlt:i<x.cps.size
 ·refine .inr #[hlt,?_];rintro y H3 ⟨rfl,c,ec,rfl⟩;refine#[Kp.rep _ _,?_];refine#[_,Y,c,Y,?_];refine#[hl2,?_,x.cps.size-(i+1),by omega,Y,hlt,aj.at s2 hl,ai,?_]
  ·rw[e_,e_,W_];exact o_ (show min i x.cps.toList.length<=1000 by omega) (by decide)
  ·rw[take_snoc (x:=c) (by rw[P_];exact ec),E_,E_];rfl
 ·have ei:i=x.cps.size:=by omega
  subst ei;refine .inl #[i_ _,?_];rw[Y_ (by rw[k_];exact i_ _)]at hl2;refine#[l,_,Y,bq.of hl2,?_];have e:(x.cps.toList.map dS).all id=x.cps.toList.all dS:=by rw[List.all_map];rfl
  rw[e];exact k H2 s2
theorem vf(T:Gs P w K mg p base 2):T.gG.Ok:=by
 refine T.gG.dP ["signs"] λH vs Q E hr h nD=>?_;obtain⟨x,rfl,⟨h1,h2,h3,h4⟩,k⟩:=h;intro X;refine#[_,(ak (bC (aM dO (av (aK) Y T.bB aZ (aa (pv 0) ah)) aq (aW _)) bO aP)
   (ak (bC (jo (fh (aD T.g6 hr (aa (pv 0) ah)))) bO aP)
   (ao (bC (aM nj (av (wW) rfl T.bB aZ (aa (cR (Gy rfl) rfl T.GY Jy (aa (pv 0) ah)) ah)) (av (aK) rfl T.bB aZ (aa (pv 0) ah)) (aW _)) bO aP)))),?_]
 have hz:x.length<=A_:=gc h2 (by decide);refine#[_,Y,_,_,Y,#[hz,Y],Y,_,Y,?_];refine mS (λz=>absurd z (by show ¬((x.cps.size:Nat):Int)=0;omega)) λ_=>?_;refine#[_,Y,x,Y,gc h2 (by decide),λH2 s2=>?_];refine#[_,Y,?_];rw[x_.mpr h3];refine jw ?_;refine#[_,Y,x,Y,o_ (Nat.succ_le_succ h2) (by decide),λp hp=>?_];refine#[p,_,Y,ai,_,Y,_,_,Y,#[hz,Y],Y,_,Y,?_];refine ow (λz=>absurd (by rw[F7 h4];rfl) z) λ_=>?_;exact k _ (s2.trans (aj.upd hp))
theorem lO(T:Gs P w K mg p base 0):T.c5.Ok:=by
 refine T.c5.dP ["signs","pairs","row"] λH vs Q E hr h nD=>?_;obtain⟨x,c,rows,rfl,⟨nc,cs,Xa,hc,hp⟩,hx,⟨hq1,hq2⟩,k⟩:=h;intro X;refine#[_,(ak (bC (aM nj (av (aK) Y T.bB aZ (aa (pv 1) ah)) (av (aK) Y T.bB aZ (aa (pv 0) ah)) (aW _)) bO aP)
   (ao (bK L_ rfl (nV (pv 1)) (Z9Y 2 nD) (ao (bC (aM nj (av (aK) rfl T.bB aZ (aa (pv 2) ah)) (av (aK) rfl T.bB aZ (aa (pv 0) ah)) (aW _)) bO aP))))),?_]
 have hz:x.length<=A_:=gc hx (by decide);have hl:(cs.map Cp.val).length=x.cps.size:=by rw[e_,Paired.len hp,hq1]
 refine#[_,Y,_,_,Y,Jm hc nc,_,Y,_,_,Y,#[hz,Y],Y,_,Y,?_];refine ow (λz=>absurd (by rw[hl];rfl) z) λ_=>?_;refine#[_,Y,c,_,Y,hc,sH (K:=K) (c:=c) (xs:=cs.map Cp.val) (λi σ H2=>H2=H/\∃v,σ=[some (.str x),some c.val,v]) #[Y,_,Y] (λi σ H2 _ ⟨e,_⟩=>by subst e;exact hc) ?_ ?_]
 ·rintro i y σ H2 hy ⟨rfl,v,rfl⟩;obtain⟨d,ed,rfl⟩:∃d,cs[i]? =some d/\y=d.val:=by
   rw[j_]at hy
   cases e:cs[i]? with
   |none=>rw[e]at hy;cases hy
   |some d=>rw[e]at hy;exact#[d,Y,(Z_ hy).symm]
  obtain⟨row,er,hr2⟩:=Paired.at hp ed;refine#[_,Y,_,_,Y,hr2.len (Xa d (h_ ed)),_,Y,_,_,Y,#[hz,Y],Y,_,Y,?_];refine ow (λz=>absurd (by rw[hq2 row (h_ er)];rfl) z) λ_=>?_;exact#[Y,_,Y]
 ·rintro σ H2 ⟨rfl,v,rfl⟩;exact k
theorem qJ(T:Gs P w K mg p base 1):T.gw.Ok:=by
 refine T.gw.dP ["signs","pairs","unit","costs","one","row","other","price"] λH vs Q E hr h nD=>?_;obtain⟨x,Pp,u,rows,rfl,hM,hx,nd,⟨hq1,hq2⟩,ho,k⟩:=h;intro X;refine#[_,(ak (Z9X 3 nD Ii)
   (ak (bK L_ rfl (Dd rfl rfl T.As (aa (pv 0) (aa (pv 1) ah))) (kc (n:=2) rfl (bQ (Z9Y 4 nD) (bQ (Z9Y 5 nD) gK))) (ao (bK L_ rfl (Dd rfl rfl T.As (aa (pv 0) (aa (pv 5) ah))) (kc (n:=2) rfl (bQ (Z9Y 6 nD) (bQ (Z9Y 7 nD) gK))) (ao (t8 (jh hr) (pv 3) (ck (aa (pv 4) (aa (pv 6) ah))) (aD T.jV hr (aa (pv 7) (aa (pv 2) ah))) rfl)))))
   (ao (aE (pv 3))))),?_]
 intro d hd;obtain⟨qs,Al,hp⟩:=hM;have hlen:qs.length=x.cps.size:=by rw[Paired.len hp,hq1]
 have hmin:min (dw x).length (qs.map V.ref).length=x.cps.size:=by rw[signs_length,e_,hlen,Nat.min_self]
 refine#[_,Y,_,Y,.txt x,.tup Pp,_,_,Y,Y,Dat.tup (Dat.of (aj.upd hd)) Al,ER (K:=K) (c:=.txt x) (d:=.tup Pp) (xs:=dw x) (ys:=qs.map V.ref) (λi σ H2=>tW λkvs v4 v5 v6 v7=>σ=[some (.str x),some (.ref Pp),some (.int u),some (.ref d),v4,v5,v6,v7]/\aj H H2/\H2 d=some (.dT kvs)/\kvs.length<=i*x.cps.size/\iP kvs x rows u i 0)
  #[[],_,_,_,_,rfl,aj.upd hd,ai,O_ _,iP.nil x rows u] (λi σ H2 _ ⟨kvs,v4,v5,v6,v7,_,s2,_⟩=>#[rfl,Dat.tup (Dat.of s2) Al]) ?_ ?_]
 ·rintro i y z p1 σ H2 hy hz hp1 ⟨kvs,v4,v5,v6,v7,rfl,s2,hd2,hk,hc⟩;obtain⟨a,ha,rfl⟩:=signs_get hy;obtain⟨q,hq,rfl⟩:=fk hz;obtain⟨row,er,wQ⟩:=Paired.at hp hq;have hi:i<x.cps.size:=by rw[←hlen];exact(m_.mp hq).1
  obtain⟨ps,hps,hpp⟩:=wQ;have hpl:ps.length=x.cps.size:=by rw[Paired.len hpp,hq2 row (h_ er)]
  have RA:min (dw x).length (ps.map V.ref).length=x.cps.size:=by rw[signs_length,e_,hpl,Nat.min_self]
  refine#[p1,_,Y,bV.of ai,Y,_,_,Y,_,_,Y,Y,?_];have YQ:d≠p1:=bA hd2 hp1;refine#[_,Y,_,Y,.txt x,.tup q,_,_,Y,Y,Dat.tup (Dat.of (s2.trans (aj.upd hp1))) hps,ER (K:=K) (c:=.txt x) (d:=.tup q) (xs:=dw x) (ys:=ps.map V.ref)
   (λj σ H3=>iG λkvs v6 v7=>σ=[some (.str x),some (.ref Pp),some (.int u),some (.ref d),some (.str ⟨#[a]⟩),some (.ref q),v6,v7]/\aj H H3/\H3 d=some (.dT kvs)/\kvs.length<=i*x.cps.size+j/\iP kvs x rows u i j)
   #[kvs,v6,v7,rfl,s2.trans (aj.upd hp1),by rw[ay YQ];exact hd2,hk,hc] (λj σ H3 _ ⟨kvs,v6,v7,_,s3,_⟩=>#[rfl,Dat.tup (Dat.of s3) hps]) ?_ ?_]
  ·rintro j y z p2 σ H3 hy hz hp2 ⟨kvs,v6,v7,rfl,s3,GQ,hk,hc⟩;obtain⟨b,hb,rfl⟩:=signs_get hy;obtain⟨pr,PN,rfl⟩:=fk hz;obtain⟨f,ef,hf⟩:=Paired.at hpp PN;have hj:j<x.cps.size:=by rw[←hpl];exact(m_.mp PN).1
   obtain⟨o1,o2,o3⟩:=ho row (h_ er) f (h_ ef);refine#[p2,_,Y,bV.of ai,Y,_,_,Y,_,_,Y,Y,?_];have s4:=s3.trans (aj.upd (o:=.tup [.str ⟨#[b]⟩,.ref pr]) hp2);have XQ:upd H3 p2 (.tup [.str ⟨#[b]⟩,.ref pr]) d=some (.dT kvs):=by rw[ay (bA GQ hp2)];exact GQ
   refine#[_,Y,_,Y,pr,f,u,Y,hf.same s4,o1,o2.bg,o3.bg,?_];refine#[_,Y,_,Y,_,Y,c_,λt ht=>?_];have VT:upd (upd H3 p2 (.tup [.str ⟨#[b]⟩,.ref pr])) t (.tup [.str ⟨#[a]⟩,.str ⟨#[b]⟩]) d=some (.dT kvs):=by rw[ay (bA XQ ht)];exact XQ
   have hsz:kvs.length<A_:=by
    have:i*x.cps.size<=100*100:=qaK (by omega) hx;have:kvs.length<20000:=by omega
    exact J_ this (by decide)
   refine#[d,_,Y,xm.t (k:=keyOf a b) VT ai hsz,?_];refine#[putK kvs (keyOf a b) (.int (f.1*(u / f.2))),_,_,Y,aj.at (s4.trans (aj.upd ht)) hd,ai,?_,hc.put nd ha hb #[row,er,ef]];have:=jd kvs (keyOf a b) (.int (f.1*(u / f.2)));omega
  ·rintro σ H3 ⟨kvs,v6,v7,rfl,s3,GQ,hk,hc⟩;rw[RA]at hk hc;refine#[kvs,_,_,_,_,Y,s3,GQ,?_,hc.row (i_ _)];rw[qcW];exact hk
 ·rintro σ H2 ⟨kvs,v4,v5,v6,v7,rfl,s2,hd2,hk,hc⟩;rw[hmin]at hc;exact#[_,Y,k d H2 kvs s2 hd hd2 (hc.all (i_ _))]
theorem yZ(T:Gs P w K mg p base 0):T.eY.Ok:=by
 refine T.eY.dP l9 λH vs Q E hr h nD=>?_;obtain⟨x,sg,rows,fo,fm,i,j,a,b,f,rfl,⟨_,_,_,_,_,_,_,dx,Pp,o,m,d,kvs,h1,h2,h3,h4,h5,h6⟩,ha,hb,hf,k⟩:=h;intro X;refine#[_,(ao (aE (yP (jh hr) (aT (pv 0) Y) (ck (aa (pv 1) (aa (pv 2) ah))) (λ_ _=>rfl)))),?_];refine#[_,Y,x,_,_,_,_,Y,h1,T.bh,T.kh,DR,?_];refine#[_,Y,_,Y,c_,λt ht=>?_];have VT:upd H t (.tup [.str ⟨#[a]⟩,.str ⟨#[b]⟩]) d.1=some (.dT kvs):=by rw[ay (bA h5 ht)];exact h5
 have z:=pH.t (k:=keyOf a b) VT ai;rw[h6.1 i j a b f ha hb hf]at z;exact#[d.1,_,Y,z,k _ (aj.upd ht)]
theorem y9(T:Gs P w K mg p base 1):T.gh.Ok:=by
 refine T.gh.dP ["prices"] λH vs Q E hr h nD=>?_;obtain⟨x,sg,rows,fo,fm,rfl,⟨_,_,_,_,_,_,_,dx,Pp,o,m,d,kvs,h1,h2,h3,h4,h5,h6⟩,k⟩:=h;intro X;refine#[_,(ao (aE (aT (pv 0) Y))),?_];exact#[_,Y,x,_,_,_,_,Y,h1,T.bh,T.gA,tV,k]
theorem Bs(T:Gs P w K mg p base 1):T.iO.Ok:=by
 refine T.iO.dP ["prices","number","over","under","factor","divisor"] λH vs Q E hr h nD=>?_;obtain⟨x,n,sg,rows,fo,fm,rfl,⟨_,_,_,_,_,u1,u2,dx,Pp,o,m,d,kvs,h1,h2,h3,h4,h5,h6,fs,h7,h8,h9⟩,k⟩:=h;intro X;refine#[_,(ak (Z9X 2 nD (pv 1))
   (ak (Z9X 3 nD aq)
   (ak (bK L_ rfl (cQ (aT (pv 0) rfl)) (Z9Y 4 nD) (ak (Z9X 5 nD (aD T.cN hr (aa (pv 2) (aa (pv 4) ah))))
   (ak (Z9X 2 nD (aI d8 (pv 2) (pv 5)))
   (ao (Z9X 3 nD (aI jq (pv 3) (aI d8 (pv 4) (pv 5))))))))
   (ao (aE (ck (aa (pv 2) (aa (pv 3) ah)))))))),?_]
 refine#[_,Y,_,Y,x,_,_,_,_,Y,h1,T.bh,T.gm,jE,d.2,Y,#[_,bq.of h9],kI (K:=K) (a:=d.2) (xs:=fs.map V.int) (λi σ H2=>H2=H/\mZ λ(ov un:Int) (v4 v5:Option V)=>σ=[some (.ref x),some (.int n),some (.int ov),some (.int un),v4,v5]/\0<un/\qah ov un=1/\ov*pL (fs.take i)=n*un)
  #[rfl,n,1,_,_,rfl,by decide,Int.gcd_one_right n,by show n*pL []=n*1;rfl] (λi σ H2 _ ⟨e,_⟩=>by subst e;exact bq.of h9) ?_ ?_]
 ·rintro i y σ H2 hy ⟨rfl,ov,un,v4,v5,rfl,hun,hg,he⟩;obtain⟨b,eb,rfl⟩:=fk hy;obtain⟨b1,b2⟩:=h7 b (h_ eb);have g1:=iU ov b1;have g2:=DO ov b1;have d1:0<b / (qah ov b:Int):=qbC b1 (qbb g1) (qbp ov b);have d2:b / (qah ov b:Int)<=b:=Int.ediv_le_self _ (qbb b1);refine#[_,Y,_,Y,ov,b,Y,qbb b1,_,Y,_,Y,_,_,Y,Y,#[g1,by omega],_,Y,_,Y,_,Y,_,_,Y,Y,#[g1,by omega],_,_,Y,Y,.inr #[by omega,by omega],?_];refine#[Y,_,_,_,_,Y,Int.mul_pos hun d1,Jo b1 hg,?_];rw[take_snoc eb,p6];exact DX he
 ·rintro σ H2 ⟨rfl,ov,un,v4,v5,rfl,hun,hg,he⟩;rw[e_,Y_ (i_ _),h8]at he;have el:=Q6 u1 hun hg he;refine#[_,Y,_,Y,c_,λq hq=>k q _ (aj.upd hq) hq ?_];rw[ai,el]
theorem qc(T:Gs P w K mg p base 4):T.oA.Ok:=by
 refine T.oA.dP Xh λH vs Q E hr h nD=>?_;obtain⟨x,dx,o,m,sg,c,rows,fo,fm,rfl,hx,hS,h12,hM,LJ,hok,hfo,yV,hfm,yW,k⟩:=h;have S:=hS;obtain⟨q1,q2,q3,q4⟩:=S;intro X;refine#[_,(ak (bD (aD T.gG hr (aa (pv 1) ah)))
   (ak (bD (aD T.c5 hr (aa (pv 1) (aa (pv 2) ah))))
   (ak (fM (pv 0) (pv 1) rfl)
   (ak (fM (pv 0) (cR (iV) rfl T.oR oM (aa (cI (N:=["row"]) rfl D0 (nV (pv 2)) (λ_ _ _ _ _ _ _=>(pM ["row"] 0)) (λ_ _ _ _ _ _ _=>(aD T.gQ hr (aa (pv 0) ah)))) ah)) rfl)
   (ak (fM (pv 0) (aD T.eS hr (aa (pv 3) ah)) rfl)
   (ak (fM (pv 0) (aD T.eS hr (aa (pv 4) ah)) rfl)
   (ak (fM (pv 0) (aD T.iw hr (aa (aD T.jR hr (aa (aT (pv 0) rfl) (aa (aT (pv 0) rfl) (aa (aT (pv 0) rfl) ah)))) ah)) rfl)
   (ak (fM (pv 0) (aD T.jJ hr (aa (aT (pv 0) rfl) ah)) rfl)
   (ak (fM (pv 0) (aD T.gw hr (aa (aT (pv 0) rfl) (aa (aT (pv 0) rfl) (aa (aT (pv 0) rfl) ah)))) rfl)
   (ak (fM (pv 0) (aD T.jV hr (aa (aT (pv 0) rfl) (aa (aT (pv 0) rfl) ah))) rfl)
   (ao (fM (pv 0) (aD T.jV hr (aa (aT (pv 0) rfl) (aa (aT (pv 0) rfl) ah))) rfl)))))))))))),?_]
 refine#[_,Y,sg,Y,hS,λH1 s1=>?_];refine#[_,Y,_,Y,sg,c,rows,Y,hM.dat (Dat.of s1),by omega,LJ,?_];have Zc:H1 x=some (.ins p.aG dx []):=s1 _ _ hx;refine#[_,Y,_,Y,x,_,dx,_,Y,Zc,T.bh,T.cJ,by decide,?_];generalize X4:upd H1 x (.ins p.aG dx (aQ "signs" (.str sg) []))=H2;have S9:H2 x=some (.ins p.aG dx (aQ "signs" (.str sg) [])):=by rw[←X4];exact ai
 have f2:Off x H H2:=by rw[←X4];exact(Off.of s1).trans Off.set
 obtain⟨nc,cs,Xa,hcs,hp⟩:=hM.dat (f2.dat hx);refine#[_,Y,c,_,Y,hcs,λl MS=>?_];refine#[λi n ys H3=>n=rows.length-i/\i<=rows.length/\aj H2 H3/\H3 l=some (.lst ys)/\∃qs:List l_,ys=qs.map V.ref/\qs.length=i/\Paired (λq r=>iH K H3 (.tup q) r) qs ((nE rows).take i),#[rows.length,Y,O_ _,aj.upd MS,ai,[],Y,Y,.nil],?_];rintro i n ys H3 ⟨rfl,hi,s3,hl3,qs,rfl,hq,hP⟩;have zc:c.at K H3 (cs.map Cp.val):=aj.cp s3 hcs;have hcl:=Paired.len hp;by_cases hlt:i<rows.length
 ·have XR:i<cs.length:=by omega
  have e1:(cs.map Cp.val)[i]? =some cs[i].val:=by rw[j_,d_ XR];rfl
  refine .inr #[#[_,_,zc,e1],?_];rintro y H4 ⟨rfl,hy⟩;have ey:=hy _ zc;rw[e1]at ey;cases ey;obtain⟨r,er,hr2⟩:=Paired.at hp (d_ XR);have hrm:=h_ er;refine#[Kp.rep _ _,?_];refine#[_,Y,cs[i],r,Y,hr2.same s3,λf hf=>(hok r hrm f hf).1,by rw[LJ.2 r hrm];omega,λq H5 s5 hqn hR=>?_];have MR:H5 l=some (.lst (qs.map V.ref)):=s5 _ _ hl3;refine#[MR,?_,rows.length-(i+1),by omega,Y,hlt,aj.at (s3.trans s5) MS,ai,qs++[q],by rw[E_];rfl,by rw[t_,hq];rfl,?_]
  ·rw[e_,hq];have:i<100:=by rw[LJ.1]at hlt;omega
   exact J_ this (by decide)
  ·rw[show(nE rows).take (i+1)=(nE rows).take i++[r.map cM] from pP er];refine GP.Paired.snoc (Paired.jr hP λa b z=>?_) ?_
   ·exact(z.same s5).off MR
   ·exact hR.off MR
 ·have ei:i=rows.length:=by omega
  subst ei;refine .inl #[#[_,zc,by rw[e_];omega],?_];refine#[l,_,Y,.inl #[bq.of hl3,λPp XU=>?_]];generalize X3:upd H3 Pp (.tup (qs.map V.ref))=H4;have s4:aj H2 H4:=by rw[←X3];exact s3.trans (aj.upd XU)
  have m4:Ag K H4 Pp (nE rows):=by
   rw[←X3];refine#[qs,bV.of ai,?_];rw[Y_ (by unfold nE;rw[e_];exact i_ _)]at hP;exact Paired.jr hP λa b z=>z.same (aj.upd XU)
  have Xq:=s4 _ _ S9;refine#[_,Y,x,_,dx,_,Y,Xq,T.bh,T.dB,WY,?_];generalize V5:upd H4 x (.ins p.aG dx (aQ "pairs" (.ref Pp) (aQ "signs" (.str sg) [])))=H5;have Zb:H5 x=some (.ins p.aG dx (aQ "pairs" (.ref Pp) (aQ "signs" (.str sg) []))):=by rw[←V5];exact ai
  have f5:Off x H H5:=by rw[←V5];exact(f2.trans (Off.of s4)).trans Off.set
  have d5:Dat H4 H5:=by rw[←V5];exact Dat.set Xq
  refine#[_,Y,o,fo,Y,hfo.dat (f5.dat hx),yV.1,λo' ho'=>?_];generalize RP:upd H5 o' (.tup [.int (cM fo).1,.int (cM fo).2])=H6;have s6:aj H5 H6:=by rw[←RP];exact aj.upd ho'
  have ho6:gI K H6 o' (cM fo):=by rw[←RP];exact bV.of ai
  have S8:=s6 _ _ Zb;refine#[_,Y,x,_,dx,_,Y,S8,T.bh,T.eF,YH,?_];generalize V4:upd H6 x (.ins p.aG dx (aQ "opening" (.ref o') (aQ "pairs" (.ref Pp) (aQ "signs" (.str sg) []))))=H7;have Za:H7 x=some (.ins p.aG dx (aQ "opening" (.ref o') (aQ "pairs" (.ref Pp) (aQ "signs" (.str sg) [])))):=by rw[←V4];exact ai
  have f7:Off x H H7:=by rw[←V4];exact(f5.trans (Off.of s6)).trans Off.set
  have d7:Dat H6 H7:=by rw[←V4];exact Dat.set S8
  refine#[_,Y,m,fm,Y,hfm.dat (f7.dat hx),yW.1,λm' hm'=>?_];generalize X0:upd H7 m' (.tup [.int (cM fm).1,.int (cM fm).2])=H8;have s8:aj H7 H8:=by rw[←X0];exact aj.upd hm'
  have Zx:gI K H8 m' (cM fm):=by rw[←X0];exact bV.of ai
  have Xp:=s8 _ _ Za;refine#[_,Y,x,_,dx,_,Y,Xp,T.bh,T.gE,YG,?_];generalize V3:upd H8 x (.ins p.aG dx (aQ "more" (.ref m') (aQ "opening" (.ref o') (aQ "pairs" (.ref Pp) (aQ "signs" (.str sg) [])))))=H9;have Rr:H9 x=some (.ins p.aG dx (aQ "more" (.ref m') (aQ "opening" (.ref o') (aQ "pairs" (.ref Pp) (aQ "signs" (.str sg) []))))):=by rw[←V3];exact ai
  have f9:Off x H H9:=by rw[←V3];exact(f7.trans (Off.of s8)).trans Off.set
  have d9:Dat H8 H9:=by rw[←V3];exact Dat.set Xp
  have Yd:Dat H6 H9:=d7.trans ((Dat.of s8).trans d9);have e49:Dat H4 H9:=d5.trans ((Dat.of s6).trans Yd);have M9:Ag K H9 Pp (nE rows):=m4.dat e49;have O9:gI K H9 o' (cM fo):=ho6.dat Yd;have m9:gI K H9 m' (cM fm):=Zx.dat d9;have Oi:∀r∈nE rows,∀f∈r,Ci f:=zE λr hr f hf=>oj (hok r hr f hf).1;have Ny:=Lw LJ;refine#[_,Y,x,_,_,_,_,Y,Rr,T.bh,T.dB,Iv,_,Y,x,_,_,_,_,Y,Rr,T.bh,T.eF,DA,_,Y,x,_,_,_,_,Y,Rr,T.bh,T.gE,Ls,?_];refine#[Pp,o',m',nE rows,cM fo,cM fm,Y,M9.YR,O9,m9,by rw[Ny.1];exact h12,λr hr=>by rw[Ny.2 r hr];exact h12,λl1 Ha sa hl1 hla=>?_];have W2:∀n∈i9 (cM fo) (cM fm) (nE rows),lD n:=λn hn=>by
   have z:∀{f:bJ},Ci f->lD f.2:=λq=>#[by have:=q.1;omega,q.2];rcases B_.mp hn with e|hn
   ·rw[e];exact z (oj yV.1)
   rcases B_.mp hn with e|hn
   ·rw[e];exact z (oj yW.1)
   obtain⟨f,hf,rfl⟩:=z_.mp hn;obtain⟨r,hr,hfr⟩:=qb2.mp hf;exact z (Oi r hr f hfr)
  have UX:(i9 (cM fo) (cM fm) (nE rows)).length<=1000:=by
   unfold i9;rw[Q_,Q_,e_,qS Ny.2,Ny.1];have:sg.cps.size*sg.cps.size<=12*12:=qaK h12 h12;omega
  refine#[l1,_,Y,bq.of hla,UX,W2,λfl Hb sb hfl hlb=>?_];have FI:=LY W2;have eU:pL (mq (i9 (cM fo) (cM fm) (nE rows))).1=aC (cM fo).2 (cM fm).2 (nE rows):=by rw[FI.prod,FI.unit,AA]
  have hsm:=FI.small;generalize (mq (i9 (cM fo) (cM fm) (nE rows))).1=Tw at hlb eU hsm;clear FI;have hxb:=sb _ _ (sa _ _ Rr);refine#[_,Y,x,_,dx,_,Y,hxb,T.bh,T.gm,YF,?_];generalize Tu:upd Hb x (.ins p.aG dx (aQ "factors" (.ref fl) (aQ "more" (.ref m') (aQ "opening" (.ref o') (aQ "pairs" (.ref Pp) (aQ "signs" (.str sg) []))))))=Hc;have hxc:Hc x=some (.ins p.aG dx (aQ "factors" (.ref fl) (aQ "more" (.ref m') (aQ "opening" (.ref o') (aQ "pairs" (.ref Pp) (aQ "signs" (.str sg) [])))))):=by rw[←Tu];exact ai
  have fc:Off x H Hc:=by rw[←Tu];exact((f9.trans (Off.of sa)).trans (Off.of sb)).trans Off.set
  have dc:Dat H9 Hc:=by rw[←Tu];exact((Dat.of sa).trans (Dat.of sb)).trans (Dat.set hxb)
  have RH:Hc fl=some (.lst (Tw.map V.int)):=by rw[←Tu];exact Dat.set hxb fl _ (λ_ _ _ z=>by cases z) hlb
  refine#[_,Y,x,_,_,_,_,Y,hxc,T.bh,T.gm,DB,fl,Tw,Y,bq.of RH,hsm,?_];have up:=G6 (oj yV.1) (oj yW.1) Oi;have ub:=G8 h12 Ny (oj yV.1) (oj yW.1) Oi;have Py:∀{f:bJ},P5 f->Sj (aC (cM fo).2 (cM fm).2 (nE rows)) (cM f):=λz=>#[oj z.1,Lx z.2,Bu.div ub _];rw[eU];generalize hu:aC (cM fo).2 (cM fm).2 (nE rows)=u at *;refine#[_,Y,x,_,dx,_,Y,hxc,T.bh,T.gD,YE,?_];generalize OX:upd Hc x (.ins p.aG dx (aQ "unit" (.int u) (aQ "factors" (.ref fl) (aQ "more" (.ref m') (aQ "opening" (.ref o') (aQ "pairs" (.ref Pp) (aQ "signs" (.str sg) [])))))))=m6;have LH:m6 x=some (.ins p.aG dx (aQ "unit" (.int u) (aQ "factors" (.ref fl) (aQ "more" (.ref m') (aQ "opening" (.ref o') (aQ "pairs" (.ref Pp) (aQ "signs" (.str sg) []))))))):=by rw[←OX];exact ai
  have f10:Off x H m6:=by rw[←OX];exact fc.trans Off.set
  have R4:Dat Hc m6:=by rw[←OX];exact Dat.set hxc
  have P0:Dat H9 m6:=dc.trans R4;have RI:m6 fl=some (.lst (Tw.map V.int)):=R4 fl _ (λ_ _ _ z=>by cases z) RH;refine#[_,Y,x,_,_,_,_,Y,LH,T.bh,T.cJ,Iu,_,Y,x,_,_,_,_,Y,LH,T.bh,T.dB,F6,_,Y,x,_,_,_,_,Y,LH,T.bh,T.gD,Lr,?_];refine#[sg,Pp,u,nE rows,Y,M9.dat P0,q2,q4,Ny,zE λr hr f hf=>Py (hok r hr f hf),λd GU kvs Es hdn VV hc=>?_];have OB:=Es _ _ LH;refine#[_,Y,x,_,dx,_,Y,OB,T.bh,T.kh,YD,?_];generalize LP:upd GU x (.ins p.aG dx (aQ "costs" (.ref d) (aQ "unit" (.int u) (aQ "factors" (.ref fl) (aQ "more" (.ref m') (aQ "opening" (.ref o') (aQ "pairs" (.ref Pp) (aQ "signs" (.str sg) []))))))))=JW;have LG:JW x=some (.ins p.aG dx (f6 sg Pp o' m' u (d,fl))):=by rw[←LP];exact ai
  have Wl:Dat m6 JW:=by rw[←LP];exact(Dat.of Es).trans (Dat.set OB)
  have f12:Off x H JW:=by rw[←LP];exact(f10.trans (Off.of Es)).trans Off.set
  have VU:JW d=some (.dT kvs):=by rw[←LP];exact Dat.set OB d _ (λ_ _ _ z=>by cases z) VV
  obtain⟨w1,w2,w3⟩:=Py yV;obtain⟨y1,y2,y3⟩:=Py yW;refine#[_,Y,x,_,_,_,_,Y,LG,T.bh,T.eF,pU,_,Y,x,_,_,_,_,Y,LG,T.bh,T.gD,vK,o',cM fo,u,Y,(O9.dat P0).dat Wl,w1,w2.bg,w3.bg,?_];refine#[_,Y,x,_,dx,_,Y,LG,T.bh,T.ic,YC,?_];generalize OW:upd JW x (.ins p.aG dx (aQ "opening_units" (.int ((cM fo).1*(u / (cM fo).2))) (f6 sg Pp o' m' u (d,fl))))=JV;have IJ:JV x=some (.ins p.aG dx (aQ "opening_units" (.int ((cM fo).1*(u / (cM fo).2))) (f6 sg Pp o' m' u (d,fl)))):=by rw[←OW];exact ai
  have Wk:Dat JW JV:=by rw[←OW];exact Dat.set LG
  have f13:Off x H JV:=by rw[←OW];exact f12.trans Off.set
  refine#[_,Y,x,_,_,_,_,Y,IJ,T.bh,T.gE,(pS (by decide +kernel)).trans vL,_,Y,x,_,_,_,_,Y,IJ,T.bh,T.gD,(pS (by decide +kernel)).trans vK,m',cM fm,u,Y,((m9.dat P0).dat Wl).dat Wk,y1,y2.bg,y3.bg,?_];refine#[_,Y,x,_,dx,_,Y,IJ,T.bh,T.gA,YB,?_];have TQ:Dat m6 (upd JV x (.ins p.aG dx (sJ sg Pp o' m' u (d,fl) ((cM fo).1*(u / (cM fo).2)) ((cM fm).1*(u / (cM fm).2))))):=Wl.trans (Wk.trans (Dat.set IJ));have f14:Off x H (upd JV x (.ins p.aG dx (sJ sg Pp o' m' u (d,fl) ((cM fo).1*(u / (cM fo).2)) ((cM fm).1*(u / (cM fm).2))))):=f13.trans Off.set;refine k _ #[hS,Ny,?_,?_,?_,?_,?_,dx,Pp,o',m',(d,fl),kvs,?_,(M9.dat P0).dat TQ,(O9.dat P0).dat TQ,(m9.dat P0).dat TQ,?_,?_,Tw,hsm,?_,?_] f14 (λc0 hc0 C' Ye fs' hx' hl'=>?_)
  ·rw[hu];exact zE λr hr f hf=>Py (hok r hr f hf)
  ·rw[hu];exact Py yV
  ·rw[hu];exact Py yW
  ·rw[hu];exact up
  ·rw[hu];exact ub
  ·rw[hu];exact ai
  ·exact(Wk.trans (Dat.set IJ)) d _ (λ_ _ _ z=>by cases z) VU
  ·rw[hu];exact hc
  ·rw[hu];exact eU
  ·exact TQ fl _ (λ_ _ _ z=>by cases z) RI
  ·rw[ai]at hx';cases hx';have e:fl=c0:=V.ref.inj (Z_ ((jE (x:=sg) (P:=Pp) (o:=o') (m:=m') (u:=u) (d:=(d,fl))).symm.trans hl'));subst e
   cases q:H fl with
   |none=>exact hc0 q
   |some u0 =>
    by_cases ex:fl=x
    ·rw[ex,sa _ _ Rr]at hfl;cases hfl
    ·rw[(f9.trans (Off.of sa)) fl u0 q ex]at hfl;cases hfl
theorem Bl(T:Gs P w K mg p base 0):T.fC.Ok:=by
 refine T.fC.dP ["_law_script","_law_at","_law_cell","_law_m"] λH vs Q E hr h nD=>?_;obtain⟨s,t,ns,k,rfl,hC,hk2,kk⟩:=h;have hS:=hC.WO;have vW:=hC.QG;have ht:=hC.at_;have hk:=hC.k0;intro X;refine#[_,(ak (rM (aI bZ (aR bu (pv 1) aq (λ_ _=>rfl)) aq) (yO (pv 1) aq set_list))
   (ak (Z9X 2 nD aq)
   (ak (bC (aM pN (av (aK) rfl T.bB aZ (aa (pv 0) ah)) aq (aW _)) (ao (Z9X 2 nD (aR bu (pv 0) (aI cT (aR bu (pv 1) aq (λ_ _=>rfl)) (av (aK) rfl T.bB aZ (aa (pv 0) ah))) (λ_ _=>rfl)))) aP)
   (ak (Z9X 3 nD (aI cT (aI jq (aI bZ (aI bZ (aI cT (pv 2) aq) (aI jq (aI jq (aR bu (pv 1) aq (λ_ _=>rfl)) (aR bu (pv 1) aq (λ_ _=>rfl))) aq)) aq) aq) aq))
   (ao (aE (aI cT (aI jq (pv 3) (pv 3)) aq))))))),?_]
 refine#[_,Y,t,_,_,_,Y,Y,bq.of ht,Y,_,_,Y,Y,_,Y,t,_,_,0,Y,Y,ht,Y,?_];have hq:bq K (upd H t (.lst [.int (k+1)])) s (ns.map V.int):=vW _;refine#[_,Y,_,_,Y,.inl #[_,hq,Y],_,_,Y,Y,_,Y,?_];have fin:∀c:Int,∀m1:Int,m1=(c % 2147483647+(k+1)*(k+1)*7919+11)*48271 % 2147483647->Q (.int (m1*m1 % 1999999973)) (upd H t (.lst [.int (k+1)])):=λc m1 _ =>
  kk _ (qap _ (by decide)) (qaf _ (by decide))
 have rest:∀c:Int,Q (.int (((c % 2147483647+(k+1)*(k+1)*7919+11)*48271 % 2147483647)*((c % 2147483647+(k+1)*(k+1)*7919+11)*48271 % 2147483647) % 1999999973)) (upd H t (.lst [.int (k+1)])):=λc=>fin c _ rfl;have OZ:bq K (upd H t (.lst [.int (k+1)])) t [.int (k+1)]:=bq.of ai;refine cS (λh0=>?_) (λh0=>?_)
 ·have hn:0<ns.length:=by rw[e_]at h0;omega
  have i1:=qap (k+1) (show((ns.length:Nat):Int)≠0 by omega);have i2:=qaf (k+1) (show(0:Int)<((ns.length:Nat):Int) by omega);obtain⟨j,hj⟩:∃j:Nat,(k+1) % ((ns.length:Nat):Int)=(j:Int):=#[_,(qaS i1).symm];have hjl:j<ns.length:=by omega
  refine#[_,Y,_,Y,t,_,_,_,Y,Y,OZ,Y,_,Y,_,_,Y,.inl #[_,hq,Y],_,_,Y,Y,(by show(0:Int)<(((ns.map V.int).length:Nat):Int);rw[e_];omega),?_];refine#[s,_,_,.int ns[j],Y,Y,hq,?_,?_]
  ·rw[e_,hj];exact bx (by rw[j_,d_ hjl];rfl)
  ·refine#[_,Y,_,_,Y,Y,(by show(0:Int)<_;decide),?_];refine#[_,Y,t,_,_,_,Y,Y,OZ,Y,_,Y,t,_,_,_,Y,Y,OZ,Y,_,_,Y,Y,.inl #[by omega,by omega],_,_,Y,Y,.inr #[by decide,by decide],_,_,Y,Y,_,_,Y,Y,_,_,Y,Y,.inr #[by decide,by decide],_,_,Y,Y,(by show(0:Int)<_;decide),?_];have m0:=qap ((ns[j] % 2147483647+(k+1)*(k+1)*7919+11)*48271) (show(2147483647:Int)≠0 by decide);have m1:=qaf ((ns[j] % 2147483647+(k+1)*(k+1)*7919+11)*48271) (show(0:Int)<2147483647 by decide);exact#[_,Y,_,Y,_,_,Y,Y,.inl #[by omega,by omega],_,_,Y,Y,(by show(0:Int)<_;decide),rest _]
 ·refine#[_,Y,_,_,Y,Y,(by show(0:Int)<_;decide),?_];refine#[_,Y,t,_,_,_,Y,Y,OZ,Y,_,Y,t,_,_,_,Y,Y,OZ,Y,_,_,Y,Y,.inl #[by omega,by omega],_,_,Y,Y,.inr #[by decide,by decide],_,_,Y,Y,_,_,Y,Y,_,_,Y,Y,.inr #[by decide,by decide],_,_,Y,Y,(by show(0:Int)<_;decide),?_];have m0:=qap (((0:Int) % 2147483647+(k+1)*(k+1)*7919+11)*48271) (show(2147483647:Int)≠0 by decide);have m1:=qaf (((0:Int) % 2147483647+(k+1)*(k+1)*7919+11)*48271) (show(0:Int)<2147483647 by decide);exact#[_,Y,_,Y,_,_,Y,Y,.inl #[by omega,by omega],_,_,Y,Y,(by show(0:Int)<_;decide),rest _]
end
def Ah(K:zaa)(H:Hp)(t l:l_)(n:Nat)(k:Int)(H2:Hp):Prop:=bU λrs rows=>qZ K (Wo t H2) l rs rows/\GF n rows/\(∀r∈rows,∀f∈r,JH f)/\(∀r∈rs,H r=none)/\aj (Wo t H) (Wo t H2)/\H2 t=some (.lst [.int k])
section
variable{P:qal}{w:qaG}{K:zaa}{mg:w_->Option n_}{base:qaE}
theorem yX(T:Gs P w K mg p base 0):T.kR.Ok:=by
 refine T.kR.dP ["texts","place"] λH vs Q E hr h nD=>?_;obtain⟨v,rs,n,rfl,hR,hS,hn,k⟩:=h;obtain⟨c,rfl,hc⟩:=hR.cp;have hz:rs.length<A_:=o_ hS.len (by decide);intro X;refine#[_,(ao (aE (cW zae zal zam zv bE (aa (cI (N:=["text","place"]) Y (DZ 1 [1]) (nV (pv 0)) (λ_ _ _ _ _ _ _=>(pM ["text","place"] 0)) (λ_ _ _ _ _ _ _=>(aR oq (pv 0) (pv 1) (λ_ _=>rfl)))) ah)))),?_];refine#[Y,_,Y,c,_,Y,hc _ (aj.refl _),λl hl=>?_];refine eL rs.length (λi=>sg ((rs.getD i ⟨#[]⟩).cps.toList.getD n 0)) hl hz (λi H2 s2 hi=>?_) (λH2 s2=>?_) (λi x H2 H3 R s2 hi y hR=>?_) λH2 s2 hl2=>?_
 ·exact#[_,_,hc _ s2,by rw[j_,d_ hi];rfl]
 ·exact#[_,hc _ s2,by rw[e_];exact i_ _]
 ·obtain⟨rfl,y⟩:=y;have e:=y _ (hc _ s2);rw[j_,d_ hi]at e;cases e;have hm:=D_ hi;have hn':n<rs[i].cps.toList.length:=by rw[k_];exact hn _ hm
  refine#[Kp.mL,?_];refine#[_,Y,_,Y,_,_,rs[i].cps.toList[n],Y,Y,gc (hS.row _ hm) (by decide),bx (d_ hn'),?_];have e2:rs[i].cps.toList[n]=(rs.getD i ⟨#[]⟩).cps.toList.getD n 0:=by
   have e3:rs.getD i ⟨#[]⟩=rs[i]:=by rw[M_,d_ hi,qaZ]
   rw[e3,M_,d_ hn',qaZ]
  rw[e2];exact hR _ (aj.refl _)
 ·refine#[l,cF rs n,Y,Y,?_,?_,k H2 s2]
  ·have e:(H_ rs.length).map (λi=>sg ((rs.getD i ⟨#[]⟩).cps.toList.getD n 0))=(cF rs n).map sg:=by
    unfold cF;rw[U_];refine qa0 (by simp) λi h1 h2=>?_;have hi:i<rs.length:=by simpa using h1
    simp[M_,d_ hi]
   rw[e]at hl2;exact bq.of hl2
  ·unfold cF;rw[e_];exact gc hS.len (by decide)
theorem FY(T:Gs P w K mg p base 1):T.mz.Ok:=by
 refine T.mz.dP ["texts","many"] λH vs Q E hr h nD=>?_;obtain⟨v,rs,n,rfl,hR,hS,hn,hw,k⟩:=h;intro X;refine#[_,(ao (aE (cI (N:=["place","texts"]) Y (DZ 1 [0]) (c8 Y T.dH (aa (pv 1) ah)) (λ_ _ _ _ _ _ _=>(pM ["place","texts"] 0)) (λ_ _ _ _ _ _ _=>(aD T.kR hr (aa (pv 1) (aa (pv 0) ah))))))),?_];refine#[_,Y,n,Y,by omega,by omega,λl hl=>?_];refine eL n (λi=>V.str (dg rs i)) hl (o_ hn (by decide)) (λi H2 s2 hi=>?_) (λH2 s2=>?_) (λi x H2 H3 R s2 hi y Tt=>?_) λH2 s2 hl2=>?_
 ·show i<((n:Nat):Int).toNat;omega
 ·show((n:Nat):Int).toNat<=n;omega
 ·obtain⟨rfl,rfl⟩:=y;refine#[Kp.mL,?_];refine#[_,Y,_,Y,v,rs,i,?_,hR.same s2,hS,λr hr=>J_ hi (hw r hr),λH5 s5=>Tt H5 s5];rw[qbl];rfl
 ·refine k l H2 s2 hl ?_;rw[hl2];unfold cols;rw[U_];rfl
theorem wH(T:Gs P w K mg p base 2):T.dW.Ok:=by
 refine T.dW.dP ["rows"] λH vs Q E hr h nD=>?_;obtain⟨v,rs,rfl,hR,hS,hl,k⟩:=h;obtain⟨hne,hw⟩:=aV.mp hl;intro X;refine#[_,(ao (aE (aD T.mz hr (aa (pv 0) (aa (av (aK) Y T.bB aZ (aa (aR sE (pv 0) aq (λ_ _=>rfl)) ah)) ah))))),?_]
 cases rs with
 |nil=>exact absurd Y hne
 |cons r0 rs =>
  have h0:=hS.row r0 (r_ ..);refine#[_,Y,_,Y,hR.ix (i:=0) Y ?_];refine#[_,_,Y,#[gc h0 (by decide),Y],v,_,r0.cps.size,Y,hR,hS,h0,λr hr=>by rw[hw r hr];exact i_ _,λl H' s' hn hl'=>k l H' s' hn hl']
theorem Dr(T:Gs P w K mg p base 0):T.mD.Ok:=by
 refine T.mD.dP l7 λH vs Q E hr h nD=>?_;obtain⟨x,rfl,hx,k⟩:=h;intro X;refine#[_,(ao (aE (iT dO (pv 0) (aI yR (bS (v:=.str (p_ "-")) Y T.pR #[_,Y]) (av (aK) Y T.bB aZ (aa (pv 0) ah))) (aW _)))),?_];refine#[_,Y,_,Y,_,_,Y,#[gc hx (by decide),Y],_,_,Y,Y,by show(-1000000:Int)<=((x.cps.size:Nat):Int);omega,by show((x.cps.size:Nat):Int)<=1000000;omega,by decide,?_,Y,?_]
 ·show((x.cps.size:Nat):Int).toNat*1<=A_;exact gc (show _<=1000 by omega) (by decide)
 ·rw[LR];exact k
theorem Bj(T:Gs P w K mg p base 0):T.gf.Ok:=by
 refine T.gf.dP ["things"] λH vs Q E hr h nD=>?_;obtain⟨x,rfl,hx,k⟩:=h;intro X;refine#[_,(ao (aE (FU (pv 0) Y T.pR))),?_];exact#[_,Y,x,Y,by omega,k]
theorem wK(T:Gs P w K mg p base 2):T.jQ.Ok:=by
 refine T.jQ.dP ["row"] λH vs Q E hr h nD=>?_;obtain⟨x,rfl,hx,k⟩:=h;intro X;refine#[_,(ao (aE (aD T.g6 hr (aa (aD T.gf hr (aa (pv 0) ah)) ah)))),?_];refine#[_,Y,x,Y,hx,_,Y,?_,k];show(x.cps.toList.filter (· != 45)).length<=1000;exact gc (qaH _ _) (by rw[k_];exact hx)
theorem lP(T:Gs P w K mg p base 0):T.c6.Ok:=by
 refine T.c6.dP ["rows","row"] λH vs Q E hr h nD=>?_;obtain⟨v,rs,rfl,hR,hS,hb,k⟩:=h;obtain⟨c,rfl,hc⟩:=hR.cp;obtain⟨hne,hw⟩:=aV.mp (aL hb);intro X;refine#[_,(ak (bC (aM dO (av (aK) Y T.bB aZ (aa (pv 0) ah)) aq (aW _)) bO aP)
   (ao (bK L_ rfl (nV (pv 0)) (Z9Y 1 nD) (ao (bC (aM nj (av (aK) rfl T.bB aZ (aa (pv 1) ah)) (av (aK) rfl T.bB aZ (aa (aR sE (pv 0) aq (λ_ _=>rfl)) ah)) (aW _)) bO aP))))),?_]
 refine#[_,Y,_,_,Y,hR.len,Y,_,Y,?_]
 cases rs with
 |nil=>exact absurd Y hne
 |cons r0 rs =>
  refine eX #[_,Y,c,_,Y,hc _ (aj.refl _),sH (K:=K) (xs:=(r0::rs).map V.str) (λi σ H2=>H2=H/\∃v1,σ=[some c.val,v1]) #[Y,_,Y] (λi σ H2 _ ⟨e,_⟩=>by rw[e];exact hc _ (aj.refl _)) ?_ λσ H2 ⟨e,_⟩=>by rw[e];exact k _ (aj.refl _)];rintro i x σ H2 hx ⟨rfl,v1,rfl⟩;obtain⟨r,hr,rfl⟩:=fk hx;have hm:=h_ hr;refine#[_,Y,_,_,Y,#[gc (hS.row r hm) (by decide),Y],_,Y,hR.ix (i:=0) Y #[_,_,Y,#[gc (hS.row r0 (r_ ..)) (by decide),Y],Y,_,Y,?_]];rw[decide_eq_true (show V.int ((r.length:Nat):Int)=V.int ((r0.length:Nat):Int) by show V.int ((r.cps.size:Nat):Int)=_;rw[hw r hm];rfl)];exact eX #[Y,_,Y]
theorem tQ(T:Gs P w K mg p base 3):T.iC.Ok:=by
 refine T.iC.dP ["rows","row"] λH vs Q E hr h nD=>?_;obtain⟨v,rs,rfl,hR,hS,hb,k⟩:=h;obtain⟨c,rfl,hc⟩:=hR.cp;intro X;refine#[_,(ao (bK L_ Y (nV (pv 0)) (Z9Y 1 nD) (ao (bC (jo (fh (aD T.jQ hr (aa (pv 1) ah)))) bO aP)))),?_];refine#[_,Y,c,_,Y,hc _ (aj.refl _),sH (K:=K) (xs:=rs.map V.str) (λi σ H2=>aj H H2/\∃v1,σ=[some c.val,v1]) #[aj.refl _,_,Y] (λi σ H2 _ ⟨e,_⟩=>hc _ e) ?_ λσ H2 ⟨e,_⟩=>k _ e];rintro i x σ H2 hx ⟨s2,v1,rfl⟩;obtain⟨r,hr,rfl⟩:=fk hx;have hm:=h_ hr;refine#[_,Y,r,Y,hS.row r hm,λH3 s3=>#[_,Y,?_]];rw[x_.mp (fF hb) r hm];exact jw #[s2.trans s3,_,Y]
theorem r9(T:Gs P w K mg p base 3):T.gS.Ok:=by
 refine T.gS.dP ["rows","column"] λH vs Q E hr h nD=>?_;obtain⟨v,rs,rfl,hR,hS,hb,k⟩:=h;intro X;refine#[_,(ao (bK L_ Y (cQ (aD T.dW hr (aa (pv 0) ah))) (Z9Y 1 nD) (ao (bC (fh (aD T.mD hr (aa (pv 1) ah))) bO aP)))),?_];refine#[_,Y,v,rs,Y,hR,hS,aL hb,λl H1 s1 hn hl1=>?_];refine#[l,Y,#[_,bq.of hl1],kI (K:=K) (xs:=(cols rs (bz rs)).map V.str) (λi σ H2=>aj H1 H2/\∃v1,σ=[some v,v1]) #[aj.refl _,_,Y] (λi σ H2 _ ⟨e,_⟩=>bq.of (e _ _ hl1)) ?_ λσ H2 ⟨e,_⟩=>k _ (s1.trans e)];rintro i x σ H2 hx ⟨s2,v1,rfl⟩;obtain⟨r,hr,rfl⟩:=fk hx;have hm:=h_ hr;have hr1:r.cps.size<=1000:=by
  obtain⟨j,_,rfl⟩:=z_.mp hm;rw[eK];exact gc hS.len (by decide)
 refine#[_,Y,r,Y,hr1,_,Y,?_];unfold bI at hb;rw[N_,N_]at hb;have hg:(!bL r)=true:=x_.mp hb.2.2 r hm
 cases z:bL r with
 |true=>rw[z]at hg;cases hg
 |false=>exact eX #[s2,_,Y]
theorem tL(T:Gs P w K mg p base 0):T.gg.Ok:=by
 refine T.gg.dP ["place","move","step"] λH vs Q E hr h nD=>?_;obtain⟨q,c,ij,rfl,hq,hc,k⟩:=h;intro X
 refine#[_,(ak (bC (aM Bh (pv 1) (bS (v:=.ref p.gT) Y T.ud Y) (by with_unfolding_all rfl)) bO aP)
   (ak (Z9X 2 nD (Ex (bS (v:=.ref p.gT) rfl T.ud rfl) (pv 1) (λ_ _=>rfl)))
   (ao (aE (ck (aa (aI bZ (aR bG (pv 0) aq (λ_ _=>rfl)) (aR bG (pv 2) aq (λ_ _=>rfl))) (aa (aI bZ (aR bG (pv 0) aq (λ_ _=>rfl)) (aR bG (pv 2) aq (λ_ _=>rfl))) ah))))))),?_]
 obtain⟨v,f,hv,hf,e⟩:bU λ(v:l_) (f:bJ)=>eZ [(Sum.inr (p_ "p"),V.ref p.fW),(Sum.inr (p_ "a"),V.ref p.fV),(Sum.inr (p_ "b"),V.ref p.fU)] (Sum.inr ⟨#[c]⟩:Key)=some (.ref v)/\(∀H:Hp,bV K H v [.int f.1,.int f.2])/\stp ij c=(ij.1+f.1,ij.2+f.2):=by
  rcases hc with rfl|rfl|rfl
  ·exact#[p.fW,(1,1),cO (show(Sum.inr (p_ "p"):Key)=Sum.inr ⟨#[112]⟩ by decide +kernel),T.q_STEPS0,Y]
  ·exact#[p.fV,(1,0),(cP (show ¬(Sum.inr (p_ "p"):Key)=Sum.inr ⟨#[97]⟩ by decide +kernel)).trans (cO (show(Sum.inr (p_ "a"):Key)=Sum.inr ⟨#[97]⟩ by decide +kernel)),T.uQ,Y]
  ·exact#[p.fU,(0,1),(cP (show ¬(Sum.inr (p_ "p"):Key)=Sum.inr ⟨#[98]⟩ by decide +kernel)).trans ((cP (show ¬(Sum.inr (p_ "a"):Key)=Sum.inr ⟨#[98]⟩ by decide +kernel)).trans (cO (show(Sum.inr (p_ "b"):Key)=Sum.inr ⟨#[98]⟩ by decide +kernel))),T.uP,Y]
 refine#[_,Y,p.gT,_,.inr ⟨#[c]⟩,Y,Y,T.kd_STEPS P,_,Y,?_];rw[hv];refine jw ?_;refine#[_,Y,p.gT,_,.inr ⟨#[c]⟩,_,Y,Y,T.kd_STEPS P,hv,?_];refine#[_,Y,_,_,_,_,Y,Y,hq,Y,_,Y,_,_,_,_,Y,Y,hf _,Y,_,_,Y,Y,_,Y,_,_,_,_,Y,Y,hq,Y,_,Y,_,_,_,_,Y,Y,hf _,Y,_,_,Y,Y,c_,λr hr=>?_];have z:=k r hr;rw[e]at z;exact z
theorem qd(T:Gs P w K mg p base 0):T.kF.Ok:=by
 refine T.kF.Lk ["self","row","place"] λH vs Q E hr h nD=>?_;obtain⟨e,i,j,rfl,he,hi,hj,k⟩:=h;have xc:=T.kF.m.cls;intro X;refine#[_,(ak (bD (Lb T.xw_WeaveError Y T.lu (aa (pv 0) (aa (La (t9 bE (t9 (Ih (pv 1)) (t9 bE (t9 (Ih (pv 2)) N8))))) ah))))
   (ak (Eu (pv 0) (pv 1) rfl)
   (ao (Eu (pv 0) (pv 2) rfl)))),?_]
 have li:=xR hi;have lj:=xR hj;have ti:=zb4 li;have tj:=zb4 lj;have l0:(Str.empty++p_ "no sign that may stand there: row ").length<=50:=by decide
 have l1:=zU l0 ti;have l2:=zU l1 (show(p_ ", place ").length<=20 by decide);have l3:=zU l2 tj;refine#[_,Y,_,Y,gc l0 (by decide),_,Y,_,Y,li,_,Y,gc l1 (by decide),_,Y,gc l2 (by decide),_,Y,_,Y,lj,_,Y,gc l3 (by decide),gc l3 (by decide),?_];refine#[e,p.bR,_,none,_,Y,he,xc,?_];refine#[_,Y,_,Y,e,p.bR,Y,T.xs_NoSign,T.mP,.inl #[he,λdx hdx=>?_]];have ne:dx≠e:=λz=>by rw[z,he]at hdx;cases hdx
 refine#[_,Y,_,Y,e,p.bR,Y,T.xs_NoSign,T.n_NoSign_place,.inr #[dx,_,by rw[ay (Ne.symm ne),ai],ai,WY,?_]];refine k dx _ (λb u hb IT=>?_) hdx (by rw[ay (Ne.symm ne),ay (Ne.symm ne),ai]) ai;have nb:b≠dx:=λz=>by rw[z,hdx]at hb;cases hb
 rw[ay nb,ay nb,ay IT,ay nb];exact hb
theorem qK(T:Gs P w K mg p base 4):T.jD.Ok:=by
 refine T.jD.dP ["self","rows"] λH vs Q E hr h nD=>?_;obtain⟨b,dx,v,rs,rfl,hb,hR,hS,hk,k⟩:=h;intro X;refine#[_,(ak (bD (aD T.c6 hr (aa (pv 1) ah)))
   (ak (bD (aD T.iC hr (aa (pv 1) ah)))
   (ak (bD (aD T.gS hr (aa (pv 1) ah)))
   (ao (fM (pv 0) (cR (iV) rfl T.oR oM (aa (pv 1) ah)) rfl))))),?_]
 refine#[_,Y,v,rs,Y,hR,hS,hk,λH1 s1=>?_];refine#[_,Y,v,rs,Y,hR.same s1,hS,hk,λH2 s2=>?_];refine#[_,Y,v,rs,Y,(hR.same s1).same s2,hS,hk,λH3 s3=>?_];have My:=(s1.trans s2).trans s3;have GR:=My _ _ hb;obtain⟨a,rfl,hq⟩:=hR.same My;refine#[_,Y,a,rs.map V.str,Y,?_];rcases hq with hq|hq
 ·refine .inl #[hq,λq hqn=>#[_,Y,b,_,dx,[],Y,?_,T.bH,T.aS,by show 0<1000;decide,?_]]
  ·exact aj.upd hqn _ _ GR
  ·have nb:q≠b:=λz=>by rw[z,GR]at hqn;cases hqn
   refine k _ (λa' u h1 h2=>?_) #[dx,q,ai,.inl (.inl (by rw[ay nb,ai]))];rw[ay h2];exact aj.upd hqn _ _ (My _ _ h1)
 ·refine .inr #[hq,_,Y,b,_,dx,_,Y,GR,T.bH,T.aS,by show 0<1000;decide,?_];refine k _ (λa' u h1 h2=>?_) #[dx,a,ai,bV.UN GR hq];rw[ay h2];exact My _ _ h1
theorem vg(T:Gs P w K mg p base 2):T.c7.Ok:=by
 refine T.c7.Lk ["known","rows","number","row","place","sign"] λH vs Q E hr h nD=>?_;obtain⟨sg,v,rs,rfl,hR,hS,kq,k⟩:=h;obtain⟨c0,rfl,hc⟩:=hR.cp;intro X
 refine#[_,(ao (bK jB Y (oW Y T.fT (aa (pv 1) ah)) (kc (n:=2) Y (bQ (Z9Y 2 nD) (bQ (Z9Y 3 nD) gK))) (ao (bK jB Y (oW Y T.fT (aa (pv 3) ah)) (kc (n:=2) Y (bQ (Z9Y 4 nD) (bQ (Z9Y 5 nD) gK))) (ao (bC (aM yS (pv 5) (pv 0) (by with_unfolding_all rfl)) (ao (FP kN T.kF.m (T.kF.g (by decide)) (hr.mono (by decide)) T.kF.d.b Y Y T.sr (aa (pv 2) (aa (pv 4) ah)))) aP)))))),?_]
 refine#[_,Y,c0,_,Y,hc _ (aj.refl _),lZ (K:=K) (c:=c0) (xs:=rs.map V.str) (λi σ H2=>mZ λv2 v3 v4 v5=>σ=[some (.str sg),some c0.val,v2,v3,v4,v5]/\aj H H2/\∀m r,m<i->rs[m]? =some r->Of sg r) #[_,_,_,_,Y,aj.refl _,λm r z=>absurd z (qbu _)] (λi σ H2 _ ⟨_,_,_,_,_,s2,_⟩=>hc _ s2) ?_ ?_]
 ·rintro i y p1 σ H2 hy hp1 ⟨v2,v3,v4,v5,rfl,s2,To⟩;obtain⟨z,ML,rfl⟩:=fk hy;have hz:=hS.row z (h_ ML);have hi:i<rs.length:=(m_.mp ML).1;have hl:=hS.len;refine#[p1,_,Y,bV.of ai,Y,_,_,Y,_,_,Y,Y,?_];refine#[_,Y,.txt z,_,Y,Y,lZ (K:=K) (c:=.txt z) (xs:=dw z) (λj σ H3=>bU λv4 v5=>σ=[some (.str sg),some c0.val,some (.int (i:Int)),some (.str z),v4,v5]/\aj H H3/\∀k c,k<j->z.cps[k]? =some c->c∈sg.cps.toList) #[_,_,Y,s2.trans (aj.upd hp1),λk c z=>absurd z (qbu _)] (λj σ H3 _ _=>rfl) ?_ ?_]
  ·rintro j y p2 σ H3 hy hp2 ⟨v4,v5,rfl,s3,hp⟩;obtain⟨c,hc,rfl⟩:=signs_get hy;have hj:=DY hc;have s4:=s3.trans (aj.upd (o:=.tup [.int (j:Int),.str ⟨#[c]⟩]) hp2);refine#[p2,_,Y,bV.of ai,Y,_,_,Y,_,_,Y,Y,?_];refine#[_,Y,_,Y,_,_,Y,Y,_,Y,?_];rw[StrLaws.found_one];by_cases hm:c∈sg.cps.toList
   ·rw[decide_eq_true hm];refine jw #[_,_,Y,s4,λk d hk hd=>?_];by_cases z:k=j
    ·subst z;rw[hc]at hd;cases hd;exact hm
    ·exact hp k d (by omega) hd
   ·rw[decide_eq_false hm];refine xW #[_,Y,_,Y,c_,λe hn=>?_];have hne:H e=none:=aj.free s4 hn;refine#[e,i,j,Y,ai,by omega,by omega,λdx H' hk hdx hx hd=>#[Y,some dx,hx,k i j #[#[z,c,ML,hc,hm,hp],To] dx _ (λb u hb=>?_) ?_]]
    ·have nb:b≠e:=λz=>by rw[z,hne]at hb;cases hb
     rw[oF nb];exact hk b u (by rw[ay nb];exact s4 b u hb) nb
    ·have ne:dx≠e:=λz=>by rw[z,ai]at hdx;cases hdx
     rw[oF ne];exact hd
  ·rintro σ H3 ⟨v4,v5,rfl,s3,hp⟩;have oz:Of sg z:=λc hc=>by
    obtain⟨k,hk,e⟩:=qbd hc;have hk':k<z.cps.size:=by simpa using hk
    exact hp k c (by rw[signs_length];exact hk') (by rw[←P_,d_ hk,e])
   refine#[_,_,_,_,Y,s3,λm r hm hr=>?_];by_cases z:m=i
   ·subst z;rw[ML]at hr;cases hr;exact oz
   ·exact To m r (by omega) hr
 ·rintro σ H2 ⟨v2,v3,v4,v5,rfl,s2,To⟩;refine kq (λr hr=>?_) H2 s2;obtain⟨m,hm,e⟩:=qbd hr;exact To m r (by rw[e_];exact hm) (by rw[d_ hm,e])
theorem pD(T:Gs P w K mg p base 3):T.cC.Ok:=by
 refine T.cC.dP S4 λH vs Q E hr h nD=>?_;obtain⟨x,sg,rows,fo,fm,v,rs,rfl,⟨sig,_,_,_,_,_,_,dx,Pp,o,m,d,kvs,h1,h2,h3,h4,h5,h6⟩,hR,hS,hO,k⟩:=h;intro X;refine#[_,(ao (bD (aD T.c7.nv hr (aa (aI bW (aT (pv 0) Y) (bS (v:=.str (p_ "-")) Y T.pR #[_,Y])) (aa (pv 1) ah))))),?_];have hz:sg.cps.size+1<=A_:=gc (qaM sig.2.1 1) (by decide);exact#[_,Y,x,_,_,_,_,Y,h1,T.bh,T.cJ,iL,_,_,Y,Y,hz,_,Y,nJ sg,v,rs,Y,hR,hS,λ_=>k,λi j hB=>absurd hO hB.no]
theorem wg(T:Gs P w K mg p base 2):T.iy.Ok:=by
 refine T.iy.dP l9 λH vs Q E hr h nD=>?_;obtain⟨x,sg,rows,fo,fm,a,b,rfl,hP,ha,hb,k⟩:=h;intro X;refine#[_,(ak (bC (PW.pt (C8 (aM dO (pv 1) (bS (v:=.str (p_ "-")) Y T.pR #[_,Y]) (aW _)) (yL (aM dO (pv 2) (bS (v:=.str (p_ "-")) Y T.pR #[_,Y]) (aW _))))) (ao (aE aq)) aP)
   (ak (bC (PW.pt (A0 (aM dO (pv 1) (bS (v:=.str (p_ "-")) rfl T.pR #[_,rfl]) (aW _)) (uR (aM dO (pv 2) (bS (v:=.str (p_ "-")) rfl T.pR #[_,rfl]) (aW _))))) (ao (aE (aD T.gh hr (aa (pv 0) ah)))) aP)
   (ao (aE (aD T.eY hr (aa (pv 0) (aa (pv 1) (aa (pv 2) ah)))))))),?_]
 refine#[_,Y,Y,_,Y,?_];rw[wU];by_cases ea:a=45
 ·rw[decide_eq_true ea];refine gU #[_,Y,Y,_,Y,?_];rw[wU];by_cases eb:b=45
  ·rw[decide_eq_true eb];refine gU ?_;have z:=k H (aj.refl _);rw[rz ea eb]at z;exact z
  ·rw[decide_eq_false eb];refine eX #[_,Y,Y,_,Y,?_];rw[wU,decide_eq_true ea];refine gU #[_,Y,x,sg,rows,fo,fm,Y,hP,?_];have z:=k H (aj.refl _);rw[qA (λq=>eb q.2) (.inl ea)]at z;exact z
 ·rw[decide_eq_false ea];refine eX (eX #[_,Y,Y,_,Y,?_]);rw[wU,decide_eq_false ea];refine eX #[_,Y,Y,_,Y,?_];rw[wU];by_cases eb:b=45
  ·rw[decide_eq_true eb];refine gU #[_,Y,x,sg,rows,fo,fm,Y,hP,?_];have z:=k H (aj.refl _);rw[qA (λq=>ea q.1) (.inr eb)]at z;exact z
  ·rw[decide_eq_false eb];obtain⟨i,j,f,k1,k2,k3,k4⟩:=nW (u:=aC fo.2 fm.2 rows) hP.AL ((fu.mp ha).resolve_left ea) ((fu.mp hb).resolve_left eb);refine eX #[_,Y,_,Y,_,Y,x,sg,rows,fo,fm,i,j,a,b,f,Y,hP,k1,k2,k3,λH' s'=>?_];have z:=k H' s';rw[AF ea eb,k4]at z;exact z
theorem zd(T:Gs P w K mg p base 2):T.kU.Ok:=by
 refine T.kU.dP U1 λH vs Q E hr h nD=>?_;obtain⟨x,sg,rows,fo,fm,a,b,rfl,hP,ha,hb,k⟩:=h;intro X;refine#[_,(ak (bC (PW.pt (C8 (aM dO (pv 1) bE (aW _)) (yL (aM dO (pv 2) bE (aW _))))) (ao (aE aq)) aP)
   (ak (bC (PW.pt (A0 (aM dO (pv 1) bE (aW _)) (uR (aM dO (pv 2) bE (aW _))))) (ao (aE (aD T.gh hr (aa (pv 0) ah)))) aP)
   (ao (aE (aD T.eY hr (aa (pv 0) (aa (pv 1) (aa (pv 2) ah)))))))),?_]
 refine#[_,Y,Y,_,Y,?_];rw[wU];by_cases ea:a=45
 ·rw[decide_eq_true ea];refine gU #[_,Y,Y,_,Y,?_];rw[wU];by_cases eb:b=45
  ·rw[decide_eq_true eb];refine gU ?_;have z:=k H (aj.refl _);rw[rz ea eb]at z;exact z
  ·rw[decide_eq_false eb];refine eX #[_,Y,Y,_,Y,?_];rw[wU,decide_eq_true ea];refine gU #[_,Y,x,sg,rows,fo,fm,Y,hP,?_];have z:=k H (aj.refl _);rw[qA (λq=>eb q.2) (.inl ea)]at z;exact z
 ·rw[decide_eq_false ea];refine eX (eX #[_,Y,Y,_,Y,?_]);rw[wU,decide_eq_false ea];refine eX #[_,Y,Y,_,Y,?_];rw[wU];by_cases eb:b=45
  ·rw[decide_eq_true eb];refine gU #[_,Y,x,sg,rows,fo,fm,Y,hP,?_];have z:=k H (aj.refl _);rw[qA (λq=>ea q.1) (.inr eb)]at z;exact z
  ·rw[decide_eq_false eb];obtain⟨i,j,f,k1,k2,k3,k4⟩:=nW (u:=aC fo.2 fm.2 rows) hP.AL ((fu.mp ha).resolve_left ea) ((fu.mp hb).resolve_left eb);refine eX #[_,Y,_,Y,_,Y,x,sg,rows,fo,fm,i,j,a,b,f,Y,hP,k1,k2,k3,λH' s'=>?_];have z:=k H' s';rw[AF ea eb,k4]at z;exact z
theorem ve(T:Gs P w K mg p base 3):T.i8.Ok:=by
 refine T.i8.dP ["prices","column","cost","row","other"] λH vs Q E hr h nD=>?_;obtain⟨x,sg,rows,fo,fm,c,rfl,hP,hO,hc,k⟩:=h;have hz:c.length<=A_:=gc hc (by decide);intro X;refine#[_,(ak (Z9X 2 nD aq)
   (ak (bK L_ rfl (oW rfl T.fT (aa (pv 1) ah)) (kc (n:=2) rfl (bQ (Z9Y 3 nD) (bQ (aY (i:=4) nD rfl (Or.inr rfl)) gK))) (ao (Z9X 2 nD (aI bZ (pv 2) (av (iN (K':=K) rfl rfl) rfl T.sS qu (aa (cI (N:=S2) rfl (DZ 1 [0,4]) (j9 (eE rK (pv 1) gJ (fO (pv 3)))) (λ_ _ _ _ _ _ _=>(pM S2 0)) (λ_ _ _ _ _ _ _=>(aD T.iy hr (aa (pv 1) (aa (pv 0) (aa (pv 2) ah)))))) ah))))))
   (ao (aE (pv 2))))),?_]
 refine#[_,Y,.txt c,_,Y,Y,lZ (K:=K) (c:=.txt c) (xs:=dw c) (λi σ H2=>bU λv3 v4=>σ=[some (.ref x),some (.str c),some (.int (nF (gC sg rows fo fm) c.cps.toList i)),v3,v4]/\aj H H2) #[_,_,Y,aj.refl _] (λi σ H2 _ _=>rfl) ?_ ?_]
 ·rintro i y p1 σ H2 hy hp1 ⟨v3,v4,rfl,s2⟩;obtain⟨d,hd,rfl⟩:=signs_get hy;have hi:=DY hd;have hdl:c.cps.toList[i]? =some d:=by rw[P_];exact hd
  have s3:=s2.trans (aj.upd (o:=.tup [.int (i:Int),.str ⟨#[d]⟩]) hp1);have e1:=uG c i;have e2:(Txt.slice c none (some (i:Int))).cps.size=i:=by rw[←k_,e1,W_,k_];omega
  refine#[p1,_,Y,bV.of ai,Y,_,_,Y,_,_,Y,Y,?_];refine#[_,Y,_,Y,_,Y,_,Y,c,Y,hz,_,Y,λl hl=>?_];refine eL i (λj=>V.int (gC sg rows fo fm (c.cps.toList.getD j 0) d)) hl (o_ (show i<=100 by omega) (by decide)) (λj H4 s4 hj=>?_) (λH4 s4=>?_) (λj y H4 H5 R s4 hj hy hR=>?_) λH4 s4 sF=>?_
  ·show j<(Txt.slice c none (some (i:Int))).cps.size;omega
  ·show(Txt.slice c none (some (i:Int))).cps.size<=i;omega
  ·obtain⟨rfl,e,he,rfl⟩:=hy;have he':c.cps.toList[j]? =some e:=by
    rw[←P_,e1,List.getElem?_take,if_pos hj]at he;exact he
   refine#[Kp.mL,?_];refine#[_,Y,_,Y,_,Y,x,sg,rows,fo,fm,e,d,Y,hP.same (s3.trans s4),hO _ (h_ he'),hO _ (h_ hdl),λH6 s6=>?_];have z:=hR H6 s6;rw[br he']at z;exact z
  ·refine#[l,(H_ i).map λj=>gC sg rows fo fm (c.cps.toList.getD j 0) d,Y,bq.of (by rw[sF,U_];rfl),_,_,Y,Y,some (.int (i:Int)),some (.str ⟨#[d]⟩),?_,s3.trans s4];have e3:nF (gC sg rows fo fm) c.cps.toList (i+1)=nF (gC sg rows fo fm) c.cps.toList i+((H_ i).map λj=>gC sg rows fo fm (c.cps.toList.getD j 0) d).sum:=by
    rw[lM];show nF (gC sg rows fo fm) c.cps.toList i+sm (λj=>gC sg rows fo fm (c.cps.toList.getD j 0) (c.cps.toList.getD i 0)) i=_;rw[br hdl]
   rw[e3];rfl
 ·rintro σ H2 ⟨v3,v4,rfl,s2⟩;rw[signs_length];exact#[_,Y,k H2 s2]
theorem vh(T:Gs P w K mg p base 4):T.gH.Ok:=by
 refine T.gH.dP Rg λH vs Q E hr h nD=>?_;obtain⟨x,b,sg,rows,fo,fm,rs,rfl,hP,⟨dx,q,hb,hq⟩,hS,hl,hO,k⟩:=h;obtain⟨hne,hw⟩:=aV.mp hl;intro X;refine#[_,(ao (aE (av (iN (K':=K) Y Y) Y T.sS qu (aa (cI (N:=["column","prices"]) Y (DZ 1 [0]) (cQ (aD T.dW hr (aa (aT (pv 1) Y) ah))) (λ_ _ _ _ _ _ _=>(pM ["column","prices"] 0)) (λ_ _ _ _ _ _ _=>(aD T.i8 hr (aa (pv 1) (aa (pv 0) ah))))) ah)))),?_];refine#[_,Y,b,_,dx,_,_,Y,hb,T.bH,T.aS,bY,.ref q,rs,Y,#[q,Y,.inr hq],hS,hl,λl0 H1 s1 hn1 hl1=>?_];have MM:bz rs<=1000:=by
  obtain⟨r0,hr0⟩:=qcF rs hne;rw[←hw r0 hr0];exact hS.row r0 hr0
 refine#[l0,Y,#[_,bq.of hl1],λl hl2=>?_];refine eL (bz rs) (λj=>V.int (nF (gC sg rows fo fm) (cF rs j) rs.length)) hl2 (o_ MM (by decide)) (λj H4 s4 hj=>?_) (λH4 s4=>?_) (λj y H4 H5 R s4 hj hy hR=>?_) λH4 s4 sF=>?_
 ·exact#[_,_,bq.of (s4 _ _ hl1),by rw[j_,o7 hj];rfl]
 ·exact#[_,bq.of (s4 _ _ hl1),by rw[e_];unfold cols;rw[e_,X_];exact i_ _]
 ·obtain⟨rfl,hy⟩:=hy;have ey:=hy _ (bq.of (s4 _ _ hl1));rw[j_,o7 hj]at ey;cases ey;have e1:(dg rs j).cps.toList=cF rs j:=rfl;have e2:(dg rs j).cps.size=rs.length:=e_ ..;refine#[Kp.mL,?_];refine#[_,Y,_,Y,x,sg,rows,fo,fm,dg rs j,Y,hP.same (s1.trans s4),λc hc=>?_,by rw[e2];exact hS.len,λH6 s6=>?_]
  ·rw[e1]at hc;obtain⟨r,hr,rfl⟩:=z_.mp (show c∈rs.map λr=>r.cps.toList.getD j 0 from hc);have hj':j<r.cps.toList.length:=by rw[k_,hw r hr];exact hj
   rw[br (d_ hj')];exact hO r hr _ (D_ hj')
  ·rw[e1,e2];exact hR H6 s6
 ·refine#[l,(H_ (bz rs)).map λj=>nF (gC sg rows fo fm) (cF rs j) rs.length,Y,bq.of (by rw[sF,U_];rfl),?_];have z:=k H4 (s1.trans s4);unfold dh at z;rw[←lM]at z;exact z
theorem zj(T:Gs P w K mg p base 1):T.kX.Ok:=by
 refine T.kX.dP ["_law_script","_law_at","_law_many","_law_some","_law_m","_law_turn"] λH vs Q E hr h nD=>?_;obtain⟨s,t,ns,k,n,rfl,hC,hk,hn,kk⟩:=h;intro X;refine#[_,(ak (az (i:=3) nD Y (Or.inr Y) bE)
   (ak (az (i:=3) nD rfl (Or.inr rfl) (aI bW (pv 3) bE))
   (ak (az (i:=4) nD rfl (Or.inr rfl) (aD T.fC hr (aa (pv 0) (aa (pv 1) ah))))
   (ak (az (i:=5) nD rfl (Or.inr rfl) (aR bu (dY (aa aq (aa aq (aa aq (aa aq (aa aq (aa aq ah))))))) (aI cT (pv 4) aq) (λ_ _=>rfl)))
   (ao (aE (cW zae zal zam zv bE (aa (cI (N:=Xg) rfl (DZ 1 [3,4,5]) (c8 rfl T.dH (aa (pv 2) ah)) (λ_ _ _ _ _ _ _=>(pM Xg 0)) (λ_ _ _ _ _ _ _=>(aR oq (pv 1) (aI cT (aI bZ (aI d8 (pv 2) aq) (aI jq (pv 0) (pv 3))) aq) (λ_ _=>rfl)))) ah)))))))),?_]
 refine#[_,Y,_,_,Y,Y,(by decide +kernel),?_];obtain⟨S,hS⟩:∃S:w_,S=p_ " !#$&'()*+,./0123456789:;<=>?@ABCDEFGHIJKLMNOPQRSTUVWXYZ" ++p_ "[\\]^_`abcdefghijklmnopqrstuvwxyz{|}~" :=#[_,rfl];have Cq:S.cps.size=92:=by rw[hS];kernel_rfl
 have vW:S.cps.all dS=true:=by rw[hS];kernel_rfl
 have ZQ:S.cps.toList.Nodup:=vF (by rw[hS];kernel_rfl);rw[←hS];refine#[_,Y,_,Y,s,t,ns,k,Y,hC,hk,λm hm hm2=>?_];refine#[by show 6<=A_;decide,λq hq=>?_];have s1:aj (upd H t (.lst [.int (k+1)])) (upd (upd H t (.lst [.int (k+1)])) q (.lst [.int 1,.int 3,.int 5,.int 7,.int 9,.int 11])):=aj.upd hq;have hq1:upd (upd H t (.lst [.int (k+1)])) q (.lst [.int 1,.int 3,.int 5,.int 7,.int 9,.int 11]) q=some (.lst [.int 1,.int 3,.int 5,.int 7,.int 9,.int 11]):=ai;generalize upd (upd H t (.lst [.int (k+1)])) q (.lst [.int 1,.int 3,.int 5,.int 7,.int 9,.int 11])=H1 at s1 hq1 ⊢;obtain⟨tv,htv,⟨ht1,JR⟩,hat⟩:∃tv:Int,(tv=1\/tv=3\/tv=5\/tv=7\/tv=9\/tv=11)/\(0<=tv/\tv<=11)/\Ea [V.int 1,.int 3,.int 5,.int 7,.int 9,.int 11] (m % 6)=some (.int tv):=by
  have h1:=qap m (show(6:Int)≠0 by decide);have h2:=qaf m (show(0:Int)<6 by decide);have e:m % 6=0\/m % 6=1\/m % 6=2\/m % 6=3\/m % 6=4\/m % 6=5:=by omega
  rcases e with e|e|e|e|e|e<;>rw[e]
  ·exact#[1,by decide,by decide,Y]
  ·exact#[3,by decide,by decide,Y]
  ·exact#[5,by decide,by decide,Y]
  ·exact#[7,by decide,by decide,Y]
  ·exact#[9,by decide,by decide,Y]
  ·exact#[11,by decide,by decide,Y]
 refine#[_,Y,_,_,Y,Y,(by show(0:Int)<6;decide),?_];refine#[q,_,_,.int tv,Y,Y,bq.of hq1,hat,?_];refine#[Y,_,Y,n,Y,by omega,by omega,λl hl=>?_];refine eL n (λi=>sg (S.cps.toList.getD ((m / 6+(i:Int)*tv) % 92).toNat 0)) hl (o_ hn (by decide)) (λi H2 s2 hi=>?_) (λH2 s2=>?_) (λi x H2 H3 R s2 hi y hR=>?_) λH2 s2 hl2=>?_
 ·show i<((n:Nat):Int).toNat;omega
 ·show((n:Nat):Int).toNat<=n;omega
 ·obtain⟨rfl,rfl⟩:=y;refine#[Kp.mL,?_];have i1:=qap (m / 6+(i:Int)*tv) (show(92:Int)≠0 by decide);have i2:=qaf (m / 6+(i:Int)*tv) (show(0:Int)<92 by decide);obtain⟨j,hj⟩:∃j:Nat,(m / 6+(i:Int)*tv) % 92=(j:Int):=#[_,(qaS i1).symm];have hjl:j<S.cps.toList.length:=by rw[k_];omega
  refine#[_,Y,_,Y,_,_,Y,Y,#[by decide,by decide],_,Y,_,Y,_,_,Y,Y,.inl #[by omega,by omega],_,_,Y,Y,_,_,Y,Y,(by show(0:Int)<92;decide),?_];refine#[S,_,S.cps.toList[j],Y,Y,(by show S.cps.size<=_;rw[Cq];decide),(by rw[qbl,hj];exact bx (d_ hjl)),?_];have e:S.cps.toList[j]=S.cps.toList.getD ((m / 6+(i:Int)*tv) % 92).toNat 0:=by
   rw[hj,qax,br (d_ hjl)]
  rw[e];exact hR _ (aj.refl _)
 ·refine#[l,(H_ n).map (λi:Nat=>S.cps.toList.getD ((m / 6+(i:Int)*tv) % 92).toNat 0),Y,Y,?_,?_,kk _ H2 ?_ (λc hc=>?_) (Dv ZQ n (λi _=>?_) λi j hij hj=>Ka htv hij (by omega)) (s1.trans s2)]
  ·rw[U_];exact bq.of hl2
  ·rw[e_,X_];omega
  ·show((H_ n).map _).length=n;rw[e_,X_]
  ·obtain⟨i,hi,rfl⟩:=z_.mp (show c∈(H_ n).map _ from hc);have i1:=qap (m / 6+(i:Int)*tv) (show(92:Int)≠0 by decide);have i2:=qaf (m / 6+(i:Int)*tv) (show(0:Int)<92 by decide);obtain⟨j,hj⟩:∃j:Nat,(m / 6+(i:Int)*tv) % 92=(j:Int):=#[_,(qaS i1).symm];have hjl:j<S.cps.toList.length:=by rw[k_];omega
   rw[hj,qax,br (d_ hjl)];exact Array.all_eq_true_iff_forall_mem.mp vW _ (Array.mem_toList_iff.mp (D_ hjl))
  ·have i1:=qap (m / 6+(i:Int)*tv) (show(92:Int)≠0 by decide);have i2:=qaf (m / 6+(i:Int)*tv) (show(0:Int)<92 by decide);rw[k_];omega
theorem zl(T:Gs P w K mg p base 1):T.gY.Ok:=by
 refine T.gY.dP ["_law_script","_law_at","_law_m","_law_cell","_law_under"] λH vs Q E hr h nD=>?_;obtain⟨s,t,ns,k,rfl,hC,hk2,kk⟩:=h;have vW:=hC.QG;have hk:=hC.k0;intro X;refine#[_,(ak (Z9X 2 nD (aD T.fC hr (aa (pv 0) (aa (pv 1) ah))))
   (ak (Z9X 3 nD aq)
   (aX (bC (aM pN (av (aK) rfl T.bB aZ (aa (pv 0) ah)) aq (aW _)) (ao (Z9X 3 nD (aR bu (pv 0) (aI cT (aR bu (pv 1) aq (λ_ _=>rfl)) (av (aK) rfl T.bB aZ (aa (pv 0) ah))) (λ_ _=>rfl)))) aP)
   (ak (Z9X 4 nD (aR bu (dY (aa aq (aa aq (aa aq (aa aq (aa aq (aa (aI bZ aq (aI cT (aI d8 (pv 2) aq) aq)) ah))))))) (aI cT (pv 2) aq) (λ_ _=>rfl)))
   (ak (bC (aM dO (aI cT (aI d8 (pv 2) aq) aq) aq (aW _)) (ao (aE (ck (aa (aI rQ (aI cT (pv 3) (aI Dg aq aq)) (aI jq aq (aI Dg aq aq))) (aa (pv 4) ah))))) aP)
   (ao (aE (ck (aa (aI rQ (aI cT (aI d8 (pv 2) aq) aq) aq) (aa (pv 4) ah)))))))))),?_]
 refine#[_,Y,_,Y,s,t,ns,k,Y,hC,hk2,λm hm hm2=>?_];have hq:=vW (.lst [.int (k+1)]);have OZ:bq K (upd H t (.lst [.int (k+1)])) t [.int (k+1)]:=bq.of ai;refine#[λσ H2=>H2=upd H t (.lst [.int (k+1)])/\∃c:Int,σ=[some (.ref s),some (.ref t),some (.int m),some (.int c),none],?_,?_]
 ·refine#[_,Y,_,_,Y,.inl #[_,hq,Y],_,_,Y,Y,_,Y,?_];refine cS (λh0=>?_) (λh0=>?_)
  ·have hn:0<ns.length:=by rw[e_]at h0;omega
   have i1:=qap (k+1) (show((ns.length:Nat):Int)≠0 by omega);have i2:=qaf (k+1) (show(0:Int)<((ns.length:Nat):Int) by omega);obtain⟨j,hj⟩:∃j:Nat,(k+1) % ((ns.length:Nat):Int)=(j:Int):=#[_,(qaS i1).symm];have hjl:j<ns.length:=by omega
   refine#[_,Y,_,Y,t,_,_,_,Y,Y,OZ,Y,_,Y,_,_,Y,.inl #[_,hq,Y],_,_,Y,Y,(by show(0:Int)<(((ns.map V.int).length:Nat):Int);rw[e_];omega),?_];refine#[s,_,_,.int ns[j],Y,Y,hq,?_,?_]
   ·rw[e_,hj];exact bx (by rw[j_,d_ hjl];rfl)
   ·exact#[Y,_,Y]
  ·exact#[Y,_,Y]
 ·rintro σ H2 ⟨rfl,c,rfl⟩;obtain⟨v,hv,hv1,hv2⟩:∃v:Int,Ea [V.int 1,V.int 1,V.int 2,V.int 3,V.int 4,V.int (1+m / 6 % 999)] (m % 6)=some (V.int v)/\1<=v/\v<=999:=by
   have h6:m % 6=0\/m % 6=1\/m % 6=2\/m % 6=3\/m % 6=4\/m % 6=5:=by omega
   rcases h6 with h|h|h|h|h|h
   ·rw[h];exact#[1,Y,by omega,by omega]
   ·rw[h];exact#[1,Y,by omega,by omega]
   ·rw[h];exact#[2,Y,by omega,by omega]
   ·rw[h];exact#[3,Y,by omega,by omega]
   ·rw[h];exact#[4,Y,by omega,by omega]
   ·rw[h];exact#[1+m / 6 % 999,Y,by omega,by omega]
  refine#[_,Y,_,_,Y,Y,#[by decide,by decide],_,_,Y,Y,(by show(0:Int)<_;decide),_,_,Y,Y,(by show 6<=A_;decide),λl hl'=>?_];have s1:aj (upd H t (.lst [.int (k+1)])) (upd (upd H t (.lst [.int (k+1)])) l (.lst [.int 1,.int 1,.int 2,.int 3,.int 4,.int (1+m / 6 % 999)])):=aj.upd hl';have fre:∀r,upd (upd H t (.lst [.int (k+1)])) l (.lst [.int 1,.int 1,.int 2,.int 3,.int 4,.int (1+m / 6 % 999)]) r=none->H r=none:=λr hr=>G5 (aj.free s1 hr);have last:∀c:Int,Sm c/\c.natAbs<10 ^ 60->∀r,upd (upd H t (.lst [.int (k+1)])) l (.lst [.int 1,.int 1,.int 2,.int 3,.int 4,.int (1+m / 6 % 999)]) r=none →
    Q (.ref r) (upd (upd (upd H t (.lst [.int (k+1)])) l (.lst [.int 1,.int 1,.int 2,.int 3,.int 4,.int (1+m / 6 % 999)])) r (.tup [.int c,.int v])):=λc hc r hr =>
   kk (c,v) r _ #[#[hv1,hv2,hc.1],hc.2] (s1.trans (aj.upd hr)) (fre r hr) ai
  refine#[_,Y,_,_,Y,Y,(by show(0:Int)<_;decide),l,_,_,_,Y,Y,bq.of ai,hv,?_];refine#[_,Y,_,_,Y,Y,#[by decide,by decide],_,_,Y,Y,(by show(0:Int)<_;decide),Y,_,Y,?_];refine mS (λh4=>?_) (λh4=>?_)
  ·refine#[_,Y,_,_,Y,Y,#[by decide,by decide,by decide],_,_,Y,Y,(by show(0:Int)<_;decide),_,_,Y,Y,#[by decide,by decide,by decide],_,_,Y,Y,.inl #[by decide,by decide],_,_,Y,Y,_,Y,?_];exact#[c_,λr hr=>last _ (FH _) r hr]
  ·refine#[_,Y,_,_,Y,Y,#[by decide,by decide],_,_,Y,Y,(by show(0:Int)<_;decide),_,_,Y,Y,_,Y,?_];exact#[c_,λr hr=>last _ (AV (by omega) (by omega)) r hr]
theorem wz(T:Gs P w K mg p base 6):T.jK.Ok:=by
 refine T.jK.dP ["_law_script","_law_at","_law_signs_here","_law_same","_law_pairs","_law_i","_law_j"] λH vs Q E hr h nD=>?_;obtain⟨s,t,ns,k,sg,b,rfl,hC,hk,hsg,h4,kk⟩:=h;have h12:sg.cps.size<=12:=by omega
 obtain⟨N,hNe⟩:∃N,N=sg.cps.size:=#[_,rfl];have k0:=hC.k0;have V2:N<=12:=by omega
 have hz:sg.length<=A_:=gc (show sg.cps.size<=100 by omega) (by decide);intro X;refine#[_,(ak (j0 (i:=4) (N:=Xf) nD Y (Or.inl Y) Y (DZ 1 [0,1,2]) (j9 (pv 2)) (λ_ _ _ _ _ _ _=>(pM Xf 0)) (λ_ _ _ _ _ _ _=>(cI (N:=Xe) Y (DZ 1 [1,2]) (j9 (pv 3)) (λ_ _ _ _ _ _ _=>(pM Xe 0)) (λ_ _ _ _ _ _ _=>(aD T.gY hr (aa (pv 1) (aa (pv 2) ah)))))))
   (ak (bK L_ rfl (c8 rfl T.dH (aa (av (aK) rfl T.bB aZ (aa (pv 2) ah)) ah)) (Z9Y 5 nD) (ao (bK L_ rfl (c8 rfl T.dH (aa (pv 5) ah)) (Z9Y 6 nD) (ao (bC (fh (pv 3)) (ao (rM (aR bu (aR bu (pv 4) (pv 6) (λ_ _=>rfl)) (pv 5) (λ_ _=>rfl)) (yO (aR bu (pv 4) (pv 5) (λ_ _=>rfl)) (pv 6) set_list))) aP)))))
   (ao (aE (lg T.oA hr T.sj (aa (pv 2) (aa (pv 4) (aa (aD T.gY hr (aa (pv 0) (aa (pv 1) ah))) (aa (aD T.gY hr (aa (pv 0) (aa (pv 1) ah))) ah))))))))),?_]
 refine#[_,Y,sg,Y,λl hl=>?_];have PC:l≠t:=λz=>by rw[z,hC.at_]at hl;cases hl
 refine#[λi m ys H2=>m=N-i/\i<=N/\bU λrs rows=>ys=rs.map V.ref/\rs.length=i/\qZ K (Wo t H2) l rs rows/\(∀r∈rows,r.length=N)/\(∀r∈rows,∀f∈r,JH f)/\(∀r∈rs,H r=none)/\aj (Wo t H) (Wo t H2)/\H2 t=some (.lst [.int (k+((i*N:Nat):Int))]),#[N,Y,O_ _,[],[],Y,Y,?_,?_,?_,?_,?_,?_],?_]
 ·rw[Wo.ay PC];exact#[Y,ai,List.nodup_nil,(by simp),λi r row h1=>by simp at h1]
 ·intro r hr;cases hr
 ·intro r hr;cases hr
 ·intro r hr;cases hr
 ·rw[Wo.ay PC];exact aj.upd (Wo.free hl)
 ·rw[ay PC.symm,hC.at_,Nat.zero_mul];simp
 rintro i m' ys H2 ⟨rfl,hi,rs,rows,rfl,hrs,TY,r1,r2,r3,s2,JR⟩;by_cases hlt:i<N
 ·refine .inr #[(by show i<sg.cps.size;omega),?_];rintro x H3 ⟨rfl,cx,hcx,rfl⟩;refine#[Kp.mL,?_];refine#[_,Y,sg,Y,λl2 hl2=>?_];have Dw:l2≠t:=λz=>by rw[z,JR]at hl2;cases hl2
  have VJ:H l2=none:=Wo.back s2 JR hl2;refine#[λj m ys H4=>m=N-j/\j<=N/\H4 l2=some (.lst ys)/\bU λps row=>ys=ps.map V.ref/\ps.length=j/\Paired (gI K (Wo t H4)) ps row/\(∀f∈row,JH f)/\aj (Wo t H3) (Wo t H4)/\H4 t=some (.lst [.int (k+((i*N:Nat):Int)+(j:Int))]),
   #[N,rfl,O_ _,ai,[],[],rfl,rfl,.nil,λf hf=>(by cases hf),?_,?_],?_]
  ·rw[Wo.ay Dw];exact aj.upd (Wo.free hl2)
  ·rw[ay Dw.symm,JR];simp
  rintro j m' ys H4 ⟨rfl,hj,sF,ps,row,rfl,hps,hP,ok,s4,DK⟩;have NZ:aj (Wo t H) (Wo t H4):=s2.trans s4;by_cases GO:j<N
  ·refine .inr #[(by show j<sg.cps.size;omega),?_];rintro x H5 ⟨rfl,cy,hcy,rfl⟩;refine#[Kp.mL,?_];have hiN:i*N<=144:=gc (qaK (show i<=12 by omega) V2) (by decide);refine#[_,Y,_,Y,s,t,ns,_,Y,hC.off NZ DK (by omega),by omega,λf q H6 YK s6 hqn XA=>?_];have w6:=Wo.step s6;have PM:=s6 _ _ ai;have nq:q≠t:=kg XA PM (by intro z;cases z);have JT:Wo t H6 l2=some (.lst (ps.map V.ref)):=w6 _ _ (Wo.in Dw sF);refine#[Wo.sub _ _ JT,?_,N-(j+1),by omega,Y,GO,ai,ps++[q],row++[f],by rw[E_];rfl,by rw[t_,hps];rfl,?_,?_,?_,?_]
   ·rw[e_,hps];exact J_ (show j<100 by omega) (by decide)
   ·rw[Wo.ay Dw];refine GP.Paired.snoc (Paired.jr hP λa b z=>bV.off JT (z.same w6)) ?_;exact bV.off JT (bV.of (Wo.in nq XA))
   ·intro g hg;rcases S_.mp hg with hg|hg
    ·exact ok g hg
    ·rw[u_.mp hg];exact YK
   ·rw[Wo.ay Dw];exact aj.at (s4.trans w6) (Wo.free hl2)
   ·rw[ay Dw.symm,PM];simp only[Int.natCast_add,Int.natCast_one,qda]
  ·have ej:j=N:=by omega
   refine .inl #[(by show sg.cps.size<=j;omega),?_];have hlo:Wo t H4 l=some (.lst (rs.map V.ref)):=s4 _ _ TY.at_;refine#[Wo.sub _ _ hlo,?_,N-(i+1),by omega,Y,hlt,rs++[l2],rows++[row],by rw[E_];rfl,by rw[t_,hrs];rfl,?_,?_,?_,?_,?_,?_]
   ·rw[e_,hrs];exact J_ (show i<100 by omega) (by decide)
   ·rw[Wo.ay PC];exact TY.snoc s4 (Wo.free hl2) (Wo.in Dw sF) hP
   ·intro r hr;rcases S_.mp hr with hr|hr
    ·exact r1 r hr
    ·rw[u_.mp hr,←Paired.len hP,hps,ej]
   ·intro r hr;rcases S_.mp hr with hr|hr
    ·exact r2 r hr
    ·rw[u_.mp hr];exact ok
   ·intro r hr;rcases S_.mp hr with hr|hr
    ·exact r3 r hr
    ·rw[u_.mp hr];exact VJ
   ·rw[Wo.ay PC];exact aj.at NZ (Wo.free hl)
   ·rw[ay PC.symm,DK,qcW,ej];simp only[Int.natCast_add,qda]
 ·have ei:i=N:=by omega
  subst ei;refine .inl #[(by show sg.cps.size<=i;omega),?_];have hii:i*i<=144:=gc (qaK V2 V2) (by decide);have P2:Ah K H t l i (k+((i*i:Nat):Int)) H2:=#[rs,rows,TY,#[by rw[←TY.len,hrs],r1],r2,r3,s2,JR];refine#[_,Y,_,_,Y,#[hz,Y],((i:Nat):Int),(by rw[hNe];rfl),by omega,by omega,?_];refine c9 (lo:=0) (n:=((i:Int)).toNat) (λa σ H3=>bU λv5 v6=>σ=[some (.ref s),some (.ref t),some (.str sg),some (.bl b),some (.ref l),v5,v6]/\Ah K H t l i (k+((i*i:Nat):Int)) H3) #[_,_,Y,P2] ?_ ?_
  ·rintro a σ H3 ha ⟨v5,v6,rfl,P3⟩;refine#[_,Y,_,Y,by omega,by omega,?_];refine c9 (lo:=0) (n:=(0+(a:Int)).toNat) (λc σ H4=>∃v6,σ=[some (.ref s),some (.ref t),some (.str sg),some (.bl b),some (.ref l),some (.int (0+(a:Int))),v6]/\Ah K H t l i (k+((i*i:Nat):Int)) H4) #[_,Y,P3] ?_ ?_
   ·rintro c σ H4 hc ⟨v6,rfl,rs,rows,LM,sq,ok,nw,s4,DK⟩;refine#[_,Y,_,Y,?_]
    cases b with
    |false=>exact eX #[_,Y,rs,rows,LM,sq,ok,nw,s4,DK]
    |true =>
     refine gU ?_;have ha':a<rows.length:=by rw[sq.1];omega
     have hc':c<rows.length:=by rw[sq.1];omega
     have ha2:a<rs.length:=by rw[LM.len];exact ha'
     have hc2:c<rs.length:=by rw[LM.len];exact hc'
     obtain⟨YA,Vm,hPa⟩:=LM.row a _ _ (d_ ha2) (d_ ha');obtain⟨WX,Zm,XW⟩:=LM.row c _ _ (d_ hc2) (d_ hc');have la:=sq.2 rows[a] (D_ ha');have lc:=sq.2 rows[c] (D_ hc');have hac:a<WX.length:=by rw[Paired.len XW,lc];omega
     have hca:c<YA.length:=by rw[Paired.len hPa,la];omega
     obtain⟨f,ef,hf⟩:=Paired.at XW (d_ hac);have XJ:=Wo.sub _ _ LM.at_;have Vk:=Wo.sub _ _ Zm;have Vl:=Wo.sub _ _ Vm;refine#[_,Y,_,Y,l,_,_,.ref rs[c],Y,Y,bq.of XJ,(by rw[qbl];exact bx (by rw[j_,d_ hc2];rfl)),?_];refine#[_,Y,rs[c],_,_,.ref WX[a],Y,Y,bq.of Vk,(by rw[qbl];exact bx (by rw[j_,d_ hac];rfl)),?_];refine#[_,Y,_,Y,l,_,_,.ref rs[a],Y,Y,bq.of XJ,(by rw[qbl];exact bx (by rw[j_,d_ ha2];rfl)),?_];refine#[_,Y,rs[a],_,_,c,Y,Y,Vl,?_,?_]
     ·rw[qbl];unfold EH;rw[if_pos (by omega),if_pos (by rw[e_];omega)];simp
     have UP:rs[a]≠t:=Wo.ne Vm;refine#[_,Y,rs,rows.set a (rows[a].set c f),?_,#[by rw[qcg];exact sq.1,λr hr=>?_],λr hr g hg=>?_,nw,?_,?_]
     ·rw[Wo.ay UP];exact LM.put (d_ ha2) (d_ ha') Vm hPa hf
     ·rcases qbH hr with hr|hr
      ·exact sq.2 r hr
      ·rw[hr,qcg];exact la
     ·rcases qbH hr with hr|hr
      ·exact ok r hr g hg
      ·rw[hr]at hg;rcases qbH hg with hg|hg
       ·exact ok _ (D_ ha') g hg
       ·rw[hg];exact ok _ (D_ hc') f (h_ ef)
     ·rw[Wo.ay UP];exact aj.at s4 (Wo.free (nw _ (D_ ha2)))
     ·rw[ay UP.symm];exact DK
   ·rintro σ H4 ⟨v6,rfl,P4⟩;exact#[_,_,Y,P4]
  ·rintro σ H3 ⟨v5,v6,rfl,rs,rows,LM,sq,Oi,nw,s2,JR⟩;have C2:tX K H3 s t ns (k+((i*i:Nat):Int)):=hC.off s2 JR (by omega);refine#[_,Y,_,Y,_,Y,_,Y,s,t,ns,_,Y,C2,by omega,λfo o H4 yV s3 hon OL=>?_];have w3:=Wo.step s3;have Tc:=s3 _ _ ai;have C3:tX K H4 s t ns (k+((i*i:Nat):Int)+1):=C2.off w3 Tc (by omega);refine#[_,Y,_,Y,s,t,ns,_,Y,C3,by omega,λfm m H5 yW s4 hmn Zy=>?_];have w4:=Wo.step s4;have DK:=s4 _ _ ai;have Tg:gI K H5 o fo:=bV.of (Wo.sub _ _ (w4 _ _ (Wo.in (kg OL Tc (by intro z;cases z)) OL)));have VA:gI K H5 m fm:=bV.of Zy;have L4:qZ K H5 l rs rows:=((LM.same w3).same w4).same Wo.sub;have QV:aj (Wo t H) (Wo t H5):=(s2.trans w3).trans w4;intro x dx hx hdx W7;generalize RP:upd (upd H5 dx (.own x)) x (.ins p.aG dx [])=H6;have s6:aj H5 H6:=by
    rw[←RP];exact(aj.upd hdx).trans (aj.upd (by rw[ay W7.symm];exact hx))
   have S8:H6 x=some (.ins p.aG dx []):=by rw[←RP];exact ai
   refine#[x,dx,o,m,sg,.lst l,rows,fo,fm,Y,S8,hsg,h12,(L4.same s6).UU,(by rw[←hNe];exact sq),λr hr f hf=>(Oi r hr f hf).1.h,Tg.same s6,yV.1.h,VA.same s6,yW.1.h,λH7 P7 f7 YO=>#[Y,?_]];have s7:aj H5 H7:=λb u e=>f7 b u (s6 b u e) λz=>by rw[z,hx]at e;cases e
   exact kk x H7 _ (nE rows) (cM fo) (cM fm) #[rows,Y,λr hr f hf=>by have:=(Oi r hr f hf).1.1;omega] (tab_of hsg h4 (by rw[←hNe];exact sq) Oi yV yW) (P7.wo (s7 _ _ DK) (YO t (by rw[s6 _ _ DK];exact λz=>nomatch z))) (Wo.back QV DK hx) (QV.trans (Wo.same s7)) (s7 _ _ DK) (by omega) (by omega)
theorem tP(T:Gs P w K mg p base 2):T.iB.Ok:=by
 refine T.iB.dP ["prices","column","many"] λH vs Q E hr h nD=>?_;obtain⟨x,sg,rows,fo,fm,c,n,rfl,hP,hc,hn,k⟩:=h;have hl:(pK c.cps.toList).length<=1000:=gc (qaH _ _) (by rw[k_];exact hc);have e:(aO 45 c).length=(pK c.cps.toList).length:=rfl;intro X;refine#[_,(ao (aE (aI jq (aI jq (av (aK) Y T.bB aZ (aa (aD T.gf hr (aa (pv 1) ah)) ah)) (pv 2)) (aD T.gh hr (aa (pv 0) ah))))),?_];refine#[_,Y,c,Y,hc,_,_,Y,#[gc (show(aO 45 c).length<=1000 from hl) (by decide),Y],_,Y,_,_,Y,Y,.inl (by rw[e];omega),_,Y,x,sg,rows,fo,fm,Y,hP,_,_,Y,Y,.inl ?_,k];have h1:(0:Int)<=(((aO 45 c).length:Nat):Int)*(n:Int):=Int.mul_nonneg (by omega) (by omega);have h2:(((aO 45 c).length:Nat):Int)*(n:Int)<=1000*1000:=Int.mul_le_mul (by rw[e];omega) (by omega) (by omega) (by omega);omega
theorem rY(T:Gs P w K mg p base 3):T.fK.Ok:=by
 refine T.fK.dP ["prices","columns","many"] λH vs Q E hr h nD=>?_;obtain⟨x,l,sg,rows,fo,fm,cs,n,rfl,hP,hl,hc,hs,hn,k⟩:=h;intro X;refine#[_,(ao (aE (cI (N:=["column","prices","many"]) Y (DZ 1 [0,2]) (cQ (pv 1)) (λ_ _ _ _ _ _ _=>(pM ["column","prices","many"] 0)) (λ_ _ _ _ _ _ _=>(aD T.iB hr (aa (pv 1) (aa (pv 0) (aa (pv 2) ah)))))))),?_];refine#[_,Y,l,Y,#[_,bq.of hl],λl' hl'=>?_];refine eL cs.length (λj=>V.int (Am (jv rows fo fm) (cs.getD j ⟨#[]⟩) n)) hl' (o_ hc (by decide)) (λj H4 s4 hj=>?_) (λH4 s4=>?_) (λj y H4 H5 R s4 hj hy hR=>?_) λH4 s4 sF=>?_
 ·exact#[_,_,bq.of (s4 _ _ hl),by rw[j_,d_ hj];rfl]
 ·exact#[_,bq.of (s4 _ _ hl),by rw[e_];exact i_ _]
 ·obtain⟨rfl,hy⟩:=hy;have ey:=hy _ (bq.of (s4 _ _ hl));rw[j_,d_ hj]at ey;cases ey;refine#[Kp.mL,?_];refine#[_,Y,_,Y,_,Y,x,sg,rows,fo,fm,cs[j],n,Y,hP.same s4,hs _ (D_ hj),hn,?_];have z:=hR _ (aj.refl _);rw[br (d_ hj)]at z;exact z
 ·exact k l' H4 s4 hl' (by rw[sF,bM cs (λc=>V.int (Am (jv rows fo fm) c n))])
theorem uX(T:Gs P w K mg p base 2):T.iW.Ok:=by
 refine T.iW.dP ["prices","signs","extras","other"] λH vs Q E hr h nD=>?_;obtain⟨x,sg,rows,fo,fm,S,rfl,hP,hO,hS,k⟩:=h;obtain⟨sig,AL,_,_,_,_,_,dx,Pp,o,m,d,kvs,h1,h2,h3,h4,h5,h6⟩:=id hP;intro X;refine#[_,(ak (Z9X 2 nD uS)
   (ak (bK L_ rfl (j9 (aT (pv 0) rfl)) (aY (i:=3) nD rfl (Or.inr rfl)) (ao (t8 (jh hr) (pv 2) (pv 3) (av (iN (K':=K) rfl rfl) rfl T.sS qu (aa (cI (N:=S2) rfl (DZ 1 [0,3]) (j9 (pv 1)) (λ_ _ _ _ _ _ _=>(pM S2 0)) (λ_ _ _ _ _ _ _=>(aI rQ (aD T.eY hr (aa (pv 1) (aa (pv 0) (aa (pv 2) ah)))) (aI jq aq (aD T.gh hr (aa (pv 1) ah)))))) ah)) rfl)))
   (ao (aE (pv 2))))),?_]
 refine λq hq=>?_;have s0:aj H (upd H q (.dK [])):=aj.upd hq;refine#[_,Y,x,_,_,_,_,Y,s0 _ _ h1,T.bh,T.cJ,iL,_,Y,?_];refine zP (x:=sg) (λi σ H2=>bU λ(v3:Option V) (kv:List (Key×V))=>σ=[some (.ref x),some (.str S),some (.ref q),v3]/\aj H H2/\H2 q=some (.dK kv)/\kv.length<=i/\∀j o,j<i->sg.cps.toList[j]? =some o->eZ kv (.inr ⟨#[o]⟩)=some (.int (fS (λs=>jc sg rows (aC fo.2 fm.2 rows) s o-2*jv rows fo fm) S.cps.toList))) #[_,[],Y,s0,ai,i_ _,λj o hj=>absurd hj (qbu _)] ?_ ?_
 ·rintro i c σ H2 hc ⟨v3,kv,rfl,s2,hd,OS,hkv⟩;have ZJ:=zX hc;have hi:=DY hc;refine#[_,Y,_,Y,λl hl=>?_];refine eL S.cps.size (λj=>V.int (jc sg rows (aC fo.2 fm.2 rows) (S.cps.toList.getD j 0) c-2*jv rows fo fm)) hl (o_ hS (by decide)) (λj H4 s4 hj=>hj) (λH4 s4=>i_ _) (λj y H4 H5 R s4 hj hy hR=>?_) λH4 s4 sF=>?_
  ·obtain⟨rfl,e,he,rfl⟩:=hy;obtain⟨i',j',f,k1,k2,k3,k4⟩:=nW (u:=aC fo.2 fm.2 rows) AL (hO _ (zX he)) ZJ;refine#[Kp.mL,?_];refine#[_,Y,_,Y,_,Y,x,sg,rows,fo,fm,i',j',e,c,f,Y,hP.same (s2.trans s4),k1,k2,k3,λH6 s6=>?_];refine#[_,Y,x,sg,rows,fo,fm,Y,hP.same ((s2.trans s4).trans s6),_,_,Y,Y,.inl (by omega),_,_,Y,Y,?_];have z:=hR H6 s6;rw[br (gF he),k4]at z;exact z
  ·have e1:(H_ S.cps.size).map (λj=>V.int (jc sg rows (aC fo.2 fm.2 rows) (S.cps.toList.getD j 0) c-2*jv rows fo fm))=(S.cps.toList.map λs=>jc sg rows (aC fo.2 fm.2 rows) s c-2*jv rows fo fm).map V.int:=by
    rw[U_,←k_];exact bM (d:=0) S.cps.toList λs=>V.int (jc sg rows (aC fo.2 fm.2 rows) s c-2*jv rows fo fm)
   refine#[l,_,Y,bq.of (by rw[sF,e1]),_,Y,_,Y,q,_,Y,xm.k (k:=.inr ⟨#[c]⟩) (s4 _ _ hd) ?_,?_]
   ·exact o_ (show kv.length<=1000 by have:=sig.2.1;omega) (by decide)
   ·refine#[_,_,Y,aj.at (s2.trans s4) hq,ai,?_,λj o hj ho=>?_]
    ·have:=jd kv (.inr ⟨#[c]⟩:Key) (V.int (fS (λs=>jc sg rows (aC fo.2 fm.2 rows) s c-2*jv rows fo fm) S.cps.toList));exact gc this (Nat.succ_le_succ OS)
    ·rw[nK];by_cases z:o=c
     ·rw[if_pos (by rw[z]),z];rfl
     ·rw[if_neg (λy=>z (by injection y with y;injection y with y;simpa using y))];refine hkv j o ?_ ho;have:j≠i:=λy=>by
       rw[y,gF hc]at ho;exact z (Z_ ho).symm
      omega
 ·rintro σ H2 ⟨v3,kv,rfl,s2,hd,OS,hkv⟩;refine#[_,Y,k q H2 kv s2 hq hd λo ho=>?_];obtain⟨j,hj,e⟩:=qbd ho;exact hkv j o (by simpa using hj) (by rw[d_ hj,e])
theorem rX(T:Gs P w K mg p base 3):T.gR.Ok:=by
 refine T.gR.dP ["prices","signs","others","extras"] λH vs Q E hr h nD=>?_;obtain⟨x,l,sg,rows,fo,fm,S,os,rfl,hP,hO,hS,hl,hn,hos,k⟩:=h;intro X;refine#[_,(ak (az (i:=3) nD Y (Or.inr Y) (aD T.iW hr (aa (pv 0) (aa (pv 1) ah))))
   (ao (aE (cI (N:=["other","extras"]) rfl (DZ 1 [3]) (cQ (pv 2)) (λ_ _ _ _ _ _ _=>(pM ["other","extras"] 0)) (λ_ _ _ _ _ _ _=>(av (iN (K':=K) rfl rfl) rfl T.sS qu (aa (cI (N:=["sign","extras"]) rfl (DZ 1 [1]) (j9 (pv 0)) (λ_ _ _ _ _ _ _=>(pM ["sign","extras"] 0)) (λ_ _ _ _ _ _ _=>(yP (jh hr) (pv 1) (pv 0) (λ_ _=>rfl)))) ah))))))),?_]
 refine#[_,Y,_,Y,x,sg,rows,fo,fm,S,Y,hP,hO,hS,λd H1 kvs s1 hd VS hkv=>?_];have hl1:=s1 _ _ hl;refine#[_,Y,l,Y,#[_,bq.of hl1],λl' hl'=>?_];refine eL os.length (λj=>V.int (EV (jc sg rows (aC fo.2 fm.2 rows)) (jv rows fo fm) S.cps.toList (os.getD j ⟨#[]⟩).cps.toList)) hl' (o_ hn (by decide)) (λj H4 s4 hj=>?_) (λH4 s4=>?_) (λj y H4 H5 R s4 hj hy hR=>?_) λH4 s4 sF=>?_
 ·exact#[_,_,bq.of (s4 _ _ hl1),by rw[j_,d_ hj];rfl]
 ·exact#[_,bq.of (s4 _ _ hl1),by rw[e_];exact i_ _]
 ·obtain⟨rfl,hy⟩:=hy;have ey:=hy _ (bq.of (s4 _ _ hl1));rw[j_,d_ hj]at ey;cases ey;rw[br (d_ hj)]at hR;obtain⟨ho,XE⟩:=hos _ (D_ hj);generalize os[j]=o at ho XE hR;refine#[Kp.mL,?_];refine#[_,Y,_,Y,λl2 hl2=>?_];refine eL o.cps.size (λi=>V.int (fS (λs=>jc sg rows (aC fo.2 fm.2 rows) s (o.cps.toList.getD i 0)-2*jv rows fo fm) S.cps.toList)) hl2 (o_ XE (by decide)) (λi H6 s6 hi=>hi) (λH6 s6=>i_ _) (λi y H6 H7 R2 s6 hi hy ZS=>?_) λH6 s6 JT=>?_
  ·obtain⟨rfl,c,hc,rfl⟩:=hy;refine#[Kp.mL,?_];refine#[_,Y,_,Y,d,_,Y,?_,ZS _ (aj.refl _)];rw[br (gF hc),←hkv c (ho c (zX hc))];exact pH.k (k:=.inr ⟨#[c]⟩) ((s4.trans s6) _ _ VS)
  ·have e1:(H_ o.cps.size).map (λi=>V.int (fS (λs=>jc sg rows (aC fo.2 fm.2 rows) s (o.cps.toList.getD i 0)-2*jv rows fo fm) S.cps.toList))=(o.cps.toList.map λc=>fS (λs=>jc sg rows (aC fo.2 fm.2 rows) s c-2*jv rows fo fm) S.cps.toList).map V.int:=by
    rw[U_,←k_];exact bM (d:=0) o.cps.toList λc=>V.int (fS (λs=>jc sg rows (aC fo.2 fm.2 rows) s c-2*jv rows fo fm) S.cps.toList)
   exact#[l2,_,Y,bq.of (by rw[JT,e1]),hR _ s6]
 ·exact k l' H4 (s1.trans s4) (aj.free s1 hl') (by rw[sF,bM os (λo=>V.int (EV (jc sg rows (aC fo.2 fm.2 rows)) (jv rows fo fm) S.cps.toList o.cps.toList))])
theorem wM(T:Gs P w K mg p base 4):T.jS.Ok:=by
 refine T.jS.dP ["prices","ones","others","known","signs"] λH vs Q E hr h nD=>?_;obtain⟨x,l1,l2,sg,rows,fo,fm,ss,os,rfl,hP,h1,hn1,hss,h2,hn2,hos,k⟩:=h;intro X;refine#[_,(ak (az (i:=3) nD Y (Or.inr Y) uS)
   (ak (bK L_ rfl (cQ (pv 1)) (Z9Y 4 nD) (ao (bC (aM (Dh (jh hr)) (pv 4) (pv 3) (by with_unfolding_all rfl)) (ao (t8 (jh hr) (pv 3) (pv 4) (aD T.gR hr (aa (pv 0) (aa (pv 4) (aa (pv 2) ah)))) rfl)) aP)))
   (ao (aE (cI (N:=["signs","known"]) rfl (DZ 1 [3]) (cQ (pv 1)) (λ_ _ _ _ _ _ _=>(pM ["signs","known"] 0)) (λ_ _ _ _ _ _ _=>(yP (jh hr) (pv 1) (pv 0) (λ_ _=>rfl)))))))),?_]
 refine λq hq=>?_;have s0:aj H (upd H q (.dK [])):=aj.upd hq;refine#[_,Y,l1,Y,#[_,bq.of (s0 _ _ h1)],?_];refine kI (K:=K) (a:=l1) (xs:=ss.map V.str) (λi σ H2=>bU λ(v4:Option V) (kv:List (Key×V))=>σ=[some (.ref x),some (.ref l1),some (.ref l2),some (.ref q),v4]/\aj H H2/\H2 q=some (.dK kv)/\kv.length<=i/\(∀j s,j<i->ss[j]? =some s->(eZ kv (.inr s)).isSome=true) ∧
  ∀s v,eZ kv (.inr s)=some v->∃r,v= .ref r/\H2 r=some (.lst (os.map λo=>V.int (EV (jc sg rows (aC fo.2 fm.2 rows)) (jv rows fo fm) s.cps.toList o.cps.toList)))) #[_,[],rfl,s0,ai,i_ _,λj s hj=>absurd hj (qbu _),λs v z=>by cases z] (λi σ H2 _ hh=>?_) ?_ ?_
 ·obtain⟨_,_,_,s2,_⟩:=hh;exact bq.of (s2 _ _ h1)
 ·rintro i y σ H2 hy ⟨v4,kv,rfl,s2,hd,OS,hks,hkv⟩;obtain⟨z,hz,rfl⟩:=fk hy;have hi:i<ss.length:=(m_.mp hz).1;refine#[_,Y,_,Y,q,_,Y,pH.k (k:=.inr z) hd,_,Y,?_]
  cases hv:eZ kv (.inr z)with
  |some v =>
   refine eX #[_,_,Y,s2,hd,by omega,λj s hj hs=>?_,hkv];by_cases e:j=i
   ·subst e;rw[hz]at hs;cases hs;rw[hv];rfl
   ·exact hks j s (by omega) hs
  |none =>
   refine gU #[_,Y,_,Y,_,Y,x,l2,sg,rows,fo,fm,z,os,Y,hP.same s2,(hss z (h_ hz)).1,(hss z (h_ hz)).2,s2 _ _ h2,hn2,hos,λr H3 s3 hr Xz=>?_];have GQ:=s3 _ _ hd;refine#[_,Y,_,Y,q,_,Y,xm.k (k:=.inr z) GQ (o_ (show kv.length<=1000 by omega) (by decide)),?_];have nq:∀{r:l_} {xs:List V},H3 r=some (.lst xs)->r≠q:=λ{r xs} h e=>by rw[e,GQ]at h;cases h
   refine#[_,_,Y,aj.at (s2.trans s3) hq,ai,?_,λj s hj hs=>?_,λs v hsv=>?_]
   ·exact gc (jd _ _ _) (Nat.succ_le_succ OS)
   ·rw[nK];by_cases e:s=z
    ·rw[if_pos (by rw[e])];rfl
    ·rw[if_neg (λy=>e (by injection y))];refine hks j s ?_ hs;have:j≠i:=λy=>by
      rw[y,hz]at hs;exact e (Z_ hs).symm
     omega
   ·rw[nK]at hsv;by_cases e:s=z
    ·rw[if_pos (by rw[e])]at hsv;cases hsv;subst e;exact#[r,Y,by rw[ay (nq Xz)];exact Xz]
    ·rw[if_neg (λy=>e (by injection y))]at hsv;obtain⟨r',e1,e2⟩:=hkv s v hsv;have e3:=s3 _ _ e2;exact#[r',e1,by rw[ay (nq e3)];exact e3]
 ·rintro σ H2 ⟨v4,kv,rfl,s2,hd,OS,hks,hkv⟩;rw[e_]at hks;have h12:=s2 _ _ h1;refine#[_,Y,l1,Y,#[_,bq.of h12],λl' hl'=>?_];have at_:∀j,j<ss.length->∃r,((eZ kv (.inr (ss.getD j ⟨#[]⟩))).getD .dX)= .ref r/\eZ kv (.inr (ss.getD j ⟨#[]⟩))=some (.ref r)/\H2 r=some (.lst (os.map λo=>V.int (EV (jc sg rows (aC fo.2 fm.2 rows)) (jv rows fo fm) (ss.getD j ⟨#[]⟩).cps.toList o.cps.toList))):=λj hj=>by
   have e:=hks j _ hj (d_ hj);rw[←br (d:=(⟨#[]⟩:w_)) (d_ hj)]at e;obtain⟨v,hv⟩:=qbQ.mp e;obtain⟨r,rfl,hr⟩:=hkv _ v hv;exact#[r,by rw[hv];rfl,hv,hr]
  refine eL ss.length (λj=>(eZ kv (.inr (ss.getD j ⟨#[]⟩))).getD .dX) hl' (o_ hn1 (by decide)) (λj H4 s4 hj=>?_) (λH4 s4=>?_) (λj y H4 H5 R s4 hj hy hR=>?_) λH4 s4 sF=>?_
  ·exact#[_,_,bq.of (s4 _ _ h12),by rw[j_,d_ hj];rfl]
  ·exact#[_,bq.of (s4 _ _ h12),by rw[e_];exact i_ _]
  ·obtain⟨rfl,hy⟩:=hy;have ey:=hy _ (bq.of (s4 _ _ h12));rw[j_,d_ hj]at ey;cases ey;obtain⟨r,e1,e2,e3⟩:=at_ j hj;rw[e1]at hR;rw[br (d_ hj)]at e2;refine#[Kp.mL,?_];refine#[_,Y,_,Y,q,.ref r,Y,?_,hR _ (aj.refl _)];rw[←e2];exact pH.k (k:=.inr ss[j]) (s4 _ _ hd)
  ·obtain⟨rs,g1,g2,g3⟩:=Et (P:=λj r=>H2 r=some (.lst (os.map λo=>V.int (EV (jc sg rows (aC fo.2 fm.2 rows)) (jv rows fo fm) (ss.getD j ⟨#[]⟩).cps.toList o.cps.toList)))) λj hj=>by
    obtain⟨r,e1,_,e3⟩:=at_ j hj;exact#[r,e1,e3]
   refine k l' H4 (s2.trans s4) (aj.free s2 hl') #[rs,g1,by rw[sF,g2],λi r hr=>?_];rw[s4 _ _ (g3 i r hr),←bM (d:=⟨#[]⟩) os]
theorem uY(T:Gs P w K mg p base 0):T.iX.Ok:=by
 refine T.iX.dP ["extras","below","rests","j","least"] λH vs Q E hr h nD=>?_;obtain⟨l,b,n,f,g,rfl,hl,hb,hn,k⟩:=h;intro X;refine#[_,(ak (Z9X 2 nD (dY (aa aq ah)))
   (ak (bK L_ rfl (FT rfl T.dH (aa (aI rQ (av (aK) rfl T.bB aZ (aa (pv 0) ah)) aq) (aa (xO rq aq) (aa (xO rq aq) ah)))) (Z9Y 3 nD) (ak (Z9X 4 nD (av (yf rfl) rfl T.GZ Jz (aa (aR bu (pv 1) (pv 3) (λ_ _=>rfl)) (aa (aR bu (pv 2) (xO rq aq) (λ_ _=>rfl)) ah))))
   (ak (bC (aM uU (aR bu (pv 0) (pv 3) (λ_ _=>rfl)) aq (aW _)) (ao (Z9X 4 nD (av (yf rfl) rfl T.GZ Jz (aa (aI bZ (aR bu (pv 0) (pv 3) (λ_ _=>rfl)) (aR bu (pv 1) (aI bZ (pv 3) aq) (λ_ _=>rfl))) (aa (pv 4) ah))))) aP)
   (ao (bD (cW zab zag zah cK (pv 2) (aa (pv 4) ah)))))))
   (ak (bD (p7 zab za7 za8 mQ (pv 2)))
   (ao (aE (pv 2)))))),?_]
 refine#[b_,λq hq=>?_];have s0:aj H (upd H q (.lst [.int 0])):=aj.upd hq;have e0:((H_ n).map λj=>V.int (f j)).length=n:=by rw[e_,X_]
 refine#[_,Y,_,_,Y,.inl #[_,bq.of (s0 _ _ hl),Y],_,_,Y,Y,_,Y,_,Y,_,_,Y,#[by omega,by omega,by omega,by omega],?_];rw[e0,show((n:Int)-1- -1).toNat=n by omega];refine I0 (lo:=(n:Int)-1) (n:=n) (λi σ H2=>bU λ(v3 v4:Option V)=>σ=[some (.ref l),some (.ref b),some (.ref q),v3,v4]/\aj H H2/\H2 q=some (.lst ((H_ (i+1)).map λj=>V.int (pA f g n j)))) #[_,_,Y,s0,ai] ?_ ?_
 ·rintro i σ H2 hi ⟨v3,v4,rfl,s2,h2⟩;have hl2:=bq.of (K:=K) (s2 _ _ hl);have hb2:=bq.of (K:=K) (s2 _ _ hb);have e1:(n:Int)-1-(i:Int)=((n-1-i:Nat):Int):=by omega
  rw[e1];have la:Ea ((H_ (i+1)).map λj=>V.int (pA f g n j)) (-1)=some (.int (pA f g n i)):=by rw[p5];exact Cd _ _
  have fin:∀{σ':St} {Qe:Int},Qe=pA f g n (i+1)->σ'=[some (.ref l),some (.ref b),some (.ref q),some (.int ((n-1-i:Nat):Int)),some (.int Qe)]->bU λ(v3 v4:Option V)=>σ'=[some (.ref l),some (.ref b),some (.ref q),v3,v4]/\aj H (upd H2 q (.lst ((H_ (i+1)).map (λj=>V.int (pA f g n j))++[V.int Qe])))/\upd H2 q (.lst ((H_ (i+1)).map (λj=>V.int (pA f g n j))++[V.int Qe])) q=some (.lst ((H_ (i+1+1)).map λj=>V.int (pA f g n j))):=λ{σ' Qe} e1 e2=>by
   refine#[_,_,e2,aj.at s2 hq,?_];rw[ai,e1,p5 (n:=i+1)]
  have lt:((H_ (i+1)).map λj=>V.int (pA f g n j)).length<A_:=by
   rw[e_,X_];exact o_ (show i+1<=1000 by omega) (by decide)
  have er:pA f g n (i+1)=lK (f (n-1-i)) (g (n-1-i)) (g (n-i)) (pA f g n i):=rfl;refine#[_,Y,_,Y,b,_,_,.int (g (n-1-i)),Y,Y,hb2,bx (fG (by omega)),_,Y,_,Y,q,_,_,.int (pA f g n i),Y,Y,bq.of h2,la,_,_,Y,?_];refine#[_,Y,_,Y,l,_,_,.int (f (n-1-i)),Y,Y,hl2,bx (fG (by omega)),_,_,Y,Y,_,Y,?_];refine cS (λh0=>?_) (λh0=>?_)
  ·refine#[_,Y,_,Y,l,_,_,.int (f (n-1-i)),Y,Y,hl2,bx (fG (by omega)),_,Y,_,Y,_,_,Y,Y,b,_,_,.int (g (n-i)),Y,Y,hb2,(by rw[show((n-1-i:Nat):Int)+1=((n-i:Nat):Int) by omega];exact bx (fG (by omega))),_,_,Y,Y,_,Y,_,_,Y,?_];refine#[_,Y,.inl #[Y,_,bq.of h2],_,Y,q,_,_,Y,Y,h2,lt,fin ?_ Y];rw[er];unfold lK;rw[if_pos h0];omega
  ·refine#[_,Y,.inl #[Y,_,bq.of h2],_,Y,q,_,_,Y,Y,h2,lt,fin ?_ Y];rw[er];unfold lK;rw[if_neg h0];omega
 ·rintro σ H2 ⟨v3,v4,rfl,s2,h2⟩;refine#[_,Y,.inl #[Y,_,bq.of h2],q,_,Y,Y,h2,?_];refine#[_,Y,k q _ (aj.at s2 hq) hq ?_];rw[ai,FJ]
theorem wC(T:Gs P w K mg p base 1):T.jL.Ok:=by
 refine T.jL.dP ["extras","many","rests","row"] λH vs Q E hr h nD=>?_;obtain⟨l,m,n,E,rfl,⟨rs,hrs,hl,wQ⟩,hm,hn,k⟩:=h;intro X;refine#[_,(ak (Z9X 2 nD (dY (aa (aI Oe (dY (aa aq ah)) (aI bZ (pv 1) aq)) ah)))
   (ak (bK L_ rfl (N9 rfl T.uh (aa (pv 0) ah)) (Z9Y 3 nD) (ao (bD (cW zab zag zah cK (pv 2) (aa (aD T.iX hr (aa (pv 3) (aa (aR bu (pv 2) (xO rq aq) (λ_ _=>rfl)) ah))) ah)))))
   (ak (bD (p7 zab za7 za8 mQ (pv 2)))
   (ao (aE (pv 2)))))),?_]
 refine#[b_,λq0 EM=>?_];have s0:aj H (upd H q0 (.lst [.int 0])):=aj.upd EM;refine#[_,Y,_,_,Y,Y,q0,_,_,Y,Y,ai,by omega,by omega,(by show 1*_<=A_;rw[Nat.one_mul];exact gc (show _<=1001 by omega) (by decide)),λp1 hp1=>#[b_,λq hq=>?_]];rw[show((n:Int)+1).toNat=n+1 by omega,HW]at hq ⊢;have s1:aj H (upd (upd H q0 (.lst [.int 0])) p1 (.lst (G_ (n+1) (V.int 0)))):=s0.trans (aj.upd hp1);have hp2:upd (upd H q0 (.lst [.int 0])) p1 (.lst (G_ (n+1) (V.int 0))) p1=some (.lst ((H_ (n+1)).map λj=>V.int (FL E m n 0 j))):=by
  rw[ai];congr 2;exact(List.eq_replicate_iff.mpr #[by simp,λb hb=>by obtain⟨j,_,rfl⟩:=z_.mp hb;rfl]).symm
 generalize upd (upd H q0 (.lst [.int 0])) p1 (.lst (G_ (n+1) (V.int 0)))=H1 at s1 hp2 hq ⊢;have W4:p1≠q:=λz=>by rw[z,hq]at hp2;cases hp2
 have s2:=s1.trans (aj.upd (o:=.lst [V.ref p1]) hq);refine#[_,Y,l,_,Y,bq.of (s2 _ _ hl),?_];refine LV (K:=K) (a:=l) (xs:=rs.map V.ref) (λi σ H2=>bU λ(v3:Option V) (qs:List l_)=>σ=[some (.ref l),some (.int (n:Int)),some (.ref q),v3]/\aj H H2/\H2 q=some (.lst (qs.map V.ref))/\qs.length=i+1/\q∉qs/\∀j r,qs[j]? =some r->H2 r=some (.lst ((H_ (n+1)).map λa=>V.int (FL E m n j a)))) #[_,[p1],Y,s2,ai,Y,λz=>W4 (u_.mp z).symm,λj r hr=>?_] (λi σ H2 _ hh=>?_) ?_ ?_
 ·have ej:j=0:=by
   have:=(m_.mp hr).1;have:j<1:=this;omega
  subst ej;cases hr;rw[ay W4];exact hp2
 ·obtain⟨_,_,_,s3,_⟩:=hh;exact bq.of (s3 _ _ hl)
 ·rintro i y σ H2 hi hy ⟨v3,qs,rfl,s3,h3,EL,Th,Al⟩;rw[e_,hrs]at hi hy;rw[j_]at hy;obtain⟨r,hr,rfl⟩:=qby.mp hy;obtain⟨N7,ql,rfl⟩:bU λN7 ql=>qs=N7++[ql]:=by
   rcases List.eq_nil_or_concat qs with h|⟨a,b,h⟩
   ·rw[h]at EL;cases EL
   ·exact#[a,b,by rw[h,List.concat_eq_append]]
  have hq':N7.length=i:=by rw[t_]at EL;exact Nat.succ.inj EL
  have Vq:=Al i ql (by rw[qab (by omega),hq',qbP];rfl);refine#[_,Y,.inl #[Y,_,bq.of h3],_,Y,_,Y,_,Y,q,_,_,.ref ql,Y,Y,bq.of h3,(by rw[E_];exact Cd _ _),r,ql,n,E (m-1-i),FL E m n i,Y,s3 _ _ (wQ _ _ hr),Vq,hn,λl' H3 s4 hl' hl3=>?_];have h4:=s4 _ _ h3;refine#[q,_,_,Y,Y,h4,?_,?_]
  ·rw[e_,EL];exact o_ (show i+1<=1000 by omega) (by decide)
  ·have nl:l'≠q:=λz=>by rw[z,h3]at hl';cases hl'
   refine#[_,(N7++[ql])++[l'],Y,aj.at (s3.trans s4) (aj.free s1 hq),?_,by rw[t_,EL];rfl,λz=>?_,λj r' hr'=>?_]
   ·rw[ai,E_ (l₁:=N7++[ql])];rfl
   ·rcases S_.mp z with z|z
    ·exact Th z
    ·exact nl (u_.mp z).symm
   ·by_cases hj:j<(N7++[ql]).length
    ·rw[qad hj]at hr';have nr:r'≠q:=λz=>Th (z▸h_ hr');rw[ay nr];exact s4 _ _ (Al j r' hr')
    ·rw[qab (by omega)]at hr';have ej:j=i+1:=by
      have:=(m_.mp hr').1;have:j-(N7++[ql]).length<1:=this;omega
     subst ej;rw[EL,qbP]at hr';cases hr';rw[ay nl];exact hl3
 ·rintro σ H2 ⟨v3,qs,rfl,s3,h3,EL,Th,Al⟩;rw[e_,hrs]at EL;refine#[_,Y,.inl #[Y,_,bq.of h3],q,_,Y,Y,h3,?_];refine#[_,Y,k q _ (aj.at s3 (aj.free s1 hq)) (aj.free s1 hq) #[qs.reverse,by rw[qbX,EL],by rw[ai,List.map_reverse],λi r hr=>?_]];have hi:i<qs.length:=by have:=(m_.mp hr).1;rwa [qbX]at this
  rw[List.getElem?_reverse hi,show qs.length-1-i=m-i by omega]at hr;have nr:r≠q:=λz=>Th (z▸h_ hr);rw[ay nr];exact Al _ r hr
theorem pF(T:Gs P w K mg p base 5):T.lX.Ok:=by
 refine T.lX.dP ["self","prices","one","other","ones","others"] λH vs Q E hr h nD=>?_;obtain⟨jn,dx,x,o1,o2,sg,rows,fo,fm,r1,r2,rfl,hj,XY,IV,hB2,Cq,vW,hb1,hb2,hO,kq⟩:=h;have hP:=XY.Nh hj;have V8:=IV.Nh hj;have V7:=hB2.Nh hj;obtain⟨d1,q1,JS,hq1⟩:=V8;obtain⟨d2,q2,ho2,hq2⟩:=V7;have hl1:=aL hb1;have hl2:=aL hb2;obtain⟨Vz,hw1⟩:=aV.mp hl1;obtain⟨Vy,PL⟩:=aV.mp hl2;have VZ:tH (r1++r2):=#[by rw[t_];have:=Cq.1;have:=vW.1;omega,λy hy=>(S_.mp hy).elim (λz=>Cq.sm.row y z) λz=>vW.sm.row y z];generalize hA:cols r1 (bz r1)=A at kq;generalize hB:cols r2 (bz r2)=B at kq;have cA:=fQ hb1 λr hr=>hO r (qbm _ hr);have cB:=fQ hb2 λr hr=>hO r (qac _ hr);rw[hA]at cA;rw[hB]at cB;intro X;refine#[_,(ak (bD (aD T.cC hr (aa (pv 1) (aa (aI EC (aT (pv 2) Y) (aT (pv 3) Y)) ah))))
   (ak (fM (pv 0) (aD T.dW hr (aa (aT (pv 2) rfl) ah)) rfl)
   (ak (fM (pv 0) (aD T.dW hr (aa (aT (pv 3) rfl) ah)) rfl)
   (ak (fM (pv 0) (aI yR (bS (v:=.str (p_ "-")) rfl T.pR #[_,rfl]) (av (aK) rfl T.bB aZ (aa (aT (pv 2) rfl) ah))) rfl)
   (ak (fM (pv 0) (aI yR (bS (v:=.str (p_ "-")) rfl T.pR #[_,rfl]) (av (aK) rfl T.bB aZ (aa (aT (pv 3) rfl) ah))) rfl)
   (ak (fM (pv 0) (aD T.fK hr (aa (pv 1) (aa (aT (pv 0) rfl) (aa (av (aK) rfl T.bB aZ (aa (aT (pv 3) rfl) ah)) ah)))) rfl)
   (ak (fM (pv 0) (aD T.fK hr (aa (pv 1) (aa (aT (pv 0) rfl) (aa (av (aK) rfl T.bB aZ (aa (aT (pv 2) rfl) ah)) ah)))) rfl)
   (ak (j0 (i:=4) (N:=l7) nD rfl (Or.inl rfl) rfl D0 (cQ (aT (pv 0) rfl)) (λ_ _ _ _ _ _ _=>(pM l7 0)) (λ_ _ _ _ _ _ _=>(aD T.gf hr (aa (pv 0) ah))))
   (ak (j0 (i:=5) (N:=l7) nD rfl (Or.inl rfl) rfl D0 (cQ (aT (pv 0) rfl)) (λ_ _ _ _ _ _ _=>(pM l7 0)) (λ_ _ _ _ _ _ _=>(aD T.gf hr (aa (pv 0) ah))))
   (ak (fM (pv 0) (aD T.jS hr (aa (pv 1) (aa (pv 4) (aa (pv 5) ah)))) rfl)
   (ao (fM (pv 0) (aD T.jL hr (aa (aT (pv 0) rfl) (aa (av (aK) rfl T.bB aZ (aa (aT (pv 0) rfl) ah)) ah))) rfl)))))))))))),?_]
 refine#[_,Y,_,Y,o1,_,d1,_,_,Y,Wo.sub _ _ JS,T.bH,T.aS,bY,_,Y,o2,_,d2,_,_,Y,Wo.sub _ _ ho2,T.bH,T.aS,bY,q1,q2,_,_,Y,Y,aj.tup Wo.sub hq1,aj.tup Wo.sub hq2,λz=>Vz (List.map_eq_nil_iff.mp z),?_,λz=>absurd (List.map_eq_nil_iff.mp z) Vy,λ_ pt Zq=>?_]
 ·rw[e_,e_];exact gc (show _<=100 by have:=Cq.1;have:=vW.1;omega) (by decide)
 have s0:aj H (upd H pt (.tup (r1.map V.str++r2.map V.str))):=aj.upd Zq;refine#[x,sg,rows,fo,fm,.ref pt,r1++r2,Y,XY.same s0,#[pt,Y,.inr (bV.of (by rw[ai,E_]))],VZ,hO,λH1 s1=>?_];have w1:aj (Wo jn H) (Wo jn H1):=Wo.same (s0.trans s1);have j1:=s1 _ _ (s0 _ _ hj);refine#[_,Y,o1,_,d1,_,_,Y,Wo.sub _ _ (w1 _ _ JS),T.bH,T.aS,bY,.ref q1,r1,Y,#[q1,Y,.inr (aj.tup (w1.trans Wo.sub) hq1)],Cq.sm,hl1,λl1 H2 s2 _ OR=>#[_,Y,jn,_,dx,_,Y,s2 _ _ j1,T.bf,T.dD,by show 0<1000;decide,?_]];rw[hA]at OR;have ni:∀{H:Hp} {C d:l_} {fs:List (w_×V)} {l:l_} {xs:List V},H jn=some (.ins C d fs)->H l=some (.lst xs)->l≠jn:=λh1 h2 z=>by rw[z,h1]at h2;cases h2
 have eW:Wo jn (upd H2 jn (.ins p.aJ dx (y1 l1)))=Wo jn H2:=Wo.set;have j2:(upd H2 jn (.ins p.aJ dx (y1 l1))) jn=some (.ins p.aJ dx (y1 l1)):=ai;generalize upd H2 jn (.ins p.aJ dx (y1 l1))=H3 at eW j2 ⊢;have w2:aj (Wo jn H) (Wo jn H3):=by rw[eW];exact w1.trans (Wo.same s2)
 have a1:Wo jn H3 l1=some (.lst (A.map V.str)):=by rw[eW];exact Wo.in (ni (s2 _ _ j1) OR) OR
 clear eW;refine#[_,Y,o2,_,d2,_,_,Y,Wo.sub _ _ (w2 _ _ ho2),T.bH,T.aS,bY,.ref q2,r2,Y,#[q2,Y,.inr (aj.tup (w2.trans Wo.sub) hq2)],vW.sm,hl2,λl2 H4 s4 _ OQ=>#[_,Y,jn,_,dx,_,Y,s4 _ _ j2,T.bf,T.cD,o_ (aH (O_ 0)) (by decide),?_]];rw[hB]at OQ;have w3:aj (Wo jn H) (Wo jn (upd H4 jn (.ins p.aJ dx (y2 l1 l2)))):=by rw[Wo.set];exact w2.trans (Wo.same s4)
 have j3:(upd H4 jn (.ins p.aJ dx (y2 l1 l2))) jn=some (.ins p.aJ dx (y2 l1 l2)):=ai;have b1:Wo jn (upd H4 jn (.ins p.aJ dx (y2 l1 l2))) l2=some (.lst (B.map V.str)):=by rw[Wo.set];exact Wo.in (ni (s4 _ _ j2) OQ) OQ
 have a1':Wo jn (upd H4 jn (.ins p.aJ dx (y2 l1 l2))) l1=some (.lst (A.map V.str)):=by rw[Wo.set];exact Wo.same s4 _ _ a1
 generalize upd H4 jn (.ins p.aJ dx (y2 l1 l2))=H5 at w3 j3 b1 a1' ⊢;refine#[_,Y,o1,_,d1,_,_,Y,Wo.sub _ _ (w3 _ _ JS),T.bH,T.aS,bY,_,_,Y,.inr #[_,aj.tup (w3.trans Wo.sub) hq1,Y],_,_,Y,Y,?_,?_,by decide,?_,_,Y,jn,_,dx,_,Y,j3,T.bf,T.fj,o_ (aH (aH (O_ 0))) (by decide),?_]
 ·rw[e_];have:=Cq.1;omega
 ·rw[e_];have:=Cq.1;omega
 ·rw[e_];show((r1.length:Nat):Int).toNat*1<=A_;exact gc (show _<=1000 by have:=Cq.1;omega) (by decide)
 rw[e_,AW];have w4:aj (Wo jn H) (Wo jn (upd H5 jn (.ins p.aJ dx (y3 l1 l2 (aN r1.length))))):=by rw[Wo.set];exact w3
 have j4:(upd H5 jn (.ins p.aJ dx (y3 l1 l2 (aN r1.length)))) jn=some (.ins p.aJ dx (y3 l1 l2 (aN r1.length))):=ai;have Sd:Wo jn (upd H5 jn (.ins p.aJ dx (y3 l1 l2 (aN r1.length)))) l1=some (.lst (A.map V.str)):=by rw[Wo.set];exact a1'
 have Yg:Wo jn (upd H5 jn (.ins p.aJ dx (y3 l1 l2 (aN r1.length)))) l2=some (.lst (B.map V.str)):=by rw[Wo.set];exact b1
 generalize upd H5 jn (.ins p.aJ dx (y3 l1 l2 (aN r1.length)))=H6 at w4 j4 Sd Yg ⊢;refine#[_,Y,o2,_,d2,_,_,Y,Wo.sub _ _ (w4 _ _ ho2),T.bH,T.aS,bY,_,_,Y,.inr #[_,aj.tup (w4.trans Wo.sub) hq2,Y],_,_,Y,Y,?_,?_,by decide,?_,_,Y,jn,_,dx,_,Y,j4,T.bf,T.dQ,o_ (aH (aH (aH (O_ 0)))) (by decide),?_]
 ·rw[e_];have:=vW.1;omega
 ·rw[e_];have:=vW.1;omega
 ·rw[e_];show((r2.length:Nat):Int).toNat*1<=A_;exact gc (show _<=1000 by have:=vW.1;omega) (by decide)
 rw[e_,AW];have w5:aj (Wo jn H) (Wo jn (upd H6 jn (.ins p.aJ dx (y4 l1 l2 (aN r1.length) (aN r2.length))))):=by rw[Wo.set];exact w4
 have j5:(upd H6 jn (.ins p.aJ dx (y4 l1 l2 (aN r1.length) (aN r2.length)))) jn=some (.ins p.aJ dx (y4 l1 l2 (aN r1.length) (aN r2.length))):=ai;have M5:Wo jn (upd H6 jn (.ins p.aJ dx (y4 l1 l2 (aN r1.length) (aN r2.length)))) l1=some (.lst (A.map V.str)):=by rw[Wo.set];exact Sd
 have Sb:Wo jn (upd H6 jn (.ins p.aJ dx (y4 l1 l2 (aN r1.length) (aN r2.length)))) l2=some (.lst (B.map V.str)):=by rw[Wo.set];exact Yg
 generalize upd H6 jn (.ins p.aJ dx (y4 l1 l2 (aN r1.length) (aN r2.length)))=H7 at w5 j5 M5 Sb ⊢;have zA:∀c∈A,c.cps.size<=1000:=λc hc=>by rw[cA.size c hc];have:=Cq.1;omega
 have zB:∀c∈B,c.cps.size<=1000:=λc hc=>by rw[cB.size c hc];have:=vW.1;omega
 have nA:A.length<=1000:=by rw[←hA,aU];have:=Cq.bz hl1;omega
 have nB:B.length<=1000:=by rw[←hB,aU];have:=vW.bz hl2;omega
 have a5:=M5;have b5:=Sb;refine#[_,Y,_,Y,jn,_,dx,_,_,Y,j5,T.bf,T.dD,(xS (xS (xS DH))),_,Y,o2,_,d2,_,_,Y,Wo.sub _ _ (w5 _ _ ho2),T.bH,T.aS,bY,_,_,Y,.inr #[_,aj.tup (w5.trans Wo.sub) hq2,Y],x,l1,sg,rows,fo,fm,A,r2.length,(by rw[e_];rfl),(hP.same w5).same Wo.sub,Wo.sub _ _ a5,nA,zA,(by have:=vW.1;omega),λla H8 s8 _ hla=>#[_,Y,jn,_,dx,_,Y,s8 _ _ j5,T.bf,T.kj,o_ (aH (aH (aH (aH (O_ 0))))) (by decide),?_]];have eW:Wo jn (upd H8 jn (.ins p.aJ dx (y5 l1 l2 (aN r1.length) (aN r2.length) la)))=Wo jn H8:=Wo.set;have j6:(upd H8 jn (.ins p.aJ dx (y5 l1 l2 (aN r1.length) (aN r2.length) la))) jn=some (.ins p.aJ dx (y5 l1 l2 (aN r1.length) (aN r2.length) la)):=ai;generalize upd H8 jn (.ins p.aJ dx (y5 l1 l2 (aN r1.length) (aN r2.length) la))=H9 at eW j6 ⊢;have w6:aj (Wo jn H) (Wo jn H9):=by rw[eW];exact w5.trans (Wo.same s8)
 have a6:Wo jn H9 l1=some (.lst (A.map V.str)):=by rw[eW];exact Wo.same s8 _ _ a5
 have b6:Wo jn H9 l2=some (.lst (B.map V.str)):=by rw[eW];exact Wo.same s8 _ _ b5
 have Z9:Wo jn H9 la=some (.lst (A.map λc=>V.int (Am (jv rows fo fm) c r2.length))):=by rw[eW];exact Wo.in (ni (s8 _ _ j5) hla) hla
 clear eW;refine#[_,Y,_,Y,jn,_,dx,_,_,Y,j6,T.bf,T.cD,(xS (xS (xS DH))),_,Y,o1,_,d1,_,_,Y,Wo.sub _ _ (w6 _ _ JS),T.bH,T.aS,bY,_,_,Y,.inr #[_,aj.tup (w6.trans Wo.sub) hq1,Y],x,l2,sg,rows,fo,fm,B,r1.length,(by rw[e_];rfl),(hP.same w6).same Wo.sub,Wo.sub _ _ b6,nB,zB,(by have:=Cq.1;omega),λlb m6 Cm _ hlb=>#[_,Y,jn,_,dx,_,Y,Cm _ _ j6,T.bf,T.ki,o_ (aH (aH (aH (aH (aH (O_ 0)))))) (by decide),?_]];have eW:Wo jn (upd m6 jn (.ins p.aJ dx (y6 l1 l2 (aN r1.length) (aN r2.length) la lb)))=Wo jn m6:=Wo.set;have j7:(upd m6 jn (.ins p.aJ dx (y6 l1 l2 (aN r1.length) (aN r2.length) la lb))) jn=some (.ins p.aJ dx (y6 l1 l2 (aN r1.length) (aN r2.length) la lb)):=ai;generalize upd m6 jn (.ins p.aJ dx (y6 l1 l2 (aN r1.length) (aN r2.length) la lb))=GU at eW j7 ⊢;have w7:aj (Wo jn H) (Wo jn GU):=by rw[eW];exact w6.trans (Wo.same Cm)
 have a7:Wo jn GU l1=some (.lst (A.map V.str)):=by rw[eW];exact Wo.same Cm _ _ a6
 have b7:Wo jn GU l2=some (.lst (B.map V.str)):=by rw[eW];exact Wo.same Cm _ _ b6
 have Z8:Wo jn GU la=some (.lst (A.map λc=>V.int (Am (jv rows fo fm) c r2.length))):=by rw[eW];exact Wo.same Cm _ _ Z9
 have Z6:Wo jn GU lb=some (.lst (B.map λc=>V.int (Am (jv rows fo fm) c r1.length))):=by rw[eW];exact Wo.in (ni (Cm _ _ j6) hlb) hlb
 clear eW;refine#[_,Y,jn,_,dx,_,_,Y,j7,T.bf,T.dD,(xS (xS (xS (xS (xS DH))))),l1,Y,#[_,bq.of (Wo.sub _ _ a7)],λlo hlo=>?_];refine eL A.length (λj=>V.str (aO 45 (A.getD j ⟨#[]⟩))) hlo (o_ nA (by decide)) (λj Sw HU hj=>?_) (λSw HU=>?_) (λj y Sw H5' R HU hj hy hR=>?_) λJW s12 RC=>?_
 ·exact#[_,_,bq.of (HU _ _ (Wo.sub _ _ a7)),by rw[j_,d_ hj];rfl]
 ·exact#[_,bq.of (HU _ _ (Wo.sub _ _ a7)),by rw[e_];exact i_ _]
 ·obtain⟨rfl,hy⟩:=hy;have ey:=hy _ (bq.of (HU _ _ (Wo.sub _ _ a7)));rw[j_,d_ hj]at ey;cases ey;refine#[Kp.mL,_,Y,_,Y,zA _ (D_ hj),?_];have z:=hR _ (aj.refl _);rw[br (d_ hj)]at z;exact z
 rw[bM A λc=>V.str (aO 45 c)]at RC;refine#[_,Y,jn,_,dx,_,_,Y,(s12 _ _ j7),T.bf,T.cD,(xS (xS (xS (xS DH)))),l2,Y,#[_,bq.of (Wo.sub _ _ (Wo.same s12 _ _ b7))],λlp Tj=>?_];refine eL B.length (λj=>V.str (aO 45 (B.getD j ⟨#[]⟩))) Tj (o_ nB (by decide)) (λj Sw HU hj=>?_) (λSw HU=>?_) (λj y Sw H5' R HU hj hy hR=>?_) λJV GJ RB=>?_
 ·exact#[_,_,bq.of (HU _ _ (Wo.sub _ _ (Wo.same s12 _ _ b7))),by rw[j_,d_ hj];rfl]
 ·exact#[_,bq.of (HU _ _ (Wo.sub _ _ (Wo.same s12 _ _ b7))),by rw[e_];exact i_ _]
 ·obtain⟨rfl,hy⟩:=hy;have ey:=hy _ (bq.of (HU _ _ (Wo.sub _ _ (Wo.same s12 _ _ b7))));rw[j_,d_ hj]at ey;cases ey;refine#[Kp.mL,_,Y,_,Y,zB _ (D_ hj),?_];have z:=hR _ (aj.refl _);rw[br (d_ hj)]at z;exact z
 rw[bM B λc=>V.str (aO 45 c)]at RB;have SO:=s12.trans GJ;refine#[_,Y,_,Y,_,Y,x,lo,lp,sg,rows,fo,fm,A.map (aO 45),B.map (aO 45),Y,(hP.same (w7.trans (Wo.same SO))).same Wo.sub,(by rw[GJ _ _ RC,U_];rfl),by rw[e_];exact nA,λc hc=>?_,(by rw[RB,U_];rfl),by rw[e_];exact nB,λc hc=>?_,λle T3 Yu _ hle=>?_]
 ·obtain⟨c',hc',rfl⟩:=z_.mp hc;exact#[xG (cA.of c' hc'),uz (zA c' hc')]
 ·obtain⟨c',hc',rfl⟩:=z_.mp hc;exact#[xG (cB.of c' hc'),uz (zB c' hc')]
 have NX:=SO.trans Yu;rw[e_,e_]at hle;have hE:=hle.congr (g:=qk (jc sg rows (aC fo.2 fm.2 rows)) (jv rows fo fm) A B) λi j hi hj=>by
  unfold qk;rw[sX hi,sX hj];rfl
 refine#[_,Y,jn,_,dx,_,Y,NX _ _ j7,T.bf,T.gp,o_ (aH (aH (aH (aH (aH (aH (O_ 0))))))) (by decide),?_];have eW:Wo jn (upd T3 jn (.ins p.aJ dx (y7 l1 l2 (aN r1.length) (aN r2.length) la lb le)))=Wo jn T3:=Wo.set;have j8:(upd T3 jn (.ins p.aJ dx (y7 l1 l2 (aN r1.length) (aN r2.length) la lb le))) jn=some (.ins p.aJ dx (y7 l1 l2 (aN r1.length) (aN r2.length) la lb le)):=ai;generalize upd T3 jn (.ins p.aJ dx (y7 l1 l2 (aN r1.length) (aN r2.length) la lb le))=P8 at eW j8 ⊢;have w8:aj (Wo jn H) (Wo jn P8):=by rw[eW];exact w7.trans (Wo.same NX)
 have a8:Wo jn P8 l1=some (.lst (A.map V.str)):=by rw[eW];exact Wo.same NX _ _ a7
 have b8:Wo jn P8 l2=some (.lst (B.map V.str)):=by rw[eW];exact Wo.same NX _ _ b7
 have Z7:Wo jn P8 la=some (.lst (A.map λc=>V.int (Am (jv rows fo fm) c r2.length))):=by rw[eW];exact Wo.same NX _ _ Z8
 have Z5:Wo jn P8 lb=some (.lst (B.map λc=>V.int (Am (jv rows fo fm) c r1.length))):=by rw[eW];exact Wo.same NX _ _ Z6
 have e8:oO (Wo jn P8) le A.length B.length (qk (jc sg rows (aC fo.2 fm.2 rows)) (jv rows fo fm) A B):=by rw[eW];exact hE.Nh (NX _ _ j7)
 clear eW;refine#[_,Y,jn,_,dx,_,_,Y,j8,T.bf,T.gp,DH,_,Y,jn,_,dx,_,_,Y,j8,T.bf,T.cD,(xS (xS (xS (xS (xS DH))))),_,_,Y,.inl #[_,bq.of (Wo.sub _ _ b8),Y],le,A.length,B.length,qk (jc sg rows (aC fo.2 fm.2 rows)) (jv rows fo fm) A B,(by rw[e_];rfl),e8.same Wo.sub,nA,nB,λlr H18 Uz _ hlr=>#[_,Y,jn,_,dx,_,Y,Uz _ _ j8,T.bf,T.fH,o_ (aH (aH (aH (aH (aH (aH (aH (O_ 0)))))))) (by decide),?_]];have Pw:=Wo.same (t:=jn) Uz;refine kq _ (λa u ha hne=>?_) #[dx,l1,l2,la,lb,le,lr,ai,(Pw.trans Wo.upd) _ _ a8,(Pw.trans Wo.upd) _ _ b8,(Pw.trans Wo.upd) _ _ Z7,(Pw.trans Wo.upd) _ _ Z5,e8.same (Pw.trans Wo.upd),(hlr.Nh (Uz _ _ j8)).same Wo.upd];rw[ay hne];exact Wo.sub _ _ (Pw _ _ (w8 _ _ (Wo.in hne ha)))
theorem wG(T:Gs P w K mg p base 0):T.jO.Ok:=by
 refine T.jO.dP ["joining","i","j","rest","below"] λH vs Q E hr h nD=>?_;obtain⟨jn,A,B,n1,n2,pc,mo,i,j,rfl,⟨dx,l1,l2,la,lb,le,lr,h1,h2,h3,_,_,h6,h7⟩,nA,nB,hi,hj,k⟩:=h;obtain⟨L,g1,g2,g3⟩:=h7.at_;obtain⟨M,f1,f2,f3⟩:=h6.at_;have eA:(A.map V.str).length=A.length:=e_ ..;have eB:(B.map V.str).length=B.length:=e_ ..;unfold Cn at k;intro X;refine#[_,(ak (bC (aM dO (pv 1) (av (aK) Y T.bB aZ (aa (aT (pv 0) Y) ah)) (aW _)) (ao (aE bE)) aP)
   (ak (Z9X 3 nD (aR bu (aR bu (aT (pv 0) rfl) (pv 1) (λ_ _=>rfl)) (pv 2) (λ_ _=>rfl)))
   (ak (Z9X 4 nD (aR bu (aT (pv 0) rfl) (aI bZ (pv 1) aq) (λ_ _=>rfl)))
   (ak (bC (PW.pt (C8 (aM nX (pv 2) (av (aK) rfl T.bB aZ (aa (aT (pv 0) rfl) ah)) (aW _)) (yL (aM dO (aI bZ (aR bu (aR bu (aT (pv 0) rfl) (pv 1) (λ_ _=>rfl)) (pv 2) (λ_ _=>rfl)) (aR bu (pv 4) (aI bZ (pv 2) aq) (λ_ _=>rfl))) (pv 3) (aW _))))) (ao (aE bE)) aP)
   (ao (aE (ia (aM dO (aR bu (pv 4) (pv 2) (λ_ _=>rfl)) (pv 3) (aW _)) bE bE))))))),?_]
 refine#[_,Y,_,Y,jn,_,dx,_,_,Y,h1,T.bf,T.dD,zI,_,_,Y,.inl #[_,bq.of h2,Y],Y,_,Y,?_];rw[L7,eA];refine cS (λe=>?_) (λe=>?_)
 ·rw[if_pos (by omega)]at k;exact k
 rw[if_neg (by omega)]at k;have hi':i<A.length:=by omega
 obtain⟨r,a1,a2⟩:=g3 i (by omega);obtain⟨r',b1,b2⟩:=g3 (i+1) (by omega);refine#[_,Y,jn,_,dx,_,_,Y,h1,T.bf,T.fH,vE,_,Y,lr,_,_,.ref r,Y,Y,bq.of g1,bx a1,_,Y,r,_,_,.int (ee (qk pc mo A B) A.length B.length i j),Y,Y,bq.of a2,bx (fG (by omega)),?_];refine#[_,Y,jn,_,dx,_,_,Y,h1,T.bf,T.fH,vE,_,Y,_,_,Y,Y,lr,_,_,.ref r',Y,Y,bq.of g1,bx b1,?_];refine#[_,Y,_,Y,jn,_,dx,_,_,Y,h1,T.bf,T.cD,sD,_,_,Y,.inl #[_,bq.of h3,Y],_,_,Y,Y,_,Y,?_];rw[eB];by_cases hjl:j<B.length
 ·rw[decide_eq_true (show(j:Int)<(B.length:Int) by omega)];obtain⟨q,c1,c2⟩:=f3 i hi';refine gU #[_,Y,jn,_,dx,_,_,Y,h1,T.bf,T.gp,Gd,_,Y,le,_,_,.ref q,Y,Y,bq.of f1,bx c1,_,Y,q,_,_,.int (qk pc mo A B i j),Y,Y,bq.of c2,bx (fG hjl),_,Y,_,Y,_,_,Y,Y,r',_,_,.int (ee (qk pc mo A B) A.length B.length (i+1) (j+1)),Y,Y,bq.of b2,bx (j:=j+1) (fG (by omega)),_,_,Y,Y,_,Y,Y,_,Y,?_];rw[L7];refine cS (λe2=>?_) (λe2=>?_)
  ·rw[if_pos #[hjl,e2]]at k;exact k
  ·rw[if_neg λz=>e2 z.2]at k;refine#[_,Y,_,Y,r',_,_,.int (ee (qk pc mo A B) A.length B.length (i+1) j),Y,Y,bq.of b2,bx (fG (by omega)),_,Y,Y,_,Y,?_];rw[L7];refine cS (λe3=>?_) (λe3=>?_)
   ·rw[if_pos e3]at k;exact k
   ·rw[if_neg e3]at k;exact k
 ·rw[decide_eq_false (show ¬(j:Int)<(B.length:Int) by omega)];rw[if_neg λz=>hjl z.1]at k;refine eX (eX #[_,Y,_,Y,r',_,_,.int (ee (qk pc mo A B) A.length B.length (i+1) j),Y,Y,bq.of b2,bx (fG (by omega)),_,Y,Y,_,Y,?_]);rw[L7];refine cS (λe3=>?_) (λe3=>?_)
  ·rw[if_pos e3]at k;exact k
  ·rw[if_neg e3]at k;exact k
theorem vd(T:Gs P w K mg p base 1):T.i7.Ok:=by
 refine T.i7.dP ["joining","place","moves","move"] λH vs Q E hr h nD=>?_;obtain⟨jn,A,B,n1,n2,pc,mo,rfl,hJ,nA,nB,k⟩:=h;have eA:(A.map V.str).length=A.length:=e_ ..;have eB:(B.map V.str).length=B.length:=e_ ..;intro X;refine#[_,(ak (Z9X 1 nD (ck (aa aq (aa aq ah))))
   (ak (Z9X 2 nD (dY ah))
   (ak (nU L_ (aM (Di (qct (jh hr))) (pv 1) (ck (aa (av (aK) rfl T.bB aZ (aa (aT (pv 0) rfl) ah)) (aa (av (aK) rfl T.bB aZ (aa (aT (pv 0) rfl) ah)) ah))) (aW _)) (ak (Z9X 3 nD (aD T.jO hr (aa (pv 0) (aa (aR bG (pv 1) aq (λ_ _=>rfl)) (aa (aR bG (pv 1) aq (λ_ _=>rfl)) ah)))))
   (ak (bD (cW zab zag zah cK (pv 2) (aa (pv 3) ah)))
   (ao (Z9X 1 nD (aD T.gg hr (aa (pv 1) (aa (pv 3) ah))))))))
   (ao (aE (pv 2)))))),?_]
 refine#[c_,λq0 EM=>#[a_,λl hl=>?_]];have s0:=(aj.upd (o:=.tup [.int 0,.int 0]) EM).trans (aj.upd (o:=.lst []) hl);have nq:q0≠l:=λz=>by rw[←z,ai]at hl;cases hl
 have MS:H l=none:=aj.free (aj.upd EM) hl;refine#[λm σ H2=>tW λ(q:l_) (v3:Option V) (cs:List Nat) (i j:Nat)=>σ=[some (.ref jn),some (.ref q),some (.ref l),v3]/\aj H H2/\H2 l=some (.lst (cs.map sg))/\TupAt H2 q ((i:Int),(j:Int))/\mG (qk pc mo A B) A.length B.length cs i j/\m=A.length+B.length-(i+j),#[_,q0,_,[],0,0,Y,s0,ai,?_,.nil,Y],?_]
 ·show upd _ _ _ q0=_;rw[ay nq];exact ai
 rintro m σ H2 ⟨q,v3,cs,i,j,rfl,s2,h2,hq,hF,hm⟩;obtain⟨hi,hj,hc⟩:=hF.path.in;obtain⟨dx,l1,l2,la,lb,le,lr,h1,h3,h4,_⟩:=hJ.same s2;refine#[_,Y,_,Y,jn,_,dx,_,_,Y,h1,T.bf,T.dD,zI,_,_,Y,.inl #[_,bq.of h3,Y],_,Y,jn,_,dx,_,_,Y,h1,T.bf,T.cD,sD,_,_,Y,.inl #[_,bq.of h4,Y],c_,λqt Vp=>?_];have s3:=s2.trans (aj.upd (o:=.tup [.int (((A.map V.str).length:Nat):Int),.int (((B.map V.str).length:Nat):Int)]) Vp);have h2':=aj.upd (o:=.tup [.int (((A.map V.str).length:Nat):Int),.int (((B.map V.str).length:Nat):Int)]) Vp _ _ h2;have hq':TupAt (upd H2 qt (.tup [.int (((A.map V.str).length:Nat):Int),.int (((B.map V.str).length:Nat):Int)])) q ((i:Int),(j:Int)):=aj.upd Vp _ _ hq;refine#[q,qt,_,_,Y,Y,hq'.fr,bV.of ai,Y,Y,_,Y,?_];generalize upd H2 qt (.tup [.int (((A.map V.str).length:Nat):Int),.int (((B.map V.str).length:Nat):Int)])=H3 at s3 h2' hq' ⊢;rw[Hg,eA,eB];by_cases he:i=A.length/\j=B.length
 ·rw[decide_eq_true (show(i:Int)=(A.length:Int)/\(j:Int)=(B.length:Int) by omega)];obtain⟨rfl,rfl⟩:=he;exact jw #[_,Y,k l H3 cs s3 MS h2' hF]
 ·rw[decide_eq_false (show ¬((i:Int)=(A.length:Int)/\(j:Int)=(B.length:Int)) by omega)];obtain⟨i',j',hm',hres⟩:=Oo (E:=qk pc mo A B) hi hj he;obtain⟨e1,e2,e3⟩:=hm'.in hi hj;refine xW #[λσ' H'=>iG λ(q:l_) (v3:Option V) (cs:List Nat)=>σ'=[some (.ref jn),some (.ref q),some (.ref l),v3]/\aj H H'/\H' l=some (.lst (cs.map sg))/\TupAt H' q ((i':Int),(j':Int))/\mG (qk pc mo A B) A.length B.length cs i' j',λσ' H' h=>?_,?_]
  ·obtain⟨q,v3,cs,rfl,a,b,c,d⟩:=h;exact#[A.length+B.length-(i'+j'),by omega,q,v3,cs,i',j',Y,a,b,c,d,Y]
  refine#[_,Y,_,Y,q,_,_,_,Y,Y,hq'.fr,Y,_,Y,q,_,_,_,Y,Y,hq'.fr,Y,jn,A,B,n1,n2,pc,mo,i,j,Y,hJ.same s3,nA,nB,hi,hj,?_];refine#[_,Y,.inl #[Y,_,bq.of h2'],_,Y,l,_,_,Y,Y,h2',?_,?_]
  ·rw[e_];exact o_ (show cs.length<=1000 by omega) (by decide)
  have hq2:=hq'.off (o:=.lst (cs.map sg++[V.str ⟨#[Cn (qk pc mo A B) A.length B.length i j]⟩])) h2';have sF:upd H3 l (.lst (cs.map sg++[V.str ⟨#[Cn (qk pc mo A B) A.length B.length i j]⟩])) l=some (.lst ((cs++[Cn (qk pc mo A B) A.length B.length i j]).map sg)):=by
   rw[ai,E_];rfl
  have s4:aj H (upd H3 l (.lst (cs.map sg++[V.str ⟨#[Cn (qk pc mo A B) A.length B.length i j]⟩]))):=aj.at s3 MS;generalize upd H3 l (.lst (cs.map sg++[V.str ⟨#[Cn (qk pc mo A B) A.length B.length i j]⟩]))=H4 at hq2 sF s4 ⊢;refine#[_,Y,_,Y,q,_,_,Y,hq2.fr,Om,λr hr=>?_];rw[hm'.stp];exact#[r,_,_,Y,s4.trans (aj.upd hr),aj.upd hr _ _ sF,ai,hF.snoc hm' hres]
theorem tN(T:Gs P w K mg p base 1):T.iA.Ok:=by
 refine T.iA.dP ["ones","others","one_gaps","other_gaps","moves","columns","place","move","step","left","right"] λH vs Q E hr h nD=>?_;obtain⟨l1,l2,lm,A,B,g1,g2,cs,ie,je,rfl,h1,h2,hm,nA,nB,zA,zB,z1,z2,hp,k⟩:=h;obtain⟨pi1,pj1,hpat⟩:=hp.at_;have hcl:=hp.in.2.2;obtain⟨pi2,pj2,_⟩:=hp.in;intro X;refine#[_,(ak (Z9X 5 nD (dY ah))
   (ak (Z9X 6 nD (ck (aa aq (aa aq ah))))
   (ak (bK L_ rfl (cQ (pv 4)) (Z9Y 7 nD) (ak (Z9X 8 nD (Ex (bS (v:=.ref p.gT) rfl T.ud rfl) (pv 7) (λ_ _=>rfl)))
   (aX (Z9X 9 nD (ia (aM dO (aR bG (pv 8) aq (λ_ _=>rfl)) aq (aW _)) (aR bu (pv 0) (aR bG (pv 6) aq (λ_ _=>rfl)) (λ_ _=>rfl)) (pv 2)))
   (aX (Z9X 10 nD (ia (aM dO (aR bG (pv 8) aq (λ_ _=>rfl)) aq (aW _)) (aR bu (pv 1) (aR bG (pv 6) aq (λ_ _=>rfl)) (λ_ _=>rfl)) (pv 3)))
   (ak (bD (cW zab zag zah cK (pv 5) (aa (aI bW (pv 9) (pv 10)) ah)))
   (ao (Z9X 6 nD (aD T.gg hr (aa (pv 6) (aa (pv 7) ah))))))))))
   (ao (aE (pv 5)))))),?_]
 refine#[a_,λl hl=>?_];refine#[c_,λq0 EM=>?_];have s1:aj H (upd (upd H l (.lst [])) q0 (.tup [.int 0,.int 0])):=(aj.upd hl).trans (aj.upd EM);have nq:l≠q0:=λz=>by rw[←z,ai]at EM;cases EM
 refine#[_,Y,lm,Y,#[_,bq.of (s1 _ _ hm)],kI (K:=K) (a:=lm) (xs:=cs.map sg) (λi σ H2=>tW λ(q:l_) (v7 v8 v9 v10:Option V)=>σ=[some (.ref l1),some (.ref l2),some (.str g1),some (.str g2),some (.ref lm),some (.ref l),some (.ref q),v7,v8,v9,v10]/\H2 l=some (.lst ((lq A B g1 g2 cs i).map V.str))/\TupAt H2 q ((pI cs i:Int),(pJ cs i:Int))/\aj H H2)
  #[q0,_,_,_,_,rfl,by rw[ay nq];exact ai,ai,s1] (λi σ H2 _ hh=>?_) ?_ ?_]
 ·obtain⟨_,_,_,_,_,_,_,_,s2⟩:=hh;exact bq.of (s2 _ _ hm)
 ·rintro i y σ H2 hy ⟨q,v7,v8,v9,v10,rfl,hl2,tq,s2⟩;obtain⟨c,hc,rfl⟩:=fk hy;have hi:i<cs.length:=(m_.mp hc).1;obtain⟨c',hc',Rz⟩:=hpat i hi;rw[hc]at hc';cases hc';have OC:=Rz.stp;have hmo:=Rz.ok;obtain⟨v,st,hv,hst,ha,hb⟩:bU λ(v:l_) (st:bJ)=>eZ [(Sum.inr (p_ "p"),V.ref p.fW),(Sum.inr (p_ "a"),V.ref p.fV),(Sum.inr (p_ "b"),V.ref p.fU)] (Sum.inr ⟨#[c]⟩:Key)=some (.ref v)/\(∀H:Hp,bV K H v [.int st.1,.int st.2]) ∧
    ((st.1=1/\pI cs i<A.length/\c≠98)\/(st.1=0/\c=98))/\((st.2=1/\pJ cs i<B.length/\c≠97)\/(st.2=0/\c=97)):=by
   generalize pI cs (i+1)=i1 at Rz;generalize pJ cs (i+1)=j1 at Rz
   cases Rz with
   |p hi hj=>exact#[p.fW,(1,1),cO (show(Sum.inr (p_ "p"):Key)=Sum.inr ⟨#[112]⟩ by decide +kernel),T.q_STEPS0,.inl #[Y,hi,by decide],.inl #[Y,hj,by decide]]
   |a hi=>exact#[p.fV,(1,0),(cP (show ¬(Sum.inr (p_ "p"):Key)=Sum.inr ⟨#[97]⟩ by decide +kernel)).trans (cO (show(Sum.inr (p_ "a"):Key)=Sum.inr ⟨#[97]⟩ by decide +kernel)),T.uQ,.inl #[Y,hi,by decide],.inr #[Y,Y]]
   |b hj=>exact#[p.fU,(0,1),(cP (show ¬(Sum.inr (p_ "p"):Key)=Sum.inr ⟨#[98]⟩ by decide +kernel)).trans ((cP (show ¬(Sum.inr (p_ "a"):Key)=Sum.inr ⟨#[98]⟩ by decide +kernel)).trans (cO (show(Sum.inr (p_ "b"):Key)=Sum.inr ⟨#[98]⟩ by decide +kernel))),T.uP,.inr #[Y,Y],.inl #[Y,hj,by decide]]
  refine#[_,Y,p.gT,_,.inr ⟨#[c]⟩,_,Y,Y,T.kd_STEPS P,hv,?_]
  obtain⟨L,hL⟩:∃L:w_,L=(if c=98 then g1 else A.getD (pI cs i) ⟨#[]⟩):=#[_,rfl]
  obtain⟨R,hR⟩:∃R:w_,R=(if c=97 then g2 else B.getD (pJ cs i) ⟨#[]⟩):=#[_,rfl]
  have zL:L.cps.size<=1000:=by
   rcases ha with⟨_,e2,e3⟩|⟨_,e3⟩
   ·rw[hL,if_neg e3];exact zA _ (getD_mem e2)
   ·rw[hL,if_pos e3];exact z1
  have zR:R.cps.size<=1000:=by
   rcases hb with⟨_,e2,e3⟩|⟨_,e3⟩
   ·rw[hR,if_neg e3];exact zB _ (getD_mem e2)
   ·rw[hR,if_pos e3];exact z2
  refine#[λσ' H'=>H'=H2/\σ'=[some (.ref l1),some (.ref l2),some (.str g1),some (.str g2),some (.ref lm),some (.ref l),some (.ref q),some (.str ⟨#[c]⟩),some (.ref v),some (.str L),v10],?_,?_]
  ·refine#[_,Y,v,_,_,_,Y,Y,hst _,Y,Y,_,Y,?_];rcases ha with⟨e1,e2,e3⟩|⟨e1,e3⟩
   ·rw[e1,decide_eq_true rfl];refine gU #[_,Y,_,Y,q,_,_,_,Y,Y,tq.fr,Y,l1,_,_,.str L,Y,Y,bq.of (s2 _ _ h1),bx ?_,Y,Y];rw[hL,if_neg e3,j_,d_ e2,br (d_ e2)];rfl
   ·rw[e1,decide_eq_false (show ¬V.int 0=V.int 1 by decide)];refine eX #[_,Y,Y,?_];rw[hL,if_pos e3];rfl
  rintro σ' H3 ⟨rfl,rfl⟩;refine#[λσ' H'=>H'=H3/\σ'=[some (.ref l1),some (.ref l2),some (.str g1),some (.str g2),some (.ref lm),some (.ref l),some (.ref q),some (.str ⟨#[c]⟩),some (.ref v),some (.str L),some (.str R)],?_,?_]
  ·refine#[_,Y,v,_,_,_,Y,Y,hst _,Y,Y,_,Y,?_];rcases hb with⟨e1,e2,e3⟩|⟨e1,e3⟩
   ·rw[e1,decide_eq_true rfl];refine gU #[_,Y,_,Y,q,_,_,_,Y,Y,tq.fr,Y,l2,_,_,.str R,Y,Y,bq.of (s2 _ _ h2),bx ?_,Y,Y];rw[hR,if_neg e3,j_,d_ e2,br (d_ e2)];rfl
   ·rw[e1,decide_eq_false (show ¬V.int 0=V.int 1 by decide)];refine eX #[_,Y,Y,?_];rw[hR,if_pos e3];rfl
  rintro σ' H4 ⟨rfl,rfl⟩;refine#[_,Y,.inl #[Y,_,bq.of hl2],_,Y,_,Y,_,_,Y,Y,gc (qbE zL zR) (by decide),l,_,_,Y,Y,hl2,?_,?_]
  ·unfold lq;rw[e_,e_,X_];exact J_ (show i<1000 by omega) (by decide)
  have WL:=tq.off (o:=.lst ((lq A B g1 g2 cs i).map V.str++[V.str (L++R)])) hl2;have hl3:upd H4 l (.lst ((lq A B g1 g2 cs i).map V.str++[V.str (L++R)])) l=some (.lst ((lq A B g1 g2 cs (i+1)).map V.str)):=by
   rw[ai];unfold lq;rw[p5,E_,List.map_singleton,br hc,hL,hR];rfl
  have s3:aj H (upd H4 l (.lst ((lq A B g1 g2 cs i).map V.str++[V.str (L++R)]))):=aj.at s2 hl;generalize upd H4 l (.lst ((lq A B g1 g2 cs i).map V.str++[V.str (L++R)]))=H5 at WL hl3 s3 ⊢;refine#[_,Y,_,Y,q,c,_,Y,WL.fr,hmo,λr hr=>?_];rw[OC];exact#[r,_,_,_,_,Y,aj.upd hr _ _ hl3,ai,s3.trans (aj.upd hr)]
 ·rintro σ H2 ⟨q,v7,v8,v9,v10,rfl,hl2,tq,s2⟩;rw[e_]at hl2;exact#[_,Y,k l H2 s2 hl hl2]
theorem tO(T:Gs P w K mg p base 6):T.gk.Ok:=by
 refine T.gk.dP ["joining","moves","columns"] λH vs Q E hr h nD=>?_;obtain⟨jn,A,B,n1,n2,pc,mo,kn,rfl,hJ,ok,k⟩:=h;intro X;refine#[_,(ak (Z9X 1 nD (aD T.i7 hr (aa (pv 0) ah)))
   (ak (Z9X 2 nD (aD T.iA hr (aa (aT (pv 0) rfl) (aa (aT (pv 0) rfl) (aa (aT (pv 0) rfl) (aa (aT (pv 0) rfl) (aa (pv 1) ah)))))))
   (ao (aE (lg T.jD hr T.ko (aa (aD T.mz hr (aa (pv 2) (aa (av (aK) rfl T.bB aZ (aa (aI bW (aT (pv 0) rfl) (aT (pv 0) rfl)) ah)) ah))) ah)))))),?_]
 have nA:=ok.la;have nB:=ok.lb;refine#[_,Y,jn,A,B,n1,n2,pc,mo,Y,hJ,by omega,by omega,λlm H1 cs s1 _ hm hF=>?_];obtain⟨dx,l1,l2,la,lb,le,lr,h1,h2,h3,_⟩:=hJ.same s1;have hin:=hF.path.in;have m1:=ok.s1;have m2:=ok.s2;refine#[_,Y,jn,_,dx,_,_,Y,h1,T.bf,T.dD,zI,_,Y,jn,_,dx,_,_,Y,h1,T.bf,T.cD,sD,_,Y,jn,_,dx,_,_,Y,h1,T.bf,T.fj,tw,_,Y,jn,_,dx,_,_,Y,h1,T.bf,T.dQ,pQ,_,Y,l1,l2,lm,A,B,aN n1,aN n2,cs,A.length,B.length,Y,h2,h3,hm,by omega,by omega,λc hc=>by rw[ok.a.size c hc];omega,λc hc=>by rw[ok.b.size c hc];omega,by rw[dM];omega,by rw[dM];omega,hF.path,λlc H2 s2 _ hc=>?_];have s12:=s1.trans s2;have oZ:=s2 _ _ h1;have hC:=hF.path.cols ok.a ok.b ok.kn;have hz:(lq A B (aN n1) (aN n2) cs cs.length).length=cs.length:=by unfold lq;rw[e_,X_]
 have hp1:=ok.p1;obtain⟨LO,_⟩:=iI (by omega) hC;refine#[_,Y,_,Y,jn,_,dx,_,_,Y,oZ,T.bf,T.fj,tw,_,Y,jn,_,dx,_,_,Y,oZ,T.bf,T.dQ,pQ,_,_,Y,Y,?_,_,_,Y,#[?_,Y],.ref lc,lq A B (aN n1) (aN n2) cs cs.length,n1+n2,?_,#[lc,Y,.inl (bq.of hc)],#[by rw[hz];omega,λr hr=>by rw[hC.size r hr];omega],by omega,λr hr=>qb8 (hC.size r hr).symm,λlt H3 s3 _ ht=>?_]
 ·show(aN n1).cps.size+(aN n2).cps.size<=A_;rw[dM,dM];exact gc (show _<=1000 by omega) (by decide)
 ·show(aN n1++aN n2).cps.size<=A_;rw[cG,dM,dM];exact gc (show _<=1000 by omega) (by decide)
 ·show [V.ref lc,V.int (((aN n1++aN n2).cps.size:Nat):Int)]=_;rw[cG,dM,dM]
 refine xQ #[lt,Y,.inl (bq.of ht)] #[by rw[aU];omega,λr hr=>?_] LO λo H8 g2 ho q2=>k o H8 cs ((s12.trans s3).trans g2) (aj.free (s12.trans s3) ho) hF q2;rw[←hz]at hin;obtain⟨j,_,rfl⟩:=z_.mp (show r∈(H_ (n1+n2)).map (dg (lq A B (aN n1) (aN n2) cs cs.length)) from hr);rw[show(dg (lq A B (aN n1) (aN n2) cs cs.length) j).cps.size=(lq A B (aN n1) (aN n2) cs cs.length).length from e_ ..];omega
theorem F1(T:Gs P w K mg p base 7):T.qW.Ok:=by
 refine T.qW.dP l9 λH vs Q E hr h nD=>?_;obtain⟨x,o1,o2,sg,rows,fo,fm,r1,r2,rfl,hP,IV,hB2,Cq,vW,hb1,hb2,hO,k⟩:=h;intro X;refine#[_,(ao (aE (aD T.gk hr (aa (lg T.lX hr T.qe (aa (pv 0) (aa (pv 1) (aa (pv 2) ah)))) ah)))),?_];refine#[_,Y,_,Y,_,Y,Q3 hP IV hB2 Cq vW hb1 hb2 hO λjn H2 s2 q2=>?_];have cA:=fQ hb1 λr hr=>hO r (qbm _ hr);have cB:=fQ hb2 λr hr=>hO r (qac _ hr);have hp:0<r1.length:=qaT.mpr (aV.mp (aL hb1)).1;refine#[jn,cols r1 (bz r1),cols r2 (bz r2),r1.length,r2.length,_,_,(nJ sg).cps.toList,Y,q2,#[cA,cB,by rw[aU];exact Cq.bz (aL hb1),by rw[aU];exact vW.bz (aL hb2),Cq.1,vW.1,hp,fu.mpr (.inl Y)],λb H3 cs s3 GR hF VX=>?_];rw[aU,aU]at hF;exact k b H3 cs (s2.trans s3) (s2.free GR) hF VX
theorem zo(T:Gs P w K mg p base 0):T.jm.Ok:=by
 refine T.jm.dP l8 λH vs Q E hr h nD=>?_;obtain⟨b,n,rs,rfl,⟨dx,q,hb,hq⟩,hn,k⟩:=h;intro X;refine#[_,(ao (bC (jo (Bb uU nX aq (pv 1) (av (aK) Y T.bB aZ (aa (aT (pv 0) Y) ah)))) bO aP)),?_];refine#[_,Y,_,_,Y,Y,_,Y,cS (λ_=>?_) λz=>absurd (qcS n) z];refine#[_,Y,b,_,dx,_,_,Y,hb,T.bH,T.aS,bY,_,_,Y,.inr #[_,hq,Y],_,_,Y,Y,_,Y,?_];rw[e_,decide_eq_true (show(n:Int)<(rs.length:Int) by omega)];exact jw k
theorem Lj(T:Gs P w K mg p base 1):T.Aa.Ok:=by
 refine T.Aa.dP l8 λH vs Q E hr h nD=>?_;obtain⟨b,n,rs,r,rfl,hB,hS,hy,k⟩:=h;intro X;refine#[_,(ak (bD (aD T.jm hr (aa (pv 0) (aa (pv 1) ah))))
   (ao (aE (aD T.gf hr (aa (aR bG (aT (pv 0) rfl) (pv 1) (λ_ _=>rfl)) ah))))),?_]
 refine#[_,Y,_,Y,b,n,rs,Y,hB,(m_.mp hy).1,?_];obtain⟨dx,q,hb,hq⟩:=hB;exact#[_,Y,b,_,dx,_,_,Y,hb,T.bH,T.aS,bY,_,Y,q,_,_,_,Y,Y,hq,bx (by rw[j_,hy];rfl),_,Y,hS.row _ (h_ hy),k]
theorem Ip(T:Gs P w K mg p base 6):T.qX.Ok:=by
 refine T.qX.dP l6 λH vs Q E hr h nD=>?_;obtain⟨x,rfl,hx,hb,k⟩:=h;intro X;refine#[_,(ao (aE (lg T.jD hr T.ko (aa (dY (aa (pv 0) ah)) ah)))),?_];refine#[_,Y,b_,λl hl=>?_];exact xQ #[l,Y,.inl (bq.of ai)] #[by show 1<=100;decide,λr hr=>by rw[u_.mp hr];exact hx] hb λo H' s ho h2=>k o H' ((aj.upd hl).trans s) (aj.free (aj.upd hl) ho) h2
theorem wu(T:Gs P w K mg p base 0):T.iz.Ok:=by
 refine T.iz.dP l8 λH vs Q E hr h nD=>?_;obtain⟨b,n,rs,rfl,⟨dx,q,hb,hq⟩,hn,hl,k⟩:=h;have hL:(rs.map V.str).length=rs.length:=e_ ..;intro X;refine#[_,(ao (aE (aI uW (eE uI (aT (pv 0) Y) gJ (fO (pv 1))) (eE uI (aT (pv 0) Y) (fO (aI bZ (pv 1) aq)) gJ)))),?_];refine#[_,Y,b,_,dx,_,_,Y,hb,T.bH,T.aS,bY,_,Y,_,Y,q,_,Y,hq,?_,λq1 hq1=>?_]
 ·rw[HT.nQ,HT.jA,hL];omega
 rw[Ji (by omega)];have s1:aj H (upd H q1 (.tup ((rs.map V.str).take n))):=aj.upd hq1;have h1:upd H q1 (.tup ((rs.map V.str).take n)) q1=some (.tup ((rs.map V.str).take n)):=ai;generalize upd H q1 (.tup ((rs.map V.str).take n))=H1 at s1 h1 ⊢;refine#[_,Y,b,_,dx,_,_,Y,s1 _ _ hb,T.bH,T.aS,bY,_,Y,_,_,Y,Y,_,Y,q,_,Y,aj.tup s1 hq,?_,λq2 hq2=>?_]
 ·rw[show(n:Int)+1=((n+1:Nat):Int) by omega,HT.jA,HT.nQ,hL];omega
 rw[show(n:Int)+1=((n+1:Nat):Int) by omega,BZ (by omega)];have s2:aj H1 (upd H1 q2 (.tup ((rs.map V.str).drop (n+1)))):=aj.upd hq2;have h2:upd H1 q2 (.tup ((rs.map V.str).drop (n+1))) q2=some (.tup ((rs.map V.str).drop (n+1))):=ai;generalize upd H1 q2 (.tup ((rs.map V.str).drop (n+1)))=H2 at s2 h2 ⊢;have oZ:=s2 _ _ h1;have e:(rs.eraseIdx n).map V.str=(rs.map V.str).take n++(rs.map V.str).drop (n+1):=by rw[List.eraseIdx_eq_take_drop_succ,E_,qdb,List.map_drop]
 by_cases z:n=0
 ·subst z;refine .inr #[q1,q2,_,Y,Y,bV.of oZ,bV.of h2,k q2 H2 (s1.trans s2) ?_];rw[e];exact bV.of h2
 ·refine .inl #[q1,q2,_,_,Y,Y,bV.of oZ,bV.of h2,?_,?_,λz2=>k q1 H2 (s1.trans s2) ?_,λz2 p hp=>k p _ (aj.at (s1.trans s2) ((s1.trans s2).free hp)) ?_]
  ·intro z2;have:=congrArg qaR z2;rw[W_,hL]at this;have:min n rs.length=0:=this;omega
  ·rw[W_,qaY,hL];exact gc (show _<=100 by omega) (by decide)
  ·rw[e,z2,qaQ];exact bV.of oZ
  ·rw[e];exact bV.of ai
theorem Dl(T:Gs P w K mg p base 6):T.o8.Ok:=by
 refine T.o8.dP ["block","row","others","columns"] λH vs Q E hr h nD=>?_;obtain⟨b,n,rs,rfl,hB,hS,MM,hok,hlt,h1,k⟩:=h;have IM:=hok;unfold bI at IM;rw[N_,N_]at IM;obtain⟨W3,YL,_⟩:=IM;intro X;refine#[_,(ak (bD (aD T.jm hr (aa (pv 0) (aa (pv 1) ah))))
   (ak (bC (aM dO (av (aK) rfl T.bB aZ (aa (aT (pv 0) rfl) ah)) aq (aW _)) bO aP)
   (ak (Z9X 2 nD (aD T.iz hr (aa (pv 0) (aa (pv 1) ah))))
   (ak (Bc (i:=3) (N:=l7) nD rfl (Or.inl rfl) rfl D0 (cQ (aD T.dW hr (aa (pv 2) ah))) (λ_ _ _ _ _ _ _=>(pM l7 0)) (λ_ _ _ _ _ _ _=>(pv 0)) (λ_ _ _ _ _ _ _=>(jo (fh (aD T.mD hr (aa (pv 0) ah))))))
   (ao (aE (lg T.jD hr T.ko (aa (aD T.mz hr (aa (pv 3) (aa (av (aK) rfl T.bB aZ (aa (pv 2) ah)) ah))) ah)))))))),?_]
 refine#[_,Y,_,Y,b,n,rs,Y,hB,hlt,?_];have Z2:=hB;obtain⟨dx,q,hb,hq⟩:=Z2;refine#[_,Y,b,_,dx,_,_,Y,hb,T.bH,T.aS,bY,_,_,Y,.inr #[_,hq,Y],Y,_,Y,?_];rw[e_];rw[decide_eq_false (λz=>h1 (by injection z with z;omega))];refine eX ?_;have r1:=Gu W3 hlt h1;have r2:=zV (n:=n) YL;have r3:=Gr W3 hlt h1;have r4:(rs.eraseIdx n).length<=100:=by rw[qbD hlt];have:=hS.len;omega
 have rS:tH (rs.eraseIdx n):=#[r4,λr hr=>hS.row r (T_ hr)];refine#[_,Y,_,Y,b,n,rs,Y,hB,hlt,hS.len,λq1 H1 s1 hq1=>?_];obtain⟨os,hos⟩:∃os,os=rs.eraseIdx n:=#[_,rfl];rw[←hos]at hq1 r1 r2 r3 r4 rS;have ZT:Rw K H1 (.ref q1) os:=#[q1,rfl,.inr hq1];refine#[_,Y,_,os,Y,ZT,rS,r1,λl H2 s2 MP hl2=>?_];refine#[l,Y,#[_,bq.of hl2],λl2 VI=>?_];refine E5 (bz os) (λi=>!bL (dg os i)) (λi=>V.str (dg os i)) VI (o_ (show bz os<=100 by omega) (by decide)) (λi H3 s3 hi=>?_) (λH3 s3=>?_) (λi x H3 H4 R S s3 hi y hR hF=>?_) λH3 s3 hl3=>?_
 ·exact#[_,_,bq.of (s3 _ _ hl2),by rw[j_,o7 hi];rfl]
 ·exact#[_,bq.of (s3 _ _ hl2),by rw[e_,aU];exact i_ _]
 ·obtain⟨rfl,y⟩:=y;have ex:=y _ (bq.of (s3 _ _ hl2));rw[j_,o7 hi]at ex;cases ex;refine#[Kp.rep _ _,?_];refine#[_,Y,_,Y,by rw[eK];omega,_,Y,?_]
  cases z:bL (dg os i)with
  |true=>exact jw (hF (by rw[z];rfl) _ (aj.refl _))
  |false=>exact xW #[_,Y,hR (by rw[z];rfl) _ (aj.refl _)]
 ·rw[Gm]at hl3;have ZR:Rw K H3 (.ref l2) ((cols os (bz os)).filter λc=>!bL c):=#[l2,rfl,.inl (bq.of hl3)];have Td:bV K H3 q1 (os.map V.str):=aj.tup s3 (aj.tup s2 hq1);refine#[_,Y,_,Y,_,_,Y,.inr #[_,Td,Y],_,_,os.length,by rw[e_];rfl,ZR,D3 (by omega) r4 _,by omega,λr hr=>qb8 (Mc hr).symm,λl3 H4 s4 hn4 sF=>?_];have NZ:aj H H4:=((s1.trans s2).trans s3).trans s4;exact xQ #[l3,Y,.inl (bq.of sF)] (yQ (by omega) r4) (lN r1 r2) λo H' g1 ho g2=>k o H' (NZ.trans g1) (aj.free NZ ho) (by rw[hos]at g2;exact g2)
theorem p9(T:Gs P w K mg p base 8):T.dU.Ok:=by
 refine T.dU.dP Rf λH vs Q E hr h nD=>?_;obtain⟨x,b,n,sg,rows,fo,fm,rs,y,rfl,hP,hB,hS,hb,hO,hy,h1,k⟩:=h;have hl:=aL hb;have hy':=h_ hy;have hyz:=hS.2 y hy';have hil:n<rs.length:=(m_.mp hy).1;have hal:=qY (x:=y) λc hc=>nO (x_.mp (fF hb) y hy') hc;have hsz:(aO 45 y).cps.size<=50:=gc nP hyz;have hw:=hS.bz hl;have hz:=hS.1;intro X;refine#[_,(ao (aE (lg T.lX hr T.qe (aa (pv 0) (aa (aD T.qX hr (aa (aD T.Aa hr (aa (pv 1) (aa (pv 2) ah))) ah)) (aa (aD T.o8 hr (aa (pv 1) (aa (pv 2) ah))) ah)))))),?_];refine#[_,Y,_,Y,_,Y,b,n,rs,y,Y,hB,hS.sm,hy,aO 45 y,Y,by omega,hal,λo1 H1 s1 JS IV=>?_];refine#[_,Y,_,Y,b,n,rs,Y,hB.same s1,hS.sm,by omega,hb,hil,h1,λo2 H2 s2 ho2 hB2=>?_];obtain⟨l1,l2,l3⟩:=mR hl hil h1;have DL:=lN l1 (x_.mpr λr hr=>x_.mp (fF hb) r (T_ hr));have s12:=s1.trans s2;refine Q3 (hP.same s12) (IV.same s2) hB2 #[by show 1<=40;decide,λr hr=>by rw[u_.mp hr];exact hsz] (rP l1 (by omega) (by omega)) hal DL (λr hr=>?_) λjn H3 s3 q2=>k jn H3 (s12.trans s3) q2;rcases S_.mp hr with hr|hr
 ·rw[u_.mp hr];exact λc hc=>hO y hy' c (iJ hc).1
 ·exact oY l1 (λr hr=>hO r (T_ hr)) r hr
theorem nY(T:Gs P w K mg p base 7):T.cY.Ok:=by
 refine T.cY.dP ["joining","row","rows"] λH vs Q E hr h nD=>?_;obtain⟨jn,r,n2,A,B,pc,mo,kn,rfl,hJ,ok,hrn,hn2,k⟩:=h;intro X;refine#[_,(ak (Z9X 2 nD (aT (aD T.gk hr (aa (pv 0) ah)) Y))
   (ao (aE (lg T.jD hr T.ko (aa (aI uW (aI uW (eE uI (pv 2) (fO aq) (fO (aI bZ (pv 1) aq))) (eE uI (pv 2) gJ (fO aq))) (eE uI (pv 2) (fO (aI bZ (pv 1) aq)) gJ)) ah))))),?_]
 refine#[_,Y,jn,A,B,1,n2,pc,mo,kn,Y,hJ,ok,λb H1 cs s1 hb1 hF IV=>?_];obtain⟨R,hR⟩:∃R,R=cols (lq A B (aN 1) (aN n2) cs cs.length) (1+n2):=#[_,rfl];rw[←hR]at IV;have MZ:R.length=1+n2:=by rw[hR,aU]
 obtain⟨bk,_⟩:=iI (by omega) (hF.path.cols ok.a ok.b ok.kn);rw[←hR]at bk;have k':∀b H' cs',aj H H'->H b=none->cs'=cs->kL K p.bF H' b (fY r (R.headD ⟨#[]⟩) R.tail)->Q (.ref b) H':=λb H' cs' s hb e hB=>k b H' cs s hb hF (by rw[←hR];exact hB);have hm1:=ok.s2
 cases hc:R with
 |nil=>rw[hc]at MZ;have:0=1+n2:=MZ;omega
 |cons y ys =>
 rw[hc]at IV MZ k' bk;have hyl:ys.length=n2:=by have:ys.length+1=1+n2:=MZ;omega
 have hL:((y::ys).map V.str).length=n2+1:=by rw[e_,Q_,hyl]
 obtain⟨dq,q,VW,hq⟩:=IV;refine#[b,_,dq,_,_,Y,VW,T.bH,T.aS,bY,?_];have er:(r:Int)+1=((r+1:Nat):Int):=by omega
 refine#[_,Y,_,Y,_,Y,_,_,Y,Y,_,Y,q,_,Y,hq,?_,λq1 hq1=>?_]
 ·rw[show(1:Int)=((1:Nat):Int) from rfl,HT.jA,hL];omega
 rw[er,show lA ((y::ys).map V.str) (some 1) (some ((r+1:Nat):Int))=(ys.take r).map V.str from(Ma (a:=1) (b:=r+1) (by omega) (by omega)).trans (by rw[Nat.add_sub_cancel,qag,List.drop_succ_cons,qcz,qdb])];have s2:aj H1 (upd H1 q1 (.tup ((ys.take r).map V.str))):=aj.upd hq1;have h2:upd H1 q1 (.tup ((ys.take r).map V.str)) q1=some (.tup ((ys.take r).map V.str)):=ai;generalize upd H1 q1 (.tup ((ys.take r).map V.str))=H2 at s2 h2 ⊢;refine#[_,Y,_,Y,q,_,Y,aj.tup s2 hq,?_,λq2 hq2=>?_]
 ·rw[show(1:Int)=((1:Nat):Int) from rfl,HT.jA,hL];omega
 rw[show lA ((y::ys).map V.str) none (some 1)=[V.str y] from(Ji (n:=1) (by omega)).trans rfl];have s3:aj H2 (upd H2 q2 (.tup [.str y])):=aj.upd hq2;have h3:upd H2 q2 (.tup [.str y]) q2=some (.tup [.str y]):=ai;generalize upd H2 q2 (.tup [.str y])=H3 at s3 h3 ⊢;refine B6 (bV.of (s3 _ _ h2)) (bV.of h3) ?_ λq4 H4 s4 h4=>?_
 ·rw[e_,W_];exact gc (show _<=1000 by show _+1<=1000;omega) (by decide)
 refine#[_,Y,_,Y,_,_,Y,Y,_,Y,q,_,Y,aj.tup (s2.trans (s3.trans s4)) hq,?_,λq5 Zp=>?_]
 ·rw[er,HT.jA,HT.nQ,hL];omega
 rw[er,show lA ((y::ys).map V.str) (some ((r+1:Nat):Int)) none=(ys.drop r).map V.str from(BZ (by omega)).trans (by rw[qag,List.drop_succ_cons,List.map_drop])];have s5:aj H4 (upd H4 q5 (.tup ((ys.drop r).map V.str))):=aj.upd Zp;have h5:upd H4 q5 (.tup ((ys.drop r).map V.str)) q5=some (.tup ((ys.drop r).map V.str)):=ai;generalize upd H4 q5 (.tup ((ys.drop r).map V.str))=H5 at s5 h5 ⊢;refine B6 (aj.tup s5 h4) (bV.of h5) ?_ λq6 H6 s6 h6=>?_
 ·rw[t_,e_,e_,W_,qaY];exact gc (show _<=1000 by show _+1+_<=1000;omega) (by decide)
 have e6:(ys.take r).map V.str++[V.str y]++(ys.drop r).map V.str=(fY r y ys).map V.str:=by
  unfold fY;rw[E_,E_];rfl
 rw[e6]at h6;have sA:=s2.trans (s3.trans (s4.trans (s5.trans s6)));have bp:=tG (r:=r) bk;have hin:=hF.path.in;have la:=ok.la;have lb:=ok.lb;have WG:∀z∈y::ys,z.cps.size<=1000:=λz hz=>by
  have hz':z∈cols (lq A B (aN 1) (aN n2) cs cs.length) (1+n2):=by rw[←hR,hc];exact hz
  obtain⟨j,_,rfl⟩:=z_.mp (show z∈(H_ (1+n2)).map (dg (lq A B (aN 1) (aN n2) cs cs.length)) from hz');rw[eK];unfold lq;rw[e_,X_];omega
 refine xQ #[q6,Y,.inr h6] #[by rw[jZ];omega,λz hz=>?_] bp λo H8 g2 ho q2=>k' o H8 cs (s1.trans (sA.trans g2)) ((s1.trans sA).free ho) Y q2;rcases ja hz with rfl|hz
 ·exact WG _ (r_ ..)
 ·exact WG _ (s_ _ hz)
theorem zm(T:Gs P w K mg p base 10):T.kZ.Ok:=by
 refine T.kZ.dP Rf λH vs Q E hr h nD=>?_;obtain⟨x,b,n,sg,rows,fo,fm,rs,y,rfl,hP,hB,hS,hb,hO,hy,h1,k⟩:=h;obtain⟨dq,q,VW,hq⟩:=id hB;intro X;refine#[_,(ak (bD (aD T.cC hr (aa (pv 0) (aa (aT (pv 1) Y) ah))))
   (ao (aE (aD T.cY hr (aa (aD T.dU hr (aa (pv 0) (aa (pv 1) (aa (pv 2) ah)))) (aa (pv 2) ah)))))),?_]
 refine#[_,Y,_,Y,b,_,dq,_,_,Y,VW,T.bH,T.aS,bY,x,sg,rows,fo,fm,.ref q,rs,Y,hP,#[q,Y,.inr hq],hS.sm,hO,λH1 s1=>?_];have hl:=aL hb;refine#[_,Y,_,Y,_,Y,x,b,n,sg,rows,fo,fm,rs,y,Y,hP.same s1,hB.same s1,hS,hb,hO,hy,h1,λjn H2 s2 hJ=>?_];have hil:n<rs.length:=(m_.mp hy).1;have hy':=h_ hy;obtain⟨l1,l2,l3⟩:=mR hl hil h1;have hal:=qY (x:=y) λc hc=>nO (x_.mp (fF hb) y hy') hc;have DL:=lN l1 (x_.mpr λr hr=>x_.mp (fF hb) r (T_ hr));have hw:=hS.bz hl;have hz:=hS.1;have hpl:(packed (rs.eraseIdx n)).length=(rs.eraseIdx n).length:=aU;have JO:=rP l1 (by omega) (by omega);refine#[_,Y,jn,n,(packed (rs.eraseIdx n)).length,_,_,_,_,(nJ sg).cps.toList,Y,hJ,#[fQ hal λr hr=>?_,fQ DL (oY l1 λr hr=>hO r (T_ hr)),?_,?_,by decide,?_,by decide,fu.mpr (.inl Y)],by omega,by omega,λb' H3 cs s3 GR hF Z0=>?_]
 ·rw[u_.mp hr];exact λc hc=>hO y hy' c (iJ hc).1
 ·rw[aU];exact gc nP (hS.2 y hy')
 ·rw[aU];exact JO.bz (aL DL)
 ·omega
 ·rw[aU,aU]at hF;exact k b' H3 cs ((s1.trans s2).trans s3) ((s1.trans s2).free GR) hF Z0
theorem Bq(T:Gs P w K mg p base 0):T.mW.Ok:=by
 refine T.mW.dP PK λH vs Q E hr h nD=>?_;obtain⟨x,rfl,hz,k⟩:=h;intro X;refine#[_,(ao (aE (cW zae zal zam zv bE (aa (Ij (N:=["_law_thing_here"]) Y D0 (j9 (pv 0)) (λ_ _ _ _ _ _ _=>(pM ["_law_thing_here"] 0)) (λ_ _ _ _ _ _ _=>(pv 0)) (λ_ _ _ _ _ _ _=>(aM nj (pv 0) bE (aW _)))) ah)))),?_];refine#[Y,_,Y,_,Y,λl GN=>?_];refine E5 x.cps.size (λj=>x.cps.toList.getD j 0 != 45) (λj=>L2.sg (x.cps.toList.getD j 0)) GN (o_ hz (by decide)) (λj m6 Cm hj=>hj) (λm6 Cm=>i_ _) (λj y m6 GU R S Cm hj hy hRR hF=>?_) λm6 Cm wR=>?_
 ·obtain⟨rfl,c,hc,rfl⟩:=hy;rw[br (gF hc)]at hRR hF;refine#[Kp.mL,?_];refine#[_,Y,Y,_,Y,?_];rw[NS]
  cases z:c != 45 with
  |true=>exact gU #[_,Y,hRR z _ (aj.refl _)]
  |false=>exact eX (hF z _ (aj.refl _))
 rw[←k_,BR]at wR;refine#[l,_,Y,Y,bq.of wR,?_,?_]
 ·exact gc (qaH _ _) (by rw[k_];omega)
 exact k m6 Cm
theorem qH(T:Gs P w K mg p base 0):T.gr.Ok:=by
 refine T.gr.dP ["prices","i","row","j","price"] λH vs Q E hr h nD=>?_;obtain⟨x,sg,rows,fo,fm,rfl,⟨_,LJ,_,_,_,_,_,dx,Pp,o,m,d,kvs,h1,⟨qs,Al,hp⟩,h3,h4,h5,h6⟩,k⟩:=h;intro X;refine#[_,(ak (bK L_ Y (oW Y T.fT (aa (aT (pv 0) Y) ah)) (kc (n:=2) Y (bQ (Z9Y 1 nD) (bQ (Z9Y 2 nD) gK))) (ao (bK L_ Y (oW Y T.fT (aa (pv 2) ah)) (kc (n:=2) Y (bQ (Z9Y 3 nD) (bQ (Z9Y 4 nD) gK))) (ao (bC (aM (Di (qct (jh hr))) (pv 4) (aR bG (aR bG (aT (pv 0) Y) (pv 3) (λ_ _=>rfl)) (pv 1) (λ_ _=>rfl)) (aW _)) (ao (aE iF)) aP)))))
   (ao (aE iF))),?_]
 refine#[_,Y,x,_,_,_,_,Y,h1,T.bh,T.dB,qi,.tup Pp,_,Y,Al,lZ (K:=K) (c:=.tup Pp) (xs:=qs.map V.ref) (λi σ H2=>mZ λv1 v2 v3 v4=>σ=[some (.ref x),v1,v2,v3,v4]/\aj H H2/\∀i' j' f g,i'<i->mH rows i' j' f->mH rows j' i' g->f=g)
  #[_,_,_,_,rfl,aj.refl _,λi' j' f g z=>by omega] (λi σ H2 _ ⟨v1,v2,v3,v4,_,s2,_⟩=>Dat.tup (Dat.of s2) Al) ?_ ?_]
 ·rintro i y p1 σ H2 hy hp1 ⟨v1,v2,v3,v4,rfl,s2,hb⟩;obtain⟨q,hq,rfl⟩:=fk hy;obtain⟨row,er,ps,hps,hpp⟩:=Paired.at hp hq;have hi:i<rows.length:=(m_.mp er).1;have s3:=s2.trans (aj.upd (o:=.tup [.int (i:Int),.ref q]) hp1);refine#[p1,_,Y,bV.of ai,Y,_,_,Y,_,_,Y,Y,?_];refine#[_,Y,.tup q,_,Y,Dat.tup (Dat.of s3) hps,lZ (K:=K) (c:=.tup q) (xs:=ps.map V.ref) (λj σ H3=>bU λv3 v4=>σ=[some (.ref x),some (.int (i:Int)),some (.ref q),v3,v4]/\aj H H3/\∀i' j' f g,(i'<i\/(i'=i/\j'<j))->mH rows i' j' f->mH rows j' i' g->f=g)
   #[_,_,rfl,s3,λi' j' f g z=>hb i' j' f g (by omega)] (λj σ H3 _ ⟨v3,v4,_,s3,_⟩=>Dat.tup (Dat.of s3) hps) ?_ ?_]
  ·rintro j y p2 σ H3 hy hp2 ⟨v3,v4,rfl,s3,GR⟩;obtain⟨pr,PN,rfl⟩:=fk hy;obtain⟨f,ef,hf⟩:=Paired.at hpp PN;have hj:j<row.length:=(m_.mp ef).1;have s4:=s3.trans (aj.upd (o:=.tup [.int (j:Int),.ref pr]) hp2);have hrl:=LJ.2 row (h_ er);have hj':j<rows.length:=by rw[LJ.1,←hrl];exact hj
   obtain⟨qj,eqj,psj,Vs,Vt⟩:=Paired.at' hp (d_ hj');have Zl:=LJ.2 rows[j] (D_ hj');have hi':i<(rows[j]).length:=by rw[Zl,←LJ.1];exact hi
   obtain⟨WZ,Wg,hg⟩:=Paired.at' Vt (d_ hi');refine#[p2,_,Y,bV.of ai,Y,_,_,Y,_,_,Y,Y,?_];refine#[_,Y,_,Y,x,_,_,_,_,Y,s4 _ _ h1,T.bh,T.dB,qi,_,Y,Pp,_,_,.ref qj,Y,Y,Dat.tup (Dat.of s4) Al,bx (by rw[j_,eqj];rfl),?_];refine#[_,Y,qj,_,_,.ref WZ,Y,Y,Dat.tup (Dat.of s4) Vs,bx (by rw[j_,Wg];rfl),?_];refine#[pr,WZ,_,_,Y,Y,hf.same s4,hg.same s4,Y,Y,_,Y,?_];have af:mH rows i j f:=#[row,er,ef];have ag:mH rows j i (rows[j])[i]:=#[rows[j],d_ hj',d_ hi'];by_cases he:f=(rows[j])[i]
   ·rw[(xE f (rows[j])[i]).mpr he];refine jw #[_,_,Y,s4,λi' j' f' g' z z1 z2=>?_];by_cases e:i'=i/\j'=j
    ·obtain⟨rfl,rfl⟩:=e;obtain⟨r1,a1,a2⟩:=z1;obtain⟨r2,b1,b2⟩:=z2;rw[er]at a1;cases a1;rw[ef]at a2;cases a2;rw[d_ hj']at b1;cases b1;rw[d_ hi']at b2;cases b2;exact he
    ·exact GR i' j' f' g' (by omega) z1 z2
   ·have ef2:ju [.int f.1,.int f.2] [.int ((rows[j])[i]).1,.int ((rows[j])[i]).2]=false:=by
     cases e:ju [.int f.1,.int f.2] [.int ((rows[j])[i]).1,.int ((rows[j])[i]).2]with
     |false=>rfl
     |true=>exact absurd ((xE _ _).mp e) he
    rw[ef2];exact xW (k false _ #[λz=>(by cases z),λz=>absurd (z i j f _ af ag) he] s4)
  ·rintro σ H3 ⟨v3,v4,rfl,s3,GR⟩;refine#[_,_,_,_,Y,s3,λi' j' f g z z1 z2=>GR i' j' f g ?_ z1 z2];rw[e_,Paired.len hpp];by_cases e:i'=i
   ·subst e;obtain⟨r,a1,a2⟩:=z1;rw[er]at a1;cases a1;exact .inr #[Y,(m_.mp a2).1]
   ·exact .inl (by omega)
 ·rintro σ H2 ⟨v1,v2,v3,v4,rfl,s2,hb⟩;refine k true H2 #[λ_ i' j' f g z1 z2=>hb i' j' f g ?_ z1 z2,λ_=>rfl] s2;obtain⟨r,a1,a2⟩:=z1;rw[e_,Paired.len hp];exact(m_.mp a1).1
theorem wI(T:Gs P w K mg p base 3):T.fE.Ok:=by
 refine T.fE.Lk S4 λH vs Q E hr h nD=>?_;obtain⟨x,sg,rows,fo,fm,v,rs,rfl,⟨_,_,_,_,_,_,_,dx,Pp,o,m,d,kvs,h1,_⟩,hR,hS,kq,k⟩:=h;intro X;refine#[_,(ao (bD (oX (T.c7.g (by decide)) (hr.mono (by decide)) Y T.c7.m T.c7.d.fn.kp T.c7.d.b .nil (Lets.passes kN) (aa (aT (pv 0) Y) (aa (pv 1) ah))))),?_];exact#[_,Y,x,_,_,_,_,Y,h1,T.bh,T.cJ,iL,_,Y,sg,v,rs,Y,hR,hS,kq,k]
theorem vc(T:Gs P w K mg p base 8):T.i6.Ok:=by
 refine T.i6.dP ["prices","left","right"] λH vs Q E hr h nD=>?_;obtain⟨x,p1,q1,T1,R1,R2,N1,N2,n1,n2,m1,m2,rfl,hP,⟨SY,b1,hp,hn1,IV⟩,⟨ln2,b2,hq,hn2,hB2⟩,a,b,hn,hm,hN,k⟩:=h;intro X;refine#[_,(ao (aE (ck (aa (aI Oh (aR bG (pv 1) aq (λ_ _=>rfl)) (aR bG (pv 2) aq (λ_ _=>rfl))) (aa (aD T.qW hr (aa (pv 0) (aa (aR bG (pv 1) aq (λ_ _=>rfl)) (aa (aR bG (pv 2) aq (λ_ _=>rfl)) ah)))) ah))))),?_];refine#[_,Y,p1,_,_,_,Y,Y,bV.of hp,Y,_,Y,q1,_,_,_,Y,Y,bV.of hq,Y,?_];refine#[SY,ln2,_,_,Y,Y,hn1,hn2,gc (show(N1.map V.int).length+(N2.map V.int).length<=100 by rw[e_,e_];exact hN) (by decide),λl hl=>?_];have s1:=aj.upd (o:=.lst (N1.map V.int++N2.map V.int)) hl;have e1:upd H l (.lst (N1.map V.int++N2.map V.int)) l=some (.lst ((N1++N2).map V.int)):=by rw[ai,E_]
 generalize upd H l (.lst (N1.map V.int++N2.map V.int))=H1 at s1 e1 ⊢;have p1':=s1 _ _ hp;have Yz:=s1 _ _ hq;refine#[_,Y,_,Y,p1,_,_,_,Y,Y,bV.of p1',Y,_,Y,q1,_,_,_,Y,Y,bV.of Yz,Y,x,b1,b2,T1.1,T1.2.1,T1.2.2.1,T1.2.2.2,R1,R2,Y,hP.same s1,IV.same s1,hB2.same s1,a.sm (by omega) (by omega),b.sm (by omega) (by omega),a.bk,b.bk,λr hr=>?_,λbb H2 cs s2 hb hF hB=>#[c_,λr hr=>?_]]
 ·rcases S_.mp hr with q|q
  ·exact a.kn r q
  ·exact b.kn r q
 ·have s3:=aj.upd (o:=.tup [.ref l,.ref bb]) hr;exact k r _ _ (s1.trans (s2.trans s3)) #[cs,hF,Y] #[l,bb,ai,s3 _ _ (s2 _ _ e1),hB.same s3]
theorem Br(T:Gs P w K mg p base 0):T.mY.Ok:=by
 refine T.mY.dP ["thing"] λH vs Q E hr h nD=>?_;obtain⟨n,rfl,k⟩:=h;intro X;refine#[_,(ao (aE (uT (av (kO) Y T.dN dZ (aa (pv 0) (aa (ua (v:=.ty "int") Y T.Av Ac Y) ah))) (rO (Oc (av (kO) Y T.dN dZ (aa (pv 0) (aa (ua (v:=.ty "bool") Y T.G0 Mi Y) ah)))))))),?_];exact#[_,Y,_,_,_,_,Y,.int n,vB,_,Y,gU #[_,Y,_,_,_,_,Y,.int n,zH,_,Y,k]]
theorem Dq(T:Gs P w K mg p base 0):T.pq.Ok:=by
 refine T.pq.dP ["thing"] λH vs Q E hr h nD=>?_;obtain⟨v,rfl,h⟩:=h;intro X;refine#[_,(ao (aE (uT (av (kO) Y T.dN dZ (aa (pv 0) (aa (ua (v:=.ty "tuple") Y T.oR oM Y) ah))) (rO (iT dO (av (aK) Y T.bB aZ (aa (pv 0) ah)) aq (aW _)))))),?_];rcases h with⟨n,rfl,k⟩|⟨a,x,y,rfl,ha,k⟩
 ·exact#[_,Y,_,_,_,_,Y,.int n,wO,_,Y,eX k]
 ·exact#[_,Y,_,_,_,_,Y,.tup ha,vB,_,Y,gU #[_,Y,_,_,Y,.inr #[_,bV.of ha,Y],Y,k]]
theorem tR(T:Gs P w K mg p base 2):T.iD.Ok:=by
 refine T.iD.dP ["part","many","seen"] λH vs Q E hr h nD=>?_;obtain⟨k0,n,d,kvs,seen,rfl,hd,hS,h1,h2,h3,k⟩:=h;intro X;refine#[_,(ak (bC (jo (fh (aD T.mY hr (aa (pv 0) ah)))) bO aP)
   (ak (bC (jo (Bb uU nX aq (pv 0) (pv 1))) bO aP)
   (ao (bC (aM (Lh (jh hr)) (pv 0) (pv 2) (by with_unfolding_all rfl)) bO aP)))),?_]
 refine#[_,Y,k0,Y,_,Y,jw ?_];refine#[_,Y,_,_,Y,Y,_,Y,S6 h1 ?_];refine#[_,Y,_,_,Y,Y,_,Y,?_];rw[decide_eq_true h2];refine jw #[_,Y,_,Y,d,_,Y,pH.k (k:=.inl k0) hd,_,Y,?_];rw[hS.2,decide_eq_false h3];exact eX k
theorem we(T:Gs P w K mg p base 3):T.jH.Ok:=by
 refine T.jH.dP ["tree","many","order","seen","waiting","part"] λH vs Q E hr h nD=>?_;obtain⟨v,n,rfl,ht,hn,k⟩:=h;intro X;refine#[_,(ak (Z9X 2 nD (dY ah))
   (ak (Z9X 3 nD uS)
   (ak (Z9X 4 nD (dY (aa (pv 0) ah)))
   (aX (nU L_ (aM pN (av (aK) rfl T.bB aZ (aa (pv 4) ah)) aq (aW _)) (ak (Z9X 5 nD (p7 zab zbj zbk Dy (pv 4)))
   (ao (bC (fh (aD T.pq hr (aa (pv 5) ah))) (ak (bD (cW zab zag zah cK (pv 2) (aa k9 ah)))
   (ao (bD (cW zab zb2 zb3 Dz (pv 4) (aa (pv 5) ah))))) (ak (bD (aD T.iD hr (aa (pv 5) (aa (pv 1) (aa (pv 3) ah)))))
   (ak (t8 (jh hr) (pv 3) (pv 5) iF rfl)
   (ao (bD (cW zab zag zah cK (pv 2) (aa (pv 5) ah))))))))))
   (ak (bC (aM nX (av (B7) rfl T.bB aZ (aa (pv 3) ah)) (pv 1) (aW _)) bO aP)
   (ak (bD (p7 zab za7 za8 mQ (pv 2)))
   (ao (aE (pv 2))))))))),?_]
 refine#[a_,λlo hlo=>λd hd=>#[_,Y,b_,λlw PR=>?_]];have s1:=((aj.upd (o:=.lst []) hlo).trans (aj.upd (o:=.dK []) hd)).trans (aj.upd (o:=.lst [v]) PR);have n1:lo≠d:=λz=>by rw[←z,ai]at hd;cases hd
 have e0:upd (upd H lo (.lst [])) d (.dK []) lo=some (.lst []):=by rw[ay n1,ai]
 have n2:lo≠lw:=λz=>by rw[←z,e0]at PR;cases PR
 have n3:d≠lw:=λz=>by rw[←z,ai]at PR;cases PR
 have fd:H d=none:=aj.free (aj.upd hlo) hd;have fw:H lw=none:=aj.free ((aj.upd (o:=.lst []) hlo).trans (aj.upd (o:=.dK []) hd)) PR;have e1:upd (upd (upd H lo (.lst [])) d (.dK [])) lw (.lst [v]) lo=some (.lst []):=by rw[ay n2];exact e0
 have e2:upd (upd (upd H lo (.lst [])) d (.dK [])) lw (.lst [v]) d=some (.dK []):=by rw[ay n3,ai]
 have e3:upd (upd (upd H lo (.lst [])) d (.dK [])) lw (.lst [v]) lw=some (.lst [v]):=ai;generalize upd (upd (upd H lo (.lst [])) d (.dK [])) lw (.lst [v])=H1 at s1 e1 e2 e3 ⊢;have big:∀a:Nat,a<=2000->a<A_:=λa h=>o_ h (by decide);have hrl:=t7 n;refine#[λσ H'=>iG λv5 kvs seen=>σ=[some v,some (.int ((n+1:Nat):Int)),some (.ref lo),some (.ref d),some (.ref lw),v5]/\aj H H'/\H' lo=some (.lst (vV n))/\H' d=some (.dK kvs)/\vU kvs seen/\(seen.length:Int)=(n:Int)+1,?_,?_]
 ·let W:Nat->St->Hp->Prop:=λm σ H'=>tW λv5 ws os seen kvs=>∃b:Int,(σ=[some v,some (.int ((n+1:Nat):Int)),some (.ref lo),some (.ref d),some (.ref lw),v5]/\aj H H'/\H' lw=some (.lst ws)/\H' lo=some (.lst os)/\H' d=some (.dK kvs)/\vU kvs seen/\(∀x∈seen,b<x)/\(seen.length:Int)=(n:Int)-b) ∧
   (ws=[]/\b= -1/\os=vV n/\m=0\/(bU λj u=>ws=[u]/\q9 H j u/\b=(j:Int)/\os++vV j=vV n/\m=2*j+1)\/bU λj u=>ws=[u,.int ((j+1:Nat):Int)]/\q9 H j u/\b=((j+1:Nat):Int)/\os++ .int ((j+1:Nat):Int)::vV j=vV n/\m=2*j+2)
  refine#[W,#[2*n+1,_,[v],[],[],[],n,#[Y,s1,e3,e1,e2,#[Y,λk=>rfl],(λx hx=>nomatch hx),by simp],.inr (.inl #[n,v,Y,ht,Y,Y,Y])],?_]
  rintro m σ H2 ⟨v5,ws,os,seen,kvs,b,⟨rfl,s2,PL,ho2,hd2,hS,hb,hsl⟩,hc⟩;refine#[_,Y,_,_,Y,.inl #[_,bq.of PL,Y],_,_,Y,Y,_,Y,?_];rcases hc with⟨rfl,rfl,rfl,rfl⟩|hc
  ·exact BE (λz=>absurd z (by decide)) #[_,kvs,seen,Y,s2,ho2,hd2,hS,by omega]
  obtain⟨ws,x,rfl,hv⟩:bU λT4 x=>ws=T4++[x]/\((∃kk:Nat,x= .int kk/\(kk:Int)<=b/\b<=(n:Int)/\b=(kk:Int)/\os.length<=300/\∀v5 kvs' H',(aj H H'/\H' lw=some (.lst T4)/\H' lo=some (.lst (os++[.int kk]))/\H' d=some (.dK kvs')/\vU kvs' (seen++[(kk:Int)]))->∃m',m'<m/\W m' [some v,some (.int ((n+1:Nat):Int)),some (.ref lo),some (.ref d),some (.ref lw),v5] H') ∨
    iG λj a u=>T4=[]/\x= .ref a/\H a=some (.tup [u,.int ((j+1:Nat):Int)])/\q9 H j u/\b=((j+1:Nat):Int)/\os++vV (j+1)=vV n/\m=2*(j+1)+1):=by
   have next:∀kk:Nat,b=(kk:Int)->(∀x∈seen++[(kk:Int)],b-1<x)/\((seen++[(kk:Int)]).length:Int)=(n:Int)-(b-1):=λkk e=>by
    refine#[λx hx=>?_,by rw[t_];show((seen.length+1:Nat):Int)=_;omega];rcases S_.mp hx with hx|hx
    ·have:=hb x hx;omega
    ·rw[u_.mp hx];omega
   have ol:∀{z:List V},os++z=vV n->os.length<=300:=λ{z} e=>by
    have:=congrArg qaR e;rw[t_]at this;omega
   have bl:b<=(n:Int):=by omega
   rcases hc with⟨j,u,rfl,hu,MV,ho,rfl⟩|⟨j,u,rfl,hu,MV,ho,rfl⟩
   ·cases j with
    |zero =>
     cases hu
     obtain⟨a1,a2⟩:=next 0 MV
     refine#[[],.int 0,Y,.inl #[0,Y,by omega,bl,MV,ol ho,λv5 kvs' H' ⟨b1,b2,b3,b4,b5⟩=>#[0,by omega,v5,[],_,_,kvs',b-1,#[Y,b1,b2,b3,b4,b5,a1,a2],.inl #[Y,by omega,ho,Y]]]]
    |succ j =>
     obtain⟨a,u',rfl,ha,Zf⟩:=hu;exact#[[],.ref a,Y,.inr #[j,a,u',Y,Y,ha,Zf,MV,ho,Y]]
   ·obtain⟨a1,a2⟩:=next (j+1) MV
    refine#[[u],.int ((j+1:Nat):Int),Y,.inl #[j+1,Y,by omega,bl,MV,ol ho,λv5 kvs' H' ⟨b1,b2,b3,b4,b5⟩=>#[2*j+1,by omega,v5,[u],_,_,kvs',b-1,#[Y,b1,b2,b3,b4,b5,a1,a2],.inr (.inl #[j,u,Y,hu,by omega,?_,Y])]]];rw[←ho,qat];rfl
  refine S6 (by show(0:Int)<((ws++[x]).length:Int);rw[t_];exact Int.ofNat_lt.mpr (Nat.succ_pos _)) ?_;refine#[λσ' H'=>∃m',m'<m/\W m' σ' H',λσ' H' h=>h,?_];refine#[_,Y,.inl #[Y,_,bq.of PL],lw,_,x,Y,Y,PL,by simp,?_];rw[List.dropLast_concat];have s3:aj H (upd H2 lw (.lst ws)):=aj.at s2 fw;have OL:upd H2 lw (.lst ws) lo=some (.lst os):=by rw[ay n2];exact ho2
  have GQ:upd H2 lw (.lst ws) d=some (.dK kvs):=by rw[ay n3];exact hd2
  have Vf:upd H2 lw (.lst ws) lw=some (.lst ws):=ai;generalize upd H2 lw (.lst ws)=H3 at s3 OL GQ Vf ⊢;rcases hv with⟨kk,rfl,h1,h2,LO,OJ,hk⟩|⟨j,a,u,rfl,rfl,ha,hu,MV,ho,rfl⟩
  ·refine#[_,Y,_,Y,.inl #[_,Y,_,Y,eX ?_]];have h3:(kk:Int)∉seen:=λz=>by have:=hb _ z;omega
   refine#[_,Y,_,Y,_,Y,(kk:Int),n+1,d,kvs,seen,Y,GQ,hS,by omega,by omega,h3,?_];refine#[_,Y,_,Y,d,_,Y,xm.k (k:=.inl (kk:Int)) GQ (big _ (by rw[hS.1];omega)),?_];have Tg:upd H3 d (.dK (putK kvs (.inl (kk:Int)) (.bl true))) lo=some (.lst os):=by rw[ay n1];exact OL
   refine#[_,Y,.inl #[Y,_,bq.of Tg],_,Y,lo,_,_,Y,Y,Tg,big _ (by omega),?_];exact hk _ _ _ #[aj.at (aj.at s3 fd) hlo,by rw[ay (Ne.symm n2),ay (Ne.symm n3)];exact Vf,ai,by rw[ay (Ne.symm n1),ai],hS.put h3 _]
  ·refine#[_,Y,_,Y,.inr #[a,_,_,Y,s3 _ _ ha,_,Y,gU ?_]];have OJ:os.length<=300:=by
    have:=congrArg qaR ho;rw[t_]at this;omega
   refine#[_,Y,.inl #[Y,_,bq.of OL],lo,_,_,Y,Y,OL,big _ (by omega),?_];have Tf:upd H3 lo (.lst (os++[.dX])) a=some (.tup [u,.int ((j+1:Nat):Int)]):=by rw[ay (λz=>by rw[z,hlo]at ha;cases ha)];exact s3 _ _ ha
   have Xs:upd H3 lo (.lst (os++[.dX])) lw=some (.lst []):=by rw[ay (Ne.symm n2)];exact Vf
   refine#[_,Y,.inl #[Y,_,bq.of Xs],_,Y,lw,a,_,_,Y,Y,Xs,Tf,c_,?_];refine#[2*j+2,by omega,_,_,_,seen,kvs,_,#[Y,aj.at (aj.at s3 hlo) fw,ai,by rw[ay n2,ai],by rw[ay n3,ay (Ne.symm n1)];exact GQ,hS,hb,hsl],.inr (.inr #[j,u,Y,hu,MV,?_,Y])];rw[←ho,qat];rfl
 ·rintro σ H2 ⟨v5,kvs,seen,rfl,s2,ho2,hd2,hS,hsl⟩;refine#[_,Y,d,kvs,Y,hd2,_,Y,_,_,Y,Y,_,Y,BE (λz=>?_) ?_]
  ·have z':((kvs.length:Nat):Int)<((n+1:Nat):Int):=z;rw[hS.1]at z';omega
  ·exact#[_,Y,.inl #[Y,_,bq.of ho2],lo,_,Y,Y,ho2,_,Y,k lo _ (aj.at s2 hlo) hlo ai]
theorem rT(T:Gs P w K mg p base 0):T.gO.Ok:=by
 refine T.gO.dP ["many","tree","number"] λH vs Q E hr h nD=>?_;obtain⟨n,rfl,hn,k⟩:=h;intro X;refine#[_,(ak (Z9X 1 nD aq)
   (ak (bK L_ rfl (rN rfl T.dH (aa aq (aa (pv 0) ah))) (Z9Y 2 nD) (ao (Z9X 1 nD (ck (aa (pv 1) (aa (pv 2) ah))))))
   (ao (aE (pv 1))))),?_]
 refine#[_,Y,_,_,Y,#[by decide,by decide,by omega,by omega],?_];refine c9 (lo:=1) (n:=(((n+1:Nat):Int)-1).toNat) (λi σ H2=>bU λu v2=>σ=[some (.int ((n+1:Nat):Int)),some u,v2]/\aj H H2/\q9 H2 i u) #[_,_,Y,aj.refl _,Y] ?_ ?_
 ·rintro i σ H2 hi ⟨u,v2,rfl,s2,hu⟩;refine#[_,Y,_,Y,c_,λq hq=>#[_,_,Y,s2.trans (aj.upd hq),q,u,Y,?_,hu.same (aj.upd hq)]];rw[ai,show(1:Int)+(i:Int)=((i+1:Nat):Int) by omega]
 ·rintro σ H2 ⟨u,v2,rfl,s2,hu⟩;rw[show(((n+1:Nat):Int)-1).toNat=n by omega]at hu;exact#[_,Y,k u H2 s2 hu]
theorem Dn(T:Gs P w K mg p base 9):T.gZ.Ok:=by
 refine T.gZ.Lk ["prices","rows","tree","laid","number","right","left","numbers","block"] λH vs Q E hr h nD=>?_;obtain⟨x,T1,v,tv,rs,n,mx,rfl,hP,hR,hn,Ti,hm,XI,Zv,hT,k1,k3⟩:=h;intro X;refine#[_,(ak (bD (oX (T.fE.g (by decide)) (hr.mono (by decide)) Y T.fE.m T.fE.d.fn.kp T.fE.d.b .nil (Lets.passes kN) (aa (pv 0) (aa (pv 1) ah))))
   (aX (Z9X 3 nD (dY ah))
   (aX (bK jB rfl (cQ (aD T.jH hr (aa (pv 2) (aa (av (aK) rfl T.bB aZ (aa (pv 1) ah)) ah)))) (Z9Y 4 nD) (ao (bC (aM Dj (pv 4) k9 (by with_unfolding_all rfl)) (ak (Z9X 5 nD (p7 zab zbj zbk Dy (pv 3)))
   (ak (Z9X 6 nD (p7 zab zbj zbk Dy (pv 3)))
   (ao (bD (cW zab zag zah cK (pv 3) (aa (aD T.i6 hr (aa (pv 0) (aa (pv 6) (aa (pv 5) ah)))) ah)))))) (ao (bD (cW zab zag zah cK (pv 3) (aa (ck (aa (dY (aa (pv 4) ah)) (aa (aD T.qX hr (aa (aR sE (pv 1) (pv 4) (λ_ _=>rfl)) ah)) ah))) ah)))))))
   (aX (Z9X 7 nD (aR bG (aR bu (pv 3) aq (λ_ _=>rfl)) aq (λ_ _=>rfl)))
   (aX (Z9X 8 nD (aR bG (aR bu (pv 3) aq (λ_ _=>rfl)) aq (λ_ _=>rfl)))
   (ao (aE (lg T.jD hr T.ko (aa (cI (N:=["number","row"]) rfl D0 (cQ (De rfl rfl T.Au rfl T.As (aa (pv 7) (aa (aT (pv 8) rfl) ah)))) (λ_ _ _ _ _ _ _=>(Ew (K':=K) (n:=2) rfl rfl (bQ (pM ["number","row"] 0) (bQ (pM ["number","row"] 1) gK)))) (λ_ _ _ _ _ _ _=>(pv 1))) ah))))))))),?_]
 refine#[_,Y,_,Y,x,_,_,_,_,v,rs,Y,hP,hR,#[gc (show rs.length<=8 by omega) (by decide),λr hr=>gc (hm r hr) (gc XI (by decide))],λhk H1 s1=>?_,k3];have hsg:=hP.sig;have hrr:∀r∈rs,Of T1.1 r/\r.cps.size<=mx:=λr hr=>#[hk r hr,hm r hr];refine#[λσ H'=>∃la,σ=[some (.ref x),some v,some tv,some (.ref la),none,none,none,none,none]/\aj H H'/\H la=none/\H' la=some (.lst []),#[a_,λla hla=>#[la,Y,s1.trans (aj.upd hla),aj.free s1 hla,ai]],?_];rintro σ H2 ⟨la,rfl,s2,fla,e2⟩;have OJ:(vV n).reverse.length=2*n+1:=by rw[qbX,t7]
 refine#[λσ H'=>tW λv4 v5 v6 p0 R=>σ=[some (.ref x),some v,some tv,some (.ref la),v4,v5,v6,none,none]/\aj H H'/\H' la=some (.lst [.ref p0])/\nH K p.bF H' p0 R (gy n)/\oN T1 rs n R,?_,?_]
 ·refine#[_,Y,_,Y,v,rs.length,Y,(hR.same s2).len,tv,n,by rw[hn];rfl,hT.same s2,by omega,λlo H3 s3 Yb hlo=>?_];refine#[lo,Y,#[_,bq.of hlo],?_];have nlo:lo≠la:=λz=>by rw[z,e2]at Yb;cases Yb
  refine kI (xs:=(vV n).reverse) (λi σ H4=>mZ λv4 v5 v6 ps=>σ=[some (.ref x),some v,some tv,some (.ref la),v4,v5,v6,none,none]/\aj H H4/\H4 la=some (.lst ps)/\Wo la H4 lo=some (.lst (vV n).reverse)/\TU K p.bF T1 rs (Wo la H4) i ps)
   #[_,_,_,[],rfl,s2.trans s3,s3 _ _ e2,Wo.in nlo hlo,.inl #[rfl,rfl]] (λi σ H4 hi ⟨_,_,_,_,_,_,_,q,_⟩=>bq.of (Wo.sub _ _ q)) ?_ ?_
  ·rintro i y σ H4 hy ⟨v4,v5,v6,ps,rfl,s4,e4,SX,Nx⟩;obtain⟨rf,pl⟩:=Nx.refs;obtain hv:(bU λ(kn:Nat) (r:w_)=>y= .int (kn:Int)/\rs[kn]? =some r/\∀(q:l_) (H7:Hp),aj (Wo la H4) (Wo la H7)->nH K p.bF (Wo la H7) q [r] [(kn:Int)]->TU K p.bF T1 rs (Wo la H7) (i+1) (ps++[.ref q])) ∨
     tW λj p1 R1 p2 r=>y= .dX/\i=2*j+2/\j<n/\ps=[.ref p1,.ref p2]/\nH K p.bF (Wo la H4) p1 R1 (gy j)/\oN T1 rs j R1/\rs[j+1]? =some r/\nH K p.bF (Wo la H4) p2 [r] [((j+1:Nat):Int)]:=by
    rcases EB hy with⟨h1,h2⟩|⟨j,h1,h2,h3⟩|⟨j,h1,h2,h3⟩
    ·rcases Nx with⟨_,rfl⟩|⟨_,_,_,z,_⟩|⟨_,_,_,_,_,z,_⟩
     ·have hr0:=d_ (show 0<rs.length by omega);exact .inl #[0,_,h2,hr0,λq H7 s7 PU=>.inr (.inl #[0,q,_,by omega,Y,PU,.one hr0])]
     ·omega
     ·omega
    ·rcases Nx with⟨z,_⟩|⟨j',p1,R1,z,rfl,PF,PD⟩|⟨_,_,_,_,_,z,_⟩
     ·omega
     ·obtain rfl:j'=j:=by omega
      have hr0:=d_ (show j'+1<rs.length by omega);exact .inl #[j'+1,_,h3,hr0,λq H7 s7 PU=>.inr (.inr #[j',p1,R1,q,_,by omega,Y,PF.same s7,PD,hr0,PU])]
     ·omega
    ·rcases Nx with⟨z,_⟩|⟨_,_,_,z,_⟩|⟨j',p1,R1,p2,r,z,rfl,PF,PD,hr2,S0⟩
     ·omega
     ·omega
     ·obtain rfl:j'=j:=by omega
      exact .inr #[j',p1,R1,p2,r,h3,h1,h2,Y,PF,PD,hr2,S0]
   rcases hv with⟨kn,r,rfl,XM,YU⟩|⟨j,p1,R1,p2,r,rfl,rfl,hjn,rfl,PF,PD,hr2,S0⟩
   ·have hrm:=h_ XM;refine#[_,Y,Y,_,Y,eX ?_];refine#[_,Y,.inl #[Y,_,bq.of e4],_,Y,b_,λl hl=>?_];have s5:=aj.upd (o:=.lst [.int (kn:Int)]) hl;have l5:upd H4 l (.lst [.int (kn:Int)]) l=some (.lst ([(kn:Int)].map V.int)):=ai;generalize upd H4 l (.lst [.int (kn:Int)])=H5 at s5 l5 ⊢;have one:=yU hsg (hk r hrm) (hm r hrm);refine#[_,Y,_,Y,(hR.same (s4.trans s5)).ix XM #[r,Y,gc (hm r hrm) (gc XI (by decide)),one.bk,λb H6 s6 nb hB=>#[c_,λq hq=>?_]]];have s7:=aj.upd (o:=.tup [.ref l,.ref b]) hq;have q7:upd H6 q (.tup [.ref l,.ref b]) q=some (.tup [.ref l,.ref b]):=ai;generalize upd H6 q (.tup [.ref l,.ref b])=H7 at s7 q7 ⊢;have SM:=s5.trans (s6.trans s7);have e7:=SM _ _ e4;refine#[la,ps,.ref q,Y,Y,e7,o_ pl (by decide),_,_,_,ps++[.ref q],Y,aj.at (s4.trans SM) fla,ai,by rw[Wo.set];exact Wo.same SM _ _ SX,?_];have kq:=YU q H7 (Wo.same SM) (nH.wo e7 rf (qcD _ _) #[l,b,q7,(s6.trans s7) _ _ l5,hB.same s7]);rw[Wo.set];exact kq
   ·refine#[_,Y,Y,_,Y,gU ?_];have e4:H4 la=some (.lst (([]++[.ref p1])++[.ref p2])):=e4;refine#[_,Y,.inl #[Y,_,bq.of e4],la,_,.ref p2,Y,Y,e4,by simp,?_];rw[List.dropLast_concat];refine#[_,Y,.inl #[Y,_,bq.of ai],la,_,.ref p1,Y,Y,ai,by simp,?_];rw[List.dropLast_concat];have s6:aj H (upd (upd H4 la (.lst ([]++[.ref p1]))) la (.lst [])):=aj.at (aj.at s4 fla) fla;have e6:upd (upd H4 la (.lst ([]++[.ref p1]))) la (.lst []) la=some (.lst []):=ai;have w6:Wo la (upd (upd H4 la (.lst ([]++[.ref p1]))) la (.lst []))=Wo la H4:=by rw[Wo.set,Wo.set]
    generalize upd (upd H4 la (.lst ([]++[.ref p1]))) la (.lst [])=H6 at s6 e6 w6 ⊢;rw[←w6]at PF S0 SX;obtain⟨b1,_⟩:=PD.ok hsg hrr;have hrm:=h_ hr2;have hmj:mx*(j+1)+mx<=40:=gc (by rw[←Nat.mul_succ];exact Nat.mul_le_mul_left mx (show j+2<=n+1 by omega)) Zv;have hnl:(gy j).length=j+1:=by unfold gy;rw[e_,X_]
    refine#[_,Y,.inl #[Y,_,bq.of e6],_,Y,_,Y,_,Y,x,p1,p2,T1,R1,[r],gy j,_,_,_,_,_,Y,hP.same s6,PF.same Wo.sub,S0.same Wo.sub,b1,yU hsg (hk r hrm) (hm r hrm),by omega,by omega,by rw[hnl];show j+1+1<=100;omega,λq R H7 s7 hj PU=>?_];have e7:=s7 _ _ e6;rw[←Bt]at PU;refine#[la,[],.ref q,Y,Y,e7,by decide,_,_,_,[.ref q],Y,aj.at (s6.trans s7) fla,ai,by rw[Wo.set];exact Wo.same s7 _ _ SX,.inr (.inl #[j+1,q,R,by omega,Y,?_,.more PD hr2 hj])];rw[Wo.set]
    exact nH.wo e7 (λu hu=>nomatch hu) (Ln _) PU
  ·rintro σ H4 ⟨v4,v5,v6,ps,rfl,s4,e4,SX,Nx⟩;rw[OJ]at Nx;rcases Nx with⟨z,_⟩|⟨j,p0,R,hj,rfl,ld,ly⟩|⟨j,_,_,_,_,hj,_⟩
   ·omega
   ·obtain rfl:j=n:=by omega
    exact#[_,_,_,p0,R,Y,s4,e4,ld.same Wo.sub,ly]
   ·omega
 rintro σ H3 ⟨v4,v5,v6,p0,R,rfl,s3,e3,⟨ln,b,hp0,MP,hB⟩,ly⟩;refine#[λσ H'=>σ=[some (.ref x),some v,some tv,some (.ref la),v4,v5,v6,some (.ref ln),none]/\H3=H',#[_,Y,la,_,_,_,Y,Y,bq.of e3,Y,p0,_,_,_,Y,Y,bV.of hp0,Y,Y,Y],?_];rintro σ _ ⟨rfl,rfl⟩;refine#[λσ H'=>σ=[some (.ref x),some v,some tv,some (.ref la),v4,v5,v6,some (.ref ln),some (.ref b)]/\H3=H',#[_,Y,la,_,_,_,Y,Y,bq.of e3,Y,p0,_,_,_,Y,Y,bV.of hp0,Y,Y,Y],?_];rintro σ _ ⟨rfl,rfl⟩;obtain⟨dx,qb,hb,hq⟩:=hB;obtain⟨LO,_⟩:=ly.ok hsg hrr;have MZ:=LO.len;have hNl:(gy n).length=n+1:=by unfold gy;rw[e_,X_]
 refine#[_,Y,_,Y,b,_,_,_,_,Y,hb,T.bH,T.aS,bY,?_];refine#[.lst ln,.tup qb,gy n,R,Y,bq.of MP,hq,by omega,by omega,F3 n,λl H4 ps key sF s4 e4 PN mk=>?_];have pl:ps.length=n+1:=by
  have:=congrArg qaR mk;rw[e_,List.length_zip]at this;omega
 have eR:(ps.map key).map (·.2)=R:=by rw[mk];exact List.map_snd_zip (by omega)
 refine#[l,Y,#[_,bq.of e4],λl2 hl2=>?_];refine eL ps.length (λi=>V.str (key (ps.getD i 0)).2) hl2 (o_ (show ps.length<=8 by omega) (by decide)) (λi H5 s5 hi=>?_) (λH5 s5=>?_) (λi y H5 H6 R' s5 hi hy Tt=>?_) λH5 s5 MR=>?_
 ·exact#[_,_,bq.of (s5 _ _ e4),by rw[j_,d_ hi];rfl]
 ·exact#[_,bq.of (s5 _ _ e4),by rw[e_];exact i_ _]
 ·obtain⟨rfl,hy⟩:=hy;have e:=hy _ (bq.of (s5 _ _ e4));rw[j_,d_ hi]at e;cases e;have e3:ps.getD i 0=ps[i]:=by rw[M_,d_ hi,qaZ]
  have hm:=PN _ (D_ hi);refine#[_,_,Y,bV.of (s5 _ _ hm),Y,?_];rw[e3]at Tt;exact#[_,_,Y,_,_,Y,Y,Kp.rep _ _,_,Y,Tt _ (aj.refl _)]
 ·rw[bM ps λa=>V.str (key a).2,show ps.map (λa=>V.str (key a).2)=R.map V.str by rw[←eR,U_,U_];rfl]at MR;exact xQ #[l2,Y,.inl (bq.of MR)] #[by omega,λr hr=>gc (LO.w r hr) (by omega)] LO.bk λo H7 s6 ho ZY=>k1 hk o R H7 ((s3.trans (aj.trans s4 s5)).trans s6) ly ZY
theorem qG(T:Gs P w K mg p base 0):T.eN.Ok:=by
 refine T.eN.dP ["number","parts","limit"] λH vs Q E hr h nD=>?_;obtain⟨n,rfl,h0,h1,k⟩:=h;obtain⟨N,rfl,_⟩:=uL h0;have oZ:N<10 ^ 120:=by simpa using h1
 have hd:N / 10 ^ 60<10 ^ 60:=Nat.div_lt_of_lt_mul (by rw[←Nat.pow_add];exact oZ);have hm:=Nat.mod_lt N (show 0<10 ^ 60 by decide);have big:((10 ^ 60:Nat):Int)=(10:Int) ^ 60:=by decide +kernel
 have e1:(N:Int) % 10 ^ 60=((N % 10 ^ 60:Nat):Int):=by rw[←big];rfl
 have e2:(N:Int) / 10 ^ 60=((N / 10 ^ 60:Nat):Int):=by rw[←big];rfl
 have lz:(Txt.zfill (sI ((N % 10 ^ 60:Nat):Int)) 60).cps.size<=1000/\(10 ^ 60<=N->sI ((N / 10 ^ 60:Nat):Int)++Txt.zfill (sI ((N % 10 ^ 60:Nat):Int)) 60=sI (N:Int)):=by
  refine#[?_,λhN=>?_]
  ·have e:=congrArg (λx:w_=>x.cps.size) (HS (n:=1) (by decide) hm);have l:=(pZ (m:=10 ^ 60*1+N % 10 ^ 60) (k:=61) (by decide) (by omega)).2;rw[cG]at e;have e':(sI ((10 ^ 60*1+N % 10 ^ 60:Nat):Int)).cps.size=(sI ((1:Nat):Int)).cps.size+(Txt.zfill (sI ((N % 10 ^ 60:Nat):Int)) 60).cps.size:=e;omega
  ·rw[←HS (Nat.div_pos hN (by decide)) hm,Nat.div_add_mod]
 generalize Y6:Txt.zfill (sI ((N % 10 ^ 60:Nat):Int)) 60=zf at lz;intro X;refine#[_,(ak (Z9X 1 nD (dY ah))
   (ak (Z9X 2 nD (aI Dg aq aq))
   (ak (nU L_ (aM ME (pv 0) (pv 2) (aW _)) (ak (bD (cW zab zag zah cK (pv 1) (aa (cW zae PySem.F.slot_str_zfill PySem.F.type_str_zfill Iq (cR (iu) rfl T.ug sN (aa (aI cT (pv 0) (pv 2)) ah)) (aa aq ah)) ah)))
   (ao (Z9X 0 nD (aI uV (pv 0) (pv 2))))))
   (ak (bD (cW zab zag zah cK (pv 1) (aa (cR (iu) rfl T.ug sN (aa (pv 0) ah)) ah)))
   (ak (bD (p7 zab za7 za8 mQ (pv 1)))
   (ao (aE (cW zae zal zam (lS rfl) bE (aa (pv 1) ah))))))))),?_]
 refine#[a_,λl hl=>?_];refine#[_,_,Y,Y,#[by decide,by decide,by decide],?_];refine#[λm σ H'=>aj H H'/\bU λ(v:Nat) (ys:List V)=>σ=[some (.int (v:Int)),some (.ref l),some (.int (10 ^ 60))]/\H' l=some (.lst ys)/\(m=1/\v=N/\ys=[]\/m=0/\10 ^ 60<=N/\v=N / 10 ^ 60/\ys=[.str zf]),#[1,aj.upd hl,N,[],Y,ai,.inl #[Y,Y,Y]],?_];rintro m σ H' ⟨s1,v,ys,rfl,hl1,hc⟩;refine#[_,Y,_,Y,_,_,Y,Y,_,Y,?_];refine cS (λz=>?_) λz=>?_
 ·have z':10 ^ 60<=v:=by
   have z2:(10:Int) ^ 60<=(v:Int):=z;rw[←big]at z2
   exact_mod_cast z2
  rcases hc with⟨rfl,rfl,rfl⟩|⟨_,_,rfl,_⟩
  ·refine#[λσ' GH=>aj H GH/\σ'=[some (.int ((v / 10 ^ 60:Nat):Int)),some (.ref l),some (.int (10 ^ 60))]/\GH l=some (.lst [.str zf]),?_,?_]
   ·rintro σ' GH ⟨s2,rfl,h2⟩;exact#[0,by decide,s2,_,_,Y,h2,.inr #[Y,z',Y,Y]]
   ·refine#[_,Y,.inl #[Y,_,bq.of hl1],_,Y,_,Y,_,_,Y,Y,(by show(0:Int)<10 ^ 60;decide +kernel),_,Y,?_,Y,_,Y,Y,l,_,_,Y,Y,hl1,by decide,?_]
    ·rw[e1];exact yJ (k:=60) (by decide) hm
    refine#[_,Y,_,Y,_,_,Y,Y,#[by show(0:Int)<10 ^ 60;decide +kernel,Bg.of (k:=61) (by decide) (by decide +kernel)],aj.at s1 hl,?_,?_]
    ·rw[←e2];rfl
    ·have e:Txt.zfill (p_ (toString ((v:Int) % 10 ^ 60))) 60=zf:=by rw[e1];exact Y6
     show upd H' l (.lst [.str (Txt.zfill (p_ (toString ((v:Int) % 10 ^ 60))) 60)]) l=_;rw[e];exact ai
  ·omega
 ·have z':v<10 ^ 60:=by
   have z2:¬(10:Int) ^ 60<=(v:Int):=z;rw[←big]at z2;exact Nat.lt_of_not_le λq=>z2 (by exact_mod_cast q)
  refine#[_,Y,.inl #[Y,_,bq.of hl1],_,Y,(v:Int),Y,yJ (k:=60) (by decide) z',l,_,_,Y,Y,hl1,?_,?_]
  ·rcases hc with⟨_,_,rfl⟩|⟨_,_,_,rfl⟩
   ·decide
   ·show 1<A_;decide
  refine#[_,Y,.inl #[Y,_,bq.of ai],l,_,Y,Y,ai,?_];have l2:=(pZ (by decide) z').2;rcases hc with⟨_,rfl,rfl⟩|⟨_,hN,rfl,rfl⟩
  ·exact#[Y,_,Y,_,l,[sI (v:Int)],Y,Y,.inl (bq.of ai),by decide,λq hq=>by rw[u_.mp hq];exact gc l2 (by decide),by show 1<=2000;decide,k _ (aj.at (aj.at s1 hl) hl)]
  ·refine#[Y,_,Y,_,l,[sI ((N / 10 ^ 60:Nat):Int),zf],Y,Y,.inl (bq.of ai),by decide,λq hq=>?_,by show 2<=2000;decide,?_]
   ·rcases B_.mp hq with rfl|hq
    ·exact gc l2 (by decide)
    ·rw[u_.mp hq];exact gc lz.1 (by decide)
   ·have e:qbx ⟨#[]⟩ [sI ((N / 10 ^ 60:Nat):Int),zf]=sI (N:Int):=by
     rw[←lz.2 hN];rfl
    show Q (.str (qbx ⟨#[]⟩ [sI ((N / 10 ^ 60:Nat):Int),zf])) _;rw[e];exact k _ (aj.at (aj.at s1 hl) hl)
theorem pB(T:Gs P w K mg p base 3):T.dF.Ok:=by
 refine T.dF.dP ["fraction","told","ahead","behind"] λH vs Q E hr h nD=>?_;obtain⟨p,f,rfl,hf,ho,k⟩:=h;obtain⟨l1,l2,l3⟩:=uJ (by decide) ho;have c3:=ho.pos;have elo:=ho.low;intro X;refine#[_,(ak (Z9X 1 nD (aD T.oK hr (aa (pv 0) ah)))
   (ak (Z9X 2 nD (ia (aM nX (aR bG (pv 1) aq (λ_ _=>rfl)) aq (aW _)) (bS (v:=.str (p_ "-")) rfl T.kH #[_,rfl]) bE))
   (ak (Z9X 3 nD (ia (aM pN (aR bG (pv 1) aq (λ_ _=>rfl)) aq (aW _)) (aI bW (bS (v:=.str (p_ "/")) rfl T.DP #[_,rfl]) (aD T.eN hr (aa (aR bG (pv 1) aq (λ_ _=>rfl)) ah))) bE))
   (ao (aE (aI bW (aI bW (pv 2) (aD T.eN hr (aa (av (B8) rfl T.z_abs JA (aa (aR bG (pv 1) aq (λ_ _=>rfl)) ah)) ah))) (pv 3))))))),?_]
 refine#[_,Y,p,f,Y,hf,by omega,Bg.of (k:=120) (by decide) ho.JO,λq hq=>?_];rw[elo];generalize X5:upd H q (.tup [.int f.1,.int f.2])=H1;have s1:aj H H1:=by rw[←X5];exact aj.upd hq
 have h1:bV K H1 q [.int f.1,.int f.2]:=by rw[←X5];exact bV.of ai
 have ea:(if f.1<0 then -f.1 else f.1)=(f.1.natAbs:Int):=by split<;>omega
 refine#[_,Y,_,_,_,_,Y,Y,h1,Y,_,_,Y,Y,_,Y,YZ ?_]
 have eh:(if(decide (f.1<0))=true then V.str (p_ "-")else V.str (p_ ""))=V.str (if f.1<0 then(⟨#[45]⟩:w_)else⟨#[]⟩):=by
  by_cases z:f.1<0
  ·rw[if_pos z,if_pos (decide_eq_true z)];rfl
  ·rw[if_neg z,if_neg (by rw[decide_eq_false z];exact K_)];rfl
 rw[eh];have lh:(qz f).length<=121:=(pY (by decide) ho).1;refine#[_,Y,_,_,_,_,Y,Y,h1,Y,_,_,Y,Y,_,Y,?_];refine cS (λhb=>?_) λhb=>?_
 ·refine#[_,Y,_,_,_,_,Y,Y,h1,Y,_,Y,by omega,ho.JO,λH2 s2=>?_];refine#[_,_,Y,Y,by show 1+_<=A_;exact gc (qcH l3 1) (by decide),?_];have h2:=aj.tup s2 h1;refine#[_,Y,_,Y,_,_,_,_,Y,Y,h2,Y,_,Y,?_];rw[ea];refine#[_,Y,by omega,ho.HP,λH3 s3=>?_];refine#[_,_,Y,Y,gc (qbE l1 l2) (by decide),_,Y,_,_,Y,Y,?_,?_]
  ·exact gc (qbE lh (show _<=121 by show((⟨#[47]⟩:w_)++sI f.2).cps.size<=121;rw[cG];exact qcH l3 1)) (by decide)
  ·have e:=k H3 ((s1.trans s2).trans s3);unfold sW Ke at e;rw[if_pos hb]at e;exact e
 ·refine#[_,Y,_,Y,_,_,_,_,Y,Y,h1,Y,_,Y,?_];rw[ea];refine#[_,Y,by omega,ho.HP,λH3 s3=>?_];refine#[_,_,Y,Y,gc (qbE l1 l2) (by decide),_,Y,_,_,Y,Y,gc (qaM lh 0) (by decide),?_];have e:=k H3 (s1.trans s3);unfold sW Ke at e;rw[if_neg hb]at e;exact e
theorem wB(T:Gs P w K mg p base 0):T.fB.Ok:=by
 refine T.fB.dP S3 λH vs Q E hr h nD=>?_;obtain⟨p,f,rfl,hf,ho,k⟩:=h;have c3:=ho.pos;have l1:(sI f.1).length<=121:=by
  have z:=(pY (by decide) ho).1;unfold qz at z;rw[←uK]at z;exact z
 have g1:=yJ (by decide) ho.HP;intro X;refine#[_,(ak (bC (aM dO (aR bG (pv 0) aq (λ_ _=>rfl)) aq (aW _)) (ao (aE (cR (iu) Y T.ug sN (aa (aR bG (pv 0) aq (λ_ _=>rfl)) ah)))) aP)
   (ao (aE (aI bW (aI bW (cR (iu) rfl T.ug sN (aa (aR bG (pv 0) aq (λ_ _=>rfl)) ah)) bE) (cR (iu) rfl T.ug sN (aa (aR bG (pv 0) aq (λ_ _=>rfl)) ah)))))),?_]
 refine#[_,Y,_,_,_,_,Y,Y,hf,Y,Y,_,Y,mS (λz=>?_) λz=>?_]
 ·refine#[_,Y,_,_,_,_,Y,Y,hf,Y,_,Y,g1,?_];have e:=NT z;unfold sI at e;rw[e];exact k
 ·refine#[_,Y,_,_,_,_,Y,Y,hf,Y,_,Y,g1,_,_,Y,Y,gc (qaM l1 1) (by decide),_,Y,_,_,_,_,Y,Y,hf,Y,_,Y,yJ (by decide) ho.JO,_,_,Y,Y,?_,?_]
  ·refine gc (qbE (show _<=122 from ?_) (uJ (by decide) ho).2.2) (by decide);show(sI f.1++(⟨#[47]⟩:w_)).cps.size<=122;rw[cG];exact qaM l1 1
  ·have e:=K3 c3 z;unfold sI at e;show Q (.str ((p_ (toString f.1)++(⟨#[47]⟩:w_))++p_ (toString f.2))) H;rw[e];exact k
theorem wD(T:Gs P w K mg p base 0):T.jM.Ok:=by
 refine T.jM.dP l6 λH vs Q E hr h nD=>?_;obtain⟨m,rfl,hm,k⟩:=h;obtain⟨l1,l2⟩:=pZ (by decide) hm;have hd:=uM m;generalize sI (m:Int)=x at l1 l2 hd ⊢;intro X
 refine#[_,(ao (aE (uT (Be uU uU aq (av (aK) Y T.bB aZ (aa (pv 0) ah)) (bS (v:=.int 60) Y T.oE #[_,Y])) (rO (av (kQ Y) Y T.Aw Ad (aa (cI (N:=["sign"]) Y D0 (j9 (pv 0)) (λ_ _ _ _ _ _ _=>(pM ["sign"] 0)) (λ_ _ _ _ _ _ _=>(iT FW (pv 0) (bS (v:=.str (p_ "0123456789")) Y T.xZ #[_,Y]) (by with_unfolding_all rfl)))) ah)))))),?_]
 refine#[_,Y,_,_,Y,#[gc l2 (by decide),Y],_,_,Y,Y,_,Y,S6 (by show(1:Int)<=((x.cps.size:Nat):Int);omega) ?_];refine#[_,_,Y,Y,_,Y,S6 (by show((x.cps.size:Nat):Int)<=60;omega) ?_];refine#[_,Y,x,Y,λl hl=>?_];refine eL x.cps.size (λ_=>.bl true) hl (o_ l2 (by decide)) (λi H2 s2 hi=>hi) (λH2 s2=>i_ _) (λi y H2 H3 R s2 hi hy hR=>?_) λH2 s2 hl2=>?_
 ·obtain⟨rfl,c,ec,rfl⟩:=hy;refine#[Kp.rep _ _,?_];refine#[_,Y,_,_,Y,Y,?_];rw[StrLaws.found_one,R3];obtain⟨d1,d2⟩:=hd c (h_ (by rw[P_];exact ec));unfold Wi;rw[decide_eq_true d1,decide_eq_true d2];exact hR _ (aj.refl _)
 ·refine#[l,G_ x.cps.size true,Y,bq.of ?_,?_]
  ·rw[hl2];congr 2;rw[List.map_const',X_,List.map_replicate]
  ·rw[show(G_ x.cps.size true).all id=true from x_.mpr λb hb=>(List.mem_replicate.mp hb).2];exact k H2 s2
theorem rV(T:Gs P w K mg p base 4):T.gP.Ok:=by
 refine T.gP.dP ["text","parts","below","over","under","fraction"] λH vs Q E hr h nD=>?_;obtain⟨f,rfl,hf,k⟩:=h;obtain⟨z1,z2⟩:=pY (by decide) hf;have Co:=HQ hf;have hst:=FG f;have c3:=hf.pos;obtain⟨U,eU,_⟩:=uL (n:=f.2) (by omega);have hU:U<10 ^ 60:=by have:=hf.JO;rw[eU]at this;exact this
 have hc:qz f=sI (f.1.natAbs:Int)/\¬f.1<0\/Txt.slice (qz f) (some 1) none=sI (f.1.natAbs:Int)/\f.1<0:=by
  by_cases z:f.1<0
  ·exact .inr #[LN z,z]
  ·exact .inl #[LL z,z]
 obtain⟨i1,i2⟩:=HR hf.HP;obtain⟨j1,j2⟩:=HR hU;rw[←eU]at j1 j2;have hp:Ia f=[]/\f.2=1\/Ia f=[sI f.2]:=by
  unfold Ia;by_cases z:f.2>1
  ·rw[if_pos z];exact .inr Y
  ·rw[if_neg z];exact .inl #[Y,by omega]
 generalize hx:sW f=x at Co hst z2 ⊢;intro X;refine#[_,(ak (Z9X 1 nD (cW zae zax zay lQ (pv 0) (aa (bS (v:=.str (p_ "/")) Y T.DP #[_,Y]) ah)))
   (ak (Z9X 2 nD (cW zae PySem.F.slot_str_startswith PySem.F.type_str_startswith F4 (pv 0) (aa (bS (v:=.str (p_ "-")) rfl T.kH #[_,rfl]) ah)))
   (aX (rM (ia (fh (pv 2)) (eE rK (aR bu (pv 1) aq (λ_ _=>rfl)) (fO aq) gJ) (aR bu (pv 1) aq (λ_ _=>rfl))) (yO (pv 1) aq set_list))
   (aX (bC (PW.pt (A0 (aM pN (av (aK) rfl T.bB aZ (aa (pv 1) ah)) aq (aW _)) (uR (jo (fh (av (kQ rfl) rfl T.Aw Ad (aa (cI (N:=["part"]) rfl D0 (cQ (pv 1)) (λ_ _ _ _ _ _ _=>(pM ["part"] 0)) (λ_ _ _ _ _ _ _=>(aD T.jM hr (aa (pv 0) ah)))) ah))))))) (ao (aE k9)) aP)
   (ak (Z9X 3 nD (cR (yg) rfl T.Av Ac (aa (aR bu (pv 1) aq (λ_ _=>rfl)) ah)))
   (aX (Z9X 4 nD (ia (aM dO (av (aK) rfl T.bB aZ (aa (pv 1) ah)) aq (aW _)) (cR (yg) rfl T.Av Ac (aa (aR bu (pv 1) aq (λ_ _=>rfl)) ah)) aq))
   (ak (bC (aM nX (pv 4) aq (aW _)) (ao (aE k9)) aP)
   (aX (Z9X 5 nD (ck (aa (ia (fh (pv 2)) (xO rq (pv 3)) (pv 3)) (aa (pv 4) ah))))
   (ao (aE (ia (aM dO (aD T.dF hr (aa (pv 5) ah)) (pv 0) (aW _)) (pv 5) k9))))))))))),?_]
 refine#[_,Y,Y,x,47,Y,Y,gc z2 (by decide),λl hl=>?_];rw[Co];refine#[_,Y,Y,x,⟨#[45]⟩,Y,Y,?_];rw[hst];refine#[λσ H'=>σ=[some (.str x),some (.ref l),some (.bl (decide (f.1<0))),none,none,none]/\aj H H'/\H' l=some (.lst ((sI (f.1.natAbs:Int)::Ia f).map V.str)),?_,?_]
 ·refine#[_,Y,_,Y,?_];have h0:upd H l (.lst ((qz f::Ia f).map V.str)) l=some (.lst ((qz f::Ia f).map V.str)):=ai;have ix:∀n:Nat,EH (n+1) 0=some 0:=λn=>by unfold EH;rw[if_pos (by omega),if_pos (by omega)];rfl
  rcases hc with⟨hc,z⟩|⟨hc,z⟩
  ·rw[decide_eq_false z];refine eX #[_,Y,l,_,_,.str (qz f),Y,Y,bq.of h0,bx (j:=0) Y,_,Y,l,_,0,0,Y,Y,h0,ix _,Y,aj.at (aj.upd hl) hl,?_];rw[hc];exact ai
  ·rw[decide_eq_true z];refine gU #[_,Y,l,_,_,.str (qz f),Y,Y,bq.of h0,bx (j:=0) Y,1,Y,qz f,Y,gc z1 (by decide),_,Y,l,_,0,0,Y,Y,h0,ix _,Y,aj.at (aj.upd hl) hl,?_];show upd (upd H l (.lst ((qz f::Ia f).map V.str))) l (.lst (.str (Txt.slice (qz f) (some 1) none)::(Ia f).map V.str)) l=_;rw[hc];exact ai
 rintro σ H1 ⟨rfl,s1,hl1⟩;generalize Al:sI (f.1.natAbs:Int)::Ia f=qs at hl1;have hq:∀r∈qs,∃m:Nat,r=sI (m:Int)/\m<10 ^ 60:=λr hr=>by
  rw[←Al]at hr;rcases B_.mp hr with rfl|hr
  ·exact#[_,Y,hf.HP]
  ·rcases hp with⟨e,_⟩|e
   ·rw[e]at hr;cases hr
   ·rw[e]at hr;rw[u_.mp hr,eU];exact#[_,Y,hU]
 have EL:qs.length<=2:=by
  rw[←Al];rcases hp with⟨e,_⟩|e
  ·rw[e];show 1<=2;decide
  ·rw[e];show 2<=2;decide
 have SY:(qs.map V.str).length=qs.length:=e_ ..;refine#[λσ H'=>σ=[some (.str x),some (.ref l),some (.bl (decide (f.1<0))),none,none,none]/\aj H H'/\H' l=some (.lst (qs.map V.str)),?_,?_]
 ·refine#[_,Y,_,_,Y,.inl #[_,bq.of hl1,Y],_,_,Y,Y,_,Y,BE (by show ¬(2:Int)<(((qs.map V.str).length:Nat):Int);omega) ?_];refine#[_,Y,l,Y,#[_,bq.of hl1],λl2 hl2=>?_];refine eL qs.length (λ_=>.bl true) hl2 (o_ EL (by decide)) (λi H2 s2 hi=>?_) (λH2 s2=>#[_,bq.of (s2 _ _ hl1),by rw[SY];omega]) (λi y H2 H3 R s2 hi hy hR=>?_) λH2 s2 hm=>?_
  ·exact#[_,_,bq.of (s2 _ _ hl1),by rw[j_,d_ hi];rfl]
  ·obtain⟨rfl,hy⟩:=hy;have ey:=hy _ (bq.of (s2 _ _ hl1));rw[j_,d_ hi]at ey;cases ey;obtain⟨m,em,hm⟩:=hq _ (D_ hi);refine#[Kp.rep _ _,_,Y,m,?_,hm,hR];rw[←em];rfl
  refine#[l2,G_ qs.length true,Y,bq.of ?_,_,Y,?_]
  ·rw[hm];congr 2;rw[List.map_const',X_,List.map_replicate]
  rw[show(G_ qs.length true).all id=true from x_.mpr λb hb=>(List.mem_replicate.mp hb).2];exact jw #[Y,s1.trans s2,s2 _ _ hl1]
 rintro σ H2 ⟨rfl,s2,hl2⟩;refine#[_,Y,l,_,_,.str (sI (f.1.natAbs:Int)),Y,Y,bq.of hl2,bx (j:=0) (by rw[←Al];rfl),_,_,Y,i1,i2,?_];refine#[λσ H'=>σ=[some (.str x),some (.ref l),some (.bl (decide (f.1<0))),some (.int (f.1.natAbs:Int)),some (.int f.2),none]/\H'=H2,?_,?_]
 ·refine#[_,Y,_,_,Y,.inl #[_,bq.of hl2,Y],Y,_,Y,?_];rcases hp with⟨e,e1⟩|e
  ·refine mS (λz=>?_) λz=>#[by rw[e1];rfl,Y];have WE:(((qs.map V.str).length:Nat):Int)=2:=z;rw[←Al,e]at WE;cases WE
  ·refine mS (λz=>?_) λz=>absurd (show(((qs.map V.str).length:Nat):Int)=2 by rw[←Al,e];rfl) z;exact#[_,Y,l,_,_,.str (sI f.2),Y,Y,bq.of hl2,bx (j:=1) (by rw[←Al,e];rfl),_,_,Y,by rw[eU];rw[eU]at j1;exact j1,j2,Y,Y]
 rintro σ H' ⟨rfl,rfl⟩;refine#[_,Y,_,_,Y,Y,_,Y,BE (by show ¬f.2<1;omega) ?_];refine#[λσ H3=>∃q,σ=[some (.str x),some (.ref l),some (.bl (decide (f.1<0))),some (.int (f.1.natAbs:Int)),some (.int f.2),some (.ref q)]/\aj H' H3/\H' q=none/\H3 q=some (.tup [.int f.1,.int f.2]),?_,?_]
 ·refine#[_,Y,_,Y,?_];have key:∀(n:Int) (q:l_),n=f.1->upd H' q (.tup [.int n,.int f.2]) q=some (.tup [.int f.1,.int f.2]):=λn q e=>by rw[e];exact ai
  by_cases z:f.1<0
  ·rw[decide_eq_true z];exact gU #[_,Y,_,Y,_,Y,c_,λq hq=>#[q,Y,aj.upd hq,hq,key _ q (by omega)]]
  ·rw[decide_eq_false z];exact eX #[_,Y,_,Y,c_,λq hq=>#[q,Y,aj.upd hq,hq,key _ q (by omega)]]
 rintro σ H3 ⟨q,rfl,s3,hqn,Td⟩;refine#[_,Y,q,f,Y,bV.of Td,hf.mono (by decide),λH4 s4=>?_];rw[hx];refine#[_,Y,Y,_,Y,?_];rw[decide_eq_true rfl];exact gU #[_,Y,k q H4 ((s2.trans s3).trans s4) (aj.free s2 hqn) (s4 _ _ Td)]
theorem wj(T:Gs P w K mg p base 3):T.jI.Ok:=by
 refine T.jI.dP ["row"] λH vs Q E hr h nD=>?_;obtain⟨x,rfl,hx,k⟩:=h;intro X;refine#[_,(ak (Ib I8 (λ_ _ _ LT PO=>(ao (bD (aD T.gG hr (aa (pv 0) ah))))) Ig)
   (ao (aE (pv 0)))),?_]
 exact#[_,Y,x,Y,hx,λH1 s1=>#[_,Y,k H1 s1]]
theorem qI(T:Gs P w K mg p base 6):T.eO.Ok:=by
 refine T.eO.dP ["rows","line","many","fractions"] λH vs Q E hr h nD=>?_;obtain⟨l,rs,i,fs,rfl,hl,hi,hne,h12,hF,hz,k⟩:=h;have SY:(rs.map V.str).length=rs.length:=e_ ..;have hlt:=(m_.mp hi).1;intro X;refine#[_,(ak (bC (aM ME (pv 1) (av (aK) Y T.bB aZ (aa (pv 0) ah)) (aW _)) bO aP)
   (ak (j0 (i:=3) (N:=["part"]) nD rfl (Or.inl rfl) rfl D0 (cQ (cW zae zax zay lQ (aR bu (pv 0) (pv 1) (λ_ _=>rfl)) (aa (bS (v:=.str (p_ " ")) rfl T.x6 #[_,rfl]) ah))) (λ_ _ _ _ _ _ _=>(pM ["part"] 0)) (λ_ _ _ _ _ _ _=>(aD T.gP hr (aa (pv 0) ah))))
   (ak (bC (PW.pt (A0 (aM nj (av (aK) rfl T.bB aZ (aa (pv 3) ah)) (pv 2) (aW _)) (uR (aM (Dk (jh hr)) k9 (pv 3) (by with_unfolding_all rfl))))) bO aP)
   (ao (aE (pv 3)))))),?_]
 refine#[_,Y,_,Y,_,_,Y,.inl #[_,hl,Y],_,_,Y,Y,_,Y,BE (by show ¬(((rs.map V.str).length:Nat):Int)<=(i:Int);omega) ?_];refine#[_,Y,_,Y,l,_,_,.str (jb (fs.map sW)),Y,Y,hl,bx (j:=i) (by rw[j_,hi];rfl),Y,_,32,Y,Y,gc (DJ hF h12) (by decide),λl1 hl1=>?_];rw[ID hne hF];have s1:aj H (upd H l1 (.lst ((fs.map sW).map V.str))):=aj.upd hl1;have h1:upd H l1 (.lst ((fs.map sW).map V.str)) l1=some (.lst ((fs.map sW).map V.str)):=ai;generalize upd H l1 (.lst ((fs.map sW).map V.str))=H1 at s1 h1 ⊢;refine#[l1,Y,#[_,bq.of h1],λl2 hl2=>?_];refine#[λj m ys H2=>m=fs.length-j/\j<=fs.length/\aj H1 H2/\∃ps:List l_,ys=ps.map V.ref/\H2 l2=some (.lst ys)/\Paired (λp f=>H2 p=some (.tup [.int f.1,.int f.2])) ps (fs.take j),#[fs.length,Y,O_ _,aj.upd hl2,[],Y,ai,.nil],?_];rintro j m ys H2 ⟨rfl,hj,s2,ps,rfl,h2,hP⟩;have O1:=bq.of (K:=K) (s2 _ _ h1);have hyl:=Paired.len hP;rw[W_]at hyl;by_cases GO:j<fs.length
 ·have ej:((fs.map sW).map V.str)[j]? =some (.str (sW fs[j])):=by rw[j_,j_,d_ GO];rfl
  refine .inr #[#[_,_,O1,ej],?_];rintro y H3 ⟨rfl,hy⟩;have ey:=hy _ O1;rw[ej]at ey;cases ey;refine#[Kp.rep _ _,_,Y,fs[j],Y,hF _ (D_ GO),λq H5 s5 hq h5=>?_];have O0:=s5 _ _ h2;refine#[O0,o_ (show(ps.map V.ref).length<=3000 by rw[e_];omega) (by decide),fs.length-(j+1),by omega,Y,GO,aj.at (s2.trans s5) hl2,ps++[q],by rw[E_];rfl,ai,?_];rw[take_snoc (d_ GO)];have off:∀(a:l_) (o:List V),H5 a=some (.tup o)->upd H5 l2 (.lst (ps.map V.ref++[.ref q])) a=some (.tup o):=λa o e=>by
   rw[ay λz=>by rw[z,O0]at e;cases e];exact e
  exact GP.Paired.snoc (Paired.jr hP λa b z=>off _ _ (s5 _ _ z)) (off _ _ h5)
 ·have ej:j=fs.length:=by omega
  subst ej;rw[qcC]at hP;refine .inl #[#[_,O1,by rw[e_,e_];exact i_ _],?_];have UB:=s1.trans s2;have Y7:ps.length=fs.length:=Paired.len hP;refine#[_,Y,_,_,Y,.inl #[_,bq.of h2,Y],_,Y,Y,_,Y,ow (λz=>absurd (show(((ps.map V.ref).length:Nat):Int)=((fs.length:Nat):Int) by rw[e_];omega) z) λz=>?_];refine#[_,Y,l2,ps,Y,Y,bq.of h2,λq hq=>?_,_,Y,eX #[_,Y,k l2 ps H2 UB (aj.free s1 hl2) h2 hP]];obtain⟨n,hn⟩:=qco.mp hq;obtain⟨f,_,e⟩:=Paired.at hP hn;exact#[_,bV.of e]
theorem yY(T:Gs P w K mg p base 2):T.kT.Ok:=by
 refine T.kT.dP ["text","rows","line","row"] λH vs Q E hr h nD=>?_;obtain⟨rs,rfl,hT,k⟩:=h;obtain⟨e1,e2⟩:=hT.split;intro X;refine#[_,(ak (Z9X 1 nD (cW zae zax zay lQ (pv 0) (aa (bS (v:=.str (p_ "\n")) Y T.kG #[_,Y]) ah)))
   (ak (bK L_ rfl (oW rfl T.fT (aa (pv 1) ah)) (kc (n:=2) rfl (bQ (Z9Y 2 nD) (bQ (Z9Y 3 nD) gK))) (ao (bC (jo (fh (aD T.g6 hr (aa (pv 3) ah)))) bO aP)))
   (ao (aE (pv 1))))),?_]
 refine#[_,Y,Y,jn rs,10,Y,Y,e2,λl hl=>?_];rw[e1];have s1:aj H (upd H l (.lst (rs.map V.str))):=aj.upd hl;have h1:upd H l (.lst (rs.map V.str)) l=some (.lst (rs.map V.str)):=ai;generalize upd H l (.lst (rs.map V.str))=H1 at s1 h1 ⊢;refine#[_,Y,.lst l,_,Y,bq.of h1,lZ (K:=K) (c:=.lst l) (xs:=rs.map V.str) (λ_ σ H2=>bU λv2 v3=>σ=[some (.str (jn rs)),some (.ref l),v2,v3]/\aj H1 H2) #[_,_,Y,aj.refl _] (λi σ H2 _ ⟨_,_,_,s2⟩=>bq.of (s2 _ _ h1)) ?_ ?_]
 ·rintro i y p1 σ H2 hy hp1 ⟨v2,v3,rfl,s2⟩;obtain⟨r,hr,rfl⟩:=fk hy;have hm:=h_ hr;refine#[p1,_,Y,bV.of ai,Y,_,_,Y,_,_,Y,Y,?_];refine#[_,Y,r,Y,gc (hT.bz r hm) (by decide),λH3 s3=>#[_,Y,?_]];rw[x_.mpr (hT.sg r hm)];exact jw #[_,_,Y,(s2.trans (aj.upd hp1)).trans s3]
 ·rintro σ H2 ⟨v2,v3,rfl,s2⟩;exact#[_,Y,k l H2 (s1.trans s2) hl (s2 _ _ h1)]
theorem uZ(T:Gs P w K mg p base 8):T.iY.Ok:=by
 refine T.iY.dP ["text","rows","signs","pairs","ends"] λH vs Q E hr h nD=>?_;obtain⟨sg,R,fo,fm,rfl,hT,k⟩:=h;obtain⟨e1,e2⟩:=hT.split;have ON:=hT.sm;have MZ:=hT.AL.1;have Zg:(oS sg R fo fm).length=sg.cps.size+2:=by rw[mJ,MZ]
 have Zk:=hT.sig.1;have hzs:sg.length<=A_:=gc ON (by decide);intro X;refine#[_,(ak (az (i:=1) nD Y (Or.inr Y) (cW zae zax zay lQ (pv 0) (aa (bS (v:=.str (p_ "\n")) Y T.kG #[_,Y]) ah)))
   (ak (az (i:=2) nD rfl (Or.inr rfl) (aD T.jI hr (aa (aR bu (pv 1) aq (λ_ _=>rfl)) ah)))
   (ak (j0 (i:=3) (N:=["place","rows","signs"]) nD rfl (Or.inl rfl) rfl (DZ 1 [1,2]) (c8 rfl T.dH (aa (av (mw (K':=K) rfl) rfl T.bB aZ (aa (pv 2) ah)) ah)) (λ_ _ _ _ _ _ _=>(pM ["place","rows","signs"] 0)) (λ_ _ _ _ _ _ _=>(aD T.eO hr (aa (pv 1) (aa (aI bZ (pv 0) aq) (aa (av (mw (K':=K) rfl) rfl T.bB aZ (aa (pv 2) ah)) ah))))))
   (ak (Z9X 4 nD (aD T.eO hr (aa (pv 1) (aa (aI bZ (av (mw (K':=K) rfl) rfl T.bB aZ (aa (pv 2) ah)) aq) (aa aq ah)))))
   (ak (bC (aM pN (av (aK) rfl T.bB aZ (aa (pv 1) ah)) (aI bZ (av (mw (K':=K) rfl) rfl T.bB aZ (aa (pv 2) ah)) aq) (aW _)) bO aP)
   (ao (aE (lg T.oA hr T.sj (aa (pv 2) (aa (pv 3) (aa (aR bu (pv 4) aq (λ_ _=>rfl)) (aa (aR bu (pv 4) aq (λ_ _=>rfl)) ah)))))))))))),?_]
 refine#[_,Y,Y,jn (oS sg R fo fm),10,Y,Y,e2,λl hl=>?_];rw[e1];have s1:aj H (upd H l (.lst ((oS sg R fo fm).map V.str))):=aj.upd hl;have h1:upd H l (.lst ((oS sg R fo fm).map V.str)) l=some (.lst ((oS sg R fo fm).map V.str)):=ai;generalize upd H l (.lst ((oS sg R fo fm).map V.str))=H1 at s1 h1 ⊢;refine#[_,Y,l,_,_,.str sg,Y,Y,bq.of h1,bx (j:=0) Y,sg,Y,hT.sig,λH2 s2=>?_];have UB:=s1.trans s2;have h2:=s2 _ _ h1;refine#[_,Y,_,_,Y,#[hzs,Y],_,Y,by omega,?_,λl2 hl2=>?_]
 ·have z:(sg.length:Int)<=12:=by exact_mod_cast ON
  exact Int.lt_of_le_of_lt z (by decide)
 refine#[λj m ys H3=>m=sg.cps.size-j/\j<=sg.cps.size/\aj H2 H3/\H3 l2=some (.lst ys)/\∃qs:List l_,ys=qs.map V.ref/\l2∉qs/\Paired (xg K H3) qs (R.take j),
  #[sg.cps.size,rfl,O_ _,aj.upd hl2,ai,[],rfl,(by simp),.nil],?_]
 rintro j m ys H3 ⟨rfl,hj,s3,h3,qs,rfl,nq,hP⟩;have My:=UB.trans s3;have hl3:=s3 _ _ h2;by_cases GO:j<sg.cps.size
 ·refine .inr #[GO,?_];rintro y H4 ⟨rfl,rfl⟩;refine#[Kp.mL,?_];have hc:(0+(j:Int))+1=((j+1:Nat):Int):=by omega
  have er:=d_ (show j<R.length by omega);have hm:=h_ er;generalize R[j]=r at er hm;have Wf:=hT.AL.2 r hm;refine#[_,Y,_,Y,_,_,Y,Y,_,Y,_,_,Y,#[hzs,Y],?_];refine#[l,oS sg R fo fm,j+1,r,(by rw[←hc,Wf];rfl),bq.of hl3,Nj er,(λz=>by rw[z]at Wf;exact absurd Wf (by simp;omega)),by omega,λf hf=>(hT.ok r hm f hf).1,by omega,λq ps H5 s5 hq h5 GL=>?_];have O0:=s5 _ _ h3;have QX:q≠l2:=λz=>by rw[z,h3]at hq;cases hq
  refine#[O0,?_,sg.cps.size-(j+1),by omega,Y,GO,aj.at (s3.trans s5) hl2,ai,qs++[q],by rw[E_];rfl,?_,?_]
  ·rw[e_,Paired.len hP,W_];exact o_ (show min j R.length<=12 by omega) (by decide)
  ·intro z;rcases S_.mp z with z|z
   ·exact nq z
   ·exact QX (u_.mp z).symm
  ·have off:∀{q:l_} {r:List bJ} (u:HO),q≠l2->xg K H5 q r->xg K (upd H5 l2 u) q r:=λu ne ⟨ps,g1,g2⟩=>#[ps,by rw[ay ne];exact g1,Paired.jr g2 λa b z=>bV.off O0 z];rw[take_snoc er];refine GP.Paired.snoc ?_ (off _ QX #[ps,h5,Paired.jr GL λa b z=>bV.of z]);have all:∀{as:List l_} {bs:List (List bJ)} (u:HO),l2∉as->Paired (xg K H4) as bs->Paired (xg K (upd H5 l2 u)) as bs:=by
    intro as bs u hn hp
    induction hp with
    |nil=>exact .nil
    |cons a b ih=>exact .cons (off u (λz=>hn (by rw[z];exact r_)) (a.same s5)) (ih λz=>hn (s_ _ z))
   exact all _ nq hP
 ·have ej:j=sg.cps.size:=by omega
  subst ej;rw[Y_ (by omega)]at hP;refine .inl #[i_ _,?_];have hc1:((sg.length:Nat):Int)+1=((R.length+1:Nat):Int):=by show((sg.cps.size:Nat):Int)+1=_;omega
  refine#[_,Y,_,Y,_,_,Y,#[hzs,Y],_,_,Y,Y,?_];refine#[l,oS sg R fo fm,R.length+1,[fo,fm],(by rw[←hc1];rfl),bq.of hl3,JZ,qcD _ _,by show 2<=12;decide,hT.two,by omega,λq ps H5 s5 hq h5 GL=>?_];have Vu:=Paired.len GL;obtain⟨p0,p1,rfl⟩:bU λp0 p1=>ps=[p0,p1]:=by
   match ps,Vu with
   |[a,b],_=>exact#[a,b,Y]
  have NY:=My.trans s5;have l5:=s5 _ _ hl3;have hzt:(((oS sg R fo fm).map V.str).length:Int)=(sg.cps.size:Int)+2:=by rw[e_,Zg];rfl
  refine#[_,Y,_,_,Y,.inl #[_,bq.of l5,Y],_,Y,_,_,Y,#[hzs,Y],_,_,Y,Y,_,_,Y,Y,_,Y,BE (by show ¬(sg.cps.size:Int)+2<(((oS sg R fo fm).map V.str).length:Int);omega) ?_];refine#[_,Y,_,Y,_,Y,q,_,_,.ref p0,Y,Y,bq.of h5,bx (j:=0) Y,_,Y,q,_,_,.ref p1,Y,Y,bq.of h5,bx (j:=1) Y,λo dx ho hdx W7=>?_];have s7:aj H5 (upd (upd H5 dx (.own o)) o (.ins p.aG dx [])):=aj.at (aj.upd hdx) ho;have NW:=s5.trans s7;have f0:H5 p0=some (.tup [.int fo.1,.int fo.2]):=by cases GL with|cons a b=>exact a
  have f1:H5 p1=some (.tup [.int fm.1,.int fm.2]):=by cases GL with|cons a b=>cases b with|cons a b=>exact a
  refine#[o,dx,p0,p1,sg,.lst l2,R,fo,fm,Y,ai,hT.sig,ON,Lu (NW _ _ h3) (Paired.jr hP λa b z=>z.same NW),hT.AL,λr hr f hf=>(hT.ok r hr f hf).1.UL (hT.ok r hr f hf).2,bV.of (s7 _ _ f0),hT.yV.1.UL hT.yV.2,bV.of (s7 _ _ f1),hT.yW.1.UL hT.yW.2,λH8 pr kp nf=>#[Y,?_]];rw[hT.nE,hT.yV.1.low,hT.yW.1.low]at pr;exact k o H8 (λb u hb=>kp b u (s7 _ _ (NY _ _ hb)) λz=>by rw[z,aj.free NY ho]at hb;cases hb) (aj.free NY ho) pr
theorem u9(T:Gs P w K mg p base 1):T.i0.Ok:=by
 refine T.i0.dP ["_law_prices_here","_law_rows","_law_line"] λH vs Q E hr h nD=>?_;obtain⟨x,sg,R,fo,fm,rfl,hP,hT,k⟩:=h;obtain⟨_,_,_,_,_,_,_,dx,Pp,o,m,d,kvs,hx,⟨qs,hq,hp⟩,VN,VO,_⟩:=hP;have ZC:=Paired.len hp;have h12:=hT.sm;have MZ:=hT.AL.1;have lw:∀{f:bJ},jt 60 f->(sW f).length<=122:=λh=>(pY (by decide) h).2;intro X;refine#[_,(ak (Z9X 1 nD (dY (aa (aT (pv 0) Y) ah)))
   (ak (bK L_ rfl (nV (aT (pv 0) rfl)) (Z9Y 2 nD) (ao (bD (cW zab zag zah cK (pv 1) (aa (cW zae zal zam (lS rfl) bE (aa (cI (N:=S3) rfl D0 (nV (pv 2)) (λ_ _ _ _ _ _ _=>(pM S3 0)) (λ_ _ _ _ _ _ _=>(aD T.fB hr (aa (pv 0) ah)))) ah)) ah)))))
   (ak (bD (cW zab zag zah cK (pv 1) (aa (aI bW (aI bW (aD T.fB hr (aa (aT (pv 0) rfl) ah)) bE) (aD T.fB hr (aa (aT (pv 0) rfl) ah))) ah)))
   (ao (aE (cW zae zal zam (lS rfl) bE (aa (pv 1) ah))))))),?_]
 refine#[_,Y,x,_,_,_,_,Y,hx,T.bh,T.cJ,iL,b_,λl hl=>?_];have s1:aj H (upd H l (.lst [.str sg])):=aj.upd hl;have hl1:upd H l (.lst [.str sg]) l=some (.lst [.str sg]):=ai;generalize upd H l (.lst [.str sg])=H1 at s1 hl1 ⊢;refine#[_,Y,x,_,_,_,_,Y,s1 _ _ hx,T.bh,T.dB,qi,.tup Pp,_,Y,aj.cp s1 (c:=.tup Pp) hq,?_];refine sH (K:=K) (c:=.tup Pp) (xs:=qs.map V.ref) (λi σ H2=>∃v2,σ=[some (.ref x),some (.ref l),v2]/\aj H H2/\H2 l=some (.lst ((sg::(R.take i).map λr=>jb (r.map sW)).map V.str))) #[_,Y,s1,hl1] (λi σ H2 _ ⟨_,_,s2,_⟩=>aj.cp s2 (c:=.tup Pp) hq) ?_ ?_
 ·rintro i y σ H2 hy ⟨v2,rfl,s2,hl2⟩;obtain⟨q,Zo,rfl⟩:=fk hy;obtain⟨r,er,ps,hps,hpp⟩:=Paired.at hp Zo;have hi:=(m_.mp er).1;have hrm:=h_ er;have hok:=λf hf=>(hT.ok r hrm f hf).1;have hrl:=hT.AL.2 r hrm;have Tj:=Paired.len hpp;refine#[_,Y,.inl #[Y,_,bq.of hl2],?_];refine#[Y,_,Y,.tup q,_,Y,aj.cp s2 (c:=.tup q) hps,λl2 hn2=>?_];refine eL r.length (λi=>.str (sW (r.getD i (0,1)))) hn2 (o_ (show r.length<=12 by omega) (by decide)) (λj H3 s3 hj=>?_) (λH3 s3=>#[_,aj.cp (s2.trans s3) (c:=.tup q) hps,by rw[e_];omega]) (λj y H3 H4 R' s3 hj hy hR=>?_) λH3 s3 hl3=>?_
  ·exact#[_,_,aj.cp (s2.trans s3) (c:=.tup q) hps,by rw[j_,d_ (show j<ps.length by omega)];rfl]
  ·obtain⟨rfl,hy⟩:=hy;have ey:=hy _ (aj.cp (s2.trans s3) (c:=.tup q) hps);have Ru:j<ps.length:=by omega
   rw[j_,d_ Ru]at ey;cases ey;obtain⟨f,ef,hf⟩:=Paired.at hpp (d_ Ru);have eg:r.getD j (0,1)=f:=by rw[M_,ef];rfl
   rw[eg]at hR;exact#[Kp.rep _ _,_,Y,ps[j],f,Y,hf.same (s2.trans s3),(hok f (h_ ef)).mono (by decide),hR _ (aj.refl _)]
  rw[bM r λf=>V.str (sW f)]at hl3;refine#[_,l2,r.map sW,Y,Y,.inl (bq.of (by rw[hl3,U_];rfl)),by decide,λz hz=>?_,by rw[e_];omega,?_]
  ·obtain⟨f,hf,rfl⟩:=z_.mp hz;exact gc (lw (hok f hf)) (by decide)
  refine#[l,_,_,Y,Y,s3 _ _ hl2,o_ (show _<=13 by rw[e_,Q_,e_,W_];omega) (by decide),_,Y,aj.at (s2.trans s3) hl,?_];rw[ai,take_snoc er,E_,←List.cons_append,E_];rfl
 ·rintro σ H2 ⟨v2,rfl,s2,hl2⟩;rw[e_,ZC,qcC]at hl2;have S9:=s2 _ _ hx;refine#[_,Y,.inl #[Y,_,bq.of hl2],?_];refine#[_,Y,x,_,_,_,_,Y,S9,T.bh,T.eF,zQ,o,fo,Y,VN.same s2,hT.yV.1.mono (by decide),?_];refine#[_,_,Y,Y,gc (qaM (lw hT.yV.1) 1) (by decide),_,Y,x,_,_,_,_,Y,S9,T.bh,T.gE,Gk,m,fm,Y,VO.same s2,hT.yW.1.mono (by decide),_,_,Y,Y,?_,?_]
  ·refine gc (qbE (show _<=123 from ?_) (lw hT.yW.1)) (by decide);show(sW fo++(⟨#[32]⟩:w_)).cps.size<=123;rw[cG];exact qaM (lw hT.yV.1) 1
  refine#[l,_,_,Y,Y,hl2,o_ (show _<=13 by rw[e_,Q_,e_];omega) (by decide),?_];refine#[Y,_,Y,_,l,oS sg R fo fm,Y,Y,.inl (bq.of ?_),by decide,λz hz=>(hT.row z hz).2,by rw[mJ];omega,k _ (aj.at s2 hl)];have e:(sW fo++(⟨#[32]⟩:w_))++sW fm=jb [sW fo,sW fm]:=uA (by rw[fJ,cH,cH];simp[Aj]);rw[ai];unfold oS;rw[←List.cons_append,E_,←e];rfl
theorem Bo(T:Gs P w K mg p base 3):T.gj.Ok:=by
 refine T.gj.dP ["_law_prices_here","_law_rows","_law_total","_law_i","_law_j","_law_k"] λH vs Q E hr h nD=>?_;obtain⟨x,v,sg,rows,fo,fm,rs,rfl,hP,hv,hS,hl,hO,k⟩:=h;obtain⟨hne,hw⟩:=aV.mp hl;have hn:=hS.len;have hr0:rs[0]? =some (rs.headD ⟨#[]⟩):=by
  cases rs with
  |nil=>exact absurd Y hne
  |cons r0 t=>rfl
 have MM:bz rs<=1000:=hS.row _ (h_ hr0);have hat:∀i k,i<rs.length->k<bz rs->∃r,rs[i]? =some r/\r.cps.size<=1000/\r.cps.toList[k]? =some (pW rs i k)/\pW rs i k∈(nJ sg).cps.toList:=λi k hi hk=>by
  have hm:=D_ hi;have hk':k<rs[i].cps.toList.length:=by rw[k_,hw _ hm];exact hk
  have e:pW rs i k=rs[i].cps.toList[k]:=by
   unfold pW;rw[br (d_ hi),br (d_ hk')]
  exact#[rs[i],d_ hi,hS.row _ hm,by rw[e];exact d_ hk',by rw[e];exact hO _ hm _ (D_ hk')]
 obtain⟨g,hg⟩:∃g:Nat->Nat->Nat->Int,g=λk i r=>gC sg rows fo fm (pW rs i k) (pW rs r k):=#[_,rfl]
 obtain⟨R,hR⟩:∃R:Nat->Nat->Int,R=λi j=>if i<j then sm (λk=>g k i j) (bz rs)else 0:=#[_,rfl]
 intro X;refine#[_,(ak (Z9X 2 nD aq)
   (ak (bK L_ rfl (c8 rfl T.dH (aa (av (aK) rfl T.bB aZ (aa (pv 1) ah)) ah)) (Z9Y 3 nD) (ao (bK L_ rfl (rN rfl T.dH (aa (aI bZ (pv 3) aq) (aa (av (aK) rfl T.bB aZ (aa (pv 1) ah)) ah))) (Z9Y 4 nD) (ao (bK L_ rfl (c8 rfl T.dH (aa (av (aK) rfl T.bB aZ (aa (aR sE (pv 1) aq (λ_ _=>rfl)) ah)) ah)) (Z9Y 5 nD) (ao (Z9X 2 nD (aI bZ (pv 2) (aD T.kU hr (aa (pv 0) (aa (aR oq (aR sE (pv 1) (pv 3) (λ_ _=>rfl)) (pv 5) (λ_ _=>rfl)) (aa (aR oq (aR sE (pv 1) (pv 4) (λ_ _=>rfl)) (pv 5) (λ_ _=>rfl)) ah))))))))))))
   (ao (aE (pv 2))))),?_]
 refine#[_,Y,_,rs.length,Y,hv.len,((rs.length:Nat):Int),Y,by omega,by omega,?_];refine c9 (lo:=0) (n:=((rs.length:Nat):Int).toNat) (λi σ H2=>iG λv3 v4 v5=>σ=[some (.ref x),some v,some (.int (sm (λi=>sm (R i) rs.length) i)),v3,v4,v5]/\aj H H2) #[_,_,_,Y,aj.refl _] ?_ ?_
 ·rintro i σ H2 hi ⟨v3,v4,v5,rfl,s2⟩;have hi':i<rs.length:=by omega
  refine#[_,Y,_,_,Y,Y,_,Y,_,rs.length,Y,(hv.same s2).len,0+(i:Int)+1,((rs.length:Nat):Int),Y,#[by omega,by omega,by omega,by omega],?_];refine c9 (lo:=0+(i:Int)+1) (n:=(((rs.length:Nat):Int)-(0+(i:Int)+1)).toNat) (λd σ H3=>bU λv4 v5=>σ=[some (.ref x),some v,some (.int (sm (λi=>sm (R i) rs.length) i+sm (R i) (i+1+d))),some (.int (0+(i:Int))),v4,v5]/\aj H H3) #[v4,v5,?_,s2] ?_ ?_
  ·have e:sm (R i) (i+1+0)=0:=by rw[hR];exact Ep _ _ (i_ _)
   rw[e,qcd];rfl
  ·rintro d σ H3 hd ⟨v4,v5,rfl,s3⟩;have hj:i+1+d<rs.length:=by omega
   refine#[_,Y,(hv.same s3).ix (i:=0) hr0 ?_];refine#[_,_,Y,#[gc MM (by decide),Y],((bz rs:Nat):Int),Y,by omega,by omega,?_];refine c9 (lo:=0) (n:=((bz rs:Nat):Int).toNat) (λq σ H4=>∃v5,σ=[some (.ref x),some v,some (.int (sm (λi=>sm (R i) rs.length) i+sm (R i) (i+1+d)+sm (λk=>g k i (i+1+d)) q)),some (.int (0+(i:Int))),some (.int (0+(i:Int)+1+(d:Int))),v5]/\aj H H4) #[v5,?_,s3] ?_ ?_
   ·show _=[_,_,some (V.int (_+0)),_,_,_];rw[qcd];rfl
   ·rintro q σ H4 hq ⟨v5,rfl,s4⟩;obtain⟨r1,e1,z1,c1,o1⟩:=hat i q hi' (by omega);obtain⟨r2,e2,z2,c2,o2⟩:=hat (i+1+d) q hj (by omega);have a4:=hv.same s4;refine#[_,Y,_,Y,_,Y,_,Y,a4.Xl (i:=i) e1 (qbl _) ?_];refine#[_,Y,r1,_,_,Y,Y,gc z1 (by decide),(by rw[qbl];exact bx c1),?_];refine#[_,Y,_,Y,a4.Xl (i:=i+1+d) e2 (by omega) ?_];refine#[_,Y,r2,_,_,Y,Y,gc z2 (by decide),(by rw[qbl];exact bx c2),?_];refine#[x,sg,rows,fo,fm,_,_,Y,hP.same s4,o1,o2,λH5 s5=>?_];refine#[_,_,Y,Y,some (.int (0+(q:Int))),?_,s4.trans s5];have e3:sm (λk=>g k i (i+1+d)) (q+1)=sm (λk=>g k i (i+1+d)) q+gC sg rows fo fm (pW rs i q) (pW rs (i+1+d) q):=by
     show sm (λk=>g k i (i+1+d)) q+g q i (i+1+d)=_;rw[hg]
    rw[e3,←qda];rfl
   ·rintro σ H4 ⟨v5,rfl,s4⟩;refine#[some (.int (0+(i:Int)+1+(d:Int))),v5,?_,s4];have e4:sm (R i) (i+1+d+1)=sm (R i) (i+1+d)+sm (λk=>g k i (i+1+d)) (bz rs):=by
     show sm (R i) (i+1+d)+R i (i+1+d)=_;rw[hR]
     show _+(if i<i+1+d then _ else _)=_
     rw[if_pos (by omega)]
    rw[show i+1+(d+1)=i+1+d+1 by omega,e4,qax,←qda]
  ·rintro σ H3 ⟨v4,v5,rfl,s3⟩;refine#[some (.int (0+(i:Int))),v4,v5,?_,s3];rw[show i+1+(((rs.length:Nat):Int)-(0+(i:Int)+1)).toNat=rs.length by omega];rfl
 ·rintro σ H2 ⟨v3,v4,v5,rfl,s2⟩;refine#[_,Y,?_];have z:=k H2 s2;rw[←JC]at z;rw[qax,hR,hg];exact z
theorem u7(T:Gs P w K mg p base 0):T.iZ.Ok:=by
 refine T.iZ.dP ["joining"] λH vs Q E hr h nD=>?_;obtain⟨jn,A,B,n1,n2,pc,mo,rfl,⟨dx,l1,l2,a,b,e,rr,h1,h2,h3,h4,h5,h6,⟨rs,hrs,hrl,hr'⟩⟩,hA,hB,k⟩:=h;obtain⟨r0,hr0⟩:∃r0,rs[0]? =some r0:=#[_,d_ (by omega)];have e4:H a=some (.lst ((A.map λc=>Am mo c n2).map V.int)):=by rw[h4,U_];rfl
 have e5:H b=some (.lst ((B.map λc=>Am mo c n1).map V.int)):=by rw[h5,U_];rfl
 intro X;refine#[_,(ao (aE (aI bZ (aI bZ (av (iN (K':=K) Y Y) Y T.sS qu (aa (aT (pv 0) Y) ah)) (av (iN (K':=K) Y Y) Y T.sS qu (aa (aT (pv 0) Y) ah))) (aR bu (aR bu (aT (pv 0) Y) aq (λ_ _=>rfl)) aq (λ_ _=>rfl))))),?_];refine#[_,Y,jn,_,dx,_,_,Y,h1,T.bf,T.kj,LA,a,_,Y,bq.of e4,_,Y,jn,_,dx,_,_,Y,h1,T.bf,T.ki,Lz,b,_,Y,bq.of e5,_,_,Y,Y,?_];exact#[_,Y,jn,_,dx,_,_,Y,h1,T.bf,T.fH,vE,rr,_,_,.ref r0,Y,Y,bq.of hrl,bx (j:=0) (by rw[j_,hr0];rfl),r0,_,_,.int (ee (qk pc mo A B) A.length B.length 0 0),Y,Y,bq.of (hr' 0 r0 hr0),bx (j:=0) (by rw[j_,List.getElem?_range (by omega)];rfl),_,_,Y,Y,k H (aj.refl _)]
theorem tS(T:Gs P w K mg p base 3):T.iE.Ok:=by
 refine T.iE.dP ["prices","block","row","cost","other"] λH vs Q E hr h nD=>?_;obtain⟨x,b,r,T1,R,y,rfl,hP,hB,hG,hy,k⟩:=h;have hr':r<R.length:=(m_.mp hy).1;have hlen:=hG.len;obtain⟨_,hw⟩:=aV.mp (aL hG.bk);have hyw:=hw y (h_ hy);have Zd:=hG.bz;obtain⟨dx,q0,hb,EM⟩:=id hB;intro X;refine#[_,(ak (Z9X 3 nD aq)
   (ak (bK L_ rfl (nV (aD T.iz hr (aa (pv 1) (aa (pv 2) ah)))) (Z9Y 4 nD) (ao (Z9X 3 nD (aI bZ (pv 3) (av (iN (K':=K) rfl rfl) rfl T.sS qu (aa (cI (N:=UZ) rfl (DZ 2 [0]) (Dd rfl rfl T.As (aa (aR bG (aT (pv 1) rfl) (pv 2) (λ_ _=>rfl)) (aa (pv 4) ah))) (λ_ _ _ _ _ _ _=>(Ew (K':=K) (n:=2) rfl rfl (bQ (pM UZ 0) (bQ (pM UZ 1) gK)))) (λ_ _ _ _ _ _ _=>(aD T.iy hr (aa (pv 2) (aa (pv 0) (aa (pv 1) ah)))))) ah))))))
   (ao (aE (pv 3))))),?_]
 refine#[_,Y,_,Y,b,r,R,Y,hB,hr',by omega,λq H1 s1 hq=>#[.tup q,_,Y,hq,?_]];refine sH (K:=K) (c:=.tup q) (xs:=(R.eraseIdx r).map V.str) (λi σ H2=>∃v4,σ=[some (.ref x),some (.ref b),some (.int (r:Int)),some (.int (sP (gC T1.1 T1.2.1 T1.2.2.1 T1.2.2.2) y ((R.eraseIdx r).take i))),v4]/\aj H1 H2) #[_,Y,aj.refl _] (λi σ H2 _ ⟨v4,_,s2⟩=>aj.tup s2 hq) ?_ ?_
 ·rintro i o' σ H2 ho ⟨v4,rfl,s2⟩;obtain⟨o,XF,rfl⟩:=fk ho;have s12:=s1.trans s2;have XG:=T_ (h_ XF);have how:=hw o XG;refine#[_,Y,_,Y,b,_,dx,_,_,Y,s12 _ _ hb,T.bH,T.aS,bY,_,Y,q0,_,_,.str y,Y,Y,aj.tup s12 EM,bx (by rw[j_,hy];rfl),_,Y,.txt y,.txt o,_,_,Y,Y,Y,λl hl=>?_];refine eL y.cps.size (λj=>V.int (gC T1.1 T1.2.1 T1.2.2.1 T1.2.2.2 (y.cps.toList.getD j 0) (o.cps.toList.getD j 0))) hl (o_ (show y.cps.size<=100 by omega) (by decide)) (λj H4 s4 hj=>?_) (λH4 s4=>?_) (λj z H4 H5 R' s4 hj hz hR=>?_) λH4 s4 sF=>?_
  ·exact#[_,_,_,_,Y,Y,d_ (by rw[signs_length];exact hj),d_ (by rw[signs_length];omega)]
  ·exact#[_,_,Y,Y,.inl (by rw[signs_length];exact i_ _)]
  ·obtain⟨p1,u,v,rfl,hp1,rfl,e⟩:=hz;obtain⟨eu,ev⟩:=e _ _ rfl rfl;obtain⟨cu,hcu,rfl⟩:=signs_get eu;obtain⟨cv,ZI,rfl⟩:=signs_get ev;have gu:y.cps.toList[j]? =some cu:=by rw[P_];exact hcu
   have gv:o.cps.toList[j]? =some cv:=by rw[P_];exact ZI
   have s5:=aj.upd (o:=.tup [V.str ⟨#[cu]⟩,V.str ⟨#[cv]⟩]) hp1;rw[br gu,br gv]at hR;refine#[p1,_,Y,bV.of ai,Y,_,_,Y,_,_,Y,Y,Kp.two,?_];exact#[_,Y,_,Y,_,Y,x,T1.1,T1.2.1,T1.2.2.1,T1.2.2.2,cu,cv,Y,hP.same (s12.trans (s4.trans s5)),hG.kn y (h_ hy) _ (h_ gu),hG.kn o XG _ (h_ gv),λH6 s6=>hR H6 (s5.trans s6)]
  ·refine#[l,(H_ y.cps.size).map λj=>gC T1.1 T1.2.1 T1.2.2.1 T1.2.2.2 (y.cps.toList.getD j 0) (o.cps.toList.getD j 0),Y,bq.of (by rw[sF,U_];rfl),_,_,Y,Y,some (.str o),?_,s2.trans s4];have e3:sP (gC T1.1 T1.2.1 T1.2.2.1 T1.2.2.2) y ((R.eraseIdx r).take (i+1))=sP (gC T1.1 T1.2.1 T1.2.2.1 T1.2.2.2) y ((R.eraseIdx r).take i)+((H_ y.cps.size).map λj=>gC T1.1 T1.2.1 T1.2.2.1 T1.2.2.2 (y.cps.toList.getD j 0) (o.cps.toList.getD j 0)).sum:=by
    unfold sP;rw[qc1,XF,Option.toList_some,E_,List.sum_append,lM];simp
   rw[e3];rfl
 ·rintro σ H2 ⟨v4,rfl,s2⟩;rw[e_,qcC];exact#[_,Y,k H2 (s1.trans s2)]
theorem rZ(T:Gs P w K mg p base 5):T.cV.Ok:=by
 refine T.cV.Lk U0 λH vs Q E hr h nD=>?_;obtain⟨x,b,m,T1,R,rfl,hP,⟨dx,q,hb,hq⟩,hS,hO,k,kP,kM⟩:=h;intro X;refine#[_,(ak (bD (aD T.cC hr (aa (pv 0) (aa (aT (pv 1) Y) ah))))
   (ak (bC (jo (fh (aD T.gr hr (aa (pv 0) ah)))) (ao (Bd kN T.xc_NoPrices rfl rfl T.n9 (aa bE ah))) aP)
   (ao (bC (aM nX (pv 2) aq (aW _)) (ao (Bd kN T.xx rfl rfl T.su (aa bE ah))) aP)))),?_]
 refine#[_,Y,_,Y,b,_,dx,_,_,Y,hb,T.bH,T.aS,bY,x,_,_,_,_,_,R,Y,hP,#[q,Y,.inr hq],hS,hO,λH1 s1=>?_];refine#[_,Y,x,_,_,_,_,Y,hP.same s1,λbb H2 OV s2=>#[_,Y,?_]];have s12:=s1.trans s2
 cases bb with
 |false=>exact xW #[b_,kP (λz=>by have:=OV.mpr z;cases this) H2 s12]
 |true =>
  have bw:=OV.mp rfl;refine jw #[_,Y,_,_,Y,Y,_,Y,cS (λz=>#[b_,kM bw z H2 s12]) λz=>k bw (by have z':¬m<0:=z;omega) H2 s12]
theorem wF(T:Gs P w K mg p base 9):T.jN.Ok:=by
 refine T.jN.dP ["prices","block","row","joining","less"] λH vs Q E hr h nD=>?_;obtain⟨x,b,T1,R,rfl,hP,hB,hG,h1,hs,k,kn⟩:=h;have hlen:=hG.len;obtain⟨dx,q0,hb,EM⟩:=id hB;intro X;refine#[_,(ak (bK L_ Y (c8 Y T.dH (aa (av (aK) Y T.bB aZ (aa (aT (pv 1) Y) ah)) ah)) (Z9Y 2 nD) (ak (Z9X 3 nD (aD T.dU hr (aa (pv 0) (aa (pv 1) (aa (pv 2) ah)))))
   (ak (Z9X 4 nD (aI rQ (aD T.iE hr (aa (pv 0) (aa (pv 1) (aa (pv 2) ah)))) (aD T.iZ hr (aa (pv 3) ah))))
   (ao (bC (aM pN (pv 4) aq (aW _)) (ao (aE (ck (aa (pv 2) (aa (aD T.cY hr (aa (pv 3) (aa (pv 2) ah))) (aa (pv 4) ah)))))) aP)))))
   (ao (aE k9))),?_]
 refine#[_,Y,b,_,dx,_,_,Y,hb,T.bH,T.aS,bY,_,R.length,Y,.inr #[_,EM,by rw[e_]],_,Y,by omega,by omega,?_];rw[qax];refine c9 (lo:=0) (n:=R.length) (λi σ H2=>iG λv2 v3 v4=>σ=[some (.ref x),some (.ref b),v2,v3,v4]/\aj H H2/\Wz T1 R i) #[_,_,_,Y,aj.refl _,λq R' z=>absurd z (qbu _)] ?_ ?_
 ·rintro i σ H2 hi ⟨v2,v3,v4,rfl,s2,nb⟩;have ei:(0:Int)+(i:Int)=(i:Int):=by omega
  have hy:=d_ hi;generalize R[i]=y at hy;obtain⟨jk,j1,j2,j3,j4⟩:=OA hG.bk hG.sm hG.kn hy (by omega);have sv:∀R',An T1 R i R'->lF T1 R'+sP (gC T1.1 T1.2.1 T1.2.2.1 T1.2.2.2) y (R.eraseIdx i)=lF T1 R+wN (jc T1.1 T1.2.1 (aC T1.2.2.1.2 T1.2.2.2.2 T1.2.1)) (jv T1.2.1 T1.2.2.1 T1.2.2.2) (aA y) (aB R i) 1 (packed (R.eraseIdx i)).length:=λR' a=>by
   obtain⟨z,cs,hz,hF,rfl⟩:=a;rw[hy]at hz;cases hz;exact(An.ok hG h1 hy hF).less Y hF hs
  rw[ei];refine#[_,Y,_,Y,_,Y,x,b,i,T1.1,T1.2.1,T1.2.2.1,T1.2.2.2,R,y,Y,hP.same s2,hB.same s2,hG.sm,hG.bk,hG.kn,hy,by omega,λjn H3 s3 hJ=>?_];have Uy:=s2.trans s3;refine#[_,Y,_,Y,_,Y,x,b,i,T1,R,y,Y,hP.same Uy,hB.same Uy,hG,hy,λH4 s4=>?_];refine#[_,Y,jn,_,_,_,_,_,_,Y,hJ.same s4,j3,j4,λH5 s5=>?_];have WS:=Uy.trans (s4.trans s5);refine#[_,_,Y,Y,_,Y,_,_,Y,Y,_,Y,cS (λz=>?_) λz=>?_]
  ·refine#[_,Y,_,Y,_,Y,jn,i,_,_,_,_,_,_,Y,hJ.same (s4.trans s5),jk,j1,j2,λbb H6 cs s6 _ hF ZZ=>?_];refine#[_,Y,by show 3<=A_;decide,λq hq=>?_];rw[aU,aU]at hF;have an:An T1 R i (Eb R i y cs):=#[y,cs,hy,hF,rfl];have e:=sv _ an;have s7:=aj.upd (o:=.tup [.int (i:Int),.ref bb,.int (lF T1 R-lF T1 (Eb R i y cs))]) hq;have eq:sP (gC T1.1 T1.2.1 T1.2.2.1 T1.2.2.2) y (R.eraseIdx i)-wN (jc T1.1 T1.2.1 (aC T1.2.2.1.2 T1.2.2.2.2 T1.2.1)) (jv T1.2.1 T1.2.2.1 T1.2.2.2) (aA y) (aB R i) 1 (packed (R.eraseIdx i)).length=lF T1 R-lF T1 (Eb R i y cs):=by omega
   have z':(0:Int)<sP (gC T1.1 T1.2.1 T1.2.2.1 T1.2.2.2) y (R.eraseIdx i)-wN (jc T1.1 T1.2.1 (aC T1.2.2.1.2 T1.2.2.2.2 T1.2.1)) (jv T1.2.1 T1.2.2.1 T1.2.2.2) (aA y) (aB R i) 1 (packed (R.eraseIdx i)).length:=z;rw[eq]at z';show Q (.ref q) (upd H6 q (.tup [.int (i:Int),.ref bb,.int (sP (gC T1.1 T1.2.1 T1.2.2.1 T1.2.2.2) y (R.eraseIdx i)-wN (jc T1.1 T1.2.1 (aC T1.2.2.1.2 T1.2.2.2.2 T1.2.1)) (jv T1.2.1 T1.2.2.1 T1.2.2.2) (aA y) (aB R i) 1 (packed (R.eraseIdx i)).length)]));rw[eq];exact k i _ q bb _ (WS.trans (s6.trans s7)) #[h1,an,by omega,nb] ai (ZZ.same s7)
  ·have z':¬(0:Int)<sP (gC T1.1 T1.2.1 T1.2.2.1 T1.2.2.2) y (R.eraseIdx i)-wN (jc T1.1 T1.2.1 (aC T1.2.2.1.2 T1.2.2.2.2 T1.2.1)) (jv T1.2.1 T1.2.2.1 T1.2.2.2) (aA y) (aB R i) 1 (packed (R.eraseIdx i)).length:=z;refine#[_,_,_,Y,WS,λq R' hq a=>?_];by_cases e:q=i
   ·subst e;have:=sv R' a;omega
   ·exact nb q R' (by omega) a
 ·rintro σ H2 ⟨v2,v3,v4,rfl,s2,nb⟩;exact kn (λ_=>nb) H2 s2
theorem FZ(T:Gs P w K mg p base 10):T.jj.Ok:=by
 refine T.jj.Lk ["prices","block","most","steps","cost","step"] λH vs Q E hr h nD=>?_;obtain⟨x,b,m,T1,R,rfl,hP,hB,hG,hm,kq,kE⟩:=h;have LO:=hG.bk;intro X;refine#[_,(aX (bD (oX (T.cV.g (by decide)) (hr.mono (by decide)) Y T.cV.m T.cV.d.fn.kp T.cV.d.b .nil (Lets.passes kN) (aa (pv 0) (aa (pv 1) (aa (pv 2) ah)))))
   (aX (Z9X 3 nD (dY ah))
   (aX (bC (aM dO (av (aK) rfl T.bB aZ (aa (aT (pv 1) rfl) ah)) aq (aW _)) (ao (aE (ck (aa (pv 1) (aa (pv 3) ah))))) aP)
   (aX (Z9X 4 nD (aD T.gH hr (aa (pv 0) (aa (pv 1) ah))))
   (aX (nU jB (aM nX (av (aK) rfl T.bB aZ (aa (pv 3) ah)) (pv 2) (aW _)) (ak (Z9X 5 nD (aD T.jN hr (aa (pv 0) (aa (pv 1) ah))))
   (ak (bC (aM Dj (pv 5) k9 (by with_unfolding_all rfl)) (ao Ic) aP)
   (ak (Z9X 1 nD (aR bG (pv 5) aq (λ_ _=>rfl)))
   (ak (Z9X 4 nD (aI rQ (pv 4) (aR bG (pv 5) aq (λ_ _=>rfl))))
   (ao (bD (cW zab zag zah cK (pv 3) (aa (ck (aa (aR bG (pv 5) aq (λ_ _=>rfl)) (aa (aD T.iO hr (aa (pv 0) (aa (pv 4) ah))) ah))) ah)))))))))
   (ao (aE (ck (aa (pv 1) (aa (pv 3) ah)))))))))),?_]
 refine#[λσ' H'=>aj H H'/\bN T1.2.1/\0<=m/\σ'=[some (.ref x),some (.ref b),some (.int m),none,none,none],?_,?_]
 ·exact#[_,Y,_,Y,_,Y,x,b,m,T1,R,Y,hP,hB,hG.sm.sm,hG.kn,λbw m0 H1 s1=>#[s1,bw,m0,Y],kE]
 rintro σ' H1 ⟨s1,bw,m0,rfl⟩;obtain⟨hs,k⟩:=kq bw m0;have big:∀a:Nat,a<=2000->a<A_:=λa h=>o_ h (by decide);refine#[λσ' H'=>∃l,aj H H'/\H l=none/\H' l=some (.lst [])/\σ'=[some (.ref x),some (.ref b),some (.int m),some (.ref l),none,none],#[a_,λl hl=>#[l,s1.trans (aj.upd hl),aj.free s1 hl,ai,Y]],?_];rintro σ' H2 ⟨l,s2,fl,e2,rfl⟩;obtain⟨dx,q0,hb,EM⟩:=id hB;refine#[λσ' H'=>H'=H2/\1<R.length/\σ'=[some (.ref x),some (.ref b),some (.int m),some (.ref l),none,none],?_,?_]
 ·refine#[_,Y,b,_,dx,_,_,Y,s2 _ _ hb,T.bH,T.aS,bY,_,R.length,Y,.inr #[_,aj.tup s2 EM,by rw[e_]],Y,_,Y,mS (λz=>?_) λz=>#[Y,?_,Y]]
  ·refine#[_,Y,_,Y,c_,λq hq=>?_];have s3:=aj.upd (o:=.tup [.ref b,.ref l]) hq;have z':((R.length:Nat):Int)=1:=z;exact k q b l R [] [] _ (s2.trans s3) .nil m0 (λ_ c=>by omega) hG ai (hB.same (s2.trans s3)) (s3 _ _ e2) Y
  ·have z':¬((R.length:Nat):Int)=1:=z;have:=qaT.mpr (aV.mp (aL LO)).1;omega
 rintro σ' H2 ⟨rfl,h1,rfl⟩;refine#[λσ' H'=>aj H2 H'/\σ'=[some (.ref x),some (.ref b),some (.int m),some (.ref l),some (.int (lF T1 R)),none],?_,?_]
 ·exact#[_,Y,_,Y,x,b,_,_,_,_,R,Y,hP.same s2,hB.same s2,hG.sm.sm,aL LO,hG.kn,λH3 s3=>#[s3,Y]]
 rintro σ' H3 ⟨s3,rfl⟩
 let I:St->Hp->List (Nat×Int)->List w_->Prop:=λσ' H' ss R1=>iG λbb vs v5=>σ'=[some (.ref x),some (.ref bb),some (.int m),some (.ref l),some (.int (lF T1 R1)),v5]/\aj H H'/\kL K p.bF (Wo l H') bb R1/\yq T1 R1/\1<R1.length/\nG T1 R ss R1/\H' l=some (.lst vs)/\vs.length=ss.length/\(ss.length:Int)<=m
 refine#[λσ' H'=>bU λss R1=>I σ' H' ss R1/\((ss.length:Int)<m->Na T1 R1),?_,?_]
 ·have e3:=s3 _ _ e2;refine#[λn σ' H'=>bU λss R1=>I σ' H' ss R1/\n=m.toNat-ss.length,#[_,[],R,#[b,[],none,Y,s2.trans s3,(hB.same (s2.trans s3)).wo e3,hG,h1,.nil,e3,Y,m0],Y],?_];rintro n σ' H4 ⟨ss,R1,⟨bb,vs,v5,rfl,s4,RS,OY,PZ,hM,e4,hvl,hle⟩,rfl⟩;refine#[_,Y,_,vs.length,Y,.inl #[_,bq.of e4,Y],_,Y,_,_,Y,Y,_,Y,cS (λz=>?_) λz=>?_]
  ·have z':((vs.length:Nat):Int)<m:=z;refine#[λσ' H'=>∃n',n'<m.toNat-ss.length/\bU λss R1=>I σ' H' ss R1/\n'=m.toNat-ss.length,λσ' H' h=>h,?_];refine#[_,Y,_,Y,x,bb,T1,R1,Y,hP.same s4,RS.same Wo.sub,OY,PZ,hs,λr R2 q b2 H5 s5 hF hq Tv=>?_,λhno H5 s5=>?_]
   ·have e5:=s5 _ _ e4;have gd:=(An.gd OY PZ hF.2.1);have l2:=An.len OY PZ hF.2.1;refine#[_,Y,Y,_,Y,eX ?_];refine#[_,Y,q,_,_,_,Y,Y,bV.of hq,Y,?_];refine#[_,Y,_,Y,q,_,_,_,Y,Y,bV.of hq,Y,_,_,Y,Y,?_];refine#[_,Y,.inl #[Y,_,bq.of e5],_,Y,q,_,_,_,Y,Y,bV.of hq,Y,?_];have en:lF T1 R1-(lF T1 R1-lF T1 R2)=lF T1 R2:=by omega
    refine#[_,Y,_,Y,x,lF T1 R1-(lF T1 R1-lF T1 R2),_,_,_,_,Y,hP.same (s4.trans s5),λc H6 s6 _ _=>#[c_,λa2 ha2=>?_]];have NW:=s6.trans (aj.upd (o:=.tup [.int (r:Int),.ref c]) ha2);generalize upd H6 a2 (.tup [.int (r:Int),.ref c])=H7 at NW ⊢;have e7:=NW _ _ e5;refine#[l,vs,.ref a2,Y,Y,e7,big _ (by omega),m.toNat-(ss++[(r,lF T1 R2)]).length,?_,ss++[(r,lF T1 R2)],R2,#[b2,vs++[.ref a2],_,congrArg (λz=>([some (.ref x),some (.ref b2),some (.int m),some (.ref l),some (.int z),some (.ref q)]:St)) en,aj.at (s4.trans (s5.trans NW)) fl,?_,gd.1,by omega,hM.snoc hF,ai,?_,?_],Y]
    ·rw[t_,qbf];omega
    ·rw[Wo.set];exact(Tv.same NW).wo e7
    ·rw[t_,t_,hvl];rfl
    ·rw[t_,qbf];omega
   ·exact#[_,Y,Y,_,Y,gU #[ss,R1,#[bb,vs,_,Y,s4.trans s5,RS.same (Wo.same s5),OY,PZ,hM,s5 _ _ e4,hvl,hle],λ_=>hno]]
  ·have z':¬((vs.length:Nat):Int)<m:=z;exact#[ss,R1,#[bb,vs,_,Y,s4,RS,OY,PZ,hM,e4,hvl,hle],λz=>absurd z (by omega)]
 rintro σ' H4 ⟨ss,R1,⟨bb,vs,v5,rfl,s4,RS,OY,PZ,hM,e4,hvl,hle⟩,hno⟩;refine#[_,Y,_,Y,c_,λq hq=>?_];have s5:=aj.upd (o:=.tup [.ref bb,.ref l]) hq;exact k q bb l R1 ss vs _ (s4.trans s5) hM hle hno OY ai ((RS.same Wo.sub).same s5) (s5 _ _ e4) hvl
theorem qa(T:Gs P w K mg p base 1):T.fR.Ok:=by
 refine T.fR.dP U1 λH vs Q E hr h nD=>?_;obtain⟨x,sg,rows,fo,fm,rfl,hP,hz,k⟩:=h;obtain⟨sig,AL,_,_,_,_,_,dx,Pp,o,m,d,kvs,h1,h2,h3,h4,h5,h6⟩:=id hP;intro X;refine#[_,(ak (bK L_ Y (j9 (aT (pv 0) Y)) (Z9Y 1 nD) (ao (bK L_ Y (j9 (aT (pv 0) Y)) (Z9Y 2 nD) (ao (bC (aM nj (aD T.eY hr (aa (pv 0) (aa (pv 1) (aa (pv 2) ah)))) (aD T.eY hr (aa (pv 0) (aa (pv 2) (aa (pv 1) ah)))) (aW _)) (ao (aE iF)) aP)))))
   (ao (aE iF))),?_]
 refine#[_,Y,x,_,_,_,_,Y,h1,T.bh,T.cJ,iL,_,Y,?_];refine zP (x:=sg) (λi σ H2=>bU λ(v1 v2:Option V)=>σ=[some (.ref x),v1,v2]/\aj H H2/\∀j a,j<i->sg.cps.toList[j]? =some a->∀c∈sg.cps.toList,jc sg rows (aC fo.2 fm.2 rows) a c=jc sg rows (aC fo.2 fm.2 rows) c a) #[_,_,Y,aj.refl _,λj a hj=>absurd hj (qbu _)] ?_ ?_
 ·rintro i a σ H2 ha ⟨v1,v2,rfl,s2,hi⟩;have ha':=gF ha;refine#[_,Y,x,_,_,_,_,Y,s2 _ _ h1,T.bh,T.cJ,iL,_,Y,?_];refine zP (x:=sg) (λj σ H3=>∃(v2:Option V),σ=[some (.ref x),some (.str ⟨#[a]⟩),v2]/\aj H H3/\∀q c,q<j->sg.cps.toList[q]? =some c->jc sg rows (aC fo.2 fm.2 rows) a c=jc sg rows (aC fo.2 fm.2 rows) c a) #[_,Y,s2,λq c hq=>absurd hq (qbu _)] ?_ ?_
  ·rintro j c σ H3 hc ⟨v2,rfl,s3,hj⟩;have hc':=gF hc;obtain⟨i1,j1,f1,k1,k2,k3,k4⟩:=nW (u:=aC fo.2 fm.2 rows) hP.AL (h_ ha') (h_ hc');obtain⟨i2,j2,f2,l1,l2,l3,l4⟩:=nW (u:=aC fo.2 fm.2 rows) hP.AL (h_ hc') (h_ ha');refine#[_,Y,_,Y,_,Y,x,sg,rows,fo,fm,i1,j1,a,c,f1,Y,hP.same s3,k1,k2,k3,λH4 s4=>?_];refine#[_,Y,_,Y,_,Y,x,sg,rows,fo,fm,i2,j2,c,a,f2,Y,hP.same (s3.trans s4),l1,l2,l3,λH5 s5=>?_];have WR:=s3.trans (s4.trans s5);refine#[Y,_,Y,?_];refine ow (λz=>?_) λe=>?_
   ·refine k false H5 WR #[(λe=>by cases e),λq=>absurd (q a (h_ ha') c (h_ hc')) ?_];rw[k4,l4];exact z
   ·refine#[_,Y,WR,λq d hq hd=>?_];by_cases e':q=j
    ·subst e';rw[hc']at hd;cases hd;rw[k4,l4];exact e
    ·exact hj q d (by omega) hd
  ·rintro σ H3 ⟨v2,rfl,s3,hj⟩;refine#[_,_,Y,s3,λq d hq hd c hc=>?_];by_cases e':q=i
   ·subst e';rw[ha']at hd;cases hd;obtain⟨z,hz',ec⟩:=qbd hc;rw[k_]at hz';exact hj z c hz' (by rw[←ec];exact d_ _)
   ·exact hi q d (by omega) hd c hc
 ·rintro σ H2 ⟨v1,v2,rfl,s2,hi⟩;refine k true H2 s2 #[λ_ a ha c hc=>?_,λ_=>rfl];obtain⟨z,hz',ea⟩:=qbd ha;rw[k_]at hz';exact hi z a hz' (by rw[←ea];exact d_ _) c hc
theorem wJ(T:Gs P w K mg p base 5):T.jP.Ok:=by
 refine T.jP.dP Rg λH vs Q E hr h nD=>?_;obtain⟨x,b,T1,rs,rfl,hP,hB,hS,hl,ho,k⟩:=h;obtain⟨dx,q,hb,hq⟩:=id hB;intro X;refine#[_,(ak (bD (aD T.cC hr (aa (pv 0) (aa (aT (pv 1) Y) ah))))
   (ao (aE (aD T.iO hr (aa (pv 0) (aa (aD T.gH hr (aa (pv 0) (aa (pv 1) ah))) ah)))))),?_]
 refine#[_,Y,_,Y,b,_,dx,_,_,Y,hb,T.bH,T.aS,bY,x,_,_,_,_,.ref q,rs,Y,hP,#[q,Y,.inr hq],hS,ho,λH1 s1=>?_];refine#[_,Y,_,Y,_,Y,x,b,_,_,_,_,rs,Y,hP.same s1,hB.same s1,hS,hl,ho,λH2 s2=>?_];exact#[x,_,_,_,_,_,Y,hP.same (s1.trans s2),λq' H3 s3 hn hq'=>k q' H3 ((s1.trans s2).trans s3) (aj.free (s1.trans s2) hn) hq']
theorem rR(T:Gs P w K mg p base 0):T.gM.Ok:=by
 refine T.gM.dP ["block"] λH vs Q E hr h nD=>?_;obtain⟨b,rs,rfl,⟨dx,q,hb,hq⟩,hS,k⟩:=h;intro X;refine#[_,(ao (aE (cW zae zal zam (lS Y) (bS (v:=.str (p_ "\n")) Y T.kG #[_,Y]) (aa (aT (pv 0) Y) ah)))),?_];refine#[?_,_,Y,b,_,dx,_,_,Y,hb,T.bH,T.aS,bY,_,q,rs,Y,Y,.inr hq,?_,λz hz=>gc (hS.row z hz) (by decide),gc hS.len (by decide),k]
 ·exact Y
 ·show 1<=1;decide
theorem zh(T:Gs P w K mg p base 1):T.kW.Ok:=by
 refine T.kW.dP ["_law_script","_law_at","_law_signs_here","_law_many","_law_most","_law_rows","_law_k","_law_row","_law_j"] λH vs Q E hr h nD=>?_;obtain⟨s,t,ns,k,sg,n,m,rfl,hC,hk,hn,hm,hs0,hs1,kk⟩:=h;have hk0:=hC.k0;have Xd:sg.length<=A_:=gc hs1 (by decide);intro X;refine#[_,(ak (Z9X 5 nD (dY ah))
   (ak (bK L_ rfl (c8 rfl T.dH (aa (pv 3) ah)) (Z9Y 6 nD) (ak (Z9X 7 nD bE)
   (ak (bK L_ rfl (c8 rfl T.dH (aa (aI cT (aD T.fC hr (aa (pv 0) (aa (pv 1) ah))) (aI bZ (pv 4) aq)) ah)) (Z9Y 8 nD) (ao (Z9X 7 nD (aI bW (pv 7) (aR oq (pv 2) (aI cT (aD T.fC hr (aa (pv 0) (aa (pv 1) ah))) (av (aK) rfl T.bB aZ (aa (pv 2) ah))) (λ_ _=>rfl))))))
   (ao (bD (cW zab zag zah cK (pv 5) (aa (pv 7) ah)))))))
   (ao (aE (pv 5))))),?_]
 refine#[a_,λl hl=>?_];have nt:l≠t:=λz=>by rw[z,hC.at_]at hl;cases hl
 have w1:aj (Wo t H) (Wo t (upd H l (.lst []))):=Wo.same (aj.upd hl);have e1:upd H l (.lst []) l=some (.lst []):=ai;have t1:upd H l (.lst []) t=some (.lst [.int k]):=aj.upd hl _ _ hC.at_;generalize upd H l (.lst [])=H1 at w1 e1 t1 ⊢;refine#[_,Y,_,Y,by omega,by omega,?_];rw[qax];refine c9 (lo:=0) (n:=n) (λi σ H2=>tW λ(rs:List w_) (k1:Int) (v6 v7 v8:Option V)=>σ=[some (.ref s),some (.ref t),some (.str sg),some (.int n),some (.int m),some (.ref l),v6,v7,v8]/\rs.length=i/\(∀r∈rs,Of sg r/\r.cps.size<=m)/\aj (Wo t H) (Wo t H2)/\H2 t=some (.lst [.int k1])/\k<=k1/\k1<=k+20*(i:Int)/\H2 l=some (.lst (rs.map V.str)))
  #[[],k,_,_,_,rfl,rfl,(λr hr=>nomatch hr),w1,t1,by omega,by omega,e1] ?_ ?_
 ·rintro i σ H2 hi ⟨rs,k1,v6,v7,v8,rfl,hrs,hrr,w2,t2,Xk,YX,hl2⟩;have C2:=hC.off w2 t2 (by omega);refine#[_,Y,_,Y,s,t,ns,k1,Y,C2,by omega,λc hc _=>?_];have w3:aj (Wo t H) (Wo t (upd H2 t (.lst [.int (k1+1)]))):=by rw[Wo.set];exact w2
  have hl3:upd H2 t (.lst [.int (k1+1)]) l=some (.lst (rs.map V.str)):=by rw[ay nt];exact hl2
  have t3:upd H2 t (.lst [.int (k1+1)]) t=some (.lst [.int (k1+1)]):=ai;generalize upd H2 t (.lst [.int (k1+1)])=H3 at w3 hl3 t3 ⊢;have c0:=qap c (show((m:Int)+1)≠0 by omega);have c1:=qaf c (show(0:Int)<(m:Int)+1 by omega);refine#[_,Y,_,_,Y,Y,_,_,Y,Y,(by show(0:Int)<(m:Int)+1;omega),_,Y,by omega,by omega,?_];refine c9 (lo:=0) (n:=(c % ((m:Int)+1)).toNat) (λj σ H4=>iG λ(f:w_) (k2:Int) (v8:Option V)=>σ=[some (.ref s),some (.ref t),some (.str sg),some (.int n),some (.int m),some (.ref l),some (.int (0+(i:Int))),some (.str f),v8]/\Of sg f/\f.cps.size=j/\aj (Wo t H) (Wo t H4)/\H4 t=some (.lst [.int k2])/\k<=k2/\k2<=k1+1+(j:Int)/\H4 l=some (.lst (rs.map V.str)))
   #[_,k1+1,_,rfl,(λc hc=>by cases hc),rfl,w3,t3,by omega,by omega,hl3] ?_ ?_
  ·rintro j σ H4 hj ⟨f,k2,v8,rfl,of,lf,w4,t4,Xj,YV,sF⟩;have C4:=hC.off w4 t4 (by omega);refine#[_,Y,_,Y,_,Y,_,Y,s,t,ns,k2,Y,C4,by omega,λy hy _=>?_];have i1:=qap y (show((sg.cps.size:Nat):Int)≠0 by omega);have i2:=qaf y (show(0:Int)<((sg.cps.size:Nat):Int) by omega);obtain⟨u,hu⟩:∃u:Nat,y % ((sg.cps.size:Nat):Int)=(u:Int):=#[_,(qaS i1).symm];have Xv:u<sg.cps.toList.length:=by rw[k_];omega
   refine#[_,Y,_,_,Y,#[Xd,Y],_,_,Y,Y,(by show(0:Int)<(sg.cps.size:Int);omega),sg,_,sg.cps.toList[u],Y,Y,Xd,?_,_,_,Y,Y,?_,?_]
   ·show Ea sg.cps.toList (y % ((sg.cps.size:Nat):Int))=_;rw[hu];exact bx (d_ Xv)
   ·show f.cps.size+1<=A_;exact gc (show _<=100 by omega) (by decide)
   ·refine#[_,k2+1,_,Y,λz hz=>?_,?_,by rw[Wo.set];exact w4,ai,by omega,by omega,by rw[ay nt];exact sF]
    ·have hz':z∈f.cps.toList++[sg.cps.toList[u]]:=by rw[←Array.toList_append];exact hz
     rcases S_.mp hz' with q|q
     ·exact of z q
     ·rw[u_.mp q];exact D_ Xv
    ·show(f.cps++ #[sg.cps.toList[u]]).size=j+1;rw[Array.size_append,lf];rfl
  ·rintro σ H4 ⟨f,k2,v8,rfl,of,lf,w4,t4,Xj,YV,sF⟩;refine#[_,Y,.inl #[Y,_,bq.of sF],_,Y,l,_,_,Y,Y,sF,o_ (show(rs.map V.str).length<=100 by rw[e_];omega) (by decide),?_];refine#[rs++[f],k2,_,_,_,Y,by rw[t_,hrs];rfl,λr hr=>?_,?_,by rw[ay (Ne.symm nt)];exact t4,Xj,by omega,by rw[ai,E_];rfl]
   ·rcases S_.mp hr with q|q
    ·exact hrr r q
    ·rw[u_.mp q];exact#[of,by omega]
   ·intro b u hb
    have ZL:b≠t:=λz=>by rw[z]at hb;exact absurd hb (by unfold Wo;rw[if_pos rfl];exact λq=>nomatch q)
    have ZM:b≠l:=λz=>by have:=Wo.sub _ _ hb;rw[z,hl]at this;cases this
    exact Wo.in ZL (by rw[ay ZM];exact Wo.sub _ _ (w4 b u hb))
 ·rintro σ H2 ⟨rs,k1,v6,v7,v8,rfl,hrs,hrr,w2,t2,Xk,YX,hl2⟩;exact#[_,Y,kk l rs H2 k1 hrs hrr w2 t2 Xk (by omega) hl2 hl]
theorem zb(T:Gs P w K mg p base 12):T.gi.Ok:=by
 refine T.gi.Lk ["prices_text","rows_text","most","prices","rows","block"] λH vs Q E hr h nD=>?_;obtain⟨T1,rs,n,mx,m,rfl,hM,hm,k,e1,e2,e3⟩:=h;have Ti:=hM.n7;have hsg:=hM.tab.sig;intro X;refine#[_,(ak (Z9X 3 nD (aD T.iY hr (aa (pv 0) ah)))
   (ak (Z9X 4 nD (aD T.kT hr (aa (pv 1) ah)))
   (aX (Z9X 5 nD (aR bG (oX (T.jj.g (by decide)) (hr.mono (by decide)) rfl T.jj.m T.jj.d.fn.kp T.jj.d.b .nil (Lets.passes kN) (aa (pv 3) (aa (oX (T.gZ.g (by decide)) (hr.mono (by decide)) rfl T.gZ.m T.gZ.d.fn.kp T.gZ.d.b .nil (Lets.passes kN) (aa (pv 3) (aa (pv 4) (aa (aD T.gO hr (aa (av (aK) rfl T.bB aZ (aa (pv 4) ah)) ah)) ah)))) (aa (pv 2) ah)))) aq (λ_ _=>rfl)))
   (ao (aE (aI bW (aI bW (aD T.dF hr (aa (aD T.jP hr (aa (pv 3) (aa (pv 5) ah))) ah)) (bS (v:=.str (p_ "\n")) rfl T.kG #[_,rfl])) (aD T.gM hr (aa (pv 5) ah)))))))),?_]
 refine#[_,Y,T1.1,T1.2.1,T1.2.2.1,T1.2.2.2,Y,hM.tab,λx H1 s1 fx hP=>?_];refine#[_,Y,rs,Y,hM.tx,λl H2 s2 fl hl=>?_];have s12:=s1.trans s2;refine#[λσ' H'=>bU λb R=>σ'=[some (.str (jn (oS T1.1 T1.2.1 T1.2.2.1 T1.2.2.2))),some (.str (jn rs)),some (.int m),some (.ref x),some (.ref l),some (.ref b)]/\aj H2 H'/\kL K p.bF H' b R/\q8 T1 rs n m R/\(∀r∈rs,Of T1.1 r)/\bN T1.2.1/\0<=m,?_,?_]
 ·refine#[_,Y,_,Y,_,Y,_,Y,_,_,Y,.inl #[_,bq.of hl,Y],n,?_,by omega,λtv H3 s3 hT=>?_]
  ·rw[e_,hM.len];rfl
  refine#[x,T1,.ref l,tv,rs,n,mx,Y,hP.same (s2.trans s3),#[l,Y,.inl (bq.of (s3 _ _ hl))],hM.len,Ti,hM.bz,hM.le,hM.few,hT,λhk bb R H4 s4 ly hB=>?_,λi j hb dx H4 s4 hd=>e1 i j hb dx H4 (s12.trans (s3.trans s4)) hd];have SN:=s3.trans s4;obtain⟨hG,_⟩:=hM.gd hk ly;refine#[_,Y,x,bb,m,T1,R,Y,hP.same (s2.trans SN),hB,hG,hm,λbw m0=>#[hM.sym bw,λq b2 l2 R2 ss vs H5 s5 PY hle hno ZX hq hB2 _ _=>?_],λnb H5 s5=>e2 hk nb H5 (s12.trans (SN.trans s5)),λbw hn H5 s5=>e3 hk bw hn H5 (s12.trans (SN.trans s5))];exact#[q,_,_,_,Y,Y,bV.of hq,Y,b2,R2,Y,SN.trans s5,hB2,#[R,ss,ly,PY,hle,hno,ZX],hk,bw,m0]
 rintro σ' H3 ⟨b,R,rfl,s3,hB,hg,hk,bw,m0⟩;obtain⟨R1,ss,ly,PY,hle,hno,hG⟩:=id hg;have XX:=hP.same (s2.trans s3);have hc:=hM.tab.cost XX.pos hG.bz hG.len;refine#[_,Y,_,Y,x,b,T1,R,Y,XX,hB,hG.sm.sm,aL hG.bk,hG.kn,λq H4 s4 fq hq=>?_];refine#[q,_,Y,bV.of hq,hc,λH5 s5=>?_];have hz:(sW (cM (dh (gC T1.1 T1.2.1 T1.2.2.1 T1.2.2.2) R,aC T1.2.2.1.2 T1.2.2.2.2 T1.2.1))).length<=242:=(pY (by decide) hc).2;refine#[_,_,Y,Y,gc (qaM hz 1) (by decide),_,Y,b,R,Y,hB.same (s4.trans s5),hG.sm.sm,_,_,Y,Y,?_,k hk bw m0 R H5 (s12.trans (s3.trans (s4.trans s5))) hg];refine gc (qbE (show _<=243 from ?_) (tH.jn hG.sm.sm)) (by decide);show(_++(⟨#[10]⟩:w_)).cps.size<=243;rw[cG];exact qaM hz 1
theorem Bk(T:Gs P w K mg p base 15):T.kJ.Ok:=by
 refine T.kJ.dP ["_law_prices_text","_law_rows_text","_law_most","_law_caught","_law_answer","e"] λH vs Q E hr h nD=>?_;obtain⟨T1,rs,n,mx,m,rfl,hM,hm,k⟩:=h;intro X;refine#[_,(ak (Z9X 3 nD k9)
   (ak (Z9X 4 nD bE)
   (aX (Ib I8 (λ_ _ _ LT PO=>(ao (Z9X 4 nD (Ik (T.gi.g (by decide)) (hr.mono (by decide)) rfl T.gi.m T.gi.d.fn.kp T.gi.d.b .nil LT (aa (pv 0) (aa (pv 1) (aa (pv 2) ah))))))) (QO (i:=5) nD rfl rfl rfl T.lu T.xb_WeaveError (λea=>(ao (Z9X 3 nD (pv 5)))) Oa))
   (ak (bC (aM Dj (pv 3) k9 (by with_unfolding_all rfl)) (ao (aE (ck (aa bE (aa (pv 4) ah))))) aP)
   (ak (bC (fh (av (lC) rfl T.dN dZ (aa (pv 3) (aa (bS (v:=.ref p.bR) rfl T.sr rfl) ah)))) (ao (aE (ck (aa bE (aa (ck (aa (Ey (pv 3) rfl) (aa (Ey (pv 3) rfl) ah))) ah))))) aP)
   (ak (bC (fh (av (lC) rfl T.dN dZ (aa (pv 3) (aa (bS (v:=.ref p.bX) rfl T.n9 rfl) ah)))) (ao (aE (ck (aa bE (aa bE ah))))) aP)
   (ak (bC (fh (av (lC) rfl T.dN dZ (aa (pv 3) (aa (bS (v:=.ref p.dG) rfl T.su rfl) ah)))) (ao (aE (ck (aa bE (aa bE ah))))) aP)
   (ao (aE (ck (aa bE (aa bE ah)))))))))))),?_]
 generalize ht:jn (oS T1.1 T1.2.1 T1.2.2.1 T1.2.2.2)=t1
 let Fin:Hp->l_->Option l_->Bool->Bool->Bool->Prop:=λH' Cc od b1 b2 b3=>(b1=true/\Cc=p.bR/\iG λ(i j:Nat) (dx:l_)=>sR T1.1 rs i j/\od=some dx/\H' dx=some (xw dx (zT i j))) ∨
  (b1=false/\b2=true/\od=none/\(∀r∈rs,Of T1.1 r)/\¬bN T1.2.1)\/(b1=false/\b2=false/\b3=true/\od=none/\(∀r∈rs,Of T1.1 r)/\bN T1.2.1/\m<0)
 refine#[λσ' H'=>aj H H'/\∃v5,(∃R,σ'=[some (.str t1),some (.str (jn rs)),some (.int m),some .dX,some (.str (wZ T1 R)),v5]/\(∀r∈rs,Of T1.1 r)/\bN T1.2.1/\0<=m/\q8 T1 rs n m R) ∨
  Mm λea Cc od b1 b2 b3=>σ'=[some (.str t1),some (.str (jn rs)),some (.int m),some (.ref ea),some (.str ""),v5]/\H' ea=some (M1 ea (.ref Cc) od)/\Mn K Cc/\zad K (.ref Cc) (.ref p.bR)=some b1/\zad K (.ref Cc) (.ref p.bX)=some b2/\zad K (.ref Cc) (.ref p.dG)=some b3/\Fin H' Cc od b1 b2 b3,?_,?_]
 ·refine#[_,Y,_,Y,_,Y,T1,rs,n,mx,m,by rw[ht];rfl,hM,hm,λhk bw m0 R H' s' hg=>#[s',_,.inl #[R,Y,hk,bw,m0,hg]],λi j hb dx H2 s2 hd=>?_,λhk nb H2 s2=>?_,λhk bw hn H2 s2=>?_]
  ·exact#[_,_,Y,T.ks_NoSign_WeaveError,gU λea PX=>#[_,Y,s2.trans (aj.upd PX),_,.inr #[ea,_,_,_,_,_,Y,ai,T.xr,T.ki_NoSign_NoSign,T.ku,T.lT,.inl #[Y,Y,i,j,dx,hb,Y,aj.upd PX _ _ hd]]]]
  ·exact#[_,_,Y,T.ig,gU λea PX=>#[_,Y,s2.trans (aj.upd PX),_,.inr #[ea,_,_,_,_,_,Y,ai,T.sU,T.kB,T.jg,T.kC,.inr (.inl #[Y,Y,Y,hk,nb])]]]
  ·exact#[_,_,Y,T.jf,gU λea PX=>#[_,Y,s2.trans (aj.upd PX),_,.inr #[ea,_,_,_,_,_,Y,ai,T.xu,T.lU,T.kD,T.lV,.inr (.inr #[Y,Y,Y,Y,hk,bw,hn])]]]
 rintro σ' H1 ⟨s1,v5,⟨R,rfl,hk,bw,m0,hg⟩|⟨ea,Cc,od,b1,b2,b3,rfl,he,xt,k1,k2,k3,hF⟩⟩
 ·refine#[_,Y,Y,_,Y,gU #[_,Y,c_,λq hq=>?_]];exact k q _ (s1.trans (aj.upd hq)) (.inl #[R,hk,bw,m0,hg,ai])
 have hod:od=none\/bU λdx fs=>od=some dx/\H1 dx=some (xw dx fs):=by
  rcases hF with⟨_,_,i,j,dx,_,e,hd⟩|⟨_,_,e,_⟩|⟨_,_,_,e,_⟩
  ·exact .inr #[dx,_,e,hd]
  ·exact .inl e
  ·exact .inl e
 refine#[_,Y,Y,_,Y,eX ?_];refine#[_,Y,ea,Cc,od,_,_,_,Y,.inl #[_,Y,Y],he,hod,xt,k1,_,Y,?_];have two:2<=A_:=by decide
 rcases hF with⟨rfl,rfl,i,j,dx,hb,rfl,hd⟩|⟨rfl,rfl,rfl,hk,nb⟩|⟨rfl,rfl,rfl,rfl,hk,bw,hn⟩
 ·refine gU #[_,Y,ea,_,dx,_,_,Y,he,hd,xt,T.mP,I9,_,Y,ea,_,dx,_,_,Y,he,hd,xt,T.n_NoSign_place,DS,two,λa ha=>#[two,λq hq=>?_]];have sq:=aj.upd (o:=.tup [.str "sign",.ref a]) hq;exact k q _ (s1.trans ((aj.upd ha).trans sq)) (.inr (.inl #[i,j,a,hb,ai,sq _ _ ai]))
 ·refine eX #[_,Y,ea,Cc,none,_,_,_,Y,.inl #[_,Y,Y],he,hod,xt,k2,_,Y,gU #[two,λq hq=>?_]];exact k q _ (s1.trans (aj.upd hq)) (.inr (.inr (.inl #[hk,nb,ai])))
 ·refine eX #[_,Y,ea,Cc,none,_,_,_,Y,.inl #[_,Y,Y],he,hod,xt,k2,_,Y,eX ?_];refine#[_,Y,ea,Cc,none,_,_,_,Y,.inl #[_,Y,Y],he,hod,xt,k3,_,Y,gU #[two,λq hq=>?_]];exact k q _ (s1.trans (aj.upd hq)) (.inr (.inr (.inr #[hk,bw,hn,ai])))
theorem Bp(T:Gs P w K mg p base 11):T.mV.Ok:=by
 refine T.mV.dP ["_law_prices_here","_law_rows","_law_r"] λH vs Q E hr h nD=>?_;obtain⟨x,l,T1,R,rfl,hP,hl,hG,hno,k⟩:=h;have hlen:=hG.len;have sm:=hG.sm;have hne:=(aV.mp (aL hG.bk)).1;have hpos:=qaT.mpr hne;intro X;refine#[_,(aX (bC (aM dO (av (aK) Y T.bB aZ (aa (pv 1) ah)) aq (aW _)) (ao (aE iF)) aP)
   (aX (bK L_ rfl (c8 rfl T.dH (aa (av (aK) rfl T.bB aZ (aa (pv 1) ah)) ah)) (Z9Y 2 nD) (ao (bC (aM nX (aD T.gj hr (aa (pv 0) (aa (aT (aD T.kZ hr (aa (pv 0) (aa (lg T.jD hr T.ko (aa (pv 1) ah)) (aa (pv 2) ah)))) rfl) ah))) (aD T.gj hr (aa (pv 0) (aa (pv 1) ah))) (aW _)) (ao (aE iF)) aP)))
   (ao (aE iF)))),?_]
 refine#[λσ' H'=>1<R.length/\H'=H/\σ'=[some (.ref x),some (.ref l),none],?_,?_]
 ·refine#[_,Y,_,R.length,Y,.inl #[_,bq.of hl,by rw[e_]],Y,_,Y,mS (λ_=>k _ (aj.refl _)) λz=>#[?_,Y,Y]];have z':¬((R.length:Nat):Int)=1:=z;omega
 rintro σ' H1 ⟨h1,rfl,rfl⟩;refine#[λσ' H'=>aj H1 H'/\∃v2,σ'=[some (.ref x),some (.ref l),v2],?_,?_]
 ·refine#[_,Y,_,R.length,Y,.inl #[_,bq.of hl,by rw[e_]],_,Y,by omega,by omega,?_];rw[qax];refine c9 (lo:=0) (n:=R.length) (λi σ H2=>∃v2,σ=[some (.ref x),some (.ref l),v2]/\aj H1 H2) #[_,Y,aj.refl _] ?_ λσ H2 ⟨v2,e,s2⟩=>#[s2,_,e];rintro i σ H2 hi ⟨v2,rfl,s2⟩;have ei:(0:Int)+(i:Int)=(i:Int):=by omega
  rw[ei];have hy:=d_ hi;generalize R[i]=y at hy;refine#[_,Y,_,Y,_,Y,xQ #[l,Y,.inl (bq.of (s2 _ _ hl))] sm.sm hG.bk λo H4 g4 _ hB=>?_];have s4:=s2.trans g4;refine#[_,Y,x,o,i,T1.1,T1.2.1,T1.2.2.1,T1.2.2.2,R,y,Y,hP.same s4,hB,sm,hG.bk,hG.kn,hy,by omega,λb' H5 cs s5 _ hF Tv=>?_];have an:An T1 R i (Eb R i y cs):=#[y,cs,hy,hF,rfl];obtain⟨gd,_⟩:=An.gd hG h1 an;have gs:=gd.sm;have nb:=hno h1 i _ hi an;generalize Eb R i y cs=R' at nb gd Tv gs;have WQ:=s4.trans s5;obtain⟨Ye,q',hb',hq'⟩:=Tv;refine#[b',_,Ye,_,_,Y,hb',T.bH,T.aS,bY,x,.ref q',_,_,_,_,R',Y,hP.same WQ,#[q',Y,.inr hq'],gs.sm,aL gd.bk,gd.kn,λH6 s6=>?_];have Ux:=WQ.trans s6;refine#[_,Y,_,Y,x,.ref l,_,_,_,_,R,Y,hP.same Ux,#[l,Y,.inl (bq.of (Ux _ _ hl))],sm.sm,aL hG.bk,hG.kn,λH7 s7=>?_];refine#[_,_,Y,Y,_,Y,BE (λz=>?_) #[_,Y,Ux.trans s7]];have z':lF T1 R'<lF T1 R:=z;omega
 rintro σ' H2 ⟨s2,v2,rfl⟩;exact k _ s2
theorem Bm(T:Gs P w K mg p base 13):T.mU.Ok:=by
 refine T.mU.dP ["_law_prices_here","_law_rows","_law_most","_law_answer","_law_found","_law_block","_law_k","_law_tree","_law_first","_law_last","_law_steps"] λH vs Q E hr h nD=>?_;obtain⟨x,l,T1,rs,n,mx,m,R,rfl,hP,hl,hM,hk,bw,m0,m1,hg,k⟩:=h;obtain⟨R1,ss,ly,PY,hle,hno,hG⟩:=id hg;obtain⟨RQ,OC⟩:=hM.gd hk ly;have hst:R.map (aO 45)=rs:=(PY.gd RQ).2.trans OC;have hlen:R.length=rs.length:=by rw[←hst,e_]
 have hn:=hM.len;have Ti:=hM.n7;have sm:=hG.sm;have hc:=hM.tab.cost hP.pos hG.bz hG.len;have hz:(sW (cM (lF T1 R,aC T1.2.2.1.2 T1.2.2.2.2 T1.2.1))).length<=242:=(pY (by decide) hc).2;have Co:Txt.split (wZ T1 R) ⟨#[10]⟩=sW (cM (lF T1 R,aC T1.2.2.1.2 T1.2.2.2.2 T1.2.1))::R:=hG.txt hM.tab.sig hc;have Xo:(wZ T1 R).length<=200000:=by
  have a:=tH.jn sm.sm;show(wZ T1 R).cps.size<=200000;unfold wZ;rw[cG,cG];have a':(jn R).cps.size<=100000+100:=a;have b':(sW (cM (lF T1 R,aC T1.2.2.1.2 T1.2.2.2.2 T1.2.1))).cps.size<=242:=hz;show _+1+_<=_;omega
 generalize wZ T1 R=A at Co Xo ⊢;intro X;refine#[_,(aX (bC (jo (fh (av (kO) Y T.dN dZ (aa (pv 3) (aa (ua (v:=.ty "str") Y T.ug sN Y) ah))))) (ao (aE iF)) aP)
   (aX (Z9X 4 nD (cW zae zax zay lQ (pv 3) (aa bE ah)))
   (aX (Z9X 5 nD (eE Er (pv 4) (fO aq) gJ))
   (aX (bC (PW.pt (A0 (aM nj (av (aK) rfl T.bB aZ (aa (pv 5) ah)) (av (aK) rfl T.bB aZ (aa (pv 1) ah)) (aW _)) (uR (aM (Og (qct (jh hr))) (cI (N:=PK) rfl D0 (cQ (pv 5)) (λ_ _ _ _ _ _ _=>(pM PK 0)) (λ_ _ _ _ _ _ _=>(aD T.mW hr (aa (pv 0) ah)))) (pv 1) (aW _))))) (ao (aE iF)) aP)
   (aX (bC (aM nj (av (wX) rfl T.bB aZ (aa (cR (Gz rfl) rfl T.GY Jy (aa (cI (N:=PK) rfl D0 (cQ (pv 5)) (λ_ _ _ _ _ _ _=>(pM PK 0)) (λ_ _ _ _ _ _ _=>(av (mw (K':=K) rfl) rfl T.bB aZ (aa (pv 0) ah)))) ah)) ah)) aq (aW _)) (ao (aE iF)) aP)
   (aX (bK L_ rfl (c8 rfl T.dH (aa (av (aK) rfl T.bB aZ (aa (aR bu (pv 5) aq (λ_ _=>rfl)) ah)) ah)) (aY (i:=6) nD rfl (Or.inr rfl)) (ao (bC (fh (av (kQ rfl) rfl T.Aw Ad (aa (cI (N:=["_law_row","_law_k"]) rfl (DZ 1 [6]) (cQ (pv 5)) (λ_ _ _ _ _ _ _=>(pM ["_law_row","_law_k"] 0)) (λ_ _ _ _ _ _ _=>(iT dO (aR oq (pv 0) (pv 1) (λ_ _=>rfl)) bE (aW _)))) ah))) (ao (aE iF)) aP)))
   (aX (bC (aM nj (aR bu (pv 4) aq (λ_ _=>rfl)) (aD T.fB hr (aa (aD T.iO hr (aa (pv 0) (aa (aD T.gj hr (aa (pv 0) (aa (pv 5) ah))) ah))) ah)) (aW _)) (ao (aE iF)) aP)
   (aX (Z9X 7 nD aq)
   (aX (bK L_ rfl (rN rfl T.dH (aa aq (aa (av (aK) rfl T.bB aZ (aa (pv 1) ah)) ah))) (aY (i:=6) nD rfl (Or.inr rfl)) (ao (Z9X 7 nD (ck (aa (pv 7) (aa (pv 6) ah))))))
   (aX (Z9X 8 nD (aD T.gZ.nv hr (aa (pv 0) (aa (pv 1) (aa (pv 7) ah)))))
   (aX (bC (aM pN (aD T.gj hr (aa (pv 0) (aa (pv 5) ah))) (aD T.gj hr (aa (pv 0) (aa (aT (pv 8) rfl) ah))) (aW _)) (ao (aE iF)) aP)
   (aX (rM (aD T.jj.nv hr (aa (pv 0) (aa (pv 8) (aa (pv 2) ah)))) (kc (n:=2) rfl (bQ (Z9Y 9 nD) (bQ (Z9Y 10 nD) gK))))
   (aX (bC (aM (Di (qct (jh hr))) (cR (iV) rfl T.oR oM (aa (pv 5) ah)) (aT (pv 9) rfl) (aW _)) (ao (aE iF)) aP)
   (ao (aE (QS (iT dO (av (aK) rfl T.bB aZ (aa (pv 10) ah)) (pv 2) (aW _)) (rO (aD T.mV hr (aa (pv 0) (aa (pv 5) ah)))))))))))))))))))),?_]
 let Z:List (Option V)->St:=λr=>some (.ref x)::some (.ref l)::some (.int m)::some (.str A)::r++G_ (7-r.length) none
 refine#[λσ' H'=>H'=H/\σ'=Z [],?_,?_]
 ·exact#[_,Y,_,_,_,_,Y,.str A,vB,_,Y,jw #[Y,Y]]
 rintro σ' H ⟨rfl,rfl⟩;refine#[λσ' H'=>∃lf,aj H H'/\H' lf=some (.lst ((sW (cM (lF T1 R,aC T1.2.2.1.2 T1.2.2.2.2 T1.2.1))::R).map V.str))/\σ'=Z [some (.ref lf)],?_,?_]
 ·refine#[_,Y,Y,A,10,Y,Y,Xo,λlf RD=>#[lf,aj.upd RD,?_,Y]];rw[Co];exact ai
 rintro σ' H1 ⟨lf,s1,RD,rfl⟩;refine#[λσ' H'=>∃lb,aj H H'/\H' lf=some (.lst ((sW (cM (lF T1 R,aC T1.2.2.1.2 T1.2.2.2.2 T1.2.1))::R).map V.str))/\H' lb=some (.lst (R.map V.str))/\σ'=Z [some (.ref lf),some (.ref lb)],?_,?_]
 ·refine#[_,Y,1,Y,lf,_,Y,bq.of RD,λlb hlb=>?_];have s2:=aj.upd (o:=.lst (lA ((sW (cM (lF T1 R,aC T1.2.2.1.2 T1.2.2.2.2 T1.2.1))::R).map V.str) (some 1) none)) hlb;refine#[lb,s1.trans s2,s2 _ _ RD,?_,Y];rw[ai];exact congrArg (λz=>some (HO.lst z)) (Jj _ _)
 rintro σ' H2 ⟨lb,s2,VF,Gg,rfl⟩;clear RD s1;have hl2:=s2 _ _ hl;refine#[λσ' H'=>aj H2 H'/\σ'=Z [some (.ref lf),some (.ref lb)],?_,?_]
 ·refine#[_,Y,_,_,Y,.inl #[_,bq.of Gg,Y],_,Y,_,_,Y,.inl #[_,bq.of hl2,Y],Y,_,Y,ow (λz=>absurd (show(((R.map V.str).length:Nat):Int)=(((rs.map V.str).length:Nat):Int) by rw[e_,e_,hlen]) z) λ_=>?_];refine#[_,Y,lb,Y,#[_,bq.of Gg],λla hla=>?_];refine eL R.length (λj=>V.str (aO 45 (R.getD j ⟨#[]⟩))) hla (o_ (show R.length<=100 by omega) (by decide)) (λj H9 s9 hj=>?_) (λH9 s9=>?_) (λj z H9 m6 R' s9 hj hz hRR=>?_) λH9 s9 GN=>?_
  ·exact#[_,_,bq.of (s9 _ _ Gg),by rw[j_,d_ hj];rfl]
  ·exact#[_,bq.of (s9 _ _ Gg),by rw[e_];exact i_ _]
  ·obtain⟨rfl,hz⟩:=hz;have ez:=hz _ (bq.of (s9 _ _ Gg));rw[j_,d_ hj]at ez;cases ez;rw[br (d_ hj)]at hRR;exact#[Kp.mL,_,Y,_,Y,gc (sm.2 _ (D_ hj)) (by decide),λH' s'=>hRR _ s']
  rw[bM R λc=>V.str (aO 45 c),show R.map (λc=>V.str (aO 45 c))=rs.map V.str by rw[←hst,U_];rfl]at GN;exact#[_,Y,la,l,_,Y,Y,bq.of GN,bq.of (s9 _ _ hl2),(λz hz=>by obtain⟨a,_,rfl⟩:=z_.mp hz;exact .inl #[a,Y]),_,Y,eX #[s9,Y]]
 rintro σ' H3 ⟨s3,rfl⟩;have IP:=s3 _ _ Gg;have VE:=s3 _ _ VF;have My:=s2.trans s3;have hw:∀r∈R,r.cps.size=bz R:=(aV.mp (aL hG.bk)).2;have hne:=(aV.mp (aL hG.bk)).1;have MM:=hG.bz;refine#[λσ' H'=>aj H3 H'/\σ'=Z [some (.ref lf),some (.ref lb)],?_,?_]
 ·refine#[_,Y,lb,Y,#[_,bq.of IP],λla hla=>?_];refine eL R.length (λj=>V.int ((bz R:Nat):Int)) hla (o_ (show R.length<=100 by omega) (by decide)) (λj H9 s9 hj=>?_) (λH9 s9=>?_) (λj z H9 m6 R' s9 hj hz hRR=>?_) λH9 s9 GN=>?_
  ·exact#[_,_,bq.of (s9 _ _ IP),by rw[j_,d_ hj];rfl]
  ·exact#[_,bq.of (s9 _ _ IP),by rw[e_];exact i_ _]
  ·obtain⟨rfl,hz⟩:=hz;have ez:=hz _ (bq.of (s9 _ _ IP));rw[j_,d_ hj]at ez;cases ez;have Xr:=hw _ (D_ hj);exact#[Kp.mL,_,Y,_,bz R,Y,#[gc (show R[j].cps.size<=100 by omega) (by decide),Xr.symm],hRR _ (aj.refl _)]
  refine#[la,_,((bz R:Nat):Int),Y,bq.of GN,λy hy=>?_,(by rw[e_,X_];unfold scanBound;omega),λps hps=>?_]
  ·obtain⟨_,_,rfl⟩:=z_.mp hy;rfl
  ·refine#[ps,_,Y,ai,Y,_,Y,ow (λz=>absurd ?_ z) λ_=>#[s9.trans (aj.upd hps),Y]];have hp:=qaT.mpr hne;show((min ((H_ R.length).map λ_=>V.int ((bz R:Nat):Int)).length 1:Nat):Int)=1;rw[e_,X_];omega
 rintro σ' H4 ⟨s4,rfl⟩;have OP:=s4 _ _ IP;have VD:=s4 _ _ VE;have NZ:=My.trans s4;have hr0:R[0]? =some (R.headD ⟨#[]⟩):=by
  cases R with
  |nil=>exact absurd Y hne
  |cons r0 t=>rfl
 have Vo:=h_ hr0;have hw0:=hw _ Vo;refine#[λσ' H'=>aj H4 H'/\∃v6,σ'=Z [some (.ref lf),some (.ref lb),v6],?_,?_]
 ·refine#[_,Y,lb,_,_,.str (R.headD ⟨#[]⟩),Y,Y,bq.of OP,bx (j:=0) (by rw[j_,hr0];rfl),_,bz R,Y,#[gc (show(R.headD ⟨#[]⟩).cps.size<=100 by omega) (by decide),hw0.symm],((bz R:Nat):Int),Y,by omega,by omega,?_];rw[qax];refine c9 (lo:=0) (n:=bz R) (λi σ H2=>∃v6,σ=Z [some (.ref lf),some (.ref lb),v6]/\aj H4 H2) #[_,Y,aj.refl _] ?_ λσ H2 ⟨v2,e,s2⟩=>#[s2,_,e];rintro i σ H5 hi ⟨v6,rfl,s5⟩;rw[show(0:Int)+(i:Int)=(i:Int) by omega];have DM:=s5 _ _ OP;refine#[_,Y,lb,Y,#[_,bq.of DM],λla hla=>?_];refine eL R.length (λj=>V.bl (decide ((R.getD j ⟨#[]⟩).cps.toList.getD i 0=45))) hla (o_ (show R.length<=100 by omega) (by decide)) (λj H9 s9 hj=>?_) (λH9 s9=>?_) (λj z H9 m6 R' s9 hj hz hRR=>?_) λH9 s9 GN=>?_
  ·exact#[_,_,bq.of (s9 _ _ DM),by rw[j_,d_ hj];rfl]
  ·exact#[_,bq.of (s9 _ _ DM),by rw[e_];exact i_ _]
  ·obtain⟨rfl,hz⟩:=hz;have ez:=hz _ (bq.of (s9 _ _ DM));rw[j_,d_ hj]at ez;cases ez;rw[br (d_ hj)]at hRR;refine#[Kp.mL,?_];have Xr:=hw _ (D_ hj);have hij:i<R[j].cps.toList.length:=by rw[k_];omega
   have ec:R[j].cps.toList[i]? =some (R[j].cps.toList.getD i 0):=by rw[br (d_ hij)];exact d_ hij
   refine#[_,Y,_,Y,R[j],_,_,Y,Y,gc (show R[j].cps.size<=100 by omega) (by decide),bx ec,Y,?_];have e:=hRR _ (aj.refl _)
   rw[show decide (R[j].cps.toList.getD i 0=45)=decide (V.str ⟨#[R[j].cps.toList.getD i 0]⟩=V.str (p_ "-")) from decide_eq_decide.mpr #[λz=>by rw[z];rfl,λz=>congrArg (λv:V=>match v with| .str s=>s.cps.getD 0 0|_=>0) z]]at e
   exact e
  refine#[la,R.map λr=>decide (r.cps.toList.getD i 0=45),Y,bq.of ?_,_,Y,?_]
  ·rw[GN,bM R λr=>V.bl (decide (r.cps.toList.getD i 0=45)),U_];rfl
  have OU:(R.map λr=>decide (r.cps.toList.getD i 0=45)).all id=false:=by
   have hb:=hG.bk;unfold bI at hb;rw[N_,N_]at hb;have h3:=hb.2.2;unfold vP cols at h3;have h4:=x_.mp h3 _ (z_.mpr #[i,qam.mpr hi,rfl])
   cases e:(R.map λr=>decide (r.cps.toList.getD i 0=45)).all id with
   |false=>rfl
   |true =>
    rw[vI.mpr λr hr=>of_decide_eq_true (x_.mp e _ (z_.mpr #[r,hr,rfl]))]at h4;cases h4
  rw[OU];exact eX #[_,Y,s5.trans s9]
 rintro σ' H5 ⟨s5,v6,rfl⟩;have DM:=s5 _ _ OP;have VC:=s5 _ _ VD;have NY:=NZ.trans s5;refine#[λσ' H'=>aj H5 H'/\σ'=Z [some (.ref lf),some (.ref lb),v6],?_,?_]
 ·refine#[_,Y,lf,_,_,.str (sW (cM (lF T1 R,aC T1.2.2.1.2 T1.2.2.2.2 T1.2.1))),Y,Y,bq.of VC,bx (j:=0) Y,?_];refine#[_,Y,_,Y,_,Y,x,.ref lb,_,_,_,_,R,Y,hP.same NY,#[lb,Y,.inl (bq.of DM)],sm.sm,aL hG.bk,hG.kn,λH6 s6=>?_];refine#[x,_,_,_,_,_,Y,hP.same (NY.trans s6),λq H7 s7 hqn hq=>?_];refine#[q,_,Y,bV.of hq,hc,Y,_,Y,?_];rw[show decide (V.str (sW (cM (lF T1 R,aC T1.2.2.1.2 T1.2.2.2.2 T1.2.1)))=V.str (sW (cM (dh (gC T1.1 T1.2.1 T1.2.2.1 T1.2.2.2) R,aC T1.2.2.1.2 T1.2.2.2.2 T1.2.1))))=true from decide_eq_true rfl];exact eX #[s6.trans s7,Y]
 rintro σ' H6 ⟨s6,rfl⟩;have VH:=s6 _ _ DM;have WV:=NY.trans s6;have JT:=WV _ _ hl;refine#[λσ' H'=>H'=H6/\σ'=Z [some (.ref lf),some (.ref lb),v6,some (.int 0)],#[Y,Y],?_];rintro σ' H6 ⟨rfl,rfl⟩;refine#[λσ' H'=>bU λv6 tv=>aj H6 H'/\q9 H' n tv/\σ'=Z [some (.ref lf),some (.ref lb),v6,some tv],?_,?_]
 ·refine#[_,Y,_,n+1,Y,.inl #[_,bq.of JT,by rw[e_,hn]],_,_,Y,#[by decide,by decide,by omega,by omega],?_];refine c9 (lo:=1) (n:=(((n+1:Nat):Int)-1).toNat) (λi σ H2=>bU λv6 u=>σ=Z [some (.ref lf),some (.ref lb),v6,some u]/\aj H6 H2/\q9 H2 i u) #[_,_,Y,aj.refl _,Y] ?_ ?_
  ·rintro i σ H2 hi ⟨v6,u,rfl,s2,hu⟩;refine#[_,Y,_,Y,c_,λq hq=>#[_,_,Y,s2.trans (aj.upd hq),q,u,Y,?_,hu.same (aj.upd hq)]];rw[ai,show(1:Int)+(i:Int)=((i+1:Nat):Int) by omega]
  ·rintro σ H2 ⟨v6,u,rfl,s2,hu⟩;rw[show(((n+1:Nat):Int)-1).toNat=n by omega]at hu;exact#[_,u,s2,hu,Y]
 rintro σ' H7 ⟨v7,tv,s7,hT,rfl⟩;have WU:=WV.trans s7;refine#[λσ' H'=>∃bb,aj H7 H'/\kL K p.bF H' bb R1/\σ'=Z [some (.ref lf),some (.ref lb),v7,some tv,some (.ref bb)],?_,?_]
 ·refine#[_,Y,_,Y,_,Y,x,T1,.ref l,tv,rs,n,mx,Y,hP.same WU,#[l,Y,.inl (bq.of (s7 _ _ JT))],hn,Ti,hM.bz,hM.le,hM.few,hT,λ_ bb R' H8 s8 YS hB=>?_,λi j hb=>absurd hk hb.no];rw[YS.uniq ly]at hB;exact#[bb,s8,hB,Y]
 rintro σ' H8 ⟨bb,s8,hB,rfl⟩;have UA:=WU.trans s8;have RE:=s8 _ _ (s7 _ _ VH);have HP:=RQ.sm;refine#[λσ' H'=>aj H8 H'/\σ'=Z [some (.ref lf),some (.ref lb),v7,some tv,some (.ref bb)],?_,?_]
 ·refine#[_,Y,_,Y,x,.ref lb,_,_,_,_,R,Y,hP.same UA,#[lb,Y,.inl (bq.of RE)],sm.sm,aL hG.bk,hG.kn,λH9 s9=>?_];obtain⟨dx,q,hb,hq⟩:=hB.same s9;refine#[_,Y,_,Y,bb,_,dx,_,_,Y,hb,T.bH,T.aS,bY,x,.ref q,_,_,_,_,R1,Y,hP.same (UA.trans s9),#[q,Y,.inr hq],HP.sm,aL RQ.bk,RQ.kn,λm6 Cm=>?_];refine#[_,_,Y,Y,_,Y,BE (λz=>?_) #[s9.trans Cm,Y]];have z':lF T1 R1<lF T1 R:=z;have:=PY.le;omega
 rintro σ' H9 ⟨s9,rfl⟩;have WT:=UA.trans s9;have VG:=s9 _ _ RE;refine#[λσ' H'=>iG λb2 l2 vs=>aj H9 H'/\kL K p.bF H' b2 R/\H' l2=some (.lst vs)/\vs.length=ss.length/\σ'=Z [some (.ref lf),some (.ref lb),v7,some tv,some (.ref bb),some (.ref b2),some (.ref l2)],?_,?_]
 ·refine#[_,Y,_,Y,_,Y,x,bb,m,T1,R1,Y,hP.same WT,hB.same s9,RQ,m1,λ_ _=>#[hM.sym bw,λq b2 l2 R2 ts vs m6 a1 a2 a3 a4 a5 a6 a7 a9 Pd=>?_],λnb=>absurd bw nb,λ_ z=>absurd z (by omega)];obtain⟨rfl,rfl⟩:=nG.same (n:=m.toNat) a2 PY (by omega) (by omega) (λz=>a4 (by omega)) (λz=>hno (by omega));exact#[q,_,Y,bV.of a6,Y,_,_,Y,_,_,Y,Y,b2,l2,vs,a1,a7,a9,Pd,Y]
 rintro σ' m6 ⟨b2,l2,vs,Cm,hB2,e2,hvl,rfl⟩;have MQ:=Cm _ _ VG;refine#[λσ' H'=>aj m6 H'/\σ'=Z [some (.ref lf),some (.ref lb),v7,some tv,some (.ref bb),some (.ref b2),some (.ref l2)],?_,?_]
 ·obtain⟨dx,q,hb,hq⟩:=hB2;have fl:(R.map V.str).all mj=true:=x_.mpr λv hv=>by obtain⟨z,_,rfl⟩:=z_.mp hv;rfl
  refine#[_,Y,lb,_,Y,.inl #[bq.of MQ,λtp htp=>?_]];have Es:=aj.upd (o:=.tup (R.map V.str)) htp;refine#[_,Y,b2,_,dx,_,_,Y,Es _ _ hb,T.bH,T.aS,bY,tp,q,_,_,Y,Y,bV.of ai,aj.tup Es hq,fl,fl,_,Y,?_];rw[CA];exact eX #[Es,Y]
 rintro σ' GU ⟨Es,rfl⟩;refine#[_,Y,_,_,Y,.inl #[_,bq.of (Es _ _ e2),Y],_,Y,Y,_,Y,?_];have N3:=(WT.trans Cm).trans Es;refine mS (λ_=>k _ N3) λz=>?_;have z':¬((vs.length:Nat):Int)=m:=z;exact#[_,Y,_,Y,x,lb,T1,R,Y,hP.same N3,Es _ _ MQ,hG,hno (by omega),λJW s12=>k _ (N3.trans s12)]
theorem zk(T:Gs P w K mg p base 16):T.kY.Ok:=by
 refine T.kY.dP ["_law_script","_law_at","_law_m","_law_size","_law_signs_here","_law_prices_here","_law_many","_law_long","_law_rows","_law_most","_law_due","_law_n","_law_r","_law_k","_law_written_here","_law_told_here"] λH vs Q E hr h nD=>?_;obtain⟨s,t,ns,k,rfl,hC,hk,kk⟩:=h;have k0:=hC.k0;intro X;refine#[_,(aX (Z9X 2 nD (aD T.fC hr (aa (pv 0) (aa (pv 1) ah))))
   (aX (Z9X 3 nD (aI bZ aq (aI cT (pv 2) aq)))
   (aX (Z9X 4 nD (aD T.kX hr (aa (pv 0) (aa (pv 1) (aa (aI bZ (pv 3) aq) ah)))))
   (aX (Z9X 5 nD (aD T.jK hr (aa (pv 0) (aa (pv 1) (aa (eE rK (pv 4) gJ (fO (pv 3))) (aa (iT pN (aI cT (aI d8 (pv 2) aq) aq) aq (aW _)) ah))))))
   (aX (rM (aR bu (dY (aa (ck (aa (aI bZ aq (aI cT (aI d8 (pv 2) aq) aq)) (aa aq ah))) (aa (ck (aa (aI bZ aq (aI cT (aI d8 (pv 2) aq) aq)) (aa aq ah))) ah))) (cR (GA) rfl T.Av Ac (aa (iT dO (aI cT (aI d8 (pv 2) aq) aq) aq (aW _)) ah)) (λ_ _=>rfl)) (kc (n:=2) rfl (bQ (Z9Y 6 nD) (bQ (Z9Y 7 nD) gK))))
   (aX (Z9X 8 nD (aD T.kW hr (aa (pv 0) (aa (pv 1) (aa (eE rK (pv 4) gJ (fO (pv 3))) (aa (pv 6) (aa (pv 7) ah)))))))
   (aX (Z9X 9 nD (aR bu (dY (aa aq (aa aq (aa aq (aa aq (aa (xO rq aq) ah)))))) (aI cT (aI d8 (pv 2) aq) aq) (λ_ _=>rfl)))
   (aX (Z9X 10 nD bE)
   (aX (bC (aM nX (pv 9) aq (aW _)) (ao (Z9X 10 nD (ck (aa bE (aa bE ah))))) aP)
   (aX (bC (jo (fh (aD T.fR hr (aa (pv 5) ah)))) (ao (Z9X 10 nD (ck (aa bE (aa bE ah))))) aP)
   (aX (bC (aM dO (aI cT (aI d8 (pv 2) aq) aq) aq (aW _)) (ak (Z9X 11 nD (aD T.fC hr (aa (pv 0) (aa (pv 1) ah))))
   (aX (Z9X 12 nD (aI cT (pv 11) (pv 6)))
   (aX (Z9X 13 nD (aI cT (aI d8 (pv 11) aq) (aI bZ (av (aK) rfl T.bB aZ (aa (aR bu (pv 8) (pv 12) (λ_ _=>rfl)) ah)) aq)))
   (aX (rM (aI bW (aI bW (eE rK (aR bu (pv 8) (pv 12) (λ_ _=>rfl)) gJ (fO (pv 13))) (aR oq (pv 4) (pv 3) (λ_ _=>rfl))) (eE rK (aR bu (pv 8) (pv 12) (λ_ _=>rfl)) (fO (pv 13)) gJ)) (yO (pv 8) (pv 12) set_list))
   (ao (Z9X 10 nD (ck (aa bE (aa (ck (aa (pv 12) (aa (pv 13) ah))) ah))))))))) aP)
   (aX (Z9X 14 nD (aD T.i0 hr (aa (pv 5) ah)))
   (aX (Z9X 15 nD (aD T.kJ hr (aa (pv 14) (aa (cW zae zal zam (lS rfl) bE (aa (pv 8) ah)) (aa (pv 9) ah)))))
   (aX (bC (aM (Le (jh hr)) (pv 15) (aD T.kJ hr (aa (pv 14) (aa (cW zae zal zam (lS rfl) bE (aa (pv 8) ah)) (aa (pv 9) ah)))) (aW _)) (ao (aE iF)) aP)
   (aX (bC (aM (Ld (qct (jh hr))) (pv 10) bE (aW _)) (ao (aE (iT (Lg (jh hr)) (pv 15) (pv 10) (aW _)))) aP)
   (ao (aE (uT (iT dO (aR bG (pv 15) aq (λ_ _=>rfl)) bE (aW _)) (rO (aD T.mU hr (aa (pv 5) (aa (pv 8) (aa (pv 9) (aa (aR bG (pv 15) aq (λ_ _=>rfl)) ah)))))))))))))))))))))))),?_]
 let Z:List (Option V)->St:=λl=>some (.ref s)::some (.ref t)::l++G_ (14-l.length) none
 refine#[λσ' H'=>∃m:Int,0<=m/\aj (Wo t H) (Wo t H')/\H' t=some (.lst [.int (k+1)])/\σ'=Z [some (.int m)],?_,?_]
 ·exact#[_,Y,_,Y,s,t,ns,k,Y,hC,by omega,λm h1 h2=>#[m,h1,by rw[Wo.set];exact aj.refl _,ai,Y]]
 rintro σ' H1 ⟨m,hm,w1,ht1,rfl⟩;have C1:tX K H1 s t ns (k+1):=hC.off w1 ht1 (by omega);have m1:=qap m (show(4:Int)≠0 by decide);have m2:=qaf m (show(0:Int)<4 by decide);obtain⟨ng,hng⟩:∃ng:Nat,1+m % 4=(ng:Int):=#[(1+m % 4).toNat,by omega];refine#[λσ' H'=>H'=H1/\σ'=Z [some (.int m),some (.int (ng:Int))],?_,?_]
 ·refine#[_,Y,_,_,Y,Y,(by show(0:Int)<4;decide),_,_,Y,Y,Y,?_];rw[←hng];rfl
 rintro σ' H1 ⟨rfl,rfl⟩;refine#[λσ' H'=>∃S:w_,S.cps.size=ng+1/\(∀c∈S.cps.toList,dS c=true)/\S.cps.toList.Nodup/\aj (Wo t H) (Wo t H')/\H' t=some (.lst [.int (k+2)])/\σ'=Z [some (.int m),some (.int (ng:Int)),some (.str S)],?_,?_]
 ·refine#[_,Y,_,Y,_,Y,_,_,Y,Y,s,t,ns,k+1,ng+1,Y,C1,by omega,by omega,λS H2 hS Tp Tq s2=>?_];exact#[S,hS,Tp,Tq,w1.trans (Wo.step s2),by rw[s2 _ _ ai,show k+1+1=k+2 by omega],Y]
 rintro σ' H2 ⟨S,hS,Tp,Tq,w2,JR,rfl⟩;have C2:tX K H2 s t ns (k+2):=hC.off w2 JR (by omega);have Va:S.length<=A_:=gc (show S.cps.size<=100 by omega) (by decide);obtain⟨sg,OF⟩:∃sg,Txt.slice S none (some (ng:Int))=sg:=#[_,rfl];have hsg:sg.cps.toList=S.cps.toList.take ng:=by rw[←OF];exact uG S ng
 have hsz:sg.cps.size=ng:=by rw[←k_,hsg,W_,k_];omega
 have hjn:ng<S.cps.toList.length:=by rw[k_];omega
 have XT:mE sg:=#[by omega,by omega,λc hc=>Tp c (by rw[hsg]at hc;exact qbo hc),by rw[hsg];exact List.Nodup.sublist (List.take_sublist _ _) Tq];refine#[λσ' H'=>bU λx k3=>∃T1:rj,T1.1=sg/\Pn T1.2.1/\Tab T1.1 T1.2.1 T1.2.2.1 T1.2.2.2/\dI K p.aG (Wo t H') x T1.1 T1.2.1 T1.2.2.1 T1.2.2.2/\aj (Wo t H) (Wo t H')/\H' t=some (.lst [.int k3])/\Kb k k3 300/\σ'=Z [some (.int m),some (.int (ng:Int)),some (.str S),some (.ref x)],?_,?_]
 ·refine#[_,Y,_,Y,_,Y,_,Y,_,Y,S,Y,Va,_,Y,_,_,Y,Y,#[by decide,by decide],_,_,Y,Y,(by show(0:Int)<5;decide),_,_,Y,Y,s,t,ns,k+2,sg,_,(by rw[←OF];rfl),C2,by omega,XT,by omega,λx H' k' rows fo fm hL hT hP hxn w3 Tc b1 b2=>?_];exact#[x,k',(sg,rows,fo,fm),Y,hL,hT,hP,w2.trans w3,Tc,#[by omega,by omega],Y]
 rintro σ' H4 ⟨x,k3,T1,e1,hL,hT,hP,w4,DK,⟨B31,B32⟩,rfl⟩;have C4:tX K H4 s t ns k3:=hC.off w4 DK (by omega);refine#[λσ' H'=>bU λn ln:Nat=>0<n/\n<=8/\ln<=5/\(ln+1)*n<=40/\aj H4 H'/\σ'=Z [some (.int m),some (.int (ng:Int)),some (.str S),some (.ref x),some (.int (n:Int)),some (.int (ln:Int))],?_,?_]
 ·have two:2<=A_:=by decide
  have z0:=qap (m / 20) (show(4:Int)≠0 by decide);have z1:=qaf (m / 20) (show(0:Int)<4 by decide);obtain⟨a,ha⟩:∃a:Nat,m / 20 % 4=(a:Int):=#[(m / 20 % 4).toNat,by omega];refine#[_,Y,_,_,Y,Y,#[by decide,by decide],_,_,Y,Y,(by show(0:Int)<4;decide),_,_,Y,Y,two,λq1 hq1=>?_];refine#[_,Y,_,_,Y,Y,#[by decide,by decide],_,_,Y,Y,(by show(0:Int)<4;decide),_,_,Y,Y,two,λq2 hq2=>#[two,λl1 hl1=>?_]];have s1:=aj.upd (o:=.tup [.int (1+m / 20 % 4),.int 5]) hq1;have s2:=aj.upd (o:=.tup [.int (5+m / 20 % 4),.int 3]) hq2;have s3:=aj.upd (o:=.lst [.ref q1,.ref q2]) hl1;refine#[_,Y,_,_,Y,Y,#[by decide,by decide],_,_,Y,Y,(by show(0:Int)<4;decide),Y,.inr #[_,Y,?_]];generalize decide (V.int (m / 2000 % 4)=V.int 1)=b
  cases b with
  |false =>
   refine#[l1,_,_,.ref q1,Y,Y,bq.of ai,Y,q1,_,Y,bV.of ((s2.trans s3) _ _ ai),Y,_,_,Y,_,_,Y,Y,1+a,5,by omega,by omega,by decide,by omega,s1.trans (s2.trans s3),?_];rw[show((1+a:Nat):Int)=1+m / 20 % 4 by omega];rfl
  |true =>
   refine#[l1,_,_,.ref q2,Y,Y,bq.of ai,Y,q2,_,Y,bV.of (s3 _ _ ai),Y,_,_,Y,_,_,Y,Y,5+a,3,by omega,by omega,by decide,by omega,s1.trans (s2.trans s3),?_];rw[show((5+a:Nat):Int)=5+m / 20 % 4 by omega];rfl
 rintro σ' H5 ⟨n,ln,n0,n8,ln5,hnl,s5,rfl⟩;have T6:=Wo.same (t:=t) s5;have Vi:=s5 _ _ DK;have C5:tX K H5 s t ns k3:=hC.off (w4.trans T6) Vi (by omega);refine#[λσ' H'=>iG λ(lr:l_) (rs:List w_) (k6:Int)=>rs.length=n/\(∀r∈rs,Of sg r/\r.cps.size<=ln)/\Wo t H' lr=some (.lst (rs.map V.str))/\H4 lr=none/\aj (Wo t H4) (Wo t H')/\H' t=some (.lst [.int k6])/\Kb k k6 600/\σ'=Z [some (.int m),some (.int (ng:Int)),some (.str S),some (.ref x),some (.int (n:Int)),some (.int (ln:Int)),some (.ref lr)],?_,?_]
 ·refine#[_,Y,_,Y,_,Y,_,Y,_,Y,S,Y,Va,_,Y,_,Y,s,t,ns,k3,sg,n,ln,?_,C5,by omega,by omega,by omega,by omega,by omega,λl rs H' k' hrl hrr w6 PM b1 b2 hl MP=>?_]
  ·rw[←OF];rfl
  ·have nl:l≠t:=λz=>by rw[z,Vi]at MP;cases MP
   exact#[l,rs,k',hrl,hrr,Wo.in nl hl,aj.free s5 MP,T6.trans w6,PM,#[by omega,by omega],Y]
 rintro σ' H6 ⟨lr,rs,k6,hrl,hrr,JT,MP,w6,PM,⟨B61,B62⟩,rfl⟩;clear B31 B32 T6 Vi C5 C4 C2 C1 w1 w2 ht1 JR;have hsi:Ph T1.1 T1.2.1 (aC T1.2.2.1.2 T1.2.2.2.2 T1.2.1)↔bN T1.2.1:=Km hP hL
 let A:=λ(l:List (Option V))=>Z (some (.int m)::some (.int (ng:Int))::some (.str S)::some (.ref x)::some (.int (n:Int))::some (.int (ln:Int))::some (.ref lr)::l)
 have z0:=qap (m / 80) (show(5:Int)≠0 by decide);have z1:=qaf (m / 80) (show(0:Int)<5 by decide);refine#[λσ' H'=>∃mo:Int,mo<=4/\aj H6 H'/\σ'=A [some (.int mo)],?_,?_]
 ·refine#[_,Y,by show 5<=A_;decide,λl5 MR=>?_];obtain⟨mo,e1,e2⟩:∃mo:Int,Ea [V.int 0,.int 1,.int 3,.int 4,.int (-1)] (m / 80 % 5)=some (.int mo)/\mo<=4:=by
   obtain⟨j,hj⟩:∃j:Nat,m / 80 % 5=(j:Int):=#[(m / 80 % 5).toNat,by omega];rw[hj]
   match j,(show j<5 by omega)with
   | 0,_=>exact#[0,Y,by decide]
   | 1,_=>exact#[1,Y,by decide]
   | 2,_=>exact#[3,Y,by decide]
   | 3,_=>exact#[4,Y,by decide]
   | 4,_=>exact#[-1,Y,by decide]
  exact#[_,Y,_,_,Y,Y,#[by decide,by decide],_,_,Y,Y,(by show(0:Int)<5;decide),l5,_,_,_,Y,Y,bq.of ai,e1,mo,e2,aj.upd MR,Y]
 rintro σ' H7 ⟨mo,mo4,s7,rfl⟩;clear z0 z1;refine#[λσ' H'=>H'=H7/\σ'=A [some (.int mo),some (.str "")],#[Y,Y],?_];rintro σ' H7 ⟨rfl,rfl⟩;refine#[λσ' H'=>∃v,aj H7 H'/\((v= .str "" /\0<=mo)\/∃q,v= .ref q/\mo<0/\H' q=some (.tup [.str "most",.str ""]))/\σ'=A [some (.int mo),some v],?_,?_]
 ·refine#[_,Y,_,_,Y,Y,_,Y,cS (λz=>?_) λz=>#[_,aj.refl _,.inl #[Y,Int.not_lt.mp z],Y]];exact#[c_,λq hq=>#[_,aj.upd hq,.inr #[q,Y,z,ai],Y]]
 rintro σ' H8 ⟨v8,s8,Xu,rfl⟩;have SK:=s7.trans s8;have WI:=w6.trans (Wo.same SK);have V1:=(hP.same WI).same Wo.sub;refine#[λσ' H'=>∃v,aj H6 H'/\JL T1 mo H' v/\σ'=A [some (.int mo),some v],?_,?_]
 ·refine#[_,Y,x,T1.1,T1.2.1,T1.2.2.1,T1.2.2.2,Y,V1,V1.sig.2.1,λbb H9 s9 OV=>#[_,Y,?_]]
  cases bb with
  |false=>exact xW #[c_,λq hq=>#[_,SK.trans (s9.trans (aj.upd hq)),.inr (.inr #[q,Y,(λz=>by have:=OV.mpr (hsi.mpr z);cases this),ai]),Y]]
  |true =>
   have bw:=hsi.mp (OV.mp rfl);refine jw #[v8,SK.trans s9,?_,Y];rcases Xu with⟨rfl,m0⟩|⟨q,rfl,m0,hq⟩
   ·exact .inl #[Y,m0,bw]
   ·exact .inr (.inl #[q,Y,bw,m0,s9 _ _ hq])
 rintro σ' H9 ⟨v9,Uw,Ze,rfl⟩;clear V1 WI SK s8 Xu s7;have Xw:=Uw _ _ PM;have T5:=w6.trans (Wo.same Uw);have GN:Wo t H9 lr=some (.lst (rs.map V.str)):=Wo.same Uw _ _ JT;have Lo:lr≠t:=Wo.ne GN;have C9:tX K H9 s t ns k6:=hC.off (w4.trans T5) Xw (by omega);obtain⟨n1,rfl⟩:∃n1,n=n1+1:=#[n-1,by omega];have Xc:∀{rs':List w_},rs'.length=n1+1->(∀r∈rs',(∀c∈r.cps.toList,dS c=true)/\r.cps.size<=ln+1)->Ms T1 rs' n1 (ln+1):=λ{rs'} h1 h2 =>
  #[hT,#[(λz=>by rw[z]at h1;cases h1),λr hr=>(h2 r hr).1,by omega,λr hr=>gc (h2 r hr).2 (by omega)],h1,hnl,by omega,λr hr=>(h2 r hr).2,λbw=>Nk (hsi.mpr bw)]
 have OD:∀r∈rs,∀c∈r.cps.toList,dS c=true:=λr hr c hc=>XT.2.2.1 c ((hrr r hr).1 c hc);refine#[λσ' H'=>iG λ(rs':List w_) (v:V) (S5:Int)=>iG λv11 T8 T7:Option V=>Ms T1 rs' n1 (ln+1)/\JM T1 rs' mo H' v/\Wo t H' lr=some (.lst (rs'.map V.str))/\aj (Wo t H4) (Wo t H')/\H' t=some (.lst [.int S5])/\Kb k S5 700/\σ'=A [some (.int mo),some v,v11,T8,T7],?_,?_]
 ·refine#[_,Y,_,_,Y,Y,#[by decide,by decide],_,_,Y,Y,(by show(0:Int)<5;decide),Y,_,Y,mS (λ_=>?_) λ_=>#[rs,v9,k6,_,_,_,Xc hrl λr hr=>#[OD r hr,qcp (hrr r hr).2],.inl #[λr hr=>by rw[e1];exact(hrr r hr).1,Ze],GN,T5,Xw,#[by omega,by omega],Y]];refine#[_,Y,_,Y,s,t,ns,k6,Y,C9,by omega,λnn hnn _=>?_];have Qd:aj (Wo t H4) (Wo t (upd H9 t (.lst [.int (k6+1)]))):=by rw[Wo.set];exact T5
  have LI:upd H9 t (.lst [.int (k6+1)]) t=some (.lst [.int (k6+1)]):=ai;have wR:upd H9 t (.lst [.int (k6+1)]) lr=some (.lst (rs.map V.str)):=by rw[ay Lo];exact Wo.sub _ _ GN
  generalize upd H9 t (.lst [.int (k6+1)])=m6 at Qd LI wR ⊢;obtain⟨r,hr',OH⟩:∃r:Nat,nn % ((n1+1:Nat):Int)=(r:Int)/\r<rs.length:=by
   have e1:=qap nn (show((n1+1:Nat):Int)≠0 by omega);have e2:=qaf nn (show(0:Int)<((n1+1:Nat):Int) by omega);exact#[_,(qaS e1).symm,by omega]
  have OG:=d_ OH;obtain⟨Zn,hrw⟩:=hrr _ (D_ OH);have Vn:=OD _ (D_ OH);generalize rs[r]=row at OG Zn hrw Vn;have ML:row.length<=A_:=gc (show row.cps.size<=100 by omega) (by decide);have Ws:Ea (rs.map V.str) (r:Int)=some (.str row):=bx (by rw[j_,OG];rfl);obtain⟨kp,hkp,OS⟩:∃kp:Nat,nn / 4 % (((row.length:Nat):Int)+1)=(kp:Int)/\kp<=row.cps.size:=by
   show ∃kp:Nat,nn / 4 % (((row.cps.size:Nat):Int)+1)=(kp:Int)/\kp<=row.cps.size;have e1:=qap (nn / 4) (show((row.cps.size:Nat):Int)+1≠0 by omega);have e2:=qaf (nn / 4) (show(0:Int)<((row.cps.size:Nat):Int)+1 by omega);exact#[_,(qaS e1).symm,by omega]
  have two:2<=A_:=by decide
  refine#[λσ' H'=>H'=m6/\σ'=A [some (.int mo),some v9,some (.int nn),some (.int (r:Int))],?_,?_]
  ·refine#[_,Y,_,Y,_,_,Y,Y,(by show(0:Int)<((n1+1:Nat):Int);omega),Y,?_];rw[←hr'];rfl
  rintro σ' m6 ⟨rfl,rfl⟩;refine#[λσ' H'=>H'=m6/\σ'=A [some (.int mo),some v9,some (.int nn),some (.int (r:Int)),some (.int (kp:Int))],?_,?_]
  ·refine#[_,Y,_,_,Y,Y,#[by decide,by decide],_,Y,_,Y,lr,_,_,.str row,Y,Y,bq.of wR,Ws,_,_,Y,#[ML,Y],_,_,Y,Y,_,_,Y,Y,(by show(0:Int)<((row.cps.size:Nat):Int)+1;omega),Y,?_];rw[←hkp];rfl
  rintro σ' m6 ⟨rfl,rfl⟩;have hcc:S.cps.toList[ng]? =some S.cps.toList[ng]:=d_ hjn;have hcn:S.cps.toList[ng]∉sg.cps.toList:=λz=>by
   rw[hsg]at z;obtain⟨q,hq⟩:=qco.mp z;have EL:q<ng:=by
    have:=(m_.mp hq).1;rw[W_]at this;omega
   rw[List.getElem?_take_of_lt EL]at hq;exact absurd ((List.getElem?_inj (by omega) Tq).mp (hq.trans hcc.symm)) (by omega)
  have hcs:=Tp _ (D_ hjn);generalize S.cps.toList[ng]=cc at hcc hcn hcs;have e3:=uG row kp;have e4:=AS (x:=row) (k:=(kp:Int)) (by omega) (by omega);rw[qax]at e4;have l3:=congrArg qaR e3;have l4:=congrArg qaR e4;rw[k_,W_,k_]at l3;rw[k_,qaY,k_]at l4;have ho:((Txt.slice row none (some (kp:Int))++(⟨#[cc]⟩:w_))++Txt.slice row (some (kp:Int)) none).cps.toList=row.cps.toList.take kp++cc::row.cps.toList.drop kp:=by
   rw[cH,cH,e3,e4];simp
  refine#[λσ' H'=>∃o:w_,o.cps.toList=row.cps.toList.take kp++cc::row.cps.toList.drop kp/\H'=upd m6 lr (.lst ((rs.set r o).map V.str))/\σ'=A [some (.int mo),some v9,some (.int nn),some (.int (r:Int)),some (.int (kp:Int))],?_,?_]
  ·have ix:EH (rs.map V.str).length (r:Int)=some r:=by unfold EH;rw[if_pos (by omega),if_pos (by rw[e_];omega)];rfl
   refine#[_,Y,_,Y,lr,_,_,.str row,Y,Y,bq.of wR,Ws,_,Y,_,Y,row,Y,ML,_,Y,_,Y,S,_,cc,Y,Y,Va,bx hcc,_,_,Y,Y,?_,_,Y,_,Y,lr,_,_,.str row,Y,Y,bq.of wR,Ws,_,Y,_,Y,row,Y,ML,_,_,Y,Y,?_,_,Y,_,Y,lr,_,_,r,Y,Y,wR,ix,_,ho,?_,Y]
   ·show(Txt.slice row none (some (kp:Int))).cps.size+1<=A_;exact gc (show _<=100 by omega) (by decide)
   ·show(Txt.slice row none (some (kp:Int))++(⟨#[cc]⟩:w_)).cps.size+(Txt.slice row (some (kp:Int)) none).cps.size<=A_;rw[cG];exact gc (show(Txt.slice row none (some (kp:Int))).cps.size+1+_<=100 by omega) (by decide)
   ·rw[List.map_set]
  rintro σ' GU ⟨o,ho,rfl,rfl⟩;have ol:o.cps.size=row.cps.size+1:=by
   have:=congrArg qaR ho;rw[t_,Q_,W_,qaY,k_,k_]at this;omega
  refine#[_,Y,_,Y,two,λa ha=>#[two,λq hq=>?_]];have WJ:aj (Wo t H4) (Wo t (upd m6 lr (.lst ((rs.set r o).map V.str)))):=by
   rw[Wo.ay Lo];exact aj.at Qd (Wo.free MP)
  have Xi:upd m6 lr (.lst ((rs.set r o).map V.str)) lr=some (.lst ((rs.set r o).map V.str)):=ai;have WN:upd m6 lr (.lst ((rs.set r o).map V.str)) t=some (.lst [.int (k6+1)]):=by rw[ay (Ne.symm Lo)];exact LI
  generalize upd m6 lr (.lst ((rs.set r o).map V.str))=GU at WJ Xi WN ha hq ⊢;have sa:=aj.upd (o:=.tup [.int (r:Int),.int (kp:Int)]) ha;have sq:=aj.upd (o:=.tup [.str "sign",.ref a]) hq;have Uu:=sa.trans sq;refine#[rs.set r o,.ref q,k6+1,_,_,_,Xc (by rw[qcg];exact hrl) λz hz=>?_,.inr #[r,kp,q,a,by rw[e1];exact K8 (λq hq=>(hrr q hq).1) OG OS ho hcn,Y,ai,sq _ _ ai],Wo.in Lo (Uu _ _ Xi),WJ.trans (Wo.same Uu),Uu _ _ WN,#[by omega,by omega],Y];rcases qbH hz with hz|rfl
  ·exact#[OD z hz,qcp (hrr z hz).2]
  ·refine#[λc hc=>?_,by omega];rw[ho]at hc;rcases S_.mp hc with hc|hc
   ·exact Vn c (qbo hc)
   ·rcases B_.mp hc with rfl|hc
    ·exact hcs
    ·exact Vn c (List.mem_of_mem_drop hc)
 rintro σ' m6 ⟨rs',v10,S5,v11,T8,T7,hM,hD,wR,Qd,LI,⟨B1,B2⟩,rfl⟩;have RO:=(hP.same Qd).same Wo.sub;have hlr:=Wo.sub _ _ wR;have WH:=hM.tx
 let B:=λ(l:List (Option V))=>A (some (.int mo)::some v10::v11::T8::T7::l)
 refine#[λσ' H'=>aj m6 H'/\σ'=B [some (.str (jn (oS T1.1 T1.2.1 T1.2.2.1 T1.2.2.2)))],?_,?_]
 ·exact#[_,Y,x,T1.1,T1.2.1,T1.2.2.1,T1.2.2.2,Y,RO,hT,λH' s'=>#[s',Y]]
 rintro σ' GU ⟨Es,rfl⟩;have jz:∀z∈rs',z.length<=2000:=λz hz=>gc (WH.bz z hz) (by decide);have jl:rs'.length<=2000:=gc WH.len (by decide);have j1:(⟨#[10]⟩:w_).length<=1:=by decide
 refine#[λσ' H'=>∃q,aj m6 H'/\JG T1 rs' n1 mo H' q/\σ'=B [some (.str (jn (oS T1.1 T1.2.1 T1.2.2.1 T1.2.2.2))),some (.ref q)],?_,?_]
 ·exact#[_,Y,Y,_,Y,_,lr,rs',Y,Y,.inl (bq.of (Es _ _ hlr)),j1,jz,jl,_,Y,T1,rs',n1,ln+1,mo,Y,hM,by omega,λq JW s12 hq=>#[q,Es.trans s12,hq,Y]]
 rintro σ' JW ⟨q,s12,hq,rfl⟩;refine#[λσ' H'=>aj m6 H'/\JG T1 rs' n1 mo H' q/\σ'=B [some (.str (jn (oS T1.1 T1.2.1 T1.2.2.1 T1.2.2.2))),some (.ref q)],?_,?_]
 ·exact#[_,Y,_,Y,Y,_,Y,_,lr,rs',Y,Y,.inl (bq.of (s12 _ _ hlr)),j1,jz,jl,_,Y,T1,rs',n1,ln+1,mo,Y,hM,by omega,λq2 JV GJ hq2=>#[(hq.same GJ).sm hq2,_,Y,eX #[s12.trans GJ,hq.same GJ,Y]]]
 rintro σ' JV ⟨GJ,Vr,rfl⟩;have fin:∀H',aj m6 H'->Q (.bl true) H':=λH' s'=>kk S5 H' (w4.trans (Qd.trans (Wo.same s'))) (s' _ _ LI) (by omega) (by omega);have hd:=Vr.due (hD.same GJ);clear hq hD;rcases hd with⟨rfl,R,hk,bw,m0,hg,e⟩|⟨⟨pp,xs,rfl,hpp⟩,hs⟩
 ·refine#[λσ' H'=>H'=JV/\σ'=B [some (.str (jn (oS T1.1 T1.2.1 T1.2.2.1 T1.2.2.2))),some (.ref q)],?_,?_]
  ·refine#[_,Y,_,Y,.inl #[_,Y,_,Y,?_]];rw[decide_eq_true rfl];exact eX #[Y,Y]
  rintro σ' JV ⟨rfl,rfl⟩;refine#[_,Y,q,_,_,_,Y,Y,bV.of e,Y,Y,_,Y,?_];rw[decide_eq_true rfl];refine gU ?_;exact#[_,Y,_,Y,_,Y,_,Y,q,_,_,_,Y,Y,bV.of e,Y,x,lr,T1,rs',n1,ln+1,mo,R,Y,RO.same GJ,GJ _ _ hlr,hM,hk,bw,m0,by omega,hg,λH14 SO=>fin H14 (GJ.trans SO)]
 ·refine#[λσ' H'=>False,?_,λσ' H' z=>z.elim];refine#[_,Y,_,Y,.inr #[pp,xs,Y,bV.of hpp,_,Y,gU ?_]];exact#[_,Y,_,Y,hs,fin _ GJ]
theorem Io(T:Gs P w K mg p base 17):T.E7.Ok:=by
 refine T.E7.dP ["_law_script","_law_at","_law_k"] λH vs Q E hr h nD=>?_;obtain⟨a,ns,rfl,hS,hlen,kk⟩:=h;intro X;refine#[_,(ak (Z9X 1 nD (dY (aa aq ah)))
   (ak (bK L_ rfl (c8 rfl T.dH (aa (aI bZ aq (aI d8 (av (aK) rfl T.bB aZ (aa (eE Er (pv 0) gJ (fO aq)) ah)) aq)) ah)) (Z9Y 2 nD) (ao (bC (jo (fh (aD T.kY hr (aa (pv 0) (aa (pv 1) ah))))) (ao (aE iF)) aP)))
   (ao (aE iF)))),?_]
 refine#[b_,λt ht=>?_];have c1:tX K (upd H t (.lst [.int 0])) a t ns 0:=by
  refine#[?_,hlen,ai,by decide];rw[Wo.set];exact aj.seq (λb u e=>Wo.in (bA e ht) e) hS
 generalize upd H t (.lst [.int 0])=H1 at c1 ⊢;have hcl:=oG (ns.map V.int) none (some 60);rw[e_]at hcl;refine#[_,Y,_,Y,a,_,Y,c1.WO,λp1 hp1=>#[_,_,Y,.inl #[_,bq.of ai,Y],_,_,Y,Y,#[by decide,by decide],_,_,Y,Y,_,Y,?_,?_,?_]]
 ·omega
 ·omega
 have c2:=c1.same (aj.upd (o:=.lst (lA (ns.map V.int) none (some 60))) hp1);generalize upd H1 p1 (.lst (lA (ns.map V.int) none (some 60)))=H2 at c2 ⊢;obtain⟨n,hn⟩:∃n:Nat,(1+(((lA (ns.map V.int) none (some 60)).length:Nat):Int) / 40).toNat=n:=#[_,rfl];have hn2:n<=3:=by omega
 rw[hn];refine c9 (lo:=0) (n:=n) (λi σ' H3=>bU λ(v2:Option V) (k:Int)=>σ'=[some (.ref a),some (.ref t),v2]/\tX K H3 a t ns k/\k<=3000*(i:Int)) #[_,0,Y,c2,by omega] ?_ ?_
 ·rintro i σ' H3 hi ⟨v2,k,rfl,c3,hk⟩;have k0:=c3.k0;refine#[_,Y,_,Y,a,t,ns,k,Y,c3,by omega,λk' H4 w4 DK b1 b2=>#[_,Y,jw #[_,k',Y,c3.off w4 DK (by omega),by omega]]]
 ·rintro σ' H3 ⟨v2,k,rfl,c3,hk⟩;exact kk H3
end
theorem Qa{K:zaa}{C f:l_}(a:zaf K (.ref C) "__init__" =some (some (.ref f)))(m:DU K C f=true):Fc K C f:=G1 m
theorem Qg{K:zaa}{a:l_}{od:Option l_}{n:Nat}{sl:Array (Option n_)}{x0 x1:Int}{t0 t1:Tok}(l:K.lookup a=some #[.type "tuple",od,.seq (List.toArray [.int x0 t0,.int x1 t1]) n,sl]):∀H:Hp,bV K H a [.int x0,.int x1]:=λH=>.inr #[_,_,_,l,rfl,rfl,c_,.cons #[_,rfl] (.cons #[_,rfl] (.nil))]
theorem Qf{K:zaa}{a:l_}{od:Option l_}{n:Nat}{sl:Array (Option n_)}{x0 x1 x2:Int}{t0 t1 t2:Tok}(l:K.lookup a=some #[.type "tuple",od,.seq (List.toArray [.int x0 t0,.int x1 t1,.int x2 t2]) n,sl]):∀H:Hp,bV K H a [.int x0,.int x1,.int x2]:=λH=>.inr #[_,_,_,l,rfl,rfl,(by show 3<=A_;decide),.cons #[_,rfl] (.cons #[_,rfl] (.cons #[_,rfl] (.nil)))]
theorem DW{K:zaa}{w:qaG}{gT:l_}{Jd:Nat}{fW fV fU:l_}{AI AH AG:Tok}(u5:K.lookup gT=some { cls:=.type "dict",data:=.dict (List.toArray [#[PySem.PyData.keyHash w.params (p_ "p"),.str (p_ "p") AI,.ref fW],#[PySem.PyData.keyHash w.params (p_ "a"),.str (p_ "a") AH,.ref fV],#[PySem.PyData.keyHash w.params (p_ "b"),.str (p_ "b") AG,.ref fU]]) Jd })(u6:(gT==sysModules)=false):∀P:qal,KDict P w K gT [(.inr (p_ "p"),.ref fW),(.inr (p_ "a"),.ref fV),(.inr (p_ "b"),.ref fU)]:=λP=>KDict.mk (P:=P) (w:=w) [((p_ "p"),AI,.ref fW),((p_ "a"),AH,.ref fV),((p_ "b"),AG,.ref fU)] u5 rfl (show([(p_ "p"),(p_ "a"),(p_ "b")]:List w_).Nodup by decide +kernel) (vs:=[.ref fW,.ref fV,.ref fU]) (.cons rfl (.cons rfl (.cons rfl (.nil)))) u6
theorem all_mk{l:zbi}{w:qaG}{K:zaa}{mg:w_->Option n_}{fa:l_}{p:Pm}{h:qaE}(ZH:mg "law" =some (.ref fa))(T:∀base,Gs l.prog w K mg p base 0) :
  ∃fd:qce,(∀(s:v_) (v:n_),BindsTo s fd #[[v],[]] [("_law_script",v)])/\∀base:qaE,K.In base->base.Ns qa7 mg->nI l.prog w K mg base cZ 18 fa fd ["_law_script"] (En K):=by
 have e:fA mg "law" =fa:=by unfold fA;rw[ZH]
 have G:∀base n,Gs l.prog w K mg p base n:=λbase n=>by
  have t:=T base
  induction n using Nat.strongRecOn with
  |_ n i=>exact#[t.toTxt,t.cN.up λh=>pC (i _ h),t.oK.up λh=>F0 (i _ h),t.eS.up λh=>tM (i _ h),t.gQ.up λh=>rW (i _ h),t.jR.up λh=>wL (i _ h),t.iw.up λh=>tK (i _ h),t.jJ.up λh=>wm (i _ h),t.jV.up λh=>Ds (i _ h),t.o9.up λh=>Dp (i _ h),t.g6.up λh=>zp (i _ h),t.gG.up λh=>vf (i _ h),t.c5.up λh=>lO (i _ h),t.gw.up λh=>qJ (i _ h),t.eY.up λh=>yZ (i _ h),t.gh.up λh=>y9 (i _ h),t.iO.up λh=>Bs (i _ h),t.oA.up λh=>qc (i _ h),t.fC.up λh=>Bl (i _ h),t.kR.up λh=>yX (i _ h),t.mz.up λh=>FY (i _ h),t.dW.up λh=>wH (i _ h),t.mD.up λh=>Dr (i _ h),t.gf.up λh=>Bj (i _ h),t.jQ.up λh=>wK (i _ h),t.c6.up λh=>lP (i _ h),t.iC.up λh=>tQ (i _ h),t.gS.up λh=>r9 (i _ h),t.gg.up λh=>tL (i _ h),t.kF.up λh=>qd (i _ h),t.jD.up λh=>qK (i _ h),t.c7.up λh=>vg (i _ h),t.cC.up λh=>pD (i _ h),t.iy.up λh=>wg (i _ h),t.kU.up λh=>zd (i _ h),t.i8.up λh=>ve (i _ h),t.gH.up λh=>vh (i _ h),t.kX.up λh=>zj (i _ h),t.gY.up λh=>zl (i _ h),t.jK.up λh=>wz (i _ h),t.iB.up λh=>tP (i _ h),t.fK.up λh=>rY (i _ h),t.iW.up λh=>uX (i _ h),t.gR.up λh=>rX (i _ h),t.jS.up λh=>wM (i _ h),t.iX.up λh=>uY (i _ h),t.jL.up λh=>wC (i _ h),t.lX.up λh=>pF (i _ h),t.jO.up λh=>wG (i _ h),t.i7.up λh=>vd (i _ h),t.iA.up λh=>tN (i _ h),t.gk.up λh=>tO (i _ h),t.qW.up λh=>F1 (i _ h),t.jm.up λh=>zo (i _ h),t.Aa.up λh=>Lj (i _ h),t.qX.up λh=>Ip (i _ h),t.iz.up λh=>wu (i _ h),t.o8.up λh=>Dl (i _ h),t.dU.up λh=>p9 (i _ h),t.cY.up λh=>nY (i _ h),t.kZ.up λh=>zm (i _ h),t.mW.up λh=>Bq (i _ h),t.gr.up λh=>qH (i _ h),t.fE.up λh=>wI (i _ h),t.i6.up λh=>vc (i _ h),t.mY.up λh=>Br (i _ h),t.pq.up λh=>Dq (i _ h),t.iD.up λh=>tR (i _ h),t.jH.up λh=>we (i _ h),t.gO.up λh=>rT (i _ h),t.gZ.up λh=>Dn (i _ h),t.eN.up λh=>qG (i _ h),t.dF.up λh=>pB (i _ h),t.fB.up λh=>wB (i _ h),t.jM.up λh=>wD (i _ h),t.gP.up λh=>rV (i _ h),t.jI.up λh=>wj (i _ h),t.eO.up λh=>qI (i _ h),t.kT.up λh=>yY (i _ h),t.iY.up λh=>uZ (i _ h),t.i0.up λh=>u9 (i _ h),t.gj.up λh=>Bo (i _ h),t.iZ.up λh=>u7 (i _ h),t.iE.up λh=>tS (i _ h),t.cV.up λh=>rZ (i _ h),t.jN.up λh=>wF (i _ h),t.jj.up λh=>FZ (i _ h),t.fR.up λh=>qa (i _ h),t.jP.up λh=>wJ (i _ h),t.gM.up λh=>rR (i _ h),t.kW.up λh=>zh (i _ h),t.gi.up λh=>zb (i _ h),t.kJ.up λh=>Bk (i _ h),t.mV.up λh=>Bp (i _ h),t.mU.up λh=>Bm (i _ h),t.kY.up λh=>zk (i _ h),t.E7.up λh=>Io (i _ h)]
 refine#[fD K (fA mg "law"),λs v=>?_,λbase _ _=>by rw[←e];exact Io (G base 17)];obtain⟨_,_,_,_,_,_,_,_,_,z,_⟩:=(T h).E7.d.fn.ex;rw[z];exact .of_eq Y
theorem walk{l:zbi}{XP:(w_->Option n_)->qaE->Prop}(hn:l.most=some 63)(hdf:d.params.defaults=[])
  (hk:∀P,as=(K P).map (·.1)) (ht:∀P,yr (K P) t=true)
  (F:∀(w:qaG) (mg:w_->Option n_) (fa:l_) (h:qaE),(K w.params).In h->h.Ns qa7 mg->mg d.name=some (.ref fa) →
   ∃fd:qce,(∀(s:v_) (u:n_),BindsTo s fd #[[u],[]] [("_law_script",u)])/\∀base:qaE,(K w.params).In base->base.Ns qa7 mg->nI l.prog w (K w.params) mg base cZ 18 fa fd ["_law_script"] (En (K w.params))) :
  zbz q loose XP (PySem.W.X.obsZ as) (PySem.W.X.valZ K N t) l.row.toRowW d [] (λf vs=>PySem.call f vs) :=
 L2.G2 (n:=63) (k:=18) (x:= "_law_script") (CX:=λ_=>cZ) (sp:=λw=>En (K w.params)) hn (by decide) hdf #[rfl,by decide,by decide] hk ht F (λ_ _ a ns hl _ hS=>#[a,ns,rfl,hS,hl,λ_=>rfl]) λ_ _ _ _ _ z=>z
end Pq
structure PySem.W.Fast where
(tw3003906337870731854 tw12103367257726614396 tw3005098480223962047 tw6924845843206233113 tw18012615436652567957 tw1264561381576831172 tw5346909285725010146 tw6132513451398859378 tw15459354665208219083 tw6936105262293548403 tw17367324992432948544 tw15835805529347313109 tw1001021305725826231 tw18431419553081178067 tw15132389157690714005 tw5792950093220623437 tw2570850007288268657 tw11594420145032575599 tw3890708253181178931 tw12506110072180615485 tw7524505914725351643 tw9894617404801796550 tw6631400798267994626 tw9912008638284422094 tw3483685158436918357 tw4056991779124317513 tw13738706127257033831 tw11092196418286734124 tw10254793798167103459 tw15864099472364645305 tw12820926952747131703 tw8861446360145445519 tw11801064111406980108 tw8069615799748549255 tw14176850471747897175 tw14042180566553351118 tw5255591157025777720 tw14743744491468089759 tw7393626027937214379 tw3081173335150548734 tw6580557359316166488 tw6824871344715153575 tw10172916785800140868 tw2924065369625048949 tw8885861606406893317 tw9333208596518868028 tw4027584593006165476 tw11954324102902542827 tw7832725444584526199 tw11452886203666869249 tw10119992341127951801 tw44582895981032716 tw7629536379518981237 tw17852182739908532711 tw563213649421928799 tw7999292501329495198 tw11783590859289239495 tw4371616051528001752 tw3734315288266751882 tw9144348217028161562 tw4035940837073448450 tw598613962590500747 tw6810202677488684563 tw6749944027271391784 tw9976292602337278958 tw11612723464965677200 tw14117131629429811730 tw15337480978138588631 tw3730981872149799885 tw4873040261493721674 tw6336930558339231480 tw12967135704659417605 tw12739538011502178994 tw9420289087383315061 tw78290377078541096 tw8257792882752729073 tw17289296041099427508 tw14124678626268023046 tw7347522621681897289 tw10448753828327348378 tw3287651769575971208 tw1013458632912715181 tw12594356442695923552 tw11075017310732245717 tw16923005496818990116 tw9733691384568303134 tw6482479469015844292 tw876131003838441509 tw7769194072156904267 tw7147744031889127669 tw18400556269347272860 tw1483998166247377579 tw2212880389412197979 tw13022899910736082822 tw14934978613271702906 tw10316611141341559263 tw12412340158346951741 tw1200816915623030414 tw7323270897192608834 tw16613654481107770244 tw4401755255566334498 tw12668834543644669498 tw15738569175776814740 tw18050693580524452554 tw5534387638476769324 tw18406179278706105716 tw220650395464578603 tw1373295419595970162 tw18345507759658876938 tw2960389921205216005 tw10960794796902817113 tw9943967207176576031 tw4696050144859238030 tw7052206001148757254 tw13815128883022230732 tw10790957121537157228 tw3378882153010254374 tw17872071525116811055 tw9014749162795643919 tw4705153414176613861 tw7066746711125468229 tw15412552851680249721 tw2547653691360633408 tw12213189906178078703 tw3532756804223393282 tw79727613443868135 tw2441984068324552001 tw10244815249417597921 tw1306968030571631635 tw12324856433425776494 tw12565037555773648037 tw14352602400976021264 tw8462816625272254419 tw17430835141745132612 tw9388173465705400747 tw3845128625975726829 tw17712804232508249775 tw9074337565376865329 tw9973613408049402238 tw17947045235150397210 tw5216378392058024877 tw2532787833813271742 tw5347045293609819200 tw16605895383185545487 tw14463939308999993077 tw10792003873301038274 tw2006349309633102471 tw12653722456384475790 tw12729198150373505754 tw9720669893350227227 tw16905441114761247106 tw14350345731531133848 tw6590762987590294529 tw10181352028335292055 tw3099146635673431725 tw3369399831766255996 tw14935986870752413254 tw3687187953827335387 tw3615462960515386117 tw7553926115287407565 tw6453825693872581100 tw15321469543818019134 tw2733610639136814537 tw4797940252825622215 tw14918503046863877308 tw1576746259808570591 tw14145141946180691667 tw17093351866556839608 tw10656260897304289509 tw7604130683591480188 tw15691740263560043562 tw4734448943461643036 tw7971364273377150695 tw15319453710197607270 tw5624279442936241067 tw5907469961094950065 tw15257202233455890785 tw2768919499809235114 tw10468402042692389273 tw9537456348152541483 tw10758057380418827464 tw17068666746792614583 tw608396166483739549 tw7447413397613959911 tw9342907619180038375 tw4747507182440571792 tw5855919630852935716 tw4867244355897605585 tw15172565375033111126 tw16317728997215948586 tw3174337433691771833 tw10101755336368561665 tw13049821378970580822 tw8625135898162045216 tw879653090065539586 tw1849796193461332647 tw1874364740312683887 tw13292623749738580890 tw7035238944599960320 tw4690222486323011107 tw2667004949322074187 tw7490593662999302896 tw13666398310804084602 tw9625709953377555443 tw14993483524517090701 tw1508456311028021437 tw11915432190178303127 tw13081119165578104035 tw8886930268015749094 tw13398593953220916128 tw9884147805623764258 tw13797749934662427504 tw17677860381240828163 tw17494131746037277956 tw13724162046125334409 tw11555017542633756729 tw13069196266058589524 tw14372733408102447344 tw2550358326478084531 tw1928695923715414527 tw11882117531942738243 tw8100279226735851871 tw17314160989255148524 tw3963477964773639276 tw9630808387658040025 tw18077546421065240039 tw3133551295899440359 tw2871921858555945788 tw12489212401978522916 tw9323047590334694063 tw12615166987307939746 tw9196582181699194792 tw5976289824565820014 tw4286343789745241213 tw10816351210425368893 tw6983924184117925831 tw10752005989406532839 tw11392213077417598236 tw14780582015073967520 tw17346795918589016765 tw15629649527815044911 tw8059412375050588245 tw6496384245664552824 tw4163557991266118507 tw15582543031085651162 tw12060266480742981999 tw1587273328387452977 tw6441554323291930700 tw4826047994357336208 tw353606973651974747 tw9649266205997830521 tw5683821247963544329 tw9062756262956500705 tw8646063559206274711 tw14608425639789628373 tw17405680689695774750 tw3869514725716846366 tw5879059275193781938 tw12457668706336067983 tw12777964454732465864 tw3576538448191531993 tw15120313855008888123 tw16836018100372570720 tw2836058222730361091 tw11561848477490148229 tw17714108287573110642 tw230702639592312045 tw18248992208163502696 tw1852816001267608077 tw1176125869000706379 tw123641014695917301 tw9699948160980738610 tw3758427535603177862 tw5565766143896407299 tw2223851400805397379 tw17066898578304480571 tw14436578662873629256 tw1141484753934911915 tw13254542550956563708 tw532542520329939305 tw13398033805727062657 tw1416912330000087724 tw5623428312463707657 tw10022604172898037206 tw6424993112249217575 tw12471706935213071717 tw2535752340213720179 tw13722515424519330245 tw17210939085004031077 tw15773128443880809405 tw17651725352498450502 tw5401017746886010340 tw14082043522044499816 tw8516383845774314633 tw5890054207012120023 tw10245846243771346195 tw5877089324268186033 tw7280065245023535555 tw14749533123748917468 tw17739725805900334256 tw7306720789499722721 tw846290889206045268 tw18323145316199589451 tw1102538448623929065 tw8097086390798757814 tw806042404880525243 tw4976637215536843999 tw12182027971630981427 tw16975227238819245942 tw11661492476697347369 tw947901942494516071 tw9524734917988112260 tw11125809933484467593 tw2105362569156289812 tw16972481201242275992 tw474067865189405284 tw28652177753833198 tw5271606731515341457 tw7503396201034262124 tw3421634961604348080 tw15222316560937972293 tw13405521218557387100 tw4787375877396193508 tw16712224452948145015 tw999402700605648746 tw9660600424753873137 tw4199875520325929231 tw16485759089684326814 tw11725474353529257204 tw8183619987289721520 tw16302946125702567908 tw2020219656344229271 tw16757880627934741116 tw11420127612664137068 tw2108993475158038641 tw12210501709245663259 tw9688373093308590319 tw17372149990985500922 tw10352032998188675455 tw6092741588598414835 tw6273171592866287350 tw11206872292074720292 tw15338520278911341226 tw1706427586619985126 tw8217767706755457752 tw4427000088501130643 tw9278387435655301209 tw12716653238538899118 tw104647647896345714 tw1747247124829143904 tw15735731501615849093 tw1390650300638464835 tw2080765163075303275 tw8623902263116858217 tw431926800424943667 tw6695876882520564972 tw5936696104222973045 tw12696956067262240196 tw2213331242718658882 tw2782114193040480460 tw14820952246480274371 tw4289395669461555441 tw4336420425546010469 tw12670842867721525150 tw15159710848173890159 tw5110471659629619319 tw10002494688617449981 tw1824224191685380343 tw3043557912186593274 tw8893029864662079535 tw6094709046744571200 tw16444277960932230015 tw6533216387601515703 tw18375480181002039829 tw3884130496285600652 tw10554174867335093294 tw8998039366215186484 tw17646398567244184084 tw12401502535019453198 tw10418857938762079402 tw5988441174971400205 tw2638758175747796984 tw9361424495882894315 tw13512511100982387159 tw4346486371349792652 tw17016238461480836776 tw1430843039311145871 tw7801618055855433861 tw12141939522081017665 tw4366788534904863363 tw6185275236795861251 tw3655541374522299887 tw1881917526069870660 tw14480050042710744802 tw1257730180858627436 tw16598978941653605743 tw6190403767156231233 tw6553409212208944689 tw13489813496924124562 tw4989358421109916335 tw8402956115970988575 tw1785149791098742016 tw916221374137241592 tw6480117498065480100 tw14266368564597281392 tw655027643761618300 tw8327226750019902266 tw2858490775903743244 tw6065478569724028795 tw17098771599142072942 tw380186424779966770 tw12897576931402369080 tw4365916965054036547 tw6806563005758118511 tw12792625016163497219 tw11505826955294757440 tw7763795375581049962 tw7412403070175502230 tw17428274399273815581 tw9431724766554183930 tw1259916232701555745 tw5475888273625140640 tw3720470277799447400 tw16806124725772222479 tw2174879875932952305 tw14958355819512609676 tw4949691212388640905 tw16200593766304501824 tw2746239248878722233 tw15865818143390367259 tw3656550172994547419 tw2155958338592967677 tw15384898320755584310 tw1992964266489341183 tw3224094046715415491 tw8002327228041523455 tw5758325659610172892 tw3029596006138059925 tw13728286327790020254 tw2695914619864702901 tw95760650014633788 tw12037811408765196888 tw4657021684514374884 tw14526048481177802944 tw212947807219852899 tw17208168873567070926 tw9092800027727064817 tw4294913489907955685 tw9107009807407528647 tw13198471470658293411:True)
open PySem PySem.W PyProof.Rows
set_option maxRecDepth 100000 in
set_option maxHeartbeats 0 in
theorem PySem.Challenge.cw_gapweave_k91_whole_many_holds : PySem.Challenge.rw_gapweave_k91_whole_many.Holds := by
 w_on;o_law;z_head;(case hw=>w_witness2)
 k_fill
 refine Pq.walk (l:=PySem.Challenge.rw_gapweave_k91_whole_many) Y Y (λ_=>by kernel_rfl) (λ_=>by kernel_rfl) ?F
 case F =>
  intro w mg fa h KX G hmg
  apply Pq.all_mk (p:=#[_,_,_,_,_,_,_,_,_,_,_,_,_,_,_,_,_,_,_,_,_,_,_,_,_]) (h:=h) hmg
  intro base
  constructor
  case toTxt =>
   constructor
   case z_abs|bB|z_ord|GY|oR|As|fT|dH|dN|Av|G0|Aw|sS|Ng|GZ|uh|Au|ug=>exact mg_none_of KX G (by k_is)
   case g_FIRST_SIGN|tE|vJ|ud|pR|kG|x6|DP|kH|xZ|oE|sj|ko|qe|lu|n9|su|sr=>exact mg_of KX G (by k_is)
   case kd_STEPS=>exact Pq.DW (by k_is) (by dsimp only;decide)
   case q_NO_SIGNS=>exact Pq.Qf (by dsimp only;k_is)
   case q_STEPS0|uQ|uP=>exact Pq.Qg (by dsimp only;k_is)
   case xb_WeaveError|bh|bH|bf|sU|Ax|xu|xr=>constructor<;>(try dsimp only)<;>k_is
   case n_NoSign_place|cJ|dB|eF|gE|gm|gD|kh|ic|gA|aS|dD|cD|fj|dQ|kj|ki|gp|fH|mP=>(show zaf _ (.ref _) _=_;dsimp only;k_is)
   case xc_NoPrices|xx=>exact L2.JY (by dsimp only;k_exc)
   case xs_NoSign=>exact#[by dsimp only;k_is,by kernel_rfl,by dsimp only;k_is]
   case xw_WeaveError=>constructor<;>kernel_rfl
   case ks_NoSign_WeaveError|ig|jf=>dsimp only;k_is
   case ki_NoSign_NoSign|ku|lT|kB|jg|kC|lU|kD|lV=>dsimp only;kit_is
  all_goals first
   |refine GP.R6 KX G (by k_is) (by k_is) (by k_is) (by k_is) ?_
   |refine GP.Ju #[by dsimp only;k_is,by dsimp only;k_is,by dsimp only;k_is,by dsimp only;k_is] (by dsimp only;k_is) (by k_is) (by dsimp only;k_is) ?_
   |refine GP.Ju #[Pq.Qa (by dsimp only;k_is) (by kernel_rfl),by dsimp only;k_is,by dsimp only;k_is] (by dsimp only;k_is) (by k_is) (by dsimp only;k_is) ?_
  all_goals intro _ _ _ _ _ _ us hl;first|(obtain⟨_,rfl⟩:=GP.Rc hl;exact Y)|(obtain⟨_,_,rfl⟩:=GP.Rb hl;exact Y)|(obtain⟨_,_,_,rfl⟩:=GP.Ra hl;exact Y)|(obtain⟨_,_,_,_,rfl⟩:=GP.Q9 hl;exact Y)|(obtain⟨_,_,_,_,_,rfl⟩:=GP.Q8 hl;exact Y)|(obtain⟨_,_,_,_,_,_,rfl⟩:=GP.UY hl;exact Y)
