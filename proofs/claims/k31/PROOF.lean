import PyProof.Rows.All
import Wide.All
import OpenK.AllK
import Wide.FinOn
import Lean
import PyProof.EqAt
import PyProof.EqKinds
import PyProof.TupleCall
import PyProof.NeKinds
import PyProof.Rows.StrStrike
import PyProof.SumWalkG
import PyProof.StrCalls2
import PyProof.Rows.StrItems
import PyProof.Rows.StrJoin2
import PyProof.Truth
import PyProof.DictItems
import KE.KPairComp
import PyProof.StrCalls2
import PyProof.Rows.StrItems
import PyProof.Rows.StrJoin2
import PyProof.DictRoadsH
import PyProof.DictKeyH
import KE.KDictList
import KE.KMinKey
import KE.KLam
import KE.KNestM
import PyProof.MinMaxWalk
import PyProof.WalkInts
import KE.KRevIter
import PySem.Challenge.RW_gapweave_k31_halved
set_option Elab.async false
set_option linter.all false
set_option maxRecDepth 100000
namespace QA
open PySem
theorem am:0<=sizeLine:=by decide
theorem ar:1<=sizeLine:=by decide
theorem aw:2<=sizeLine:=by decide
theorem ax:3<=sizeLine:=by decide
end QA
open QA
open PySem renaming wpAny_bind->a0,Addr->a5,Value->a9,Shared->ba,wpAny_pure->bi,Program->bn,Str->bp,sizeLine->bt,wpAny->b_,World->df,mainGlobals->dk,FuncData->dv,Heap->eJ,starEach->eP,Around->eR,Stmt->hV,wpAny_mono->h_,wpAny_holding->iq,wpAny_seqItems->j_,wpAny_truthy_bool->kt,wpAny_tryCatch->kA,wpAny_field->lr,Obj->mi,wpAny_Call_Name_kw->mm,wpAny_callSpecial?_slot->mx,wpAny_call_entry->my,codeAny_builtin->oo,Scope->oP,wpAny_letGo->o_,wpAny_pyIter_list->pi,wpAny_newObj_type->pj,plainId_quiet->qr,wpAny_pyIter_tuple->rc,wpAny_setField->rg,wpAny_setField_rec->rp,Pos->sx,wpAny_passesOwn->sT,codeAny_mono->tz,NameKind->tI,wpAny_isInstance->ut,wpAny_getItem_str_slice->vi,wpAny_typeNameOfWhole_keyiter->vx,wpAny_call->v0,wpAny_updateSeq->wf,wpAny_loadPart_at->wx,codeAny_call_builtin->wE,Arguments->w_,wpAny_typeNameOf_keyiter->xt,wpAny_execs_nil->xv,wpAny_specialOf->xI,wpAny_Constant_int->x0,wpAny_getItem_heap->x4,wpAny_pyIter_strU->y0,ExcBaseFacts->y8,wpAny_execs_cons->zi,wpAny_forIn_list->AT,wpAny_standAt->A_,wpAny_attempt->Bz,sizeLine_eq->B2,wpAny_of_eq->Ch,IsPair->Db,Tok->Do,Model->Dx
open List renaming getElem?_eq_getElem->a6,length_map->bc,getElem?_eq_some_iff->bd,mem_cons_of_mem->ce,getD_eq_getElem?_getD->cf,length_append->cn,mem_singleton->cq,mem_cons_self->cr,mem_of_getElem?->cx,mem_cons->c_,map_append->dC,size_toArray->d_,getElem?_map->eC,length_cons->eM,mem_append_right->eQ,mem_append->e_,range->fe,replicate->fi,find?_cons->ft,take_of_length_le->fA,mem_map->gL,map_cons->g0,mem_append_left->hJ,not_mem_nil->hZ,append_nil->ib,getElem?_append_left->ik,filterMap_cons->im,length_range->i_,getElem?_append_right->js,getElem_mem->kb,mem_filter->kd,length_take->lh,length_replicate->me,filter_cons_of_pos->mB,filter_cons_of_neg->mI,append_assoc->nz,map_map->n0,getElem_of_mem->n_,lookup->on,drop_eq_getElem_cons->ot,take_append_drop->oy,mem_range->o0,filterMap->pf,nodup_nil->re,getElem?_eq_none->so,length_set->s_,foldl_cons->tf,getElem?_replicate->uj,all_eq_true->uk,lookup_cons->ul,take_length->u_,length_drop->vw,eq_nil_of_length_eq_zero->vy,mem_filterMap->vT,ne_nil_of_mem->wa,nodup_cons->wb,range_succ->wd,foldl_append->wv,flatten_cons->ww,cons_append->xa,length_pos_iff->xl,forIn_cons->xL,filter_append->x5,filterMap_nil->x_,getElem?_set->y4,nodup_append->y7,any_cons->Bi
open Nat renaming le_refl->a7,le_trans->bj,lt_of_le_of_lt->bv,lt_of_lt_of_le->dy,zero_le->d0,ne_of_lt->eA,lt_irrefl->f8,le_succ->g_,succ_le_succ->i5,le_add_right->km,le_of_lt->kz,lt_succ_self->k_,ne_of_gt->m_,mul_le_mul->va,pow_le_pow_right->wP,mul_le_mul_right->wS,sub_self->xf,add_right_comm->yn,le_succ_of_le->yA,lt_trans->yB,le_of_not_lt->z_
open PySem.Heap renaming get?_push_of_some->a8,get?_push_size->bo,lt_size->cm,get?_update_other->ip,get?_update_self->ka,get?_none_of_le->lL,size_push->l_,SameBut->mM,ExtBut->B_
open PySem.Str renaming ofString->a_,empty->zn
open Bool renaming false_ne_true->cw,false_eq_true->gN,and_eq_true->ll,not_true->q_,false_and->t_,eq_iff_iff->xz,true_and->BT
open Option.some renaming inj->dA
open Array renaming length_toList->eD,getElem?_toList->fg,getElem?_eq_getElem->sK,getElem?_eq_some_iff->wT
open PySem.PassesOwn renaming never->eI
open Option renaming map_eq_some_iff->fw,toList_none->si,isSome_iff_exists->tJ,bind_eq_some_iff->vk,map_none->wl,bind_some->AC
open Int renaming gcd->f_,emod_lt_of_pos->ii,toNat_of_nonneg->io,emod_nonneg->jp,toNat_natCast->kx,le_of_lt->md,zero_add->ml,natCast_nonneg->oC,gcd_dvd_right->px,ediv_pos_of_pos_of_dvd->r_,ofNat_le->xi,ofNat_lt->y_,gcd_dvd_left->At
open PySem.NameKind renaming free->gc,cell->wn
open PySem.Heap.SameBut renaming update->gd
open PySem.Builtin.SmallTypes renaming nextOf->ge,ownedTupleIsFree->mf
open False renaming elim->kn
open PyProof.Rows renaming callWith_type1->lv,subscriptTail_builtinR->pE,step_dedup->Ap,AllBare->C_
open PySem.Around renaming under_plainId->ma
open PySem.Obj renaming data_mapFields->mr,isFreed_of_fields->sk,mapFields->wt,mapSeq->wy
open PyProof.Rows.F renaming plain_set_update_loop->pz
open PySem.Builtin.Builtins renaming bindParams->p_
open PySem.F renaming slot_tuple_iterator_next->rf
open PySem.AutoSeq1 renaming wpAny_loadPart'->t5
open PySem.Builtin.Range renaming rangeSize->ui
open PySem.Calls renaming callWith_builtin->v_
open List.cons renaming inj->wq
open PySem.Builtin.Tuple renaming tupleHashOf->xk
open PySem.Builtin.List renaming listTooLong->xn
open Prod.mk renaming injEq->BM
namespace TK
open PySem
theorem sC{M:Dx}{Γ:Ctx}{p:sx}{t:Sem PySem.Fin}{fs:List Frame}{s s':ba}{e:End}(h:Runs M Γ p t fs s e s'):s.toks<=s'.toks:=by
 induction h with
 |fresh _ ih=>exact bj (g_ _) ih
 |call _ _ a b=>exact bj a b
 |segRet _ _ a b=>exact bj a b
 |segGen _ _ a b=>exact bj a b
 |resumeFresh _ _ _ _ a b=>exact bj a b
 |resumeSuspended _ _ _ _ a b=>exact bj a b
 |segSuspGen _ _ _ _ a b=>exact bj a b
 |_=>first|exact a7 _|assumption
theorem FP{M:Dx}{Γ:Ctx}{p:sx}{g:Nat}{r:Resume}{s s':ba}{res:GenResult}(h:Wakes M Γ p g r s res s'):s.toks<=s'.toks:=by
 unfold Wakes at h
 split at h
 ·exact h.elim
 ·split at h
  ·obtain⟨e,s1,a,_,_,rfl⟩:=h;have z:=sC a;exact z
  ·obtain⟨_,rfl⟩:=h;exact a7 _
  ·obtain⟨_,rfl⟩:=h;exact a7 _
 ·obtain⟨e,s1,a,_,_,rfl⟩:=h;have z:=sC a;exact z
 ·obtain⟨_,rfl⟩:=h;exact a7 _
 ·obtain⟨_,rfl⟩:=h;exact a7 _
theorem UZ{α:Type}{M:Dx}{Γ:Ctx}{n:Nat}(t:Sem α):∀{Q:α->sx->ba->Prop} {E:a9->sx->ba->Prop} {p:sx} {s:ba},n<=s.toks →
  Sem.wp M Γ t (λa p s'=>n<=s'.toks->Q a p s') (λe p s'=>n<=s'.toks->E e p s') p s->Sem.wp M Γ t Q E p s:=by
 induction t with
 |pure a=>intro Q E p s hn h;exact h hn
 |raise e=>intro Q E p s hn h;exact h hn
 |unsupported w=>intro Q E p s hn h;exact h
 |finish e=>intro Q E p s hn h;exact h
 |rule t k ih=>intro Q E p s hn h;exact ih () hn h
 | «at» p' k ih=>intro Q E p s hn h;exact ih () hn h
 |load a q k ih=>intro Q E p s hn h;obtain⟨o,e,h⟩:=h;exact⟨o,e,ih o hn h⟩
 |update a q f k ih=>intro Q E p s hn h;exact⟨h.1,ih () hn h.2⟩
 |alloc o k ih=>intro Q E p s hn h;exact ih _ hn h
 |loadIfAlive a k ih=>intro Q E p s hn h;exact ih _ hn h
 |point l k ih=>intro Q E p s hn h;exact ih () hn h
 |register a k ih=>intro Q E p s hn h;exact h
 |fresh k ih=>intro Q E p s hn h;exact ih _ (yA hn) h
 |ask k ih=>intro Q E p s hn h;exact ih _ hn h
 |choose src m k ih=>intro Q E p s hn h;exact⟨h.1,ih _ hn h.2⟩
 |os q l k ih=>intro Q E p s hn h;exact ih _ hn h
 |call c hd g l k ih=>intro Q E p s hn h;obtain⟨r,s1,a,h⟩:=h;exact⟨r,s1,a,ih r (bj hn (sC a)) h⟩
 |handled own k ih=>intro Q E p s hn h;exact ih _ hn h
 |newGen c k ih=>intro Q E p s hn h;exact ih _ hn h
 |genState g k ih=>intro Q E p s hn h;obtain⟨st,e,h⟩:=h;exact⟨st,e,ih _ hn h⟩
 |resume g r l k ih=>intro Q E p s hn h;obtain⟨res,s1,a,h⟩:=h;exact⟨res,s1,a,ih _ (bj hn (FP a)) h⟩
 |yield v g l k ih=>intro Q E p s hn h;exact h
 |stack k ih=>intro Q E p s hn h;exact ih _ hn h
 |fork c k ih=>intro Q E p s hn h;exact h
 |thread k ih=>intro Q E p s hn h;exact ih _ hn h
 |await a tk tm l k ih=>intro Q E p s hn h;exact h
theorem bP{α:Type}{M:Dx}{A:eR}{t:Sem α}{Q:α->ba->Prop}{E:a9->ba->Prop}{s:ba}{n:Nat}(hn:n<=s.toks)(h:b_ M A t (λa s'=>n<=s'.toks->Q a s') (λe s'=>n<=s'.toks->E e s') s):b_ M A t Q E s :=
 λΓ p hΓ=>UZ t hn (h Γ p hΓ)
theorem Ho{M:Dx}{A:eR}{c:Code}{R:Result->ba->Prop}{s:ba}{n:Nat}(hn:n<=s.toks)(h:codeAny M A c (λr s'=>n<=s'.toks->R r s') s):codeAny M A c R s:=λΓ p hc hb=>by
 obtain⟨r,s1,a,h⟩:=h Γ p hc hb
 exact⟨r,s1,a,h (bj hn (sC a))⟩
end TK
set_option Elab.async false
set_option linter.all false
set_option maxRecDepth 100000
namespace L2
open PySem PySem.Spec PyProof.Rows
section
noncomputable abbrev Key:=Sum Int bp
noncomputable def yP:Key->a9->Bool
 | .inl k,v=>Value.isInt k v
 | .inr x,v=>Value.isStrOf x v
noncomputable def aaY(w:df):Key->Int
 | .inl k=>hashInt k
 | .inr x=>hashStr w x
theorem dY:∀{k:Key} {v:a9},yP k v=true->(∃i t,k=Sum.inl i/\v=Value.int i t)\/(∃x t,k=Sum.inr x/\v=Value.str x t)
 | .inl i,v,h=>by
  obtain⟨t,e⟩:=Value.isInt_shape (k:=i) (v:=v) h
  exact .inl ⟨i,t,rfl,e⟩
 | .inr x,v,h=>by
  obtain⟨t,e⟩:=Value.isStrOf_shape (x:=x) (v:=v) h
  exact .inr ⟨x,t,rfl,e⟩
theorem Kd(i:Int)(t:Do):yP (.inl i) (.int i t)=true:=by simp[yP,Value.isInt]
theorem Kc(x:bp)(t:Do):yP (.inr x) (.str x t)=true:=by simp[yP,Value.isStrOf]
theorem TF(a b:Int):decide ((Sum.inl a:Key)=Sum.inl b)=(a==b):=by
 by_cases e:a=b
 ·subst e;simp
 ·have h:¬(Sum.inl a:Key)=Sum.inl b:=λq=>e (Sum.inl.inj q)
  rw[decide_eq_false h]
  exact(beq_eq_false_iff_ne.mpr e).symm
theorem Tv(a b:bp):decide ((Sum.inr a:Key)=Sum.inr b)=decide (a=b):=by
 by_cases e:a=b
 ·subst e;simp
 ·have h:¬(Sum.inr a:Key)=Sum.inr b:=λq=>e (Sum.inr.inj q)
  rw[decide_eq_false h,decide_eq_false e]
theorem Tz(a:Int)(b:bp):decide ((Sum.inl a:Key)=Sum.inr b)=false:=decide_eq_false (λq=>nomatch q)
theorem Tw(a:bp)(b:Int):decide ((Sum.inr a:Key)=Sum.inl b)=false:=decide_eq_false (λq=>nomatch q)
noncomputable def bH(prog:bn)(w:df):PySem.KeyKind prog w Key where
 is:=yP
 hash:=aaY w
 inj:=λv a b ha hb=>by
  rcases dY ha with⟨i,t,rfl,rfl⟩|⟨x,t,rfl,rfl⟩
  ·rcases dY hb with⟨j,u,rfl,e⟩|⟨y,u,rfl,e⟩
   ·injection e with e1 _;rw[e1]
   ·exact nomatch e
  ·rcases dY hb with⟨j,u,rfl,e⟩|⟨y,u,rfl,e⟩
   ·exact nomatch e
   ·injection e with e1 _;rw[e1]
 byValue:=λk v h=>by
  rcases dY h with⟨i,t,rfl,rfl⟩|⟨x,t,rfl,rfl⟩<;>rfl
 pyHash:=λhv h=>by
  rcases dY hv with⟨i,t,rfl,rfl⟩|⟨x,t,rfl,rfl⟩
  ·exact wpAny_pyHash_int h
  ·exact wpAny_pyHash_str h
 eqBool:=λhu hv h=>by
  rcases dY hu with⟨i,t,rfl,rfl⟩|⟨x,t,rfl,rfl⟩
  ·rcases dY hv with⟨j,u,rfl,rfl⟩|⟨y,u,rfl,rfl⟩
   ·rw[TF]at h;exact wpAny_eqBool_int h
   ·rw[Tz]at h;exact SeqAt.EqAt.int_str i t y u _ _ _ _ h
  ·rcases dY hv with⟨j,u,rfl,rfl⟩|⟨y,u,rfl,rfl⟩
   ·rw[Tw]at h;exact SeqAt.EqAt.str_int x t j u _ _ _ _ h
   ·rw[Tv]at h;exact wpAny_eqBool_str h
 «strs» :=λk x t v h=>by
  rcases dY h with⟨i,u,rfl,e⟩|⟨y,u,rfl,e⟩
  ·exact nomatch e
  ·injection e with e1 _
   subst e1
   cases v<;>rfl
theorem Er(prog:bn)(w:df)(i:Int)(t:Do):(bH prog w).is (.inl i) (.int i t)=true:=Kd i t
theorem mV(prog:bn)(w:df)(x:bp)(t:Do):(bH prog w).is (.inr x) (.str x t)=true:=Kc x t
end
section
inductive V where
 |ia|bl (b:Bool)|int (i:Int)|str (x:bp)|I9 (b:Array UInt8)|Uk (b:UInt64)|ref (a:a5)|ty (n:String)
 deriving DecidableEq
noncomputable def RelV:V->a9->Prop
 | .ia,u=>u=Value.none
 | .bl b,u=>u=Value.bool b
 | .int i,u=>∃t,u=Value.int i t
 | .str x,u=>∃t,u=Value.str x t
 | .I9 b,u=>∃t,u=Value.bytes b t
 | .Uk b,u=>∃t,u=Value.float b t
 | .ref a,u=>u=Value.ref a
 | .ty n,u=>u=Value.type n
noncomputable abbrev Vals:List V->List a9->Prop:=Paired RelV
theorem Vals.length{xs:List V}{us:List a9}(r:Vals xs us):xs.length=us.length:=Paired.length r
theorem Vals.get:∀{xs:List V} {us:List a9} {i:Nat} {x:V},Vals xs us->xs[i]? =some x->∃u,us[i]? =some u/\RelV x u
 |_,_,_,_,.nil,e=>by simp at e
 |_,_,0,_,.cons r _,e=>by simp at e;subst e;exact⟨_,rfl,r⟩
 |_,_,i+1,x,.cons _ t,e=>by
  obtain⟨u,h1,h2⟩:=Vals.get (i:=i) (x:=x) t (by simpa using e)
  exact⟨u,by simpa using h1,h2⟩
theorem Vals.set{x:V}{u:a9}(r:RelV x u):∀{xs:List V} {us:List a9} (i:Nat),Vals xs us->Vals (xs.set i x) (us.set i u)
 |_,_,_,.nil=>.nil
 |_,_,0,.cons _ t=>.cons r t
 |_,_,i+1,.cons q t=>.cons q (Vals.set r i t)
theorem Vals.append:∀{xs ys:List V} {us ws:List a9},Vals xs us->Vals ys ws->Vals (xs++ys) (us++ws)
 |_,_,_,_,.nil,s=>s
 |_,_,_,_,.cons r t,s=>.cons r (Vals.append t s)
theorem Vals.none_of:∀{xs:List V} {us:List a9} {i:Nat},Vals xs us->xs[i]? =none->us[i]? =none:=λ{xs us i} r e=>by
 have h1:=r.length
 have h2:xs.length<=i:=List.getElem?_eq_none_iff.mp e
 exact List.getElem?_eq_none_iff.mpr (by omega)
noncomputable def oG:Option V->Option a9->Prop
 |some v,some u=>RelV v u
 |none,none=>True
 |_,_=>False
noncomputable def KV{κ:Type}:List (κ×V)->List (κ×a9)->Prop:=Paired λ(p:κ×V) (q:κ×a9)=>p.1=q.1/\RelV p.2 q.2
noncomputable def kV:Key->V
 | .inl i=>.int i
 | .inr x=>.str x
inductive HO where
 |lst (xs:List V)
 |tup (xs:List V)
 |dK (kvs:List (Key×V))|dT (kvs:List (List Key×V))
 |set (S:Int->Bool) (n:Nat)
 |ins (C dx:a5) (fs:List (bp×V))
 |own (x:a5)
 |xd (fs:List (bp×V))
 |met (f x:a5)
 |X5 (lo hi:Int)
 |uR (o:mi) (u:HO)
 |Qm (ps:Array a9)
 |ext (φ:eJ->Prop)
noncomputable abbrev Hp:=a5->Option HO
noncomputable def upd(H:Hp)(a:a5)(o:HO):Hp:=λb=>if b=a then some o else H b
theorem ah{H:Hp}{a:a5}{o:HO}:upd H a o a=some o:=by unfold upd;rw[if_pos rfl]
theorem au{H:Hp}{a b:a5}{o:HO}(h:b≠a):upd H a o b=H b:=by unfold upd;rw[if_neg h]
theorem qL{H:Hp}{a b:a5}{o u:HO}(h:H a=some o)(h':H b=some u)(d:o≠u):a≠b:=by
 intro e;subst e;rw[h]at h';exact d (dA h')
theorem aN{H:Hp}{a b:a5}{o:HO}(h:H a=some o)(h':H b=none):a≠b:=by
 intro e;subst e;rw[h]at h';cases h'
section
variable(P:bn)(w:df)
noncomputable def bM(H:Hp)(h:eJ)(a:a5):HO->Prop
 | .lst xs=>xs.length<=bt/\∃(its:List a9) (n:Nat),Vals xs its/\h.get? a=some { cls:=.type "list",data:=.seq its.toArray n }
 | .tup xs=>xs.length<=bt/\∃its:List a9,Vals xs its/\IsTup h a its.toArray
 | .dK kvs=>kvs.length<=bt/\(a==sysModules)=false/\∃vs,KV kvs vs/\h.DictOf (bH P w) a vs
 | .dT kvs=>kvs.length<=bt/\(a==sysModules)=false/\∃xs:List (List Key×a5×a9),
   Paired (λ(p:List Key×V) (q:List Key×a5×a9)=>p.1=q.1/\H q.2.1=some (.tup (p.1.map kV))/\RelV p.2 q.2.2) kvs xs ∧
   ∃o es ep,h.get? a=some o/\o.ExactDict/\o.data= .dict es ep/\es.toList=xs.map (entryOfKey (tupleKind (bH P w)))/\(xs.map (·.1)).Nodup
 | .set S n=>h.SetOf (intKind P w) a S n
 | .ins C dx fs=>H dx=some (.own a)/\fs.length<=1000/\dx≠a/\h.get? a=some (PySem.W.instObj C dx) ∧
   ∃mA,h.Ns1 dx mA/\(∀f,oG (fs.lookup f) (mA f))/\PySem.Within mA (fs.map (·.1))
 | .own _=>∃o,h.get? a=some o
 | .xd fs=>∃mA,h.Ns1 a mA/\∀f,oG (fs.lookup f) (mA f)
 | .X5 lo hi=>∃t u v,h.get? a=some { cls:=.type "range",data:=.fields #[.int lo t,.int hi u,.int 1 v] }
 | .uR o u=>h.get? a=some o/\bM H h a u
 | .Qm ps=>h.get? a=some { cls:=.none,data:=.fields ps }
 | .met f x=>h.get? a=some (PySem.W.methodObj (.ref f) (.ref x))
 | .ext φ=>φ h/\(∃o,h.get? a=some o)/\∀h1 h2:eJ,φ h1->(∀o,h1.get? a=some o->h2.get? a=some o)->φ h2
noncomputable def nZ(H:Hp)(h:eJ):Prop:=∀a o,H a=some o->bM P w H h a o
end
section
variable{P:bn}{w:df}{H H':Hp}{h h':eJ}{a:a5}{o:HO}
theorem bM.lt(x:bM P w H h a o):a<h.objs.size:=by
 cases o with
 |lst xs=>obtain⟨_,_,_,_,e⟩:=x;exact cm e
 |tup xs=>obtain⟨_,_,_,p⟩:=x;exact p.lt
 |dK kvs=>obtain⟨_,_,_,_,o,_,_,e,_⟩:=x;exact cm e
 |dT kvs=>obtain⟨_,_,_,_,o,_,_,e,_⟩:=x;exact cm e
 |set S n=>obtain⟨o,_,_,_,e,_⟩:=x;exact cm e
 |ins C dx fs=>obtain⟨_,_,_,e,_⟩:=x;exact cm e
 |own y=>obtain⟨_,e⟩:=x;exact cm e
 |xd fs=>obtain⟨_,⟨_,_,_,e,_⟩,_⟩:=x;exact cm e
 |X5 lo hi=>obtain⟨_,_,_,e⟩:=x;exact cm e
 |uR ob u=>obtain⟨e,_⟩:=x;exact cm e
 |Qm ps=>exact cm (show h.get? a=some _ from x)
 |met f y=>exact cm (show h.get? a=some _ from x)
 |ext φ=>obtain⟨_,⟨_,e⟩,_⟩:=x;exact cm e
theorem Paired.g8{α β:Type}{F G:α->β->Prop}:∀{l₁:List α} {l₂:List β},Paired F l₁ l₂->(∀a b,F a b->G a b)->Paired G l₁ l₂
 |_,_,.nil,_=>.nil
 |_,_,.cons r t,f=>.cons (f _ _ r) (Paired.g8 t f)
theorem bM.stay(x:bM P w H h a o)(k:∀b u,(b=a\/H b=some (.own a))->h.get? b=some u->h'.get? b=some u)
  (ho:∀b,H b=some (.own a)->H' b=some (.own a)) (ht:∀b xs,H b=some (.tup xs)->H' b=some (.tup xs)):bM P w H' h' a o:=by
 induction o with
 |lst xs=>obtain⟨z,its,n,r,e⟩:=x;exact⟨z,its,n,r,k _ _ (.inl rfl) e⟩
 |tup xs=>obtain⟨z,its,r,ob,e,c⟩:=x;exact⟨z,its,r,ob,k _ _ (.inl rfl) e,c⟩
 |dK kvs=>obtain⟨z,y,vs,r,ob,es,ep,e,c⟩:=x;exact⟨z,y,vs,r,ob,es,ep,k _ _ (.inl rfl) e,c⟩
 |dT kvs =>
  obtain⟨z,y,xs,r,ob,es,ep,e,c⟩:=x
  exact⟨z,y,xs,Paired.g8 r λp q z=>⟨z.1,ht _ _ z.2.1,z.2.2⟩,ob,es,ep,k _ _ (.inl rfl) e,c⟩
 |set S n=>obtain⟨ob,es,ep,t,e,c⟩:=x;exact⟨ob,es,ep,t,k _ _ (.inl rfl) e,c⟩
 |ins C dx fs =>
  obtain⟨d,z,ne,e,mA,⟨od,es,ep,e2,c⟩,r⟩:=x
  exact⟨ho _ d,z,ne,k _ _ (.inl rfl) e,mA,⟨od,es,ep,k _ _ (.inr d) e2,c⟩,r⟩
 |own y=>obtain⟨ob,e⟩:=x;exact⟨ob,k _ _ (.inl rfl) e⟩
 |xd fs=>obtain⟨mA,⟨od,es,ep,e,c⟩,r⟩:=x;exact⟨mA,⟨od,es,ep,k _ _ (.inl rfl) e,c⟩,r⟩
 |X5 lo hi=>obtain⟨t,u,v,e⟩:=x;exact⟨t,u,v,k _ _ (.inl rfl) e⟩
 |uR ob u ih=>obtain⟨e,q⟩:=x;exact⟨k _ _ (.inl rfl) e,ih q⟩
 |Qm ps =>
  have e:h.get? a=some { cls:=.none,data:=.fields ps }:=x
  show h'.get? a=some { cls:=.none,data:=.fields ps }
  exact k a _ (.inl rfl) e
 |met f y =>
  have e:h.get? a=some (PySem.W.methodObj (.ref f) (.ref y)):=x
  show h'.get? a=some (PySem.W.methodObj (.ref f) (.ref y))
  exact k a _ (.inl rfl) e
 |ext φ=>obtain⟨p,⟨o,e⟩,st⟩:=x;exact⟨st _ _ p λo q=>k _ _ (.inl rfl) q,⟨o,k _ _ (.inl rfl) e⟩,st⟩
theorem nZ.lt(x:nZ P w H h)(e:H a=some o):a<h.objs.size:=(x a o e).lt
theorem nZ.fresh(x:nZ P w H h)(e:h.objs.size<=a):H a=none:=by
 cases q:H a with
 |none=>rfl
 |some u=>exact absurd (dy (x.lt q) e) (f8 _)
theorem nZ.kept(x:nZ P w H h)(k:∀b u,h.get? b=some u->h'.get? b=some u):nZ P w H h':=λa o e =>
 (x a o e).stay (λb u _ q=>k b u q) (λ_ q=>q) λ_ _ q=>q
theorem nZ.laid(x:nZ P w H h)(k:∀b u,h.get? b=some u->h'.get? b=some u)(hp:h.objs.size<=a)(new:bM P w (upd H a o) h' a o):nZ P w (upd H a o) h':=λb u e=>by
 have hn:=x.fresh hp
 by_cases hb:b=a
 ·subst hb;rw[ah]at e;cases e;exact new
 ·rw[au hb]at e
  exact(x b u e).stay (λc v _ q=>k c v q) (λc q=>by rw[au (aN q hn)];exact q) λc xs q=>by rw[au (aN q hn)];exact q
end
noncomputable def Rd(H:Hp)(a:a5)(u:HO):Prop:=H a=some u\/∃o,H a=some (.uR o u)
theorem Rd.ok{P:bn}{w:df}{H:Hp}{h:eJ}{a:a5}{u:HO}(r:Rd H a u)(x:nZ P w H h):bM P w H h a u:=by
 rcases r with r|⟨o,r⟩
 ·exact x a u r
 ·obtain⟨_,q⟩:=x a _ r
  exact q
noncomputable def Xu:Option HO->Prop
 |some (.lst _)=>True
 |some (.dK _)=>True
 |some (.dT _)=>True
 |some (.set _ _)=>True
 |some (.ins _ _ _)=>True
 |some (.ext _)=>True
 |_=>False
section
variable{P:bn}{w:df}{H:Hp}{h h':eJ}{x e:a5}{o':HO}
theorem nZ.write(ok:nZ P w H h)(mu:Xu (H x))(he:e=x\/H e=some (.own x))(k:∀b u,b≠e->h.get? b=some u->h'.get? b=some u)(UM:∃u,h'.get? e=some u)
  (new:bM P w (upd H x o') h' x o'):nZ P w (upd H x o') h':=λb u q=>by
 have VH:∀c y,H c=some (.own y)->c≠x:=λc y r z=>by subst z;rw[r]at mu;exact mu
 have aaI:∀c xs,H c=some (.tup xs)->c≠x:=λc xs r z=>by subst z;rw[r]at mu;exact mu
 by_cases hb:b=x
 ·subst hb;rw[ah]at q;cases q;exact new
 ·rw[au hb]at q
  by_cases Ni:b=e
  ·have q':H b=some (.own x):=by
    rcases he with z|z
    ·exact absurd (Ni.trans z) hb
    ·rw[Ni];exact z
   rw[q]at q';cases q'
   obtain⟨v,hv⟩:=UM
   exact⟨v,by rw[Ni];exact hv⟩
  ·refine(ok b u q).stay (λc v hc r=>k c v ?_ r) (λc r=>by rw[au (VH c b r)];exact r) λc xs r=>by rw[au (aaI c xs r)];exact r
   rcases hc with rfl|hc
   ·exact Ni
   ·rintro rfl
    rcases he with z|z
    ·exact VH c b hc z
    ·rw[hc]at z;cases z;exact hb rfl
end
structure Un(fs ex:List a5)(H H':Hp)(h h':eJ):Prop where
 keep:∀b o,h.get? b=some o->H b=none->b∉fs->b∉ex->h'.get? b=some o
 slot:∀b o,h.get? b=some o->H b=none->b∈fs->b∉ex->∃sl,h'.get? b=some { o with slots:=sl }
 free:∀b o,h.get? b=some o->H b=none->b∉ex->H' b=none
 there:∀b o,h.get? b=some o->b∉ex->∃o',h'.get? b=some o'
 tups:∀b xs,H b=some (.tup xs)->H' b=some (.tup xs)
 sQ:∀b o u,H b=some (.uR o u)->H' b=some (.uR o u)
 tL:∀b ps,H b=some (.Qm ps)->∃more,H' b=some (.Qm (ps++more))
section
variable{fs fs' ex ex':List a5}{H H1 H2:Hp}{h h1 h2 h':eJ}{a x e:a5}{o:HO}
theorem Un.any(u:Un fs ex H H1 h h1){b:a5}{ob:mi}(q:h.get? b=some ob)(n:H b=none)(hx:b∉ex):∃sl,h1.get? b=some { ob with slots:=sl }:=by
 by_cases hb:b∈fs
 ·exact u.slot b ob q n hb hx
 ·exact⟨ob.slots,u.keep b ob q n hb hx⟩
theorem Un.kept(k:∀b u,h.get? b=some u->h'.get? b=some u):Un fs ex H H h h' :=
 ⟨λb ob q _ _ _=>k b ob q,λb ob q _ _ _=>⟨ob.slots,k b ob q⟩,λ_ _ _ n _=>n,λb ob q _=>⟨ob,k b ob q⟩,λ_ _ q=>q,λ_ _ _ q=>q,λ_ ps q=>⟨#[],by rw[q];simp⟩⟩
theorem Un.refl:Un fs ex H H h h:=Un.kept λ_ _ q=>q
theorem Un.laid(k:∀b u,h.get? b=some u->h'.get? b=some u)(hp:h.objs.size<=a)(hn:H a=none):Un fs ex H (upd H a o) h h' where
 keep:=λb u q _ _ _=>k b u q
 slot:=λb u q _ _ _=>⟨u.slots,k b u q⟩
 free:=λb u q n _=>by rw[au (eA (dy (cm q) hp))];exact n
 there:=λb u q _=>⟨u,k b u q⟩
 tups:=λb xs q=>by rw[au (aN q hn)];exact q
 sQ:=λb u xs q=>by rw[au (aN q hn)];exact q
 tL:=λb ps q=>⟨#[],by rw[au (aN q hn),q];simp⟩
theorem Un.write(mu:Xu (H x))(he:e=x\/H e=some (.own x))(k:∀b u,b≠e->h.get? b=some u->h'.get? b=some u)(UM:∃u,h'.get? e=some u):Un fs ex H (upd H x o) h h':=by
 have hx:∀b,H b=none->b≠x:=λb n z=>by subst z;rw[n]at mu;exact mu
 have hb:∀b,H b=none->b≠e:=λb n z=>by
  subst z
  rcases he with r|r
  ·exact hx b n r
  ·rw[n]at r;cases r
 have hm:∀b u,H b=some u->¬Xu (some u)->b≠x:=λb u q nm z=>by subst z;rw[q]at mu;exact nm mu
 refine⟨λb u q n _ _=>k b u (hb b n) q,λb u q n _ _=>⟨u.slots,k b u (hb b n) q⟩,λb u q n _=>by rw[au (hx b n)];exact n,λb u q _=>?_,
  λb xs q=>by rw[au (hm b _ q λz=>z)];exact q,λb u xs q=>by rw[au (hm b _ q λz=>z)];exact q,λb ps q=>⟨#[],by rw[au (hm b _ q λz=>z),q];simp⟩⟩
 by_cases Ni:b=e
 ·subst Ni;exact UM
 ·exact⟨u,k b u Ni q⟩
end
noncomputable def XW(h:eJ)(H:Hp):List a5:=(fe h.objs.size).filter λa=>(H a).isSome
noncomputable def Ag(h:eJ)(H:Hp):eJ:=PySem.W.hideAll h (XW h H)
theorem Kn(h:eJ)(H:Hp):(Ag h H).objs.size=h.objs.size:=PySem.W.hideAll_size _ _
theorem Nf{h:eJ}{H:Hp}{b:a5}{o:mi}(e:h.get? b=some o)(n:H b=none):(Ag h H).get? b=some o :=
 PySem.W.hideAll_get _ e λhm=>by
  have q:(H b).isSome=true:=(kd.mp hm).2
  rw[n]at q;simp at q
theorem O2{h:eJ}{H:Hp}{b:a5}{o:mi}(e:(Ag h H).get? b=some o):h.get? b=some o/\H b=none:=by
 have e':h.get? b=some o:=PySem.W.of_hideAll (XW h H) e
 refine⟨e',?_⟩
 cases q:H b with
 |none=>rfl
 |some x =>
  have hm:b∈XW h H:=kd.mpr ⟨o0.mpr (cm e'),by simp[q]⟩
  have z:(Ag h H).get? b=none:=PySem.W.hideAll_none (XW h H) hm
  rw[z]at e;cases e
end
section
structure Mod(K:PySem.W.Frag)(mg:bp->Option a9)(base:eJ):Prop where
 QH:K.In base
 glob:base.Ns dk mg
 blt:∃mb,base.Ns builtinsNs mb/\∀x:bp,x≠ "__name__" ->mb x=bootBuiltins x
 nolimit:base.NoLimit
structure Cx where
 prog:bn
 w:df
 K:PySem.W.Frag
 mg:bp->Option a9
 base:eJ
 A:eR
 N:List bp
 s₀:ba
 H₀:Hp
 env:Env
 outer:List Env
 stack:List Env
 ex:List a5
 fn:bp->Bool
 calm:Bool
 pn:List (a5×mi)
 xe:a9->ba->Prop
noncomputable def frs(l:List Env):List a5:=l.filterMap (·.frame)
noncomputable abbrev Cx.fs(X:Cx):List a5:=frs X.outer
noncomputable def YB(sc:oP)(x:bp):Prop:=sc.names.lookup x=some .local\/sc.names.lookup x=some .cell\/sc.names.lookup x=some .free
noncomputable def Loc(sc:oP)(x:bp):Prop:=sc.names.lookup x=some .local\/sc.names.lookup x=some .cell
noncomputable def Look(env:Env)(h:eJ)(m:bp->Option a9)(x:bp)(u:a9):Prop :=
 (env.kindOf x=some .local/\m x=some u)\/((env.kindOf x=some .cell\/env.kindOf x=some .free)/\∃c,env.cells.lookup x=some c/\h.IsCell c (some u))
noncomputable def Hw(mg:bp->Option a9)(n:Nat):Prop:=∀v u,mg "GAP" =some (.str v u)->u<n/\u≠0
theorem Hw.mono{mg:bp->Option a9}{n m:Nat}(h:Hw mg n)(l:n<=m):Hw mg m:=λv u e=>⟨dy (h v u e).1 l,(h v u e).2⟩
structure Cx.Ok(X:Cx):Prop where
 mod:Mod X.K X.mg X.base
 kind:X.env.scope.kind= .function
 glob:X.env.globals=dk
 blt:X.env.builtins=builtinsNs
 above:X.s₀.heap.objs.size<=X.env.locals
 inj:∀x y c,X.env.cells.lookup x=some c->X.env.cells.lookup y=some c->x=y
 has:∀x,(X.env.kindOf x=some .cell\/X.env.kindOf x=some .free)->∃c,X.env.cells.lookup x=some c
 P9:∀x c,X.fn x=true->X.env.cells.lookup x=some c->X.s₀.heap.objs.size<=c
 hd:X.calm=true->X.A.handled=none
 frames:X.A.frames=some X.stack
 stk:X.stack=X.outer\/(X.stack=X.env::X.outer/\X.env.frame=some X.env.locals)
 Yy:∀b∈X.ex,b≠X.env.locals/\∀x c,X.env.cells.lookup x=some c->c≠b
 bs:∀b o,X.base.get? b=some o->X.s₀.heap.get? b=some o/\X.H₀ b=none
 NO:X.base.objs.size<=X.s₀.heap.objs.size
 GI:∀b o,X.base.get? b=some o->b∉X.ex
 Kw:∀b∈X.ex,b∉X.fs
 tZ:X.s₀.heap.FunFrames X.base X.outer
 PU:∀b∈X.fs,X.H₀ b=none
 tk:Hw X.mg X.s₀.toks
structure Inv(X:Cx)(pins:List (a5×mi))(σ:List (Option V))(H:Hp)(s:ba):Prop where
 ok:X.Ok
 os:s.os=X.s₀.os
 bare:C_ s.gens
 base:Un X.fs X.ex X.H₀ H X.s₀.heap s.heap
 loc:∃m,s.heap.Ns X.env.locals m/\∀(i:Nat) (x:bp) (v:V),X.N[i]? =some x->σ[i]? =some (some v)->YB X.env.scope x->∃u,RelV v u/\Look X.env s.heap m x u
 cell:∀x c,X.env.cells.lookup x=some c->∃v,s.heap.IsCell c v
 free:H X.env.locals=none
 j4:∀x c,X.env.cells.lookup x=some c->H c=none
 pin:∀p∈X.pn++pins,s.heap.get? p.1=some p.2/\H p.1=none/\p.1≠X.env.locals/\p.1∉X.fs/\∀v,p.2.data≠ .cell v
 hok:nZ X.prog X.w H s.heap
 len:σ.length=X.N.length
 up:X.s₀.toks<=s.toks
section
variable{X:Cx}{pins:List (a5×mi)}{σ:List (Option V)}{H H':Hp}{s:ba}{h':eJ}
theorem Cx.Ok.aaK(ok:X.Ok){b:a5}{o:mi}(e:X.base.get? b=some o):b∉X.fs:=λhb=>by
 have:=(ok.tZ.mem hb).1
 rw[e]at this;cases this
theorem Inv.tk(I:Inv X pins σ H s):Hw X.mg s.toks:=I.ok.tk.mono I.up
theorem Inv.bs(I:Inv X pins σ H s):∀b o,X.base.get? b=some o->s.heap.get? b=some o/\H b=none:=λb o e =>
 ⟨I.base.keep b o (I.ok.bs b o e).1 (I.ok.bs b o e).2 (I.ok.aaK e) (I.ok.GI b o e),I.base.free b o (I.ok.bs b o e).1 (I.ok.bs b o e).2 (I.ok.GI b o e)⟩
theorem Inv.bk(I:Inv X pins σ H s):∀b o,X.base.get? b=some o->s.heap.get? b=some o:=λb o e=>(I.bs b o e).1
theorem Inv.mod(I:Inv X pins σ H s):Mod X.K X.mg X.base:=I.ok.mod
theorem Inv.qv(I:Inv X pins σ H s):X.K.In s.heap:=I.ok.mod.QH.keeps I.bk
theorem Inv.nolimit(I:Inv X pins σ H s):s.heap.NoLimit:=I.ok.mod.nolimit.keeps I.bk
theorem Inv.lt(I:Inv X pins σ H s):X.env.locals<s.heap.objs.size:=let ⟨_,hn,_⟩:=I.loc;hn.lt
theorem Inv.sz(I:Inv X pins σ H s):X.s₀.heap.objs.size<=s.heap.objs.size:=bj I.ok.above (kz I.lt)
theorem Inv.aaJ(I:Inv X pins σ H s){a:a5}(h:s.heap.objs.size<=a):a∉X.fs:=λhb=>by
 obtain⟨_,o,ho,_⟩:=I.ok.tZ.mem hb
 exact absurd (dy (cm ho) (bj I.sz h)) (f8 _)
theorem Inv.Q7(I:Inv X pins σ H s):∀x c,X.env.cells.lookup x=some c->c≠X.env.locals:=λx c e z=>by
 obtain⟨v,o,ho,hd⟩:=I.cell x c e
 obtain⟨m,⟨o',es,ep,ho',hd',_⟩,_⟩:=I.loc
 rw[z,ho']at ho;cases ho;rw[hd']at hd;cases hd
theorem Inv.tZ(I:Inv X pins σ H s):s.heap.FunFrames X.base X.outer:=by
 have all:∀(l:List Env),(∀b∈frs l,b∈X.fs)->X.s₀.heap.FunFrames X.base l->s.heap.FunFrames X.base l:=by
  intro l
  induction l with
  |nil=>intro _ _;trivial
  |cons env r ih =>
   intro hs hl
   obtain⟨hk,⟨L,o,hf,hn,ho,hd⟩,hr⟩:=hl
   have hL:L∈X.fs:=hs L (by unfold frs;rw[im,hf];exact cr)
   obtain⟨sl,e⟩:=I.base.slot L o ho (I.ok.PU L hL) hL λz=>I.ok.Kw L z hL
   exact⟨hk,⟨L,_,hf,hn,e,hd⟩,ih (λb hb=>hs b (by unfold frs;rw[im,hf];exact ce _ hb)) hr⟩
 exact all X.outer (λ_ hb=>hb) I.ok.tZ
theorem Inv.stack(I:Inv X pins σ H s):s.heap.FunFrames X.base X.stack:=by
 rcases I.ok.stk with e|⟨e,hf⟩
 ·rw[e];exact I.tZ
 ·rw[e]
  obtain⟨m,hn,_⟩:=I.loc
  refine .cons (by rw[I.ok.kind];decide) hf hn ?_ I.tZ
  exact lL (bj I.ok.NO I.ok.above)
theorem Inv.vC(I:Inv X pins σ H s):∀b∈frs X.stack,b∈X.env.locals::X.fs:=λb hb=>by
 rcases I.ok.stk with e|⟨e,hf⟩
 ·rw[e]at hb;exact ce _ hb
 ·rw[e]at hb
  unfold frs at hb
  rw[im,hf]at hb
  exact hb
theorem Inv.BH(I:Inv X pins σ H s):∀b∈frs X.stack,H b=none:=λb hb=>by
 rcases c_.mp (I.vC b hb)with e|hb
 ·rw[e];exact I.free
 ·obtain⟨_,o,ho,_⟩:=I.ok.tZ.mem hb
  exact I.base.free b o ho (I.ok.PU b hb) λz=>I.ok.Kw b z hb
theorem Inv.step{g':Array GenState}{t':Nat}{d':Drawn}{ch:List a5}(I:Inv X pins σ H s)
  (hch:∀b∈ch,(b∈X.ex\/X.s₀.heap.objs.size<=b)/\b≠X.env.locals/\(∀x c,X.env.cells.lookup x=some c->c≠b)/\∀p∈X.pn++pins,p.1≠b)
  (keep:∀b o,b≠X.env.locals->b∉X.fs->b∉ch->s.heap.get? b=some o->H b=none->h'.get? b=some o)
  (slot:∀b o,b≠X.env.locals->b∈X.fs->b∉ch->s.heap.get? b=some o->H b=none->∃sl,h'.get? b=some { o with slots:=sl }) (free:∀b o,b∉ch->s.heap.get? b=some o->H b=none->H' b=none)
  (there:∀b o,b∉ch->s.heap.get? b=some o->∃o',h'.get? b=some o')
  (tups:∀b xs,H b=some (.tup xs)->H' b=some (.tup xs)) (sQ:∀b o u,H b=some (.uR o u)->H' b=some (.uR o u)) (tL:∀b ps,H b=some (.Qm ps)->∃more,H' b=some (.Qm (ps++more)))
  (ns:∀m,s.heap.Ns X.env.locals m->h'.Ns X.env.locals m) (hok:nZ X.prog X.w H' h') (hg:C_ g') (ht:X.s₀.toks<=t') :
  Inv X pins σ H' { s with heap:=h',gens:=g',drawn:=d',toks:=t' }:=by
 have neL:∀b o,X.s₀.heap.get? b=some o->b≠X.env.locals:=λb o e=>eA (dy (cm e) I.ok.above)
 have Yb:∀b o,X.s₀.heap.get? b=some o->b∉X.ex->b∉ch:=λb o e hx hb=>by
  rcases(hch b hb).1 with z|z
  ·exact hx z
  ·exact absurd (dy (cm e) z) (f8 _)
 have cellK:∀x c,X.env.cells.lookup x=some c->∀v,s.heap.IsCell c v->h'.IsCell c v:=λx c e v ⟨o,ho,hd⟩=>by
  have QB:c∉ch:=λz=>(hch c z).2.2.1 x c e rfl
  by_cases hc:c∈X.fs
  ·obtain⟨sl,q⟩:=slot c o (I.Q7 x c e) hc QB ho (I.j4 x c e)
   exact⟨_,q,hd⟩
  ·exact⟨o,keep c o (I.Q7 x c e) hc QB ho (I.j4 x c e),hd⟩
 refine⟨I.ok,I.os,hg,⟨λb o e n hb hx=>?_,λb o e n hb hx=>?_,λb o e n hx=>?_,λb o e hx=>?_,λb xs e=>tups b xs (I.base.tups b xs e),λb o xs e=>sQ b o xs (I.base.sQ b o xs e),λb ps e=>?_⟩,?_,λx c e=>?_,?_,λx c e=>?_,λp hp=>?_,hok,I.len,ht⟩
 ·exact keep b o (neL b o e) hb (Yb b o e hx) (I.base.keep b o e n hb hx) (I.base.free b o e n hx)
 ·obtain⟨sl,e1⟩:=I.base.slot b o e n hb hx
  obtain⟨K8,e2⟩:=slot b _ (neL b o e) hb (Yb b o e hx) e1 (I.base.free b o e n hx)
  exact⟨K8,e2⟩
 ·obtain⟨o',e1⟩:=I.base.there b o e hx
  exact free b o' (Yb b o e hx) e1 (I.base.free b o e n hx)
 ·obtain⟨o',e1⟩:=I.base.there b o e hx
  exact there b o' (Yb b o e hx) e1
 ·obtain⟨m1,e1⟩:=I.base.tL b ps e
  obtain⟨m2,e2⟩:=tL b _ e1
  exact⟨m1++m2,by rw[e2,Array.append_assoc]⟩
 ·obtain⟨m,hn,hl⟩:=I.loc
  refine⟨m,ns m hn,λi x v e1 e2 e3=>?_⟩
  obtain⟨u,r,l⟩:=hl i x v e1 e2 e3
  refine⟨u,r,?_⟩
  rcases l with l|⟨k,c,e,z⟩
  ·exact .inl l
  ·exact .inr ⟨k,c,e,cellK x c e _ z⟩
 ·obtain⟨v,z⟩:=I.cell x c e
  exact⟨v,cellK x c e v z⟩
 ·obtain⟨m,⟨o,_,_,ho,_⟩,_⟩:=I.loc
  exact free _ o (λz=>(hch _ z).2.1 rfl) ho I.free
 ·obtain⟨v,o,ho,hd⟩:=I.cell x c e
  exact free c o (λz=>(hch c z).2.2.1 x c e rfl) ho (I.j4 x c e)
 ·obtain⟨e,n,ne,nf,d⟩:=I.pin p hp
  have QB:p.1∉ch:=λz=>(hch p.1 z).2.2.2 p hp rfl
  exact⟨keep p.1 p.2 ne nf QB e n,free p.1 p.2 QB e n,ne,nf,d⟩
theorem Inv.un{t':Nat}(I:Inv X pins σ H s)(u:Un X.fs [] H H' s.heap h')(hok:nZ X.prog X.w H' h')(ht:s.toks<=t':=by first|exact a7 _|exact g_ _|assumption|omega):Inv X pins σ H' { s with heap:=h',toks:=t' }:=by
 obtain⟨m,⟨o,es,ep,ho,r⟩,_⟩:=id I.loc
 obtain⟨sl,hL⟩:=u.any ho I.free (by simp)
 exact I.step (g':=s.gens) (d':=s.drawn) (ch:=[]) (λ_ z=>nomatch z) (λb o _ hb _ e n=>u.keep b o e n hb (by simp)) (λb o _ hb _ e n=>u.slot b o e n hb (by simp)) (λb o _ e n=>u.free b o e n (by simp)) (λb o _ e=>u.there b o e (by simp)) u.tups u.sQ u.tL (λm' hm=>by
  obtain⟨o',es',Yz,ho',r'⟩:=hm
  rw[ho]at ho';cases ho'
  exact⟨_,es',Yz,hL,r'⟩) hok I.bare (bj I.up ht)
theorem Inv.call{g':Array GenState}{t':Nat}{d':Drawn}{ch:List a5}(I:Inv X pins σ H s)(u:Un (frs X.stack) ch H H' s.heap h')(hok:nZ X.prog X.w H' h')(hg:C_ g')
  (hch:∀b∈ch,(b∈X.ex\/X.s₀.heap.objs.size<=b)/\b≠X.env.locals/\(∀x c,X.env.cells.lookup x=some c->c≠b)/\∀p∈X.pn++pins,p.1≠b) (ht:X.s₀.toks<=t') :
  Inv X pins σ H' { s with heap:=h',gens:=g',drawn:=d',toks:=t' }:=by
 obtain⟨m,⟨o,es,ep,ho,r⟩,_⟩:=id I.loc
 obtain⟨sl,hL⟩:=u.any ho I.free λz=>(hch _ z).2.1 rfl
 exact I.step (ch:=ch) hch (λb o hL hb hc e n=>u.keep b o e n (λz=>(c_.mp (I.vC b z)).elim hL hb) hc) (λb o _ _ hc e n=>u.any e n hc) (λb o hc e n=>u.free b o e n hc) (λb o hc e=>u.there b o e hc) u.tups u.sQ u.tL (λm' hm=>by
  obtain⟨o',es',Yz,ho',r'⟩:=hm
  rw[ho]at ho';cases ho'
  exact⟨_,es',Yz,hL,r'⟩) hok hg ht
theorem Inv.turned{t':Nat}{it:a5}(I:Inv X pins σ H s)(k:∀b o,b≠it->s.heap.get? b=some o->h'.get? b=some o)(hn:H it=none)(hL:it≠X.env.locals)
  (h1:it∈X.ex\/X.s₀.heap.objs.size<=it) (h2:∀x c,X.env.cells.lookup x=some c->c≠it) (h3:∀p∈X.pn++pins,p.1≠it) (ht:s.toks<=t':=by first|exact a7 _|exact g_ _|assumption|omega):Inv X pins σ H { s with heap:=h',toks:=t' }:=by
 have nit:∀b u,H b=some u->b≠it:=λb u e z=>by rw[z,hn]at e;cases e
 refine I.step (g':=s.gens) (d':=s.drawn) (ch:=[it]) (λb hb=>?_) (λb o _ _ hc e _=>k b o (λz=>hc (by simp[z])) e) (λb o _ _ hc e _=>⟨o.slots,k b o (λz=>hc (by simp[z])) e⟩) (λ_ _ _ _ n=>n)
  (λb o hc e=>⟨o,k b o (λz=>hc (by simp[z])) e⟩) (λ_ _ e=>e) (λ_ _ _ e=>e) (λb ps e=>⟨#[],by rw[e];simp⟩) (λm hm=>?_) (λb u e=>?_) I.bare (bj I.up ht)
 ·have e:b=it:=by simpa using hb
  subst e
  exact⟨h1,hL,h2,h3⟩
 ·obtain⟨o,es,ep,ho,r⟩:=hm
  exact⟨o,es,ep,k _ o (Ne.symm hL) ho,r⟩
 ·refine(I.hok b u e).stay (λc v hc q=>k c v ?_ q) (λ_ q=>q) λ_ _ q=>q
  rcases hc with z|z
  ·rw[z];exact nit b u e
  ·exact nit c _ z
theorem Inv.tok(I:Inv X pins σ H s)(t':Nat)(ht:s.toks<=t':=by first|exact a7 _|exact g_ _|assumption|omega):Inv X pins σ H { s with toks:=t' }:=I.un (h':=s.heap) (t':=t') Un.refl I.hok ht
theorem Inv.kept{t':Nat}(I:Inv X pins σ H s)(k:∀b u,s.heap.get? b=some u->h'.get? b=some u)(ht:s.toks<=t':=by first|exact a7 _|exact g_ _|assumption|omega):Inv X pins σ H { s with heap:=h',toks:=t' }:=I.un (Un.kept k) (I.hok.kept k) ht
theorem Inv.laid{a:a5}{o:HO}{t':Nat}(I:Inv X pins σ H s)(k:∀b u,s.heap.get? b=some u->h'.get? b=some u)(hp:s.heap.objs.size<=a)(new:bM X.prog X.w (upd H a o) h' a o)(ht:s.toks<=t':=by first|exact a7 _|exact g_ _|assumption|omega):
  Inv X pins σ (upd H a o) { s with heap:=h',toks:=t' }:=I.un (Un.laid k hp (I.hok.fresh hp)) (I.hok.laid k hp new) ht
theorem Inv.write{x e:a5}{o:HO}{t':Nat}(I:Inv X pins σ H s)(mu:Xu (H x))(he:e=x\/H e=some (.own x))(k:∀b u,b≠e->s.heap.get? b=some u->h'.get? b=some u)(UM:∃u,h'.get? e=some u)
  (new:bM X.prog X.w (upd H x o) h' x o) (ht:s.toks<=t':=by first|exact a7 _|exact g_ _|assumption|omega):Inv X pins σ (upd H x o) { s with heap:=h',toks:=t' }:=I.un (Un.write mu he k UM) (I.hok.write mu he k UM new) ht
theorem Inv.weak{σ':List (Option V)}(I:Inv X pins σ H s)(hl:σ'.length=σ.length)(w:∀(i:Nat) v,σ'[i]? =some (some v)->σ[i]? =some (some v)):Inv X pins σ' H s :=
 ⟨I.ok,I.os,I.bare,I.base,let ⟨m,hn,hl'⟩:=I.loc;⟨m,hn,λi x v e1 e2 e3=>hl' i x v e1 (w i v e2) e3⟩,I.cell,I.free,I.j4,I.pin,I.hok,hl.trans I.len,I.up⟩
theorem Inv.BW{Qx:List (a5×mi)}(I:Inv X pins σ H s)(h:∀p∈Qx,s.heap.get? p.1=some p.2/\H p.1=none/\p.1≠X.env.locals/\p.1∉X.fs/\∀v,p.2.data≠ .cell v):Inv X Qx σ H s :=
 ⟨I.ok,I.os,I.bare,I.base,I.loc,I.cell,I.free,I.j4,λp hp=>(e_.mp hp).elim (λz=>I.pin p (hJ _ z)) (h p),I.hok,I.len,I.up⟩
theorem yG{N:List bp}(hN:N.Nodup){i j:Nat}{x:bp}(a:N[i]? =some x)(b:N[j]? =some x):i=j:=by
 obtain⟨h1,e1⟩:=bd.mp a
 obtain⟨h2,e2⟩:=bd.mp b
 exact(List.getElem_inj hN).mp (e1.trans e2.symm)
theorem AL{M:Dx}{A:eR}{E:a9->ba->Prop}{i:Nat}{x:bp}{v:V}{u:a9}{Q:Unit->ba->Prop}(I:Inv X pins σ H s)(hN:X.N.Nodup)(hi:X.N[i]? =some x)(hx:Loc X.env.scope x)(r:RelV v u)
  (h:∀s',Inv X pins (σ.set i (some v)) H s'->(∃a,mM a s.heap s'.heap/\(a=X.env.locals\/X.env.cells.lookup x=some a))->Q () s') (hf:X.fn x=true\/X.env.scope.names.lookup x=some .local:=by first|exact .inl rfl|exact .inr rfl|assumption):b_ M A (storeName X.env x u) Q E s:=by
 obtain⟨m,hn,hl⟩:=id I.loc
 have hcls:(X.env.scope.kind== .class||(X.env.scope.kind== .module&&X.env.locals != X.env.globals))=false:=by rw[I.ok.kind];rfl
 have WS:i<σ.length:=by rw[I.len];exact(bd.mp hi).1
 have Q7:=I.Q7
 have tracked:∀{a:a5} {h':eJ},(∃o,s.heap.get? a=some o/\H a=none)->mM a s.heap h'->nZ X.prog X.w H h':=λ{a h'} ha hs b ob e=>by
  obtain⟨_,_,hfree⟩:=ha
  refine(I.hok b ob e).stay (λc w' hc q=>(hs.2 c ?_).trans q) (λ_ q=>q) λ_ _ q=>q
  rintro rfl
  rcases hc with rfl|hc
  ·rw[hfree]at e;cases e
  ·rw[hfree]at hc;cases hc
 rcases hx with hk|hk
 ·refine wpAny_storeName_local hk hn (λh' hn' hs=>?_) hcls
  obtain⟨oL,_,_,hoL,_⟩:=id hn
  refine h _ ⟨I.ok,I.os,I.bare,⟨λb o e n hb hx=>?_,λb o e n hb hx=>?_,I.base.free,λb o e hx=>?_,I.base.tups,I.base.sQ,I.base.tL⟩,⟨_,hn',λj y v' e1 e2 e3=>?_⟩,λy c e=>?_,I.free,I.j4,λp hp=>?_,tracked ⟨oL,hoL,I.free⟩ hs,by simpa using I.len,bj I.up (by first|exact a7 _|exact g_ _|exact km _ _)⟩ ⟨_,hs,.inl rfl⟩
  ·exact(hs.2 b (eA (dy (cm e) I.ok.above))).trans (I.base.keep b o e n hb hx)
  ·obtain⟨sl,e1⟩:=I.base.slot b o e n hb hx
   exact⟨sl,(hs.2 b (eA (dy (cm e) I.ok.above))).trans e1⟩
  ·obtain⟨o',e1⟩:=I.base.there b o e hx
   exact⟨o',(hs.2 b (eA (dy (cm e) I.ok.above))).trans e1⟩
  ·by_cases hj:j=i
   ·subst hj
    rw[hi]at e1;cases e1
    rw[List.getElem?_set_self WS]at e2
    cases e2
    exact⟨u,r,.inl ⟨hk,by simp⟩⟩
   ·rw[List.getElem?_set_ne (Ne.symm hj)]at e2
    obtain⟨u',r',q⟩:=hl j y v' e1 e2 e3
    refine⟨u',r',?_⟩
    rcases q with⟨k,e⟩|⟨k,c,e,z⟩
    ·refine .inl ⟨k,?_⟩
     have:y≠x:=λe=>hj (yG hN e1 (e▸hi))
     simp[this,e]
    ·exact .inr ⟨k,c,e,z.sameBut hs (Q7 y c e)⟩
  ·obtain⟨w',z⟩:=I.cell y c e
   exact⟨w',z.sameBut hs (Q7 y c e)⟩
  ·obtain⟨e,n,ne,nf,d⟩:=I.pin p hp
   exact⟨(hs.2 p.1 ne).trans e,n,ne,nf,d⟩
 ·have hfn:X.fn x=true:=by
   rcases hf with z|z
   ·exact z
   ·rw[z]at hk;cases hk
  obtain⟨c,hc⟩:=I.ok.has x (.inl hk)
  obtain⟨w',z⟩:=I.cell x c hc
  refine wpAny_storeName_cell I.ok.kind hk hc z (λh' hc' hs=>?_)
  obtain⟨oc,hoc,abn⟩:=id z
  refine h { s with heap:=h' } ⟨I.ok,I.os,I.bare,⟨λb o e n hb hx=>?_,λb o e n hb hx=>?_,I.base.free,λb o e hx=>?_,I.base.tups,I.base.sQ,I.base.tL⟩,⟨m,hn.sameBut hs (Ne.symm (Q7 x c hc)),λj y v' e1 e2 e3=>?_⟩,λy c' e=>?_,I.free,I.j4,λp hp=>?_,tracked ⟨oc,hoc,I.j4 x c hc⟩ hs,by simpa using I.len,I.up⟩ ⟨c,hs,.inr hc⟩
  ·exact(hs.2 b (eA (dy (cm e) (I.ok.P9 x c hfn hc)))).trans (I.base.keep b o e n hb hx)
  ·obtain⟨sl,e1⟩:=I.base.slot b o e n hb hx
   exact⟨sl,(hs.2 b (eA (dy (cm e) (I.ok.P9 x c hfn hc)))).trans e1⟩
  ·obtain⟨o',e1⟩:=I.base.there b o e hx
   exact⟨o',(hs.2 b (eA (dy (cm e) (I.ok.P9 x c hfn hc)))).trans e1⟩
  ·by_cases hj:j=i
   ·subst hj
    rw[hi]at e1;cases e1
    rw[List.getElem?_set_self WS]at e2
    cases e2
    exact⟨u,r,.inr ⟨.inl hk,c,hc,hc'⟩⟩
   ·rw[List.getElem?_set_ne (Ne.symm hj)]at e2
    obtain⟨u',r',q⟩:=hl j y v' e1 e2 e3
    refine⟨u',r',?_⟩
    rcases q with q|⟨k,c',e,z'⟩
    ·exact .inl q
    ·refine .inr ⟨k,c',e,z'.sameBut hs ?_⟩
     rintro rfl
     exact hj (yG hN e1 (I.ok.inj _ _ _ e hc▸hi))
  ·by_cases hcc:c'=c
   ·subst hcc;exact⟨_,hc'⟩
   ·obtain⟨w2,z2⟩:=I.cell y c' e
    exact⟨w2,z2.sameBut hs hcc⟩
  ·obtain⟨e,n,ne,nf,d⟩:=I.pin p hp
   refine⟨(hs.2 p.1 ?_).trans e,n,ne,nf,d⟩
   intro q
   rw[q,hoc]at e
   have q':oc=p.2:=dA e
   exact d w' (by rw[←q'];exact abn)
theorem yd{M:Dx}{A:eR}{E:a9->ba->Prop}{i:Nat}{x:bp}{v:V}{u:a9}{Q:Unit->ba->Prop}(I:Inv X pins σ H s)(hN:X.N.Nodup)(hi:X.N[i]? =some x)(hx:Loc X.env.scope x)(r:RelV v u)
  (h:∀s',Inv X pins (σ.set i (some v)) H s'->Q () s') (hf:X.fn x=true\/X.env.scope.names.lookup x=some .local:=by first|exact .inl rfl|exact .inr rfl|assumption):b_ M A (storeName X.env x u) Q E s :=
 AL I hN hi hx r (λs' I' _=>h s' I') hf
theorem Inv.Ra{s':ba}{ch:List a5}(I:Inv X pins σ H s)(ho:s'.os=s.os)(u:Un (frs X.stack) ch H H' s.heap s'.heap)(hok:nZ X.prog X.w H' s'.heap)(hg:C_ s'.gens)
  (hch:∀b∈ch,(b∈X.ex\/X.s₀.heap.objs.size<=b)/\b≠X.env.locals/\(∀x c,X.env.cells.lookup x=some c->c≠b)/\∀p∈X.pn++pins,p.1≠b) (ht:X.s₀.toks<=s'.toks):Inv X pins σ H' s':=by
 obtain⟨h',g',d',t',o'⟩:=s'
 have e:o'=s.os:=ho
 subst e
 exact I.call (g':=g') (t':=t') (d':=d') u hok hg hch ht
end
noncomputable abbrev XK:=a9->Option a5->Hp->Prop
noncomputable abbrev St:=List (Option V)
noncomputable abbrev VK:=V->Hp->Prop
noncomputable abbrev TE:=St->Hp->VK->Prop
noncomputable abbrev TT:=St->Hp->(Bool->Hp->Prop)->Prop
noncomputable abbrev TA:=St->Hp->(List V->Hp->Prop)->Prop
structure Ends where
 nx:St->Hp->Prop
 rt:VK
 bk:St->Hp->Prop:=λ_ _=>False
 ct:St->Hp->Prop:=λ_ _=>False
noncomputable abbrev TS:=Ends->St->Hp->Prop
noncomputable def EP(X:Cx)(pins:List (a5×mi))(σ:St)(Q:VK)(u:a9)(s':ba):Prop:=∃v H',Inv X pins σ H' s'/\RelV v u/\Q v H'
noncomputable def TP(X:Cx)(pins:List (a5×mi))(σ:St)(Q:Bool->Hp->Prop)(b:Bool)(s':ba):Prop:=∃H',Inv X pins σ H' s'/\Q b H'
noncomputable def AP(X:Cx)(pins:List (a5×mi))(σ:St)(Q:List V->Hp->Prop)(us:List a9)(s':ba):Prop:=∃vs H',Inv X pins σ H' s'/\Vals vs us/\Q vs H'
noncomputable def SP(X:Cx)(pins:List (a5×mi))(D:Ends)(f:Flow)(s':ba):Prop :=
 match f with
 | .next=>∃ σ' H',Inv X pins σ' H' s'/\D.nx σ' H'
 | .brk=>∃ σ' H',Inv X pins σ' H' s'/\D.bk σ' H'
 | .cont=>∃ σ' H',Inv X pins σ' H' s'/\D.ct σ' H'
 | .ret u=>∃v σ' H',Inv X pins σ' H' s'/\RelV v u/\D.rt v H'
noncomputable def PE(X:Cx)(e:Expr)(t:TE):Prop :=
 ∀(pins:List (a5×mi)) (s:ba) (σ:St) (H:Hp) (Q:VK),Inv X pins σ H s->t σ H Q->b_ (model X.prog X.w) X.A (eval e X.env) (EP X pins σ Q) X.xe s
noncomputable def PT(X:Cx)(e:Expr)(t:TT):Prop :=
 ∀(pins:List (a5×mi)) (s:ba) (σ:St) (H:Hp) (Q:Bool->Hp->Prop),Inv X pins σ H s->t σ H Q->b_ (model X.prog X.w) X.A (isTrue e X.env (eval e X.env)) (TP X pins σ Q) X.xe s
noncomputable def PW(X:Cx)(e:Expr)(t:TT):Prop :=
 ∀(whole:Sem a9) (pins:List (a5×mi)) (s:ba) (σ:St) (H:Hp) (Q:Bool->Hp->Prop),Inv X pins σ H s->t σ H Q->b_ (model X.prog X.w) X.A (isTrue e X.env whole) (TP X pins σ Q) X.xe s
theorem PW.pt{X:Cx}{e:Expr}{t:TT}(h:PW X e t):PT X e t:=h _
noncomputable def PA(X:Cx)(es:List Expr)(t:TA):Prop :=
 ∀(pos:sx) (pins:List (a5×mi)) (s:ba) (σ:St) (H:Hp) (Q:List V->Hp->Prop),Inv X pins σ H s->t σ H Q->b_ (model X.prog X.w) X.A (spliced (backTo pos (eP es X.env))) (AP X pins σ Q) X.xe s
noncomputable def PS(X:Cx)(st:hV)(t:TS):Prop :=
 ∀(pins:List (a5×mi)) (s:ba) (σ:St) (H:Hp) (D:Ends),Inv X pins σ H s->t D σ H->b_ (model X.prog X.w) X.A (exec st X.env) (SP X pins D) X.xe s
noncomputable def zQ(X:Cx)(st:List hV)(t:TS):Prop :=
 ∀(pins:List (a5×mi)) (s:ba) (σ:St) (H:Hp) (D:Ends),Inv X pins σ H s->t D σ H->b_ (model X.prog X.w) X.A (execs st X.env) (SP X pins D) X.xe s
theorem dG{α:Type}{t:Sem α}{Q Q':α->ba->Prop}{M:Dx}{A:eR}{E:a9->ba->Prop}{s:ba}(h:b_ M A t Q E s)(hQ:∀a s,Q a s->Q' a s):b_ M A t Q' E s:=h_ h hQ λ_ _ x=>x
end
section
section
variable{X:Cx}
noncomputable def U0(i:Nat):TE:=λσ H Q=>∃v,σ[i]? =some (some v)/\Q v H
noncomputable def tC(v:V):TE:=λ_ H Q=>Q v H
theorem S5 {i:Nat}{x:bp}{pos:sx}(hN:X.N[i]? =some x)(hv:YB X.env.scope x)(hd:(x==("__debug__" :bp))=false:=by decide)(hcd:(x==("__classdict__" :bp))=false:=by decide):PE X (.Name x pos) (U0 i):=by
 intro pins s σ H Q I h
 obtain⟨v,e,h⟩:=h
 obtain⟨m,hn,hl⟩:=I.loc
 obtain⟨u,r,l⟩:=hl i x v hN e hv
 have fin:EP X pins σ Q u s:=⟨v,H,I,r,h⟩
 rcases l with⟨hk,hm⟩|⟨hk,c,hc,hcell⟩
 ·exact wpAny_Name (wpAny_loadName_local I.ok.kind hk hn hm fin) hd
 ·rcases hk with hk|hk
  ·exact wpAny_Name (wpAny_loadName_cell I.ok.kind hk hc hcell fin) hd
  ·exact wpAny_Name (wpAny_loadName_free I.ok.kind hk hc hcell fin hcd) hd
theorem ak{i j pos}:PE X (.Constant (.int i) j pos) (tC (.int i)):=λ_ _ _ H _ I h=>x0 ⟨.int i,H,I.tok _,⟨_,rfl⟩,h⟩
theorem Mt{b j pos}:PE X (.Constant (.bool b) j pos) (tC (.bl b)):=λ_ _ _ H _ I h=>Constant_bool ⟨.bl b,H,I,rfl,h⟩
theorem yu{j pos}:PE X (.Constant .none j pos) (tC .ia):=λ_ _ _ H _ I h=>Constant_none ⟨.ia,H,I,rfl,h⟩
theorem bJ{x j pos}:PE X (.Constant (.str x) j pos) (tC (.str x)):=λ_ _ _ H _ I h=>Calls.Constant_str ⟨.str x,H,I.tok _,⟨_,rfl⟩,h⟩
noncomputable def Gl(X:Cx)(x:bp):Prop:=X.env.kindOf x=some .globalImplicit
theorem nM{E:a9->ba->Prop}{pins:List (a5×mi)}{s:ba}{σ:St}{H:Hp}{x:bp}{u:a9}{pos:sx}{Q:a9->ba->Prop}(I:Inv X pins σ H s)(hg:Gl X x)(hm:X.mg x=some u)(h:Q u s)
  (hd:(x==("__debug__" :bp))=false:=by decide):b_ (model X.prog X.w) X.A (eval (.Name x pos) X.env) Q E s :=
 Calls.Name_function_global I.ok.kind hg (Calls.loadGlobal_global (by rw[I.ok.glob];exact I.mod.glob.keeps I.bk) hm h) hd
theorem pF{E:a9->ba->Prop}{pins:List (a5×mi)}{s:ba}{σ:St}{H:Hp}{x:bp}{u:a9}{pos:sx}{Q:a9->ba->Prop}(I:Inv X pins σ H s)(hg:Gl X x)(hm:X.mg x=none)(hv:bootBuiltins x=some u)(h:Q u s)
  (hn:x≠ "__name__" :=by decide) (hd:(x==("__debug__" :bp))=false:=by decide):b_ (model X.prog X.w) X.A (eval (.Name x pos) X.env) Q E s:=by
 obtain⟨mb,h1,h2⟩:=I.mod.blt
 exact Calls.Name_function_global I.ok.kind hg (Calls.loadGlobal_builtin (by rw[I.ok.glob];exact I.mod.glob.keeps I.bk) hm (by rw[I.ok.blt];exact h1.keeps I.bk) ((h2 x hn).trans hv) h) hd
theorem nL {x:bp}{v:V}{u:a9}{pos:sx}(hg:Gl X x)(hm:X.mg x=some u)(r:RelV v u)(hd:(x==("__debug__" :bp))=false:=by decide):PE X (.Name x pos) (tC v) :=
 λ_ _ _ H _ I h=>nM I hg hm ⟨v,H,I,r,h⟩ hd
theorem gb {x:bp}{v:V}{u:a9}{pos:sx}(hg:Gl X x)(hm:X.mg x=none)(hv:bootBuiltins x=some u)(r:RelV v u)(hn:x≠ "__name__" :=by decide)(hd:(x==("__debug__" :bp))=false:=by decide):PE X (.Name x pos) (tC v) :=
 λ_ _ _ H _ I h=>pF I hg hm hv ⟨v,H,I,r,h⟩ hn hd
variable{a b:Expr}{ta tb:TE}{pos:sx}
noncomputable def tB(t:TE):TT:=λσ H Q=>t σ H λx H1=>∃c,x= .bl c/\Q c H1
theorem oj{e:Expr}{t:TE}(h:PE X e t)(he:∀whole,isTrue e X.env whole=(do let v ←whole;standAt e.pos;holding [v] (truthy v)):=by intro _;rfl):PT X e (tB t):=by
 intro pins s σ H Q I hw
 refine isTrue_plain (dG (h pins s σ H _ I hw) λv s1 ⟨x,H1,I1,r1,q1⟩=>?_) (he _)
 obtain⟨d,rfl,q⟩:=q1
 cases r1
 exact kt ⟨H1,I1,q⟩
variable{tA XY:TT}{rest:List Expr}
noncomputable def aai(t u:TT):TT:=λσ H Q=>t σ H λc H1=>if c=true then u σ H1 Q else Q false H1
noncomputable def tOr(t u:TT):TT:=λσ H Q=>t σ H λc H1=>if c=true then Q true H1 else u σ H1 Q
noncomputable def aab(t:TT):TT:=λσ H Q=>t σ H λc H1=>Q (!c) H1
theorem Ij(ha:PT X a tA):PW X (.BoolOp .And [a] pos) tA:=by
 intro wh pins s σ H Q I h
 refine isTrue_and (dG (ha pins s σ H Q I h) λc s1 e=>?_)
 cases c with
 |true=>exact isTrue_and_nil e
 |false=>exact e
theorem Gn(ha:PT X a tA):PW X (.BoolOp .Or [a] pos) tA:=by
 intro wh pins s σ H Q I h
 refine isTrue_or (dG (ha pins s σ H Q I h) λc s1 e=>?_)
 cases c with
 |false=>exact isTrue_or_nil e
 |true=>exact e
theorem Mg(ha:PT X a tA)(hb:PW X (.BoolOp .And (b::rest) pos) XY):PW X (.BoolOp .And (a::b::rest) pos) (aai tA XY):=by
 intro wh pins s σ H Q I h
 refine isTrue_and (dG (ha pins s σ H _ I h) λc s1 ⟨H1,I1,q1⟩=>?_)
 cases c with
 |true=>exact hb wh pins s1 σ H1 Q I1 q1
 |false=>exact⟨H1,I1,q1⟩
theorem Mf(ha:PT X a tA)(hb:PW X (.BoolOp .Or (b::rest) pos) XY):PW X (.BoolOp .Or (a::b::rest) pos) (tOr tA XY):=by
 intro wh pins s σ H Q I h
 refine isTrue_or (dG (ha pins s σ H _ I h) λc s1 ⟨H1,I1,q1⟩=>?_)
 cases c with
 |true=>exact⟨H1,I1,q1⟩
 |false=>exact hb wh pins s1 σ H1 Q I1 q1
theorem BU(ha:PT X a tA):PT X (.UnaryOp .Not a pos) (aab tA):=by
 intro pins s σ H Q I h
 exact isTrue_not (ha pins s σ H (λc H1=>Q (!c) H1) I h)
noncomputable def Vk(ta tb:TE):TE:=λσ H Q=>ta σ H λx H1=>∃c,x= .bl c/\if c=true then tb σ H1 Q else Q (.bl false) H1
noncomputable def U5(ta:TE):TE:=λσ H Q=>ta σ H λx H1=>∃c,x= .bl c/\Q (.bl (!c)) H1
theorem qo{op}{t:TE}(h:PE X a t):PE X (.BoolOp op [a] pos) t:=λpins s σ H Q I hw=>BoolOp_one (h pins s σ H Q I hw)
theorem oq(ha:PE X a ta)(hb:PE X (.BoolOp .And (b::rest) pos) tb):PE X (.BoolOp .And (a::b::rest) pos) (Vk ta tb):=by
 intro pins s σ H Q I h
 refine BoolOp_and (dG (ha pins s σ H _ I h) λv s1 ⟨x,H1,I1,r1,q1⟩=>?_)
 obtain⟨c,rfl,q1⟩:=q1
 cases r1
 refine kt ?_
 cases c with
 |true=>exact hb pins s1 σ H1 Q I1 q1
 |false=>exact⟨.bl false,H1,I1,rfl,q1⟩
theorem Mp(ha:PE X a ta):PE X (.UnaryOp .Not a pos) (U5 ta):=by
 intro pins s σ H Q I h
 refine UnaryOp_ (dG (ha pins s σ H _ I h) λv s1 ⟨x,H1,I1,r1,q1⟩=>?_)
 obtain⟨c,rfl,q1⟩:=q1
 cases r1
 exact not_of (kt ⟨.bl (!c),H1,I1,rfl,q1⟩)
noncomputable def tIf(t:TT)(ta tb:TE):TE:=λσ H Q=>t σ H λc H1=>if c=true then ta σ H1 Q else tb σ H1 Q
theorem rC{c:Expr}(hc:PT X c tA)(ha:PE X a ta)(hb:PE X b tb):PE X (.IfExp c a b pos) (tIf tA ta tb):=by
 intro pins s σ H Q I h
 refine wpAny_IfExp (dG (hc pins s σ H _ I h) λd s1 ⟨H1,I1,q1⟩=>?_)
 cases d with
 |true=>exact ha pins s1 σ H1 Q I1 q1
 |false=>exact hb pins s1 σ H1 Q I1 q1
end
end
section
noncomputable def cy(K:PySem.W.Frag)(H:Hp)(a:a5)(xs:List V):Prop :=
 Rd H a (.lst xs) ∨
  ∃(o:mi) (its:Array a9) (n:Nat),K.lookup a=some o/\o.cls= .type "list" /\o.dict=none/\o.data= .seq its n/\its.size<=bt/\Vals xs its.toList
noncomputable def cE(K:PySem.W.Frag)(H:Hp)(a:a5)(xs:List V):Prop :=
 Rd H a (.tup xs) ∨
  ∃(o:mi) (its:Array a9) (n:Nat),K.lookup a=some o/\o.cls= .type "tuple" /\o.data= .seq its n/\its.size<=bt/\Vals xs its.toList
noncomputable def aco:a9->Option V
 | .none=>some .ia
 | .bool b=>some (.bl b)
 | .int i _=>some (.int i)
 | .str x _=>some (.str x)
 | .bytes b _=>some (.I9 b)
 | .float b _=>some (.Uk b)
 | .ref a=>some (.ref a)
 | .type n=>some (.ty n)
 |_=>none
theorem RelV.abs{x:V}{u:a9}(r:RelV x u):aco u=some x:=by
 cases x with
 |ia=>cases r;rfl
 |bl _=>cases r;rfl
 |int _=>obtain⟨t,rfl⟩:=r;rfl
 |str _=>obtain⟨t,rfl⟩:=r;rfl
 |I9 _=>obtain⟨t,rfl⟩:=r;rfl
 |Uk _=>obtain⟨t,rfl⟩:=r;rfl
 |ref _=>cases r;rfl
 |ty _=>cases r;rfl
theorem RelV.inj{x y:V}{u:a9}(r:RelV x u)(q:RelV y u):x=y:=dA (r.abs.symm.trans q.abs)
theorem Vals.inj:∀{xs ys:List V} {us:List a9},Vals xs us->Vals ys us->xs=ys
 |_,_,_,.nil,.nil=>rfl
 |_,_,_,.cons r t,.cons r' t'=>by rw[r.inj r',Vals.inj t t']
section
variable{X:Cx}{pins:List (a5×mi)}{σ:St}{H:Hp}{s:ba}{a:a5}{xs ys:List V}
theorem cy.of{K:PySem.W.Frag}(h:H a=some (.lst xs)):cy K H a xs:=.inl (.inl h)
theorem cE.of{K:PySem.W.Frag}(h:H a=some (.tup xs)):cE K H a xs:=.inl (.inl h)
theorem Inv.list(I:Inv X pins σ H s)(h:cy X.K H a xs):∃its:List a9,Vals xs its/\PlainL s.heap a its.toArray/\xs.length<=bt:=by
 rcases h with h|⟨o,its,n,hk,hc,hd,hs,hz,r⟩
 ·obtain⟨z,its,n,r,e⟩:=h.ok I.hok
  exact⟨its,r,⟨_,n,e,rfl,rfl,rfl⟩,z⟩
 ·refine⟨its.toList,r,⟨o,n,I.qv a o hk,hc,hd,by simpa using hs⟩,?_⟩
  have e:=r.length
  simp only[eD]at e
  omega
theorem Inv.tuple(I:Inv X pins σ H s)(h:cE X.K H a xs):∃its:List a9,Vals xs its/\IsTup s.heap a its.toArray/\xs.length<=bt:=by
 rcases h with h|⟨o,its,n,hk,hc,hs,hz,r⟩
 ·obtain⟨z,its,r,p⟩:=h.ok I.hok
  exact⟨its,r,p,z⟩
 ·refine⟨its.toList,r,⟨o,I.qv a o hk,hc,n,by simpa using hs⟩,?_⟩
  have e:=r.length
  simp only[eD]at e
  omega
theorem Inv.yO(I:Inv X pins σ H s)(h:cy X.K H a xs)(h':cy X.K H a ys):xs=ys:=by
 obtain⟨its,r,⟨o,n,e,_,_,d⟩,_⟩:=I.list h
 obtain⟨its',r',⟨o',n',e',_,_,d'⟩,_⟩:=I.list h'
 rw[e]at e';cases e'
 rw[d]at d'
 injection d' with d1 _
 have:its=its':=by simpa using congrArg Array.toList d1
 subst this
 exact r.inj r'
theorem Inv.AK(I:Inv X pins σ H s)(h:cE X.K H a xs)(h':cE X.K H a ys):xs=ys:=by
 obtain⟨its,r,⟨o,e,_,n,d⟩,_⟩:=I.tuple h
 obtain⟨its',r',⟨o',e',_,n',d'⟩,_⟩:=I.tuple h'
 rw[e]at e';cases e'
 rw[d]at d'
 injection d' with d1 _
 have:its=its':=by simpa using congrArg Array.toList d1
 subst this
 exact r.inj r'
end
noncomputable abbrev Cx.zS(X:Cx)(E:a9->ba->Prop):Cx:={ X with xe:=E }
noncomputable abbrev Cx.Qz(X:Cx):Cx:=X.zS λ_ _=>False
theorem Cx.Ok.zS{X:Cx}(ok:X.Ok)(E:a9->ba->Prop):(X.zS E).Ok :=
 ⟨ok.mod,ok.kind,ok.glob,ok.blt,ok.above,ok.inj,ok.has,ok.P9,ok.hd,ok.frames,ok.stk,ok.Yy,ok.bs,ok.NO,ok.GI,ok.Kw,ok.tZ,ok.PU,ok.tk⟩
theorem Cx.Ok.qW{X:Cx}{E:a9->ba->Prop}(ok:(X.zS E).Ok):X.Ok :=
 ⟨ok.mod,ok.kind,ok.glob,ok.blt,ok.above,ok.inj,ok.has,ok.P9,ok.hd,ok.frames,ok.stk,ok.Yy,ok.bs,ok.NO,ok.GI,ok.Kw,ok.tZ,ok.PU,ok.tk⟩
section
variable{X:Cx}{pins:List (a5×mi)}{σ:St}{H:Hp}{s:ba}{E:a9->ba->Prop}
theorem Inv.zS(I:Inv X pins σ H s)(E:a9->ba->Prop):Inv (X.zS E) pins σ H s:=⟨I.ok.zS E,I.os,I.bare,I.base,I.loc,I.cell,I.free,I.j4,I.pin,I.hok,I.len,I.up⟩
theorem Inv.qW(I:Inv (X.zS E) pins σ H s):Inv X pins σ H s:=⟨I.ok.qW,I.os,I.bare,I.base,I.loc,I.cell,I.free,I.j4,I.pin,I.hok,I.len,I.up⟩
theorem SP.qW{D:Ends}{f:Flow}{s':ba}(h:SP (X.zS E) pins D f s'):SP X pins D f s':=by
 cases f with
 |next=>obtain⟨σ',H',I,q⟩:=h;exact⟨σ',H',I.qW,q⟩
 |brk=>obtain⟨σ',H',I,q⟩:=h;exact⟨σ',H',I.qW,q⟩
 |cont=>obtain⟨σ',H',I,q⟩:=h;exact⟨σ',H',I.qW,q⟩
 |ret u=>obtain⟨v,σ',H',I,r,q⟩:=h;exact⟨v,σ',H',I.qW,r,q⟩
theorem zQ.Qz{st:List hV}{t:TS}(h:zQ X.Qz st t):zQ X st t:=λpins s σ H D I hw =>
 h_ (h pins s σ H D (I.zS _) hw) (λ_ _ q=>q.qW) λ_ _ z=>kn z
end
section
variable{X:Cx}{st:hV}{rest:List hV}{t u:TS}{e:Expr}{te:TE}{pos:sx}
noncomputable def U6:TS:=λD σ H=>D.nx σ H
noncomputable def U3(t u:TS):TS:=λD σ H=>t { D with nx:=u D } σ H
theorem aW:zQ X [] U6:=λ_ _ σ H _ I h=>xv ⟨σ,H,I,h⟩
theorem ai(h1:PS X st t)(h2:zQ X rest u):zQ X (st::rest) (U3 t u):=by
 intro pins s σ H D I h
 refine zi (dG (h1 pins s σ H { D with nx:=u D } I h) λf s1 q=>?_)
 cases f with
 |next =>
  obtain⟨σ',H',I',q⟩:=q
  exact h2 pins s1 σ' H' D I' q
 |ret v=>exact q
 |brk=>exact q
 |cont=>exact q
theorem aq(h1:PS X st t):zQ X [st] t:=by
 intro pins s σ H D I h
 refine zi (dG (h1 pins s σ H D I h) λf s1 q=>?_)
 cases f with
 |next=>exact xv q
 |ret v=>exact q
 |brk=>exact q
 |cont=>exact q
theorem Inv.quiet{pins:List (a5×mi)}{σ:St}{H:Hp}{s:ba}(I:Inv X pins σ H s):interactive X.env=false:=by simp[interactive,I.ok.kind]
noncomputable def Ve(te:TE):TS:=λD σ H=>te σ H λ_ H1=>D.nx σ H1
theorem bK(he:PE X e te)(hs:swapsWith e none pos.line X.env=pure false:=by rfl):PS X (.Expr e pos) (Ve te):=by
 intro pins s σ H D I h
 exact wpAny_Expr_any (dG (he pins s σ H _ I h) λv s1 ⟨x,H1,I1,r1,q1⟩=>⟨σ,H1,I1,q1⟩) I.quiet hs
noncomputable def aaa(te:TE):TS:=λD σ H=>te σ H D.rt
theorem aK(he:PE X e te):PS X (.Return (some e) pos) (aaa te):=by
 intro pins s σ H D I h
 exact wpAny_Return_some (dG (he pins s σ H _ I h) λv s1 ⟨x,H1,I1,r1,q1⟩=>⟨x,σ,H1,I1,r1,q1⟩)
noncomputable def aaf(c:TT)(t u:TS):TS:=λD σ H=>c σ H λb H1=>if b=true then t D σ H1 else u D σ H1
theorem bZ{c:Expr}{a b:List hV}{tc:TT}(hc:PT X c tc)(ha:zQ X a t)(hb:zQ X b u):PS X (.If c a b pos) (aaf tc t u):=by
 intro pins s σ H D I h
 refine wpAny_If (dG (hc pins s σ H _ I h) λd s1 ⟨H1,I1,q1⟩=>?_)
 cases d with
 |true=>exact ha pins s1 σ H1 D I1 q1
 |false=>exact hb pins s1 σ H1 D I1 q1
noncomputable def SG:TS:=λ_ _ _=>False
theorem fk{sts:List hV}:zQ X sts SG:=λ_ _ _ _ _ _ h=>h.elim
end
noncomputable abbrev TG:=V->St->Hp->(St->Hp->Prop)->Prop
noncomputable abbrev Rb:=List V->St->Hp->(St->Hp->Prop)->Prop
noncomputable def PG(X:Cx)(target:Expr)(t:TG):Prop :=
 ∀(pins:List (a5×mi)) (s:ba) (σ:St) (H:Hp) (v:V) (u:a9) (Q:St->Hp->Prop),Inv X pins σ H s->RelV v u->t v σ H Q →
  b_ (model X.prog X.w) X.A (assign target X.env u) (λ_ s'=>∃ σ' H',Inv X pins σ' H' s'/\Q σ' H') X.xe s
noncomputable def Xq(X:Cx)(ts:List Expr)(t:Rb):Prop :=
 ∀(pins:List (a5×mi)) (s:ba) (σ:St) (H:Hp) (vs:List V) (us:List a9) (Q:St->Hp->Prop),Inv X pins σ H s->Vals vs us->t vs σ H Q →
  b_ (model X.prog X.w) X.A (assignInOrder ((assignEach ts X.env).map (·.2)) us) (λ_ s'=>∃ σ' H',Inv X pins σ' H' s'/\Q σ' H') X.xe s
noncomputable abbrev Uw:=V->V->V->Hp->(Hp->Prop)->Prop
noncomputable def Xp(X:Cx)(t:Uw):Prop :=
 ∀(pins:List (a5×mi)) (s:ba) (σ:St) (H:Hp) (o i v:V) (ov iv u:a9) (Q:Hp->Prop),Inv X pins σ H s->RelV o ov->RelV i iv->RelV v u->t o i v H Q →
  b_ (model X.prog X.w) X.A (setItem ov iv u) (λ_ s'=>∃H',Inv X pins σ H' s'/\Q H') X.xe s
section
variable{X:Cx}{pos:sx}
noncomputable def Nm(i:Nat):TG:=λv σ H Q=>Q (σ.set i (some v)) H
theorem aM{i:Nat}{x:bp}(hN:X.N.Nodup)(hi:X.N[i]? =some x)(hx:Loc X.env.scope x)(hf:X.fn x=true\/X.env.scope.names.lookup x=some .local:=by first|exact .inl rfl|exact .inr rfl|assumption):PG X (.Name x pos) (Nm i):=by
 intro pins s σ H v u Q I r h
 exact wpAny_assign_Name (yd I hN hi hx r (λs' I'=>⟨_,H,I',h⟩) hf)
noncomputable def abW:Rb:=λvs σ H Q=>vs=[]/\Q σ H
noncomputable def W8(t:TG)(u:Rb):Rb:=λvs σ H Q=>∃v r,vs=v::r/\t v σ H λσ' H'=>u r σ' H' Q
theorem mR:Xq X [] abW:=by
 intro pins s σ H vs us Q I r h
 obtain⟨e,h⟩:=h
 subst e
 cases r
 exact assignInOrder_nil ⟨σ,H,I,h⟩
theorem bU{e:Expr}{es:List Expr}{t:TG}{u:Rb}(h1:PG X e t)(h2:Xq X es u)
  (hs:(assignEach (e::es) X.env).map (·.2)=assign e X.env::(assignEach es X.env).map (·.2):=by rfl):Xq X (e::es) (W8 t u):=by
 intro pins s σ H vs us Q I r h
 obtain⟨v,vr,e1,h⟩:=h
 subst e1
 cases r with
 |cons r rr =>
  rw[hs]
  refine assignInOrder_cons (dG (h1 pins s σ H _ _ _ I r h) λ_ s1 ⟨σ1,H1,I1,q1⟩=>?_)
  exact h2 pins s1 σ1 H1 _ _ Q I1 rr q1
noncomputable def W7(K:PySem.W.Frag)(n:Nat)(t:Rb):TG:=λv σ H Q=>∃a xs,v= .ref a/\cE K H a xs/\xs.length=n/\t xs σ H Q
theorem qm{es:List Expr}{k:Nat}{t:Rb}{n:Nat}(hc:X.calm=true)(h:Xq X es t)
  (hn:(assignEach es X.env).length=n:=by rfl) (hst:(assignEach es X.env).findIdx? (·.1)=none:=by rfl):PG X (.Tuple es k pos) (W7 X.K n t):=by
 intro pins s σ H v u Q I r hw
 obtain⟨a,xs,e1,hq,hl,hw⟩:=hw
 subst e1
 cases r
 obtain⟨its,rv,ht,hz⟩:=I.tuple hq
 refine assign_Tuple_tuple (I.ok.hd hc) ht (by simp[hn,←hl,rv.length]) hst λh' hx=>?_
 have I1:Inv X pins σ H { s with heap:=h' }:=I.kept (t':=s.toks) λb o e=>hx b o (eA (cm e)) e
 exact h pins _ σ H xs _ Q I1 (by simpa using rv) hw
noncomputable def abV(to ti:TE)(t:Uw):TG:=λv σ H Q=>to σ H λo H1=>ti σ H1 λi H2=>t o i v H2 λH3=>Q σ H3
theorem Gr{o i:Expr}{to ti:TE}{t:Uw}(ho:PE X o to)(hi:PE X i ti)(hs:Xp X t)
  (ha:∀v,assign (.Subscript o i pos) X.env v=(do
   let ov ←holding [v] (eval o X.env)
   let iv ←holding [v,ov] (eval i X.env)
   standAt pos
   holding [v,ov,iv] (setItem ov iv v)
   release [v,ov,iv] []):=by intro _;rfl):PG X (.Subscript o i pos) (abV to ti t):=by
 intro pins s σ H v u Q I r h
 rw[ha]
 refine a0 (iq (dG (ho pins s σ H _ I h) λov s1 ⟨x,H1,I1,r1,q1⟩=>?_))
 refine a0 (iq (dG (hi pins s1 σ H1 _ I1 q1) λiv s2 ⟨y,H2,I2,r2,q2⟩=>?_))
 refine a0 (A_ (a0 (iq (dG (hs pins s2 σ H2 x y v ov iv u _ I2 r1 r2 r q2) λ_ s3 ⟨H3,I3,q3⟩=>?_))))
 exact wpAny_release ⟨σ,H3,I3,q3⟩
noncomputable def SK(te:TE)(g:TG):TS:=λD σ H=>te σ H λx H1=>g x σ H1 D.nx
theorem BV{tg e:Expr}{te:TE}{g:TG}(he:PE X e te)(hg:PG X tg g)(hs:swapsWithSole [tg] e pos.line X.env=pure false:=by rfl)(hw:swappedStores [tg] e X.env=pure none:=by rfl)
  (h1:(assignEach [tg] X.env).map (·.2)=[assign tg X.env]:=by rfl):PS X (.Assign [tg] e pos) (SK te g):=by
 intro pins s σ H D I h
 refine wpAny_Assign_stores (dG (he pins s σ H _ I h) λv s1 ⟨x,H1,I1,r1,q1⟩=>?_) hs hw
 rw[h1]
 exact dG (hg pins s1 σ H1 x v _ I1 r1 q1) λ_ s2 q=>q
theorem aA{i:Nat}{x:bp}{e:Expr}{te:TE}{pos':sx}(hN:X.N.Nodup)(hi:X.N[i]? =some x)(hx:Loc X.env.scope x)(he:PE X e te)(hs:swapsWith e (some (.Name x pos')) pos.line X.env=pure false:=by rfl)(hf:X.fn x=true\/X.env.scope.names.lookup x=some .local:=by first|exact .inl rfl|exact .inr rfl|assumption):
  PS X (.Assign [.Name x pos'] e pos) (SK te (Nm i)):=by
 intro pins s σ H D I h
 refine wpAny_Assign_Name (dG (he pins s σ H _ I h) λv s1 ⟨y,H1,I1,r1,q1⟩=>?_) hs
 exact yd I1 hN hi hx r1 (λs2 I2=>⟨_,H1,I2,q1⟩) hf
end
section
variable{X:Cx}{pos:sx}
noncomputable def Sz(c:TT)(tb:TS):TS:=λD σ H=>∃W:Nat->St->Hp->Prop,(∃m,W m σ H)/\∀m σ H,W m σ H →
 c σ H λb H1=>if b=true then ∃N:St->Hp->Prop,(∀ σ' H',N σ' H'->∃m',m'<m/\W m' σ' H')/\tb { D with nx:=N,ct:=N,bk:=D.nx } σ H1 else D.nx σ H1
theorem yr{c:Expr}{body:List hV}{tc:TT}{tb:TS}(hp:PassesOwn (model X.prog X.w) X.A X.env X.xe)(hc:PT X c tc)(hb:zQ X body tb):PS X (.While c body [] pos) (Sz tc tb):=by
 intro pins s σ H D I h
 obtain⟨W,⟨m0,w0⟩,turn⟩:=h
 refine wpAny_While (codeAny_whileLoop (λn s'=>∃ σ' H',Inv X pins σ' H' s'/\W n σ' H') ?_ m0 ⟨σ,H,I,w0⟩)
 rintro n s1 ⟨σ1,H1,I1,w1⟩
 refine sT hp (dG (hc pins s1 σ1 H1 _ I1 (turn n σ1 H1 w1)) λb s2 ⟨H2,I2,q2⟩=>?_)
 cases b with
 |true =>
  obtain⟨N,hN,q2⟩:=q2
  rw[if_pos rfl]
  refine sT hp (dG (hb pins s2 σ1 H2 _ I2 q2) λf s3 q3=>?_)
  cases f with
  |next =>
   obtain⟨σ3,H3,I3,n3⟩:=q3
   obtain⟨m',hm,w3⟩:=hN σ3 H3 n3
   exact⟨m',hm,σ3,H3,I3,w3⟩
  |cont =>
   obtain⟨σ3,H3,I3,n3⟩:=q3
   obtain⟨m',hm,w3⟩:=hN σ3 H3 n3
   exact⟨m',hm,σ3,H3,I3,w3⟩
  |brk=>exact q3
  |ret v=>exact q3
 |false =>
  rw[if_neg cw]
  exact xv ⟨σ1,H2,I2,q2⟩
end
structure It where
 go:Nat->Hp->Prop
 AE:Nat->Hp->V->Hp->Prop
 stop:Nat->Hp->Prop
noncomputable def qR(X:Cx)(pins:List (a5×mi))(H:Hp)(b:a5):Prop :=
 H b=none/\b≠X.env.locals/\b∉X.fs/\(b∈X.ex\/X.s₀.heap.objs.size<=b)/\(∀x c,X.env.cells.lookup x=some c->c≠b)/\∀p∈X.pn++pins,p.1≠b
theorem Inv.uU{X:Cx}{pins:List (a5×mi)}{σ:St}{H H':Hp}{s:ba}{b:a5}(I:Inv X pins σ H s)(hb:s.heap.objs.size<=b)(hn:H' b=none):qR X pins H' b:=by
 refine⟨hn,m_ (dy I.lt hb),I.aaJ hb,.inr (bj I.sz hb),λx c e z=>?_,λp hp z=>?_⟩
 ·obtain⟨v,q⟩:=I.cell x c e
  exact absurd (dy q.lt (by rw[z];exact hb)) (f8 _)
 ·exact absurd (dy (cm (I.pin p hp).1) (by rw[z];exact hb)) (f8 _)
structure Turn(P:bn)(w:df)(K:PySem.W.Frag)(tg:Expr)(J:It)(fp:List a5)(it:a5)(tn:Nat->eJ->Prop):Prop where
 mem:it∈fp
 obj:∀i h,tn i h->∀b∈fp,∃o,h.get? b=some o/\∀v,o.data≠ .cell v
 keep:∀i h h',tn i h->(∀b∈fp,∀o,h.get? b=some o->h'.get? b=some o)->tn i h'
 item:∀(X:Cx),X.prog=P->X.w=w->X.K=K->X.calm=true->∀(i:Nat) (pins:List (a5×mi)) (s:ba) (σ:St) (H:Hp) (E:a9->ba->Prop),Inv X pins σ H s->(∀b∈fp,qR X pins H b)->tn i s.heap->J.go i H →
  b_ (model P w) X.A (pyNext (.ref it)) (λr s1=>∃u,r=some u ∧
   b_ (model P w) X.A (letOwnedTupleGo tg (.ref it) u) (λ_ s2=>∃x H',Inv X pins σ H' s2/\RelV x u/\J.AE i H x H'/\tn (i+1) s2.heap/\∀b∈fp,H' b=none) E s1) E s
 done:∀(X:Cx),X.prog=P->X.w=w->X.K=K->X.calm=true->∀(i:Nat) (pins:List (a5×mi)) (s:ba) (σ:St) (H:Hp) (E:a9->ba->Prop),Inv X pins σ H s->(∀b∈fp,qR X pins H b)->tn i s.heap->J.stop i H →
  b_ (model P w) X.A (pyNext (.ref it)) (λr s1=>r=none/\Inv X pins σ H s1) E s
 self:∀(A:eR) (i:Nat) (s:ba) (Q:a9->ba->Prop) (E:a9->ba->Prop),tn i s.heap->Q (.ref it) s->b_ (model P w) A (pyIter (.ref it)) Q E s
noncomputable abbrev TI:=St->Hp->(It->Hp->Prop)->Prop
noncomputable def PIE(X:Cx)(pins:List (a5×mi))(σ:St)(tg:Expr)(R:It->Hp->Prop)(itv:a9)(s2:ba):Prop :=
 ∃(it:a5) (fp:List a5) (tn:Nat->eJ->Prop) (J:It) (H':Hp),itv= .ref it/\Inv X pins σ H' s2/\Turn X.prog X.w X.K tg J fp it tn/\tn 0 s2.heap/\(∀b∈fp,qR X pins H' b)/\R J H'
noncomputable def PI(X:Cx)(tg iter:Expr)(wi:TI):Prop :=
 ∀(pins:List (a5×mi)) (s:ba) (σ:St) (H:Hp) (R:It->Hp->Prop),Inv X pins σ H s->wi σ H R →
  b_ (model X.prog X.w) X.A (eval iter X.env) (λv s1=>b_ (model X.prog X.w) X.A (pyIter v) (PIE X pins σ tg R) X.xe s1) X.xe s
theorem Bc{M:Dx}{A:eR}{E:a9->ba->Prop}{s:ba}{tg:Expr}{it:a5}{u:a9}{o:mi}{n:String}{vs:Array a9}{Q:Unit->ba->Prop}(ho:s.heap.get? it=some o)(hc:o.cls= .type n)(hd:o.data= .fields vs)
  (hn:["enumerate","zip","dict_itemiterator","dict_reverseitemiterator","odict_iterator","itertools.zip_longest","itertools.pairwise"].contains n=false) (hQ:Q () s):b_ M A (letOwnedTupleGo tg (.ref it) u) Q E s:=by
 unfold letOwnedTupleGo
 cases tg<;>first
  |exact bi hQ
  |(cases u<;>first
    |exact bi hQ
    |(refine a0 (wpAny_load ho ?_)
      rw[hc,hd]
      show b_ M A (if(["enumerate","zip","dict_itemiterator","dict_reverseitemiterator","odict_iterator","itertools.zip_longest","itertools.pairwise"].contains n&&vs[0]? ==some (rawInt _))=true then _ else _) Q E s
      rw[if_neg (by intro h;rw[hn,t_]at h;cases h)]
      exact bi hQ))
noncomputable def XD(K:PySem.W.Frag)(a:a5):It :=
 ⟨λi H=>∃xs x,cy K H a xs/\xs[i]? =some x,λi H x H'=>H'=H/\∀xs,cy K H a xs->xs[i]? =some x,λi H=>∃xs,cy K H a xs/\xs.length<=i⟩
noncomputable def XA(K:PySem.W.Frag)(a:a5):It :=
 ⟨λi H=>∃xs x,cE K H a xs/\xs[i]? =some x,λi H x H'=>H'=H/\∀xs,cE K H a xs->xs[i]? =some x,λi H=>∃xs,cE K H a xs/\xs.length<=i⟩
noncomputable def US(lo:Int)(n:Nat):It:=⟨λi _=>i<n,λi H x H'=>H'=H/\x= .int (lo+i),λi _=>n<=i⟩
theorem AJ{P:bn}{w:df}{K:PySem.W.Frag}{tg:Expr}(a it:a5):Turn P w K tg (XD K a) [it] it (λi h=>h.IsListIter it a i) where
 mem:=by simp
 obj:=λi h st b hb=>by
  have e:b=it:=by simpa using hb
  subst e
  obtain⟨o,e,c,d⟩:=st
  exact⟨o,e,λv z=>by rw[d]at z;cases z⟩
 keep:=λi h h' st k=>st.at λo e=>k it (by simp) o e
 item:=by
  intro X hP hw hK hc i pins s σ H E I hf st hg
  subst hP hw hK
  obtain⟨xs,x,hq,hx⟩:=hg
  obtain⟨its,rv,p,hz⟩:=I.list hq
  obtain⟨u,hu,ru⟩:=rv.get hx
  obtain⟨f0,f1,f2,f3,f4,f5⟩:=hf it (by simp)
  refine wpAny_pyNext_list_item st p.isList (x:=u) (by simpa using hu) λh' st' sb=>?_
  have I1:Inv X pins σ H { s with heap:=h' }:=I.turned (t':=s.toks) (λb o hb e=>(sb.2 b hb).trans e) f0 f1 f3 f4 f5
  obtain⟨o,e,c,d⟩:=id st'
  exact⟨u,rfl,Bc (s:={ s with heap:=h' }) e c d (by decide) ⟨x,H,I1,ru,⟨rfl,λys hy=>by rw[I.yO hy hq];exact hx⟩,st',λb hb=>(hf b hb).1⟩⟩
 done:=by
  intro X hP hw hK hc i pins s σ H E I hf st hg
  subst hP hw hK
  obtain⟨xs,hq,hx⟩:=hg
  obtain⟨its,rv,p,hz⟩:=I.list hq
  obtain⟨f0,f1,f2,f3,f4,f5⟩:=hf it (by simp)
  have hl:=rv.length
  exact wpAny_pyNext_list_end (I.ok.hd hc) st p.isList (by simp;omega) λh' eb=>⟨rfl,I.turned (t':=s.toks) (λb o hb e=>eb b o hb e) f0 f1 f3 f4 f5⟩
 self:=λ_ _ _ _ _ st h=>wpAny_pyIter_listiter st h
theorem yb{P:bn}{w:df}{K:PySem.W.Frag}{tg:Expr}(a it:a5):Turn P w K tg (XA K a) [it] it (λi h=>h.IsTupleIter it a i) where
 mem:=by simp
 obj:=λi h st b hb=>by
  have e:b=it:=by simpa using hb
  subst e
  obtain⟨o,e,c,d⟩:=st
  exact⟨o,e,λv z=>by rw[d]at z;cases z⟩
 keep:=λi h h' st k=>st.at λo e=>k it (by simp) o e
 item:=by
  intro X hP hw hK hc i pins s σ H E I hf st hg
  subst hP hw hK
  obtain⟨xs,x,hq,hx⟩:=hg
  obtain⟨its,rv,p,hz⟩:=I.tuple hq
  obtain⟨u,hu,ru⟩:=rv.get hx
  obtain⟨f0,f1,f2,f3,f4,f5⟩:=hf it (by simp)
  refine wpAny_pyNext_tuple_item st (show s.heap.IsTuple a its.toArray from p) (x:=u) (by simpa using hu) λh' st' sb=>?_
  have I1:Inv X pins σ H { s with heap:=h' }:=I.turned (t':=s.toks) (λb o hb e=>(sb.2 b hb).trans e) f0 f1 f3 f4 f5
  obtain⟨o,e,c,d⟩:=id st'
  exact⟨u,rfl,Bc (s:={ s with heap:=h' }) e c d (by decide) ⟨x,H,I1,ru,⟨rfl,λys hy=>by rw[I.AK hy hq];exact hx⟩,st',λb hb=>(hf b hb).1⟩⟩
 done:=by
  intro X hP hw hK hc i pins s σ H E I hf st hg
  subst hP hw hK
  obtain⟨xs,hq,hx⟩:=hg
  obtain⟨its,rv,p,hz⟩:=I.tuple hq
  obtain⟨f0,f1,f2,f3,f4,f5⟩:=hf it (by simp)
  have hl:=rv.length
  exact wpAny_pyNext_tuple_end (I.ok.hd hc) st (show s.heap.IsTuple a its.toArray from p) (by simp;omega) λh' eb=>⟨rfl,I.turned (t':=s.toks) (λb o hb e=>eb b o hb e) f0 f1 f3 f4 f5⟩
 self:=λ_ _ _ _ _ st h=>wpAny_pyIter_tupleiter st h
theorem F0{P:bn}{w:df}{K:PySem.W.Frag}{tg:Expr}(it:a5)(lo:Int)(n:Nat):Turn P w K tg (US lo n) [it] it (λi h=>IsRangeIter h it (lo+(i:Nat)*1) ((n:Int)-(i:Nat)) 1) where
 mem:=by simp
 obj:=λi h st b hb=>by
  have e:b=it:=by simpa using hb
  subst e
  exact⟨_,st,λv z=>by
   have z':Data.fields _=Data.cell v:=z
   cases z'⟩
 keep:=λi h h' st k=>k it (by simp) _ st
 item:=by
  intro X hP hw hK hc i pins s σ H E I hf st hg
  subst hP hw hK
  obtain⟨f0,f1,f2,f3,f4,f5⟩:=hf it (by simp)
  have W:=Walks.range (prog:=X.prog) (w:=X.w) (I.ok.hd hc) it lo 1 n
  refine TK.bP (a7 s.toks) (W.item i s _ _ hg st λv h' tk hv st' kk hup=>?_)
  obtain⟨t,rfl⟩:=hv
  have I1:Inv X pins σ H { s with heap:=h',toks:=tk }:=I.turned (λb o hb e=>kk b o (by simpa using hb) e) f0 f1 f3 f4 f5
  refine⟨_,rfl,Bc (s:={ s with heap:=h',toks:=tk }) (n:= "range_iterator") st' rfl rfl (by decide) ⟨.int (lo+i),H,I1,⟨t,?_⟩,⟨rfl,rfl⟩,st',λb hb=>(hf b hb).1⟩⟩
  rw[Int.mul_one]
 done:=by
  intro X hP hw hK hc i pins s σ H E I hf st hg
  subst hP hw hK
  obtain⟨f0,f1,f2,f3,f4,f5⟩:=hf it (by simp)
  exact wpAny_pyNext_range_end (I.ok.hd hc) st (by have:n<=i:=hg;omega) λh' eb=>⟨rfl,I.turned (t':=s.toks) (λb o hb e=>eb b o hb e) f0 f1 f3 f4 f5⟩
 self:=λ_ _ _ _ _ st h=>wpAny_pyIter_rangeiter st h
end
section
section
variable{X:Cx}{tg:Expr}
noncomputable def Wu(K:PySem.W.Frag)(tl:TE):TI:=λσ H R=>tl σ H λx H1=>∃a,x= .ref a/\(∃xs,cy K H1 a xs)/\R (XD K a) H1
noncomputable def aa4(K:PySem.W.Frag)(tl:TE):TI:=λσ H R=>tl σ H λx H1=>∃a,x= .ref a/\(∃xs,cE K H1 a xs)/\R (XA K a) H1
theorem ql{l:Expr}{tl:TE}(hl:PE X l tl):PI X tg l (Wu X.K tl):=by
 intro pins s σ H R I h
 refine dG (hl pins s σ H _ I h) λv s1 ⟨x,H1,I1,r1,q1⟩=>?_
 obtain⟨a,e,⟨xs,hq⟩,q⟩:=q1
 subst e
 cases r1
 obtain⟨its,rv,p,hz⟩:=I1.list hq
 refine pi p.isList ?_
 refine⟨s1.heap.objs.size,[s1.heap.objs.size],_,_,H1,rfl,I1.kept (t':=s1.toks) λb o e=>a8 _ e,AJ a _,⟨_,bo _ rfl,rfl,rfl⟩,λb hb=>?_,q⟩
 have e:b=s1.heap.objs.size:=by simpa using hb
 subst e
 exact I1.uU (a7 _) (I1.hok.fresh (a7 _))
theorem Mm{l:Expr}{tl:TE}(hl:PE X l tl):PI X tg l (aa4 X.K tl):=by
 intro pins s σ H R I h
 refine dG (hl pins s σ H _ I h) λv s1 ⟨x,H1,I1,r1,q1⟩=>?_
 obtain⟨a,e,⟨xs,hq⟩,q⟩:=q1
 subst e
 cases r1
 obtain⟨its,rv,p,hz⟩:=I1.tuple hq
 refine rc (show s1.heap.IsTuple a its.toArray from p) ?_
 refine⟨s1.heap.objs.size,[s1.heap.objs.size],_,_,H1,rfl,I1.kept (t':=s1.toks) λb o e=>a8 _ e,yb a _,⟨_,bo _ rfl,rfl,rfl⟩,λb hb=>?_,q⟩
 have e:b=s1.heap.objs.size:=by simpa using hb
 subst e
 exact I1.uU (a7 _) (I1.hok.fresh (a7 _))
theorem L8{pins:List (a5×mi)}{σ:St}{H:Hp}{s:ba}{R:It->Hp->Prop}{E:a9->ba->Prop}{lo hi:Int}{t u v:Do}{tk:Nat}(I:Inv X pins σ H s)(h1: -(2 ^ 62)<=lo)(h2:lo<2 ^ 62)(h3: -(2 ^ 62)<=hi)(h4:hi<2 ^ 62)
  (q:R (US lo (hi-lo).toNat) H) (htk:s.toks<=tk:=by first|exact a7 _|exact g_ _|assumption|omega):b_ (model X.prog X.w) X.A (pyIter (.ref s.heap.objs.size)) (PIE X pins σ tg R) E { s with heap:=s.heap.push { cls:=.type "range",data:=.fields #[.int lo t,.int hi u,.int 1 v] },toks:=tk }:=by
 refine wpAny_pyIter_range (IsRange.new ..) (small_one h1 h2 h3 h4) ?_
 have I1:Inv X pins σ H { s with heap:=s.heap.push { cls:=.type "range",data:=.fields #[.int lo t,.int hi u,.int 1 v] },toks:=tk }:=I.kept λb o e=>a8 _ e
 refine⟨(s.heap.push { cls:=.type "range",data:=.fields #[.int lo t,.int hi u,.int 1 v] }).objs.size,[(s.heap.push { cls:=.type "range",data:=.fields #[.int lo t,.int hi u,.int 1 v] }).objs.size],_,_,H,rfl,
  I1.kept (t':=tk) λb o e=>a8 _ e,F0 _ lo (hi-lo).toNat,?_,λb hb=>?_,q⟩
 ·have e1:lo+((0:Nat):Int)*1=lo:=by simp
  have e2:(((hi-lo).toNat:Nat):Int)-((0:Nat):Int)=ui lo hi 1:=by rw[rangeSize_one];split<;>omega
  show IsRangeIter _ _ (lo+((0:Nat):Int)*1) ((((hi-lo).toNat:Nat):Int)-((0:Nat):Int)) 1
  rw[e1,e2]
  exact bo _ rfl
 ·have e:b=(s.heap.push { cls:=.type "range",data:=.fields #[.int lo t,.int hi u,.int 1 v] }).objs.size:=by simpa using hb
  subst e
  exact I1.uU (a7 _) (I1.hok.fresh (a7 _))
noncomputable def Wt(ta:TA):TI:=λσ H R=>ta σ H λvs H1=>∃j:Int,vs=[.int j]/\ -(2 ^ 62)<=j/\j<2 ^ 62/\R (US 0 j.toNat) H1
theorem g9 {a:Expr}{ta:TA}{p pos:sx}(hg:Gl X "range")(hm:X.mg "range" =none)(ha:PA X [a] ta)(hs:eP [a] X.env=[(false,eval a X.env)]:=by rfl):PI X tg (.Call (.Name "range" p) [a] [] pos) (Wt ta):=by
 intro pins s σ H R I h
 refine Call_ (pF I hg hm boot_range (lv (dG (ha pos pins s σ H _ I h) λus s1 ⟨vs,H1,I1,r1,q1⟩=>?_) hs rfl))
 obtain⟨j,e,q1,q2,q⟩:=q1
 subst e
 cases r1 with
 |cons r rr =>
  cases rr
  obtain⟨t,rfl⟩:=r
  exact call_range_1 (L8 I1 (by omega) (by omega) q1 q2 (by simpa using q))
noncomputable def aag(wi:TI)(g:TG)(tb:TS):TS:=λD σ H=>wi σ H λJ H1=>∃W:Nat->Nat->St->Hp->Prop,(∃m,W 0 m σ H1)/\∀i m σ H,W i m σ H →
 (J.stop i H/\D.nx σ H)\/(J.go i H/\∃N:St->Hp->Prop,(∀ σ' H',N σ' H'->∃m',m'<m/\W (i+1) m' σ' H')/\∀x H',J.AE i H x H'->g x σ H' λσ2 H2=>tb { D with nx:=N,ct:=N,bk:=D.nx } σ2 H2)
noncomputable def BX(fp:List a5)(h:eJ):List (a5×mi):=fp.filterMap λb=>(h.get? b).map λo=>(b,o)
theorem lR{fp:List a5}{h:eJ}{b:a5}{o:mi}(hb:b∈fp)(e:h.get? b=some o):(b,o)∈BX fp h:=vT.mpr ⟨b,hb,by rw[e];rfl⟩
theorem JH{fp:List a5}{h:eJ}{p:a5×mi}(hp:p∈BX fp h):p.1∈fp/\h.get? p.1=some p.2:=by
 obtain⟨b,hb,e⟩:=vT.mp hp
 cases q:h.get? b with
 |none=>rw[q]at e;cases e
 |some o =>
  rw[q]at e
  have e':(b,o)=p:=dA e
  subst e'
  exact⟨hb,q⟩
theorem Inv.pinned{pins:List (a5×mi)}{σ:St}{H:Hp}{s:ba}{fp:List a5}(I:Inv X pins σ H s)(hf:∀b∈fp,qR X pins H b)(ho:∀b∈fp,∃o,s.heap.get? b=some o/\∀v,o.data≠ .cell v):Inv X (pins++BX fp s.heap) σ H s :=
 I.BW λp hp=>(e_.mp hp).elim (λz=>I.pin p (eQ _ z)) λz=>by
  obtain⟨hb,e⟩:=JH z
  obtain⟨f0,f1,f2,_⟩:=hf p.1 hb
  obtain⟨o,e',d⟩:=ho p.1 hb
  rw[e]at e';cases e'
  exact⟨e,f0,f1,f2,d⟩
theorem Inv.x8{pins pl:List (a5×mi)}{σ:St}{H:Hp}{s:ba}(I:Inv X (pins++pl) σ H s):Inv X pins σ H s:=I.BW λp hp=>I.pin p (eQ _ (hJ _ hp))
theorem cZ{iter:Expr}{body:List hV}{wi:TI}{g:TG}{tb:TS}{pos:sx}(hp:PassesOwn (model X.prog X.w) X.A X.env X.xe)(hc:X.calm=true)(hi:PI X tg iter wi)(hg:PG X tg g)(hb:zQ X body tb)
  (hs:∀x,foldedSetIterable iter X.env x=pure x:=by intro _;rfl):PS X (.For tg iter body [] pos) (aag wi g tb):=by
 intro pins s σ H D I h
 refine wpAny_For (dG (hi pins s σ H _ I h) λv s1 h1=>dG h1 λitv s2 h2=>?_) hs
 obtain⟨it,fp,tn,J,H2,e,I2,T,st2,f2,W,⟨m0,w0⟩,turn⟩:=h2
 subst e
 have stat:∀{H':Hp},(∀b∈fp,H' b=none)->∀b∈fp,qR X pins H' b:=λhn b hb=>⟨hn b hb,(f2 b hb).2⟩
 refine codeAny_forLoop_any (λn s'=>∃i σ' H',Inv X pins σ' H' s'/\tn i s'.heap/\(∀b∈fp,H' b=none)/\W i n σ' H') ?_ m0 ⟨0,σ,H2,I2,st2,λb hb=>(f2 b hb).1,w0⟩
 rintro n s3 ⟨i,σ3,H3,I3,st3,fr3,w3⟩
 rcases turn i n σ3 H3 w3 with⟨stop,qn⟩|⟨go,N,hN,step⟩
 ·refine sT hp (dG (T.done X rfl rfl rfl hc i pins s3 σ3 H3 X.xe I3 (stat fr3) st3 stop) λr s4 ⟨hr,I4⟩=>?_)
  subst hr
  exact xv ⟨σ3,H3,I4,qn⟩
 ·refine sT hp (dG (T.item X rfl rfl rfl hc i pins s3 σ3 H3 X.xe I3 (stat fr3) st3 go) λr s4 ⟨u,hr,h4⟩=>?_)
  subst hr
  refine sT hp (dG h4 λ_ s5 ⟨x,H5,I5,r5,y5,st5,fr5⟩=>?_)
  have I5':=I5.pinned (stat fr5) (T.obj _ _ st5)
  refine sT hp (dG (hg _ s5 σ3 H5 x u _ I5' r5 (step x H5 y5)) λ_ s6 ⟨σ6,H6,I6,q6⟩=>?_)
  refine sT hp (dG (hb _ s6 σ6 H6 _ I6 q6) λf s7 q7=>?_)
  have again:∀{FJ:St} {H7:Hp},Inv X (pins++BX fp s5.heap) FJ H7 s7->N FJ H7->∃m,m<n/\∃i σ' H',Inv X pins σ' H' s7/\tn i s7.heap/\(∀b∈fp,H' b=none)/\W i m σ' H':=λ{FJ H7} I7 n7=>by
   obtain⟨m',hm,w7⟩:=hN FJ H7 n7
   refine⟨m',hm,i+1,FJ,H7,I7.x8,T.keep _ _ _ st5 λb hb o e=>(I7.pin (b,o) (eQ _ (eQ _ (lR hb e)))).1,λb hb=>?_,w7⟩
   obtain⟨o,e,d⟩:=T.obj _ _ st5 b hb
   exact(I7.pin (b,o) (eQ _ (eQ _ (lR hb e)))).2.1
  cases f with
  |next=>obtain⟨FJ,H7,I7,n7⟩:=q7;exact again I7 n7
  |cont=>obtain⟨FJ,H7,I7,n7⟩:=q7;exact again I7 n7
  |brk=>obtain⟨FJ,H7,I7,q7⟩:=q7;exact⟨FJ,H7,I7.x8,q7⟩
  |ret v=>obtain⟨x7,FJ,H7,I7,r7,q7⟩:=q7;exact⟨x7,FJ,H7,I7.x8,r7,q7⟩
end
theorem rM{K:PySem.W.Frag}{a:a5}{xs:List V}{g:TG}{tb:TS}{D:Ends}{σ:St}{H:Hp}(Pv:Nat->St->Hp->Prop)(h0:Pv 0 σ H)(hl:∀i σ H,i<=xs.length->Pv i σ H->cy K H a xs)
  (hs:∀i x σ H,xs[i]? =some x->Pv i σ H->g x σ H λσ2 H2=>tb { D with nx:=Pv (i+1),ct:=Pv (i+1),bk:=D.nx } σ2 H2) (hd:∀ σ H,Pv xs.length σ H->D.nx σ H) :
  ∃W:Nat->Nat->St->Hp->Prop,(∃m,W 0 m σ H)/\∀i m σ H,W i m σ H →
   ((XD K a).stop i H/\D.nx σ H)\/((XD K a).go i H/\∃N:St->Hp->Prop,(∀ σ' H',N σ' H'->∃m',m'<m/\W (i+1) m' σ' H')/\∀x H',(XD K a).AE i H x H'->g x σ H' λσ2 H2=>tb { D with nx:=N,ct:=N,bk:=D.nx } σ2 H2):=by
 refine⟨λi m σ H=>m=xs.length-i/\i<=xs.length/\Pv i σ H,⟨xs.length,by simp,d0 _,h0⟩,?_⟩
 rintro i m σ H ⟨rfl,hi,p⟩
 have q:=hl i σ H hi p
 by_cases hlt:i<xs.length
 ·refine .inr ⟨⟨xs,xs[i],q,by simp[hlt]⟩,Pv (i+1),λσ' H' p'=>⟨xs.length-(i+1),by omega,rfl,hlt,p'⟩,λx H' y=>?_⟩
  obtain⟨e,y⟩:=y
  subst e
  exact hs i x σ _ (y xs q) p
 ·have e:i=xs.length:=by omega
  subst e
  exact .inl ⟨⟨xs,q,a7 _⟩,hd σ H p⟩
theorem IQ{K:PySem.W.Frag}{a:a5}{xs:List V}{g:TG}{tb:TS}{D:Ends}{σ:St}{H:Hp}(Pv:Nat->St->Hp->Prop)(h0:Pv 0 σ H)(hl:∀i σ H,i<=xs.length->Pv i σ H->cE K H a xs)
  (hs:∀i x σ H,xs[i]? =some x->Pv i σ H->g x σ H λσ2 H2=>tb { D with nx:=Pv (i+1),ct:=Pv (i+1),bk:=D.nx } σ2 H2) (hd:∀ σ H,Pv xs.length σ H->D.nx σ H) :
  ∃W:Nat->Nat->St->Hp->Prop,(∃m,W 0 m σ H)/\∀i m σ H,W i m σ H →
   ((XA K a).stop i H/\D.nx σ H)\/((XA K a).go i H/\∃N:St->Hp->Prop,(∀ σ' H',N σ' H'->∃m',m'<m/\W (i+1) m' σ' H')/\∀x H',(XA K a).AE i H x H'->g x σ H' λσ2 H2=>tb { D with nx:=N,ct:=N,bk:=D.nx } σ2 H2):=by
 refine⟨λi m σ H=>m=xs.length-i/\i<=xs.length/\Pv i σ H,⟨xs.length,by simp,d0 _,h0⟩,?_⟩
 rintro i m σ H ⟨rfl,hi,p⟩
 have q:=hl i σ H hi p
 by_cases hlt:i<xs.length
 ·refine .inr ⟨⟨xs,xs[i],q,by simp[hlt]⟩,Pv (i+1),λσ' H' p'=>⟨xs.length-(i+1),by omega,rfl,hlt,p'⟩,λx H' y=>?_⟩
  obtain⟨e,y⟩:=y
  subst e
  exact hs i x σ _ (y xs q) p
 ·have e:i=xs.length:=by omega
  subst e
  exact .inl ⟨⟨xs,q,a7 _⟩,hd σ H p⟩
theorem nQ{lo:Int}{n:Nat}{g:TG}{tb:TS}{D:Ends}{σ:St}{H:Hp}(Pv:Nat->St->Hp->Prop)(h0:Pv 0 σ H)
  (hs:∀i σ H,i<n->Pv i σ H->g (.int (lo+i)) σ H λσ2 H2=>tb { D with nx:=Pv (i+1),ct:=Pv (i+1),bk:=D.nx } σ2 H2) (hd:∀ σ H,Pv n σ H->D.nx σ H) :
  ∃W:Nat->Nat->St->Hp->Prop,(∃m,W 0 m σ H)/\∀i m σ H,W i m σ H →
   ((US lo n).stop i H/\D.nx σ H)\/((US lo n).go i H/\∃N:St->Hp->Prop,(∀ σ' H',N σ' H'->∃m',m'<m/\W (i+1) m' σ' H')/\∀x H',(US lo n).AE i H x H'->g x σ H' λσ2 H2=>tb { D with nx:=N,ct:=N,bk:=D.nx } σ2 H2):=by
 refine⟨λi m σ H=>m=n-i/\i<=n/\Pv i σ H,⟨n,by simp,d0 _,h0⟩,?_⟩
 rintro i m σ H ⟨rfl,hi,p⟩
 by_cases hlt:i<n
 ·refine .inr ⟨hlt,Pv (i+1),λσ' H' p'=>⟨n-(i+1),by omega,rfl,hlt,p'⟩,λx H' y=>?_⟩
  obtain⟨e,y⟩:=y
  subst e y
  exact hs i σ _ hlt p
 ·have e:i=n:=by omega
  subst e
  exact .inl ⟨a7 _,hd σ H p⟩
end
section
noncomputable abbrev R2:=V->V->Hp->VK->Prop
noncomputable def uh(X:Cx)(f:a9->a9->Sem a9)(r:R2):Prop :=
 ∀(pins:List (a5×mi)) (s:ba) (σ:St) (H:Hp) (x y:V) (v u:a9) (Q:VK),Inv X pins σ H s->RelV x v->RelV y u->r x y H Q →
  b_ (model X.prog X.w) X.A (f v u) (EP X pins σ Q) X.xe s
noncomputable def UnR(X:Cx)(f:a9->Sem a9)(r:V->Hp->VK->Prop):Prop :=
 ∀(pins:List (a5×mi)) (s:ba) (σ:St) (H:Hp) (x:V) (v:a9) (Q:VK),Inv X pins σ H s->RelV x v->r x H Q →
  b_ (model X.prog X.w) X.A (f v) (EP X pins σ Q) X.xe s
noncomputable def pY(X:Cx)(f:a9)(r:List V->Hp->VK->Prop):Prop :=
 ∀(pins:List (a5×mi)) (s:ba) (σ:St) (H:Hp) (xs:List V) (us:List a9) (Q:VK),Inv X pins σ H s->Vals xs us->r xs H Q →
  b_ (model X.prog X.w) X.A (call f us) (EP X pins σ Q) X.xe s
noncomputable def XX(r:R2)(ta tb:TE):TE:=λσ H Q=>ta σ H λx H1=>tb σ H1 λy H2=>r x y H2 Q
noncomputable def tUn(r:V->Hp->VK->Prop)(ta:TE):TE:=λσ H Q=>ta σ H λx H1=>r x H1 Q
noncomputable def rI(C:Int->Int->Prop)(g:Int->Int->V):R2:=λx y H Q=>∃i j,x= .int i/\y= .int j/\C i j/\Q (g i j) H
noncomputable def S0(g:Int->Int->V):R2:=λx y H Q=>∃i j,x= .int i/\y= .int j/\Q (g i j) H
noncomputable def rU(g:Int->V):V->Hp->VK->Prop:=λx H Q=>∃i,x= .int i/\Q (g i) H
section
variable{X:Cx}{a b c:Expr}{ta tb tc:TE}{pos:sx}
theorem Uv(ha:PE X a ta)(hb:PE X b tb){pins:List (a5×mi)}{s:ba}{σ:St}{H:Hp}{R:V->V->Hp->Prop}(I:Inv X pins σ H s)
  (h:ta σ H λx H1=>tb σ H1 λy H2=>R x y H2) {Q:a9->ba->Prop} {f:a9->a9->Sem a9}
  (hf:∀v u s2 x y H2,Inv X pins σ H2 s2->RelV x v->RelV y u->R x y H2->b_ (model X.prog X.w) X.A (f v u) Q X.xe s2) :
  b_ (model X.prog X.w) X.A (eval a X.env) (λv s₁=>b_ (model X.prog X.w) X.A (eval b X.env) (λu s₂=>b_ (model X.prog X.w) X.A (f v u) Q X.xe s₂) X.xe s₁) X.xe s:=by
 refine dG (ha pins s σ H _ I h) λv s1 ⟨x,H1,I1,r1,q1⟩=>?_
 refine dG (hb pins s1 σ H1 _ I1 q1) λu s2 ⟨y,H2,I2,r2,q2⟩=>?_
 exact hf v u s2 x y H2 I2 r1 r2 q2
theorem aD{op:Operator}{r:R2}(ho:uh X (binaryOp op) r)(ha:PE X a ta)(hb:PE X b tb):PE X (.BinOp a op b pos) (XX r ta tb):=by
 intro pins s σ H Q I h
 exact wpAny_BinOp (Uv ha hb I h λv u s2 x y H2 I2 rx ry q=>ho pins s2 σ H2 x y v u Q I2 rx ry q)
theorem AZ{op:UnaryOp}{r:V->Hp->VK->Prop}(ho:UnR X (unaryOp op) r)(ha:PE X a ta):PE X (.UnaryOp op a pos) (tUn r ta):=by
 intro pins s σ H Q I h
 exact UnaryOp_ (dG (ha pins s σ H _ I h) λv s1 ⟨x,H1,I1,r1,q1⟩=>ho pins s1 σ H1 x v Q I1 r1 q1)
theorem VE{f:a9->a9->Sem a9}{C:Int->Int->Prop}{g:Int->Int->Int}
  (rule:∀(i j:Int) (t u:Do) (s:ba) (Q:a9->ba->Prop) (E:a9->ba->Prop),C i j->Q (.int (g i j) s.toks) { s with toks:=s.toks+1 }->b_ (model X.prog X.w) X.A (f (.int i t) (.int j u)) Q E s) :
  uh X f (rI C λi j=>.int (g i j)):=by
 intro pins s σ H x y v u Q I rx ry h
 obtain⟨i,j,rfl,rfl,hc,q⟩:=h
 obtain⟨t,rfl⟩:=rx
 obtain⟨t',rfl⟩:=ry
 exact rule i j t t' s _ _ hc ⟨.int (g i j),H,I.tok _,⟨_,rfl⟩,q⟩
theorem VD{f:a9->a9->Sem a9}{g:Int->Int->Int}
  (rule:∀(i j:Int) (t u:Do) (s:ba) (Q:a9->ba->Prop) (E:a9->ba->Prop),Q (.int (g i j) s.toks) { s with toks:=s.toks+1 }->b_ (model X.prog X.w) X.A (f (.int i t) (.int j u)) Q E s) :
  uh X f (S0 λi j=>.int (g i j)):=by
 intro pins s σ H x y v u Q I rx ry h
 obtain⟨i,j,rfl,rfl,q⟩:=h
 obtain⟨t,rfl⟩:=rx
 obtain⟨t',rfl⟩:=ry
 exact rule i j t t' s _ _ ⟨.int (g i j),H,I.tok _,⟨_,rfl⟩,q⟩
theorem S6{f:a9->a9->Sem a9}{g:Int->Int->Bool}
  (rule:∀(i j:Int) (t u:Do) (s:ba) (Q:a9->ba->Prop) (E:a9->ba->Prop),Q (.bool (g i j)) s->b_ (model X.prog X.w) X.A (f (.int i t) (.int j u)) Q E s) :
  uh X f (S0 λi j=>.bl (g i j)):=by
 intro pins s σ H x y v u Q I rx ry h
 obtain⟨i,j,rfl,rfl,q⟩:=h
 obtain⟨t,rfl⟩:=rx
 obtain⟨t',rfl⟩:=ry
 exact rule i j t t' s _ _ ⟨.bl (g i j),H,I,rfl,q⟩
noncomputable def acy(i j:Int):Prop:=0<j/\j<1073741824
noncomputable def acw(i j:Int):Prop:=0<=j/\j<=1000000/\i.natAbs<2 ^ 64
noncomputable def UB(i j:Int):Prop:=(-(2 ^ 64)<i/\i<2 ^ 64)\/(-(2 ^ 64)<j/\j<2 ^ 64)
theorem UB.ok{i j:Int}(h:UB i j):IntMulOk i j:=by
 rcases h with⟨h1,h2⟩|⟨h1,h2⟩
 ·exact .of_left (intBits_le_64 h1 h2)
 ·exact .of_right (intBits_le_64 h1 h2)
theorem cH:uh X (binaryOp .Add) (S0 λi j=>.int (i+j)):=VD λ_ _ _ _ _ _ _ q=>add_int q
theorem ow:uh X (binaryOp .Sub) (S0 λi j=>.int (i-j)):=VD λ_ _ _ _ _ _ _ q=>sub_int q
theorem pq:uh X (binaryOp .Mult) (rI UB λi j=>.int (i*j)):=VE λ_ _ _ _ _ _ _ hc q=>mul_int q hc.ok
theorem dI:uh X (binaryOp .FloorDiv) (rI acy λi j=>.int (i / j)):=VE λi j _ _ _ _ _ hc q=>by
 have h1:(0:Int)<j:=hc.1
 have h2:j<1073741824:=hc.2
 exact floordiv_int (by omega) (by rw[Int.fdiv_eq_ediv_of_nonneg i (by omega)];exact q) (.inl (PyProof.noPylong_small (by omega)))
theorem cJ:uh X (binaryOp .Mod) (rI (λ_ j=>0<j) λi j=>.int (i % j)):=VE λi j _ _ _ _ _ hc q=>by
 have h1:(0:Int)<j:=hc
 exact mod_int' (by omega) (by rw[Int.fmod_eq_emod_of_nonneg i (by omega)];exact q)
theorem B0:uh X (binaryOp .Pow) (rI acw λi j=>.int (i ^ j.toNat)):=VE λ_ _ _ _ _ _ _ hc q=>pow_int_small hc.1 hc.2.1 hc.2.2 q
theorem unI{f:a9->Sem a9}{g:Int->Int}
  (rule:∀(i:Int) (t:Do) (s:ba) (Q:a9->ba->Prop) (E:a9->ba->Prop),Q (.int (g i) s.toks) { s with toks:=s.toks+1 }->b_ (model X.prog X.w) X.A (f (.int i t)) Q E s) :
  UnR X f (rU λi=>.int (g i)):=by
 intro pins s σ H x v Q I rx h
 obtain⟨i,rfl,q⟩:=h
 obtain⟨t,rfl⟩:=rx
 exact rule i t s _ _ ⟨.int (g i),H,I.tok _,⟨_,rfl⟩,q⟩
theorem vA:UnR X (unaryOp .USub) (rU λi=>.int (-i)):=unI λ_ _ _ _ _ q=>neg_int q
end
noncomputable def Vu:V->V->Bool
 | .ia,.ia=>true| .ia,.int _=>true| .int _,.ia=>true| .ia,.bl _=>true| .bl _,.ia=>true| .ia,.str _=>true| .str _,.ia=>true
 | .int _,.int _=>true| .bl _,.bl _=>true| .str _,.str _=>true| .I9 _,.I9 _=>true
 | .int _,.str _=>true| .str _,.int _=>true| .bl _,.str _=>true| .str _,.bl _=>true
 |_,_=>false
noncomputable def rEq:R2:=λx y H Q=>Vu x y=true/\Q (.bl (decide (x=y))) H
noncomputable def rNe:R2:=λx y H Q=>Vu x y=true/\Q (.bl (!decide (x=y))) H
theorem nN{i j:Int}:decide (V.int i=V.int j)=(i==j):=by
 rw[xz]
 simp
theorem NC{i j:Bool}:decide (V.bl i=V.bl j)=(i==j):=by
 rw[xz]
 simp
theorem IW{i j:bp}:decide (V.str i=V.str j)=(i==j):=by
 rw[xz]
 simp
theorem IX{i j:Array UInt8}:decide (V.I9 i=V.I9 j)=(i.toList==j.toList):=by
 rw[xz]
 cases i
 cases j
 simp
section
variable{X:Cx}{a b c:Expr}{ta tb tc:TE}{pos:sx}
theorem b9{pins:List (a5×mi)}{σ:St}{H:Hp}{s:ba}{Q:VK}{k k':Bool}(I:Inv X pins σ H s)(q:Q (.bl k) H)(e:k=k'):EP X pins σ Q (.bool k') s:=by
 subst e
 exact⟨.bl k,H,I,rfl,q⟩
theorem fL:uh X (compareOp .Eq) rEq:=by
 intro pins s σ H x y v u Q I rx ry h
 obtain⟨hs,q⟩:=h
 cases x with
 |ia =>
  cases rx
  cases y with
  |ia=>cases ry;exact PySem.EqNone.eq_none_none (b9 I q (by simp))
  |bl j=>cases ry;exact PySem.EqNone.eq_none_bool (b9 I q (by simp))
  |int j=>obtain⟨t',rfl⟩:=ry;exact PySem.EqNone.eq_none_int (b9 I q (by simp))
  |str j=>obtain⟨t',rfl⟩:=ry;exact PySem.EqNone.eq_none_str (b9 I q (by simp))
  |_=>exact absurd (show false=true from hs) cw
 |bl i =>
  cases rx
  cases y with
  |ia=>cases ry;exact PySem.EqNone.eq_bool_none (b9 I q (by simp))
  |bl j=>cases ry;exact eq_bool (b9 I q NC)
  |str j=>obtain⟨t',rfl⟩:=ry;exact PySem.EqMixed.eq_bool_str (b9 I q (by simp))
  |_=>exact absurd (show false=true from hs) cw
 |int i =>
  obtain⟨t,rfl⟩:=rx
  cases y with
  |ia=>cases ry;exact PySem.EqNone.eq_int_none (b9 I q (by simp))
  |int j=>obtain⟨t',rfl⟩:=ry;exact eq_int (b9 I q nN)
  |str j=>obtain⟨t',rfl⟩:=ry;exact PySem.EqMixed.eq_int_str (b9 I q (by simp))
  |_=>exact absurd (show false=true from hs) cw
 |str i =>
  obtain⟨t,rfl⟩:=rx
  cases y with
  |ia=>cases ry;exact PySem.EqNone.eq_str_none (b9 I q (by simp))
  |bl j=>cases ry;exact PySem.EqMixed.eq_str_bool (b9 I q (by simp))
  |int j=>obtain⟨t',rfl⟩:=ry;exact PySem.EqMixed.eq_str_int (b9 I q (by simp))
  |str j=>obtain⟨t',rfl⟩:=ry;exact eq_str (b9 I q IW)
  |_=>exact absurd (show false=true from hs) cw
 |I9 i =>
  obtain⟨t,rfl⟩:=rx
  cases y with
  |I9 j=>obtain⟨t',rfl⟩:=ry;exact PySem.W.eq_bytes (b9 I q IX)
  |_=>exact absurd (show false=true from hs) cw
 |_=>cases y<;>exact absurd (show false=true from hs) cw
theorem A0:uh X (compareOp .NotEq) rNe:=by
 intro pins s σ H x y v u Q I rx ry h
 obtain⟨hs,q⟩:=h
 cases x with
 |ia =>
  cases rx
  cases y with
  |ia=>cases ry;exact PySem.EqNone.ne_none_none (b9 I q (by simp))
  |bl j=>cases ry;exact PySem.EqNone.ne_none_bool (b9 I q (by simp))
  |int j=>obtain⟨t',rfl⟩:=ry;exact PySem.EqNone.ne_none_int (b9 I q (by simp))
  |str j=>obtain⟨t',rfl⟩:=ry;exact PySem.EqNone.ne_none_str (b9 I q (by simp))
  |_=>exact absurd (show false=true from hs) cw
 |bl i =>
  cases rx
  cases y with
  |ia=>cases ry;exact PySem.EqNone.ne_bool_none (b9 I q (by simp))
  |bl j=>cases ry;exact ne_bool (b9 I q (congrArg not NC))
  |str j=>obtain⟨t',rfl⟩:=ry;exact PySem.EqMixed.ne_bool_str (b9 I q (by simp))
  |_=>exact absurd (show false=true from hs) cw
 |int i =>
  obtain⟨t,rfl⟩:=rx
  cases y with
  |ia=>cases ry;exact PySem.EqNone.ne_int_none (b9 I q (by simp))
  |int j=>obtain⟨t',rfl⟩:=ry;exact ne_int (b9 I q (congrArg not nN))
  |str j=>obtain⟨t',rfl⟩:=ry;exact PySem.EqMixed.ne_int_str (b9 I q (by simp))
  |_=>exact absurd (show false=true from hs) cw
 |str i =>
  obtain⟨t,rfl⟩:=rx
  cases y with
  |ia=>cases ry;exact PySem.EqNone.ne_str_none (b9 I q (by simp))
  |bl j=>cases ry;exact PySem.EqMixed.ne_str_bool (b9 I q (by simp))
  |int j=>obtain⟨t',rfl⟩:=ry;exact PySem.EqMixed.ne_str_int (b9 I q (by simp))
  |str j=>obtain⟨t',rfl⟩:=ry;exact ne_str (b9 I q (congrArg not IW))
  |_=>exact absurd (show false=true from hs) cw
 |I9 i =>
  obtain⟨t,rfl⟩:=rx
  cases y with
  |I9 j=>obtain⟨t',rfl⟩:=ry;exact PySem.W.ne_bytes (b9 I q (congrArg not IX))
  |_=>exact absurd (show false=true from hs) cw
 |_=>cases y<;>exact absurd (show false=true from hs) cw
theorem Eh:uh X (compareOp .Lt) (S0 λi j=>.bl (decide (i<j))):=S6 λ_ _ _ _ _ _ _ q=>lt_int q
theorem A2:uh X (compareOp .LtE) (S0 λi j=>.bl (decide (i<=j))):=S6 λ_ _ _ _ _ _ _ q=>le_int q
theorem uE:uh X (compareOp .Gt) (S0 λi j=>.bl (decide (j<i))):=S6 λ_ _ _ _ _ _ _ q=>gt_int q
theorem Mu:uh X (compareOp .Is) (λx y H Q=>y= .ia/\Q (.bl (decide (x= .ia))) H):=by
 intro pins s σ H x y v u Q I rx ry h
 obtain⟨rfl,q⟩:=h
 cases ry
 refine is_none_gen (b9 I q ?_)
 cases x<;>first
  |(cases rx;rfl)
  |(obtain⟨t,rfl⟩:=rx;rfl)
theorem OZ:uh X (compareOp .IsNot) (λx y H Q=>y= .ia/\Q (.bl (!decide (x= .ia))) H):=by
 intro pins s σ H x y v u Q I rx ry h
 obtain⟨rfl,q⟩:=h
 cases ry
 refine isnot_none_gen (b9 I q ?_)
 cases x<;>first
  |(cases rx;rfl)
  |(obtain⟨t,rfl⟩:=rx;rfl)
theorem bq(b:Expr){op:CmpOp}(h:op≠ .In:=by decide)(h2:op≠ .NotIn:=by decide):behindInMarks op b=false:=by
 have e1:(op==CmpOp.In)=false:=by cases op<;>first|rfl|exact absurd rfl h
 have e2:(op==CmpOp.NotIn)=false:=by cases op<;>first|rfl|exact absurd rfl h2
 cases b<;>simp[behindInMarks,e1,e2]
theorem iL{op:CmpOp}{r:R2}(ho:uh X (compareOp op) r)(ha:PE X a ta)(hb:PE X b tb)(hm:behindInMarks op b=false):PE X (.Compare a [op] [b] pos) (XX r ta tb):=by
 intro pins s σ H Q I h
 exact wpAny_Compare1 (Uv ha hb I h λv u s2 x y H2 I2 rx ry q=>ho pins s2 σ H2 x y v u Q I2 rx ry q) hm
noncomputable def Qn(t:TE):TT:=λσ H Q=>t σ H λx H'=>∃k,x= .bl k/\Q k H'
theorem aQ{op:CmpOp}{r:R2}(ho:uh X (compareOp op) r)(ha:PE X a ta)(hb:PE X b tb)(hm:behindInMarks op b=false):PT X (.Compare a [op] [b] pos) (Qn (XX r ta tb)):=by
 intro pins s σ H Q I h
 refine wpAny_isTrue_Compare1 (dG (ha pins s σ H _ I h) λv s1 ⟨x,H1,I1,r1,q1⟩=>dG (hb pins s1 σ H1 _ I1 q1) λu s2 ⟨y,H2,I2,r2,q2⟩ =>
  dG (ho pins s2 σ H2 x y v u _ I2 r1 r2 q2) λc s3 ⟨z,H3,I3,r3,k,e,q3⟩=>?_) hm
 subst e
 cases r3
 exact kt ⟨H3,I3,q3⟩
noncomputable def Ly(r r':R2)(ta tb tc:TE):TE:=λσ H Q=>ta σ H λx H1=>tb σ H1 λy H2=>r x y H2 λz H3=>∃k,z= .bl k ∧
 (if k=true then tc σ H3 λw' H4=>r' y w' H4 Q else Q (.bl false) H3)
theorem Mr{op op':CmpOp}{r r':R2}(ho:uh X (compareOp op) r)(ho':uh X (compareOp op') r')(ha:PE X a ta)(hb:PE X b tb)(hc:PE X c tc)
  (hm:lastMarks [op,op'] [b,c]=false:=by with_unfolding_all rfl):PE X (.Compare a [op,op'] [b,c] pos) (Ly r r' ta tb tc):=by
 intro pins s σ H Q I h
 refine Compare_chain (dG (ha pins s σ H _ I h) λv s1 ⟨x,H1,I1,r1,q1⟩=>chain_link (dG (hb pins s1 σ H1 _ I1 q1) λu s2 ⟨y,H2,I2,r2,q2⟩ =>
  dG (ho pins s2 σ H2 x y v u _ I2 r1 r2 q2) λd s3 ⟨z,H3,I3,r3,k,e,q3⟩=>?_)) hm
 subst e
 cases r3
 refine kt ?_
 cases k with
 |false=>exact ite_ff ⟨.bl false,H3,I3,rfl,q3⟩
 |true=>exact ite_tt (chain_last (dG (hc pins s3 σ H3 _ I3 q3) λw' s4 ⟨z',H4,I4,r4,q4⟩=>ho' pins s4 σ H4 y z' u w' Q I4 r2 r4 q4))
theorem D9{op op':CmpOp}{r r':R2}(ho:uh X (compareOp op) r)(ho':uh X (compareOp op') r')(ha:PE X a ta)(hb:PE X b tb)(hc:PE X c tc)
  (hm:lastMarks [op,op'] [b,c]=false:=by with_unfolding_all rfl):PT X (.Compare a [op,op'] [b,c] pos) (Qn (Ly r r' ta tb tc)):=by
 intro pins s σ H Q I h
 refine isTrue_chain (dG (ha pins s σ H _ I h) λv s1 ⟨x,H1,I1,r1,q1⟩=>test_link (dG (hb pins s1 σ H1 _ I1 q1) λu s2 ⟨y,H2,I2,r2,q2⟩ =>
  dG (ho pins s2 σ H2 x y v u _ I2 r1 r2 q2) λd s3 ⟨z,H3,I3,r3,k,e,q3⟩=>?_)) hm
 subst e
 cases r3
 refine kt ?_
 cases k with
 |false =>
  obtain⟨k',e',q'⟩:=q3
  cases e'
  exact ite_ff ⟨H3,I3,q'⟩
 |true =>
  refine ite_tt (test_last (dG (hc pins s3 σ H3 _ I3 q3) λw' s4 ⟨z',H4,I4,r4,q4⟩=>dG (ho' pins s4 σ H4 y z' u w' _ I4 r2 r4 q4) λd' s5 ⟨z2,H5,I5,r5,k2,e2,q5⟩=>?_))
  subst e2
  cases r5
  exact kt ⟨H5,I5,q5⟩
theorem vQ:(bt:Nat)<2 ^ 63:=by rw[B2];decide
theorem jT:uh X (binaryOp .Add) (λx y H Q=>∃i j,x= .str i/\y= .str j/\i.length+j.length<=bt/\Q (.str (i++j)) H):=by
 intro pins s σ H x y v u Q I rx ry h
 obtain⟨i,j,rfl,rfl,hz,q⟩:=h
 obtain⟨t,rfl⟩:=rx
 obtain⟨t',rfl⟩:=ry
 exact TK.bP (a7 _) (add_str (λt' tk hup=>⟨.str (i++j),H,I.tok _,⟨_,rfl⟩,q⟩) hz)
theorem vals1{x:V}{us:List a9}(r:Vals [x] us):∃u,us=[u]/\RelV x u:=by
 cases r with
 |cons r1 r2=>cases r2;exact⟨_,rfl,r1⟩
theorem vals2{x y:V}{us:List a9}(r:Vals [x,y] us):∃u w',us=[u,w']/\RelV x u/\RelV y w':=by
 cases r with
 |cons r1 r2 =>
  cases r2 with
  |cons r3 r4=>cases r4;exact⟨_,_,rfl,r1,r3⟩
theorem NN:pY X (.builtin "abs") (λxs H Q=>∃i,xs=[.int i]/\Q (.int (if i<0 then -i else i)) H):=by
 intro pins s σ H xs us Q I r h
 obtain⟨i,rfl,q⟩:=h
 obtain⟨u,rfl,t,rfl⟩:=vals1 r
 exact TK.bP (a7 _) (call_abs_int λu tk hup=>⟨.int (if i<0 then -i else i),H,I.tok _,⟨_,rfl⟩,q⟩)
theorem NL:pY X (.builtin "ord") (λxs H Q=>∃x,xs=[.str x]/\x.length=1/\Q (.int (x.cps.getD 0 0:Nat)) H):=by
 intro pins s σ H xs us Q I r h
 obtain⟨x,rfl,hz,q⟩:=h
 obtain⟨u,rfl,t,rfl⟩:=vals1 r
 exact ord_of_one hz ⟨.int _,H,I.tok _,⟨_,rfl⟩,q⟩
noncomputable def Uz(K:PySem.W.Frag)(x:V)(H:Hp)(n:Nat):Prop :=
 match x with
 | .str y=>y.length<=bt/\n=y.length
 | .I9 y=>y.size<=bt/\n=y.size
 | .ref p=>(∃xs,cy K H p xs/\n=xs.length)\/∃xs,cE K H p xs/\n=xs.length
 |_=>False
theorem aS:pY X (.builtin "len") (λxs H Q=>∃x n,xs=[x]/\Uz X.K x H n/\Q (.int n) H):=by
 intro pins s σ H xs us Q I r h
 obtain⟨x,n,rfl,e,q⟩:=h
 obtain⟨u,rfl,rx⟩:=vals1 r
 have hl:=vQ
 have hs:bt=16777216:=B2
 cases x with
 |str y =>
  obtain⟨t,rfl⟩:=rx
  obtain⟨hy,e'⟩:y.length<=bt/\n=y.length:=e
  subst e'
  exact len_str (by omega) ⟨.int _,H,I.tok _,⟨_,rfl⟩,q⟩
 |I9 y =>
  obtain⟨t,rfl⟩:=rx
  obtain⟨hy,e'⟩:y.size<=bt/\n=y.size:=e
  subst e'
  exact PySem.W.len_bytes (by omega) ⟨.int _,H,I.tok _,⟨_,rfl⟩,q⟩
 |ref p =>
  cases rx
  have e':(∃xs,cy X.K H p xs/\n=xs.length)\/∃xs,cE X.K H p xs/\n=xs.length:=e
  rcases e' with⟨xs,hx,e'⟩|⟨xs,hx,e'⟩
  ·subst e'
   obtain⟨its,r',pl,hz⟩:=I.list hx
   have hlen:=r'.length
   exact Calls.call_len_list pl.isList (by simp only[d_];omega) ⟨.int xs.length,H,I.tok _,⟨_,by simp only[d_];rw[hlen]⟩,q⟩
  ·subst e'
   obtain⟨its,r',pl,hz⟩:=I.tuple hx
   have hlen:=r'.length
   exact len_tuple pl (by simp only[d_];omega) ⟨.int xs.length,H,I.tok _,⟨_,by simp only[d_];rw[hlen]⟩,q⟩
 |_=>exact(show False from e).elim
end
end
section
structure K1(h:eJ)(x dx C:a5)(mA:bp->Option a9):Prop where
 obj:h.get? x=some (PySem.W.instObj C dx)
 ns:h.Ns1 dx mA
 ne:dx≠x
theorem vP{h:eJ}{dx:a5}{mA:bp->Option a9}(n:h.Ns1 dx mA):∃od,h.get? dx=some od/\∀name,PySem.W.lookIn name od=some (mA name):=by
 obtain⟨o,es,ep,ho,hd,hk,_,hm⟩:=n
 refine⟨o,ho,λname=>?_⟩
 have e:=hm name
 unfold nsFind findBy at e
 rw[←Array.find?_toList]at e
 unfold PySem.W.lookIn
 rw[hd]
 dsimp only
 split
 ·rename_i y q
  rw[q]at e
  exact congrArg some e
 ·rename_i q
  rw[q]at e
  have a:es.toList.any (·.refKey)=false:=by
   rw[List.any_eq_false]
   intro y hy
   obtain⟨z,t,hkey⟩:=hk y (Array.mem_toList_iff.mp hy)
   simp[DictEntry.refKey,hkey]
  have a':¬es.toList.any (·.refKey)=true:=by rw[a];exact cw
  rw[if_neg a']
  exact congrArg some e
theorem K1.look{h:eJ}{x dx C:a5}{mA:bp->Option a9}(I:K1 h x dx C mA):∃od,PySem.W.InstAt h x (PySem.W.instObj C dx) C (some od)/\∀name,PySem.W.lookIn name od=some (mA name) :=
 let ⟨od,ho,hl⟩:=vP I.ns
 ⟨od,⟨I.obj,rfl,rfl,ho⟩,hl⟩
section
variable{prog:bn}{w:df}{A:eR}{E:a9->ba->Prop}{s:ba}{K:PySem.W.Frag}{x dx C f:a5}{mA:bp->Option a9}{name:bp}{v:a9}
theorem get_map{expr:Bool}{Q:a9->ba->Prop}(X:K.In s.heap)(I:K1 s.heap x dx C mA)(hg:PySem.W.plainGet K C name=true)(hh:PySem.W.hasDictIn K C=true)
  (ha:PySem.W.findIn K (.ref C) name=some none) (hv:mA name=some v) (hv':PySem.W.handedIn v=true) (h:Q v { s with toks:=s.toks+1 }) :
  b_ (model prog w) A (getAttr (.ref x) name expr) Q E s:=by
 obtain⟨od,J,hl⟩:=I.look
 exact PySem.W.get_value X J (PySem.W.plainGet_of hg).1 (PySem.W.findObj_own hh ha rfl (by rw[hl,hv])) hv' h
theorem OM{ns:List bp}{Q:Unit->ba->Prop}(X:K.In s.heap)(I:K1 s.heap x dx C mA)
  (hs:PySem.W.findIn K (.ref C) "__setattr__" =some (some (.builtin "object.__setattr__"))) (hp:PySem.W.plainOver K C=true) (ht:PySem.W.takerIn K C name=some none) (hh:PySem.W.hasDictIn K C=true)
  (hw:PySem.Within mA ns) (hsz:ns.length<=bt)
  (h:∀h',K1 h' x dx C (λy=>if y=name then some v else mA y)->mM dx s.heap h'->Q () { s with heap:=h',toks:=s.toks+2 }) :
  b_ (model prog w) A (setAttr (.ref x) name v) Q E s:=by
 obtain⟨od,J,hl⟩:=I.look
 refine PySem.W.set_plain X J hs (PySem.W.osa_open (s:={ s with toks:=s.toks+1 }) (r:=none) X J hp ht λb=>?_)
 obtain⟨cd,hc,hd'⟩:=PySem.W.any_some hh
 have hx:s.heap.get? x=some ⟨.ref C,some dx,.plain,#[]⟩:=I.obj
 refine a0 (bi (a0 (a0 (wpAny_loadPart hx (a0 (PySem.W.Looks.here (s:={ s with toks:=s.toks+1 }) (PySem.W.looks_clsIn X hc) ?_))))))
 rw[hd']
 refine bi (a:=some dx) (a0 (bi (a0 ?_)))
 refine wpAny_nsSet1 (s:={ s with toks:=s.toks+1 }) I.ns λh' hn2 hs2=>?_
 obtain⟨oD,esD,epD,WK,WV,WW⟩:=hn2.count (PySem.Within.cons name v hw)
 refine a0 (wpAny_lookBehind WK (by rw[WV];exact pastItsLine_dict (bj WW (by rw[eM];omega))) ?_)
 exact bi (h _ ⟨(hs2.2 _ (Ne.symm I.ne)).trans I.obj,hn2,I.ne⟩ hs2)
theorem MN{R:Result->ba->Prop}{vs:List a9}{kw:List (bp×a9)}(X:K.In s.heap)(hm:PySem.W.makesIn K C=true)
  (hi:PySem.W.findIn K (.ref C) "__init__" =some (some (.ref f))) (hf:PySem.W.typeIn K (.ref f)=some (.type "function"))
  (h:codeAny (model prog w) (A.under (.builtin "type.__call__" ⟨.ref C::vs,kw⟩)) (.call (.ref f) ⟨.ref (s.heap.objs.size+1)::vs,kw⟩) (PySem.W.InitBack (s.heap.objs.size+1) R)
   { s with heap:=(s.heap.push PySem.W.emptyDict).push (PySem.W.instObj C s.heap.objs.size) }) :
  codeAny (model prog w) A (.call (.ref C) ⟨vs,kw⟩) R s:=by
 obtain⟨hh,g,d,t,os⟩:=s
 exact PySem.W.make_core (PySem.W.makes_of X hm) (PySem.W.looks_findIn X hi) (λself=>PySem.W.bind_fn X self hf) (.inl rfl) h
end
noncomputable def aG(f:bp)(v:V):List (bp×V)->List (bp×V)
 |[]=>[(f,v)]
 |(g,x)::r=>if g=f then(g,v)::r else(g,x)::aG f v r
theorem ay(f g:bp)(v:V):∀fs:List (bp×V),(aG f v fs).lookup g=if g=f then some v else fs.lookup g
 |[]=>by
  show on g [(f,v)]=_
  by_cases h:g=f
  ·have hb:(g==f)=true:=beq_iff_eq.mpr h
   simp only[on,hb,if_pos h]
  ·have hb:(g==f)=false:=beq_eq_false_iff_ne.mpr h
   simp only[on,hb,if_neg h]
 |(k,x)::r=>by
  have ih:=ay f g v r
  rw[show aG f v ((k,x)::r)=(if k=f then(k,v)::r else(k,x)::aG f v r) from rfl]
  by_cases hk:k=f
  ·rw[if_pos hk]
   by_cases h:g=k
   ·have hb:(g==k)=true:=beq_iff_eq.mpr h
    simp only[on,hb,if_pos (h.trans hk)]
   ·have hb:(g==k)=false:=beq_eq_false_iff_ne.mpr h
    simp only[on,hb,if_neg (λe:g=f=>h (e.trans hk.symm))]
  ·rw[if_neg hk]
   by_cases h:g=k
   ·have hb:(g==k)=true:=beq_iff_eq.mpr h
    simp only[on,hb,if_neg (λe:g=f=>hk (h.symm.trans e))]
   ·have hb:(g==k)=false:=beq_eq_false_iff_ne.mpr h
    simp only[on,hb]
    exact ih
theorem pR(f:bp)(v:V):∀fs:List (bp×V),f∈(aG f v fs).map (·.1)/\∀g,g∈fs.map (·.1)->g∈(aG f v fs).map (·.1)
 |[]=>⟨by simp[aG],λg h=>by simp at h⟩
 |(k,x)::r=>by
  obtain⟨i1,i2⟩:=pR f v r
  rw[show aG f v ((k,x)::r)=(if k=f then(k,v)::r else(k,x)::aG f v r) from rfl]
  by_cases hk:k=f
  ·rw[if_pos hk]
   subst hk
   exact⟨by simp,λg h=>by simpa using h⟩
  ·rw[if_neg hk]
   refine⟨?_,λg h=>?_⟩
   ·rw[g0]
    exact ce _ i1
   ·rw[g0]at h ⊢
    rcases c_.mp h with e|e
    ·exact c_.mpr (.inl e)
    ·exact ce _ (i2 g e)
theorem rH(f:bp)(v:V):∀fs:List (bp×V),(aG f v fs).length<=fs.length+1
 |[]=>by simp[aG]
 |(k,x)::r=>by
  have ih:=rH f v r
  rw[show aG f v ((k,x)::r)=(if k=f then(k,v)::r else(k,x)::aG f v r) from rfl]
  by_cases hk:k=f
  ·rw[if_pos hk,eM,eM];omega
  ·rw[if_neg hk,eM,eM];omega
theorem oG.some_of{v:V}{o:Option a9}(r:oG (some v) o):∃u,o=some u/\RelV v u:=by
 cases o with
 |none=>exact(show False from r).elim
 |some u=>exact⟨u,rfl,r⟩
theorem Kr{v:V}{u:a9}(r:RelV v u):PySem.W.handedIn u=true:=by
 cases v with
 |ia=>cases (show u=Value.none from r);rfl
 |bl b=>cases (show u=Value.bool b from r);rfl
 |int i=>obtain⟨t,e⟩:=(show ∃t,u=Value.int i t from r);cases e;rfl
 |str x=>obtain⟨t,e⟩:=(show ∃t,u=Value.str x t from r);cases e;rfl
 |I9 b=>obtain⟨t,e⟩:=(show ∃t,u=Value.bytes b t from r);cases e;rfl
 |Uk b=>obtain⟨t,e⟩:=(show ∃t,u=Value.float b t from r);cases e;rfl
 |ref a=>cases (show u=Value.ref a from r);rfl
 |ty n=>cases (show u=Value.type n from r);rfl
section
variable{P:bn}{w:df}{H H':Hp}{h h':eJ}{a C dx:a5}{fs fs':List (bp×V)}
theorem Cn(hok:nZ P w H h)(e:H a=some (.ins C dx fs)):∃mA,K1 h a dx C mA/\(∀f,oG (fs.lookup f) (mA f))/\PySem.Within mA (fs.map (·.1))/\fs.length<=1000/\H dx=some (.own a):=by
 obtain⟨d,z,ne,ob,mA,n,r,q⟩:=(show bM P w H h a (.ins C dx fs) from hok a _ e)
 exact⟨mA,⟨ob,n,ne⟩,r,q,z,d⟩
end
structure Qh(K:PySem.W.Frag)(C:a5):Prop where
 pg:PySem.W.plainGet K C zn=true
 hd:PySem.W.hasDictIn K C=true
 po:PySem.W.plainOver K C=true
 sa:PySem.W.findIn K (.ref C) "__setattr__" =some (some (.builtin "object.__setattr__"))
theorem Qh.get{K:PySem.W.Frag}{C:a5}(c:Qh K C)(f:bp):PySem.W.plainGet K C f=true:=c.pg
noncomputable def bO(K:PySem.W.Frag)(C:a5)(f:bp):Prop:=PySem.W.findIn K (.ref C) f=some none
theorem bO.Lx{K:PySem.W.Frag}{C:a5}{f:bp}(n:bO K C f):PySem.W.takerIn K C f=some none:=by
 unfold PySem.W.takerIn
 rw[show PySem.W.findIn K (.ref C) f=some none from n]
 rfl
section
variable{X:Cx}{pins:List (a5×mi)}{σ:St}{H:Hp}{s:ba}{a C dx:a5}{fs:List (bp×V)}{f:bp}{v:V}{A:eR}{E:a9->ba->Prop}
theorem G2{b:Bool}{Q:a9->ba->Prop}(I:Inv X pins σ H s)(e:H a=some (.ins C dx fs))(c:Qh X.K C)(n:bO X.K C f)(l:fs.lookup f=some v)
  (h:∀u s',Inv X pins σ H s'->RelV v u->Q u s'):b_ (model X.prog X.w) A (getAttr (.ref a) f b) Q E s:=by
 obtain⟨mA,O,r,_,_,_⟩:=Cn I.hok e
 obtain⟨u,hu,ru⟩:=oG.some_of (v:=v) (o:=mA f) (by rw[←l];exact r f)
 exact get_map I.qv O (c.get f) c.hd n hu (Kr ru) (h u _ (I.tok _) ru)
theorem Ge{y:V}{u:a9}{Q:Unit->ba->Prop}(I:Inv X pins σ H s)(e:H a=some (.ins C dx fs))(c:Qh X.K C)(n:bO X.K C f)(hl:fs.length<1000)(ry:RelV y u)
  (h:∀s',Inv X pins σ (upd H a (.ins C dx (aG f y fs))) s'->Q () s'):b_ (model X.prog X.w) A (setAttr (.ref a) f u) Q E s:=by
 obtain⟨mA,O,r,wi,_,ho⟩:=Cn I.hok e
 have hz:(fs.map (·.1)).length<=bt:=by rw[bc,B2];omega
 refine OM I.qv O c.sa c.po n.Lx c.hd wi hz λh' O' sb=>h _ ?_
 have hd:∃o,h'.get? dx=some o:=let ⟨o,_,_,e',_⟩:=O'.ns;⟨o,e'⟩
 refine I.write (x:=a) (e:=dx) (by rw[e];exact True.intro) (.inr ho) (λb q hb z=>(sb.2 b hb).trans z) hd ?_
 refine⟨by rw[au O.ne];exact ho,?_,O.ne,O'.obj,_,O'.ns,λg=>?_,λg hg=>?_⟩
 ·have:=rH f y fs;omega
 ·show oG ((aG f y fs).lookup g) (if g=f then some u else mA g)
  rw[ay]
  by_cases q:g=f
  ·rw[if_pos q,if_pos q];exact ry
  ·rw[if_neg q,if_neg q];exact r g
 ·by_cases q:g=f
  ·rw[q];exact(pR f y fs).1
  ·refine(pR f y fs).2 g (wi g λz=>hg ?_)
   show(if g=f then some u else mA g)=none
   rw[if_neg q];exact z
theorem Inv.made(I:Inv X pins σ H s):Inv X pins σ (upd (upd H s.heap.objs.size (.own (s.heap.objs.size+1))) (s.heap.objs.size+1) (.ins C s.heap.objs.size []))
  { s with heap:=(s.heap.push PySem.W.emptyDict).push (PySem.W.instObj C s.heap.objs.size) }:=by
 have e1:(s.heap.push PySem.W.emptyDict).get? s.heap.objs.size=some PySem.W.emptyDict:=bo s.heap rfl
 have e2:((s.heap.push PySem.W.emptyDict).push (PySem.W.instObj C s.heap.objs.size)).get? (s.heap.objs.size+1)=some (PySem.W.instObj C s.heap.objs.size):=by
  have:=bo (s.heap.push PySem.W.emptyDict) (o:=PySem.W.instObj C s.heap.objs.size) rfl
  rwa [l_]at this
 have e3:(s.heap.push PySem.W.emptyDict).Ns s.heap.objs.size (λ_=>none):=⟨PySem.W.emptyDict,#[],_,e1,rfl,(λe he=>absurd he (by simp)),λ_=>rfl⟩
 have I1:=I.laid (a:=s.heap.objs.size) (o:=.own (s.heap.objs.size+1)) (h':=s.heap.push PySem.W.emptyDict) (t':=s.toks) (λb u q=>a8 _ q) (a7 _) ⟨_,e1⟩
 refine I1.laid (a:=s.heap.objs.size+1) (o:=.ins C s.heap.objs.size []) (t':=s.toks) (λb u q=>a8 _ q) (Nat.le_of_eq (l_ _ _)) ?_
 have ne:s.heap.objs.size≠s.heap.objs.size+1:=eA (k_ _)
 refine⟨by rw[au ne,ah],d0 _,ne,e2,λ_=>none,(Heap.Ns1.of_empty e3).at λo q=>a8 _ q,λ_=>True.intro,λy hy=>absurd rfl hy⟩
theorem Jd{prog:bn}{w:df}{env:Env}{e:Expr}{f:bp}{pos:sx}{s:ba}{Q:a9->ba->Prop}(hb:attributeBase e f env (eval e env)=eval e env)
  (h:b_ (model prog w) A (eval e env) (λo s₁=>b_ (model prog w) A (getAttr o f true) Q E s₁) E s):b_ (model prog w) A (eval (.Attribute e f pos) env) Q E s :=
 Attribute_any_ h (by rw[arm_eval_Attribute,hb])
end
noncomputable def Vd(K:PySem.W.Frag)(ta:TE)(f:bp):TE:=λσ H Q=>ta σ H λx H1=>∃a C dx fs v,x= .ref a/\H1 a=some (.ins C dx fs)/\Qh K C/\bO K C f/\fs.lookup f=some v/\Q v H1
noncomputable def aap(K:PySem.W.Frag)(ta tv:TE)(f:bp):TS:=λD σ H=>tv σ H λy H1=>ta σ H1 λx H2=>∃a C dx fs,x= .ref a/\H2 a=some (.ins C dx fs)/\Qh K C/\bO K C f/\fs.length<1000 ∧
 D.nx σ (upd H2 a (.ins C dx (aG f y fs)))
section
variable{X:Cx}{o e value:Expr}{f:bp}{pos pos' tpos:sx}{ta tv:TE}
theorem dP(he:PE X e ta)(hb:attributeBase e f X.env (eval e X.env)=eval e X.env):PE X (.Attribute e f pos) (Vd X.K ta f):=by
 intro pins s σ H Q I h
 refine Jd hb (dG (he pins s σ H _ I h) λu s1 ⟨x,H1,I1,rx,a,C,dx,fs,v,ex,ea,c,n,l,q⟩=>?_)
 subst ex
 obtain rfl:u=Value.ref a:=rx
 exact G2 I1 ea c n l λu' s2 I2 ru=>⟨v,H1,I2,ru,q⟩
theorem m7(ha:PE X o ta)(hv:PE X value tv)(hs:swapsWith value (some (.Attribute o f pos')) pos.line X.env=pure false):PS X (.Assign [.Attribute o f pos'] value pos) (aap X.K ta tv f):=by
 intro pins s σ H D I h
 refine plainObj_wpAny_Assign_Attribute (dG (hv pins s σ H _ I h) λu s1 ⟨y,H1,I1,ry,q⟩=>dG (ha pins s1 σ H1 _ I1 q) λov s2 ⟨x,H2,I2,rx,a,C,dx,fs,ex,ea,c,n,l,q2⟩=>?_) hs
 subst ex
 obtain rfl:ov=Value.ref a:=rx
 exact Ge I2 ea c n l ry λs3 I3=>⟨σ,_,I3,q2⟩
end
section
variable{X:Cx}{pins:List (a5×mi)}{σ:St}{H:Hp}{s:ba}{A:eR}{E:a9->ba->Prop}{Q:a9->ba->Prop}{c:a9}{b:Bool}
inductive vc(K:PySem.W.Frag)(H:Hp):V->a9->Prop where
 |ia:vc K H .ia (.type "NoneType")
 |bl (x:Bool):vc K H (.bl x) (.type "bool")
 |int (i:Int):vc K H (.int i) (.type "int")
 |str (x:bp):vc K H (.str x) (.type "str")
 |Uk (x:UInt64):vc K H (.Uk x) (.type "float")
 |lst {a:a5} {xs:List V} (e:H a=some (.lst xs)):vc K H (.ref a) (.type "list")
 |uR {a:a5} {o:mi} {xs:List V} (e:H a=some (.uR o (.lst xs))):vc K H (.ref a) (.type "list")
 |tup {a:a5} {xs:List V} (e:H a=some (.tup xs)):vc K H (.ref a) (.type "tuple")
 |dK {a:a5} {kvs:List (Key×V)} (e:H a=some (.dK kvs)):vc K H (.ref a) (.type "dict")
 |dT {a:a5} {kvs:List (List Key×V)} (e:H a=some (.dT kvs)):vc K H (.ref a) (.type "dict")
 |ins {a C dx:a5} {fs:List (bp×V)} (e:H a=some (.ins C dx fs)) (cl:Qh K C) (ha:PySem.W.findIn K (.ref C) "__class__" =some (some (.builtin "object.__class__")))
   (hn:PySem.W.specialIn K (.builtin "object.__class__") "__get__" =some (some (.builtin "getset_descriptor.__get__"))) (htk:PySem.W.takesIn K (.builtin "object.__class__")=some true)
   (hm:PySem.W.mroIn K C (.type "object")=some true):vc K H (.ref a) (.ref C)
theorem Kf{x:V}{u t:a9}(I:Inv X pins σ H s)(rx:RelV x u)(ty:vc X.K H x t)(e:PySem.W.kitOne X.K t c=some b)(h:∀tk,Q (.bool b) { s with toks:=tk }):
  b_ (model X.prog X.w) A (call (.builtin "isinstance") [u,c]) Q E s:=by
 cases ty with
 |ia=>cases (show u=Value.none from rx);exact PySem.W.kia_one PySem.W.kitx_none I.qv True.intro e (λz=>nomatch z) h
 |bl y=>cases (show u=Value.bool y from rx);exact PySem.W.kia_one PySem.W.kitx_bool I.qv True.intro e (λz=>nomatch z) h
 |int i=>obtain⟨t,q⟩:=(show ∃t,u=Value.int i t from rx);cases q;exact PySem.W.kia_one PySem.W.kitx_int I.qv True.intro e (λz=>nomatch z) h
 |str y=>obtain⟨t,q⟩:=(show ∃t,u=Value.str y t from rx);cases q;exact PySem.W.kia_one PySem.W.kitx_str I.qv True.intro e (λz=>nomatch z) h
 |Uk y=>obtain⟨t,q⟩:=(show ∃t,u=Value.float y t from rx);cases q;exact PySem.W.kia_one PySem.W.kitx_float I.qv True.intro e (λz=>nomatch z) h
 | @lst a xs ea =>
  cases (show u=Value.ref a from rx)
  obtain⟨_,_,n,_,h1⟩:=(show bM X.prog X.w H s.heap a (.lst xs) from I.hok a _ ea)
  exact PySem.W.kia_one PySem.W.kitx_list I.qv ⟨_,h1,rfl⟩ e (λz=>nomatch z) h
 | @uR a ob xs ea =>
  cases (show u=Value.ref a from rx)
  obtain⟨_,_,_,n,_,h1⟩:=(show bM X.prog X.w H s.heap a (.uR ob (.lst xs)) from I.hok a _ ea)
  exact PySem.W.kia_one PySem.W.kitx_list I.qv ⟨_,h1,rfl⟩ e (λz=>nomatch z) h
 | @tup a xs ea =>
  cases (show u=Value.ref a from rx)
  obtain⟨_,_,_,p⟩:=(show bM X.prog X.w H s.heap a (.tup xs) from I.hok a _ ea)
  obtain⟨o,h1,h2,_⟩:=p
  exact PySem.W.kia_one PySem.W.kitx_tuple I.qv ⟨o,h1,h2⟩ e (λz=>nomatch z) h
 | @dK a kvs ea =>
  cases (show u=Value.ref a from rx)
  obtain⟨_,_,vs,_,p⟩:=(show bM X.prog X.w H s.heap a (.dK kvs) from I.hok a _ ea)
  obtain⟨o,es,ep,h1,h2,_⟩:=p
  exact PySem.W.kia_one PySem.W.kitx_dict I.qv ⟨o,h1,h2.1⟩ e (λz=>nomatch z) h
 | @dT a kvs ea =>
  cases (show u=Value.ref a from rx)
  obtain⟨_,_,xs,_,o,es,ep,h1,h2,_⟩:=(show bM X.prog X.w H s.heap a (.dT kvs) from I.hok a _ ea)
  exact PySem.W.kia_one PySem.W.kitx_dict I.qv ⟨o,h1,h2.1⟩ e (λz=>nomatch z) h
 | @ins a C dx fs ea cl ha hn htk hm =>
  cases (show u=Value.ref a from rx)
  obtain⟨mA,O,_⟩:=Cn I.hok ea
  obtain⟨od,J,_⟩:=O.look
  exact PySem.W.kia_one (PySem.W.kitx_own (cl.get _) cl.hd ha hn htk hm) I.qv J e (λz=>nomatch z) h
end
end
section
structure jL(k:Nat)(A:eR):Prop where
 hd:A.handled=none
 dp:A.depth+3*k+5<recursionLimit
 un:A.units+16*k+200<cLine
theorem jL.mono{j k:Nat}{A:eR}(r:jL k A)(h:j<=k):jL j A:=⟨r.hd,by have:=r.dp;omega,by have:=r.un;omega⟩
theorem jL.deeper{k:Nat}{A:eR}(r:jL (k+1) A)(env:Env):jL k (A.deeper env) :=
 ⟨r.hd,by have:=r.dp;show A.depth+1+3*k+5<_;omega,by have:=r.un;show A.units+3+16*k+200<_;omega⟩
theorem GW{A:eR}{C:a5}{us:List a9}{kw:List (bp×a9)}:(A.under (.builtin "type.__call__" ⟨.ref C::us,kw⟩)).depth=A.depth+1:=by
 first|rfl|simp[Around.under,Code.weight,Code.isCreation,Code.isGuard,Code.isCaller,Code.frames,Code.isFrame,guardIds]
theorem GV{A:eR}{C:a5}{us:List a9}{kw:List (bp×a9)}:(A.under (.builtin "type.__call__" ⟨.ref C::us,kw⟩)).units=A.units+1:=by
 first|rfl|simp[Around.under,Code.cUnits,Code.frames,Code.isFrame]
theorem jL.make{k:Nat}{A:eR}(r:jL (k+1) A)(C:a5)(us:List a9)(kw:List (bp×a9)):jL k (A.under (.builtin "type.__call__" ⟨.ref C::us,kw⟩)) :=
 ⟨r.hd,by have:=r.dp;rw[GW];omega,by have:=r.un;rw[GV];omega⟩
theorem jL.depth{k:Nat}{A:eR}(r:jL k A):A.depth<recursionLimit:=by have:=r.dp;omega
theorem jL.units{k:Nat}{A:eR}(r:jL k A):A.units+64<cLine:=by have:=r.un;omega
noncomputable def aac:TA:=λ_ H Q=>Q [] H
noncomputable def Vh(ta:TE)(tr:TA):TA:=λσ H Q=>ta σ H λx H1=>tr σ H1 λxs H2=>Q (x::xs) H2
section
variable{X:Cx}{e:Expr}{es:List Expr}{te:TE}{t:TA}{pos:sx}
theorem af:PA X [] aac:=λ_ _ _ _ H Q I h=>Calls.spliced_nil ⟨[],H,I,.nil,h⟩
theorem aa(ha:PE X e te)(hr:PA X es t)(hs:eP (e::es) X.env=(false,eval e X.env)::eP es X.env:=by rfl):PA X (e::es) (Vh te t):=by
 intro pos pins s σ H Q I h
 rw[hs]
 show b_ _ _ (spliced ((false,eval e X.env)::backTo pos (eP es X.env))) _ _ s
 refine Calls.spliced_cons (dG (ha pins s σ H _ I h) λu s1 ⟨x,H1,I1,r1,q1⟩=>?_)
 exact dG (hr pos pins s1 σ H1 _ I1 q1) λus s2 ⟨xs,H2,I2,r2,q2⟩=>⟨x::xs,H2,I2,.cons r1 r2,q2⟩
noncomputable def Z8(t:TA):TE:=λσ H Q=>t σ H λxs H1=>xs.length<=bt/\∀p,H1 p=none->Q (.ref p) (upd H1 p (.tup xs))
noncomputable def aae(t:TA):TE:=λσ H Q=>t σ H λxs H1=>xs.length<=bt/\∀p,H1 p=none->Q (.ref p) (upd H1 p (.lst xs))
theorem bC{x1}(h:PA X es t):PE X (.Tuple es x1 pos) (Z8 t):=by
 intro pins s σ H Q I hq
 refine wpAny_Tuple_spliced (dG (h pos pins s σ H _ I hq) λus s1 ⟨xs,H1,I1,r,z,q⟩=>⟨by rw[←r.length];exact z,?_⟩)
 have hf:H1 s1.heap.objs.size=none:=I1.hok.fresh (a7 _)
 refine⟨.ref s1.heap.objs.size,upd H1 s1.heap.objs.size (.tup xs),I1.laid (t':=s1.toks) (λb u e=>a8 _ e) (a7 _) ?_,rfl,q _ hf⟩
 exact⟨z,us,r,⟨_,bo _ rfl,rfl,_,rfl⟩⟩
theorem iS(h:PA X es t):PE X (.List es pos) (aae t):=by
 intro pins s σ H Q I hq
 refine wpAny_List_spliced (dG (h pos pins s σ H _ I hq) λus s1 ⟨xs,H1,I1,r,z,q⟩=>⟨by rw[←r.length];exact z,?_⟩)
 have hf:H1 s1.heap.objs.size=none:=I1.hok.fresh (a7 _)
 refine⟨.ref s1.heap.objs.size,upd H1 s1.heap.objs.size (.lst xs),I1.laid (t':=s1.toks) (λb u e=>a8 _ e) (a7 _) ?_,rfl,q _ hf⟩
 exact⟨z,us,0,r,bo _ rfl⟩
end
noncomputable abbrev Sp:=List V->Hp->VK->XK->Prop
noncomputable abbrev K7:=List Env->Hp->ba->XK->a9->ba->Prop
structure HG(P:bn)(w:df)(K:PySem.W.Frag)(mg:bp->Option a9)(base:eJ)(A:eR)(outer:List Env)(s:ba)(H:Hp):Prop where
 frames:A.frames=some outer
 mod:Mod K mg base
 bs:∀b o,base.get? b=some o->s.heap.get? b=some o/\H b=none
 NO:base.objs.size<=s.heap.objs.size
 tZ:s.heap.FunFrames base outer
 PU:∀b∈frs outer,H b=none
 hok:nZ P w H s.heap
 bare:C_ s.gens
 tk:Hw mg s.toks
noncomputable def CE(outer:List Env)(P:bn)(w:df)(H:Hp)(s:ba)(Q:VK)(u:a9)(s':ba):Prop :=
 ∃v H',s'.os=s.os/\C_ s'.gens/\Un (frs outer) [] H H' s.heap s'.heap/\nZ P w H' s'.heap/\RelV v u/\s.toks<=s'.toks/\Q v H'
noncomputable def CR(CX:K7)(outer:List Env)(P:bn)(w:df)(H:Hp)(s:ba)(Q:VK)(E:XK)(r:Result)(s':ba):Prop :=
 match r with
 | .ok (.ret u)=>CE outer P w H s Q u s'
 | .ok _=>False
 | .error e=>CX outer H s E e s'
structure aE(P:bn)(w:df)(K:PySem.W.Frag)(mg:bp->Option a9)(base:eJ)(CX:K7)(k:Nat)(f:a5)(fd:dv)(ps:List bp)(sp:Sp):Prop where
 len:∀vs H Q E,sp vs H Q E->vs.length=ps.length
 run:∀(A:eR) (outer:List Env) (s:ba) (H:Hp) (args:Args) (us:List a9) (vs:List V) (Q:VK) (E:XK),jL k A->HG P w K mg base A outer s H->BindsTo s fd args (ps.zip us)->Vals vs us->sp vs H Q E →
  codeAny (model P w) A (.call (.ref f) args) (CR CX outer P w H s Q E) s
theorem HG.make{P:bn}{w:df}{K:PySem.W.Frag}{mg:bp->Option a9}{base:eJ}{A:eR}{outer:List Env}{s:ba}{H:Hp}(e:HG P w K mg base A outer s H)(C:a5)(us:List a9)(kw:List (bp×a9)):
  HG P w K mg base (A.under (.builtin "type.__call__" ⟨.ref C::us,kw⟩)) outer s H:=⟨by first|exact e.frames|(simpa[Around.under,Code.envs,Code.isFrame,pushEnvs]using e.frames),e.mod,e.bs,e.NO,e.tZ,e.PU,e.hok,e.bare,e.tk⟩
section
variable{X:Cx}{pins:List (a5×mi)}{σ:St}{H:Hp}{s s':ba}
theorem Inv.P0(I:Inv X pins σ H s):HG X.prog X.w X.K X.mg X.base X.A X.stack s H :=
 ⟨I.ok.frames,I.ok.mod,I.bs,bj I.ok.NO I.sz,I.stack,I.BH,I.hok,I.bare,I.tk⟩
theorem Inv.after{Q:VK}{u:a9}(I:Inv X pins σ H s)(h:CE X.stack X.prog X.w H s Q u s'):EP X pins σ Q u s':=by
 obtain⟨v,H',os,bare,un,hok,r,tt,q⟩:=h
 obtain⟨hh,g,d,t,os'⟩:=s'
 obtain rfl:os'=s.os:=os
 exact⟨v,H',I.call (h':=hh) (g':=g) (d':=d) (t':=t) (ch:=[]) un hok bare (λb z=>absurd z (by simp)) (bj I.up tt),r,q⟩
end
noncomputable def Vi(sp:Sp)(zP:List V)(E:XK)(t:TA):TE:=λσ H Q=>t σ H λvs H1=>sp (vs++zP) H1 Q E
noncomputable def Vb(C:a5)(sp:Sp)(zP:List V)(E:XK)(t:TA):TE:=λσ H Q=>t σ H λvs H1=>∀x dx,H1 x=none->H1 dx=none->dx≠x →
 sp (.ref x::(vs++zP)) (upd (upd H1 dx (.own x)) x (.ins C dx [])) (λv H2=>v= .ia/\Q (.ref x) H2) E
noncomputable def Binds(K:PySem.W.Frag)(fd:dv)(ps:List bp)(ds:List a9):Prop :=
 ∀(s:ba) (us:List a9),K.In s.heap->(us++ds).length=ps.length->BindsTo s fd ⟨us,[]⟩ (ps.zip (us++ds))
theorem Binds.all{K:PySem.W.Frag}{fd:dv}{ps:List bp}(h:∀us:List a9,us.length=ps.length->bindArgs fd ⟨us,[]⟩=pure (ps.zip us)):Binds K fd ps []:=λs us _ hl=>by
 rw[ib]at hl ⊢
 exact .of_eq (h us hl)
noncomputable def Passes(CX:K7)(X:Cx)(E:XK):Prop:=∀(pins:List (a5×mi)) (σ:St) (H:Hp) (s:ba) (e:a9) (s':ba),Inv X pins σ H s->CX X.stack H s E e s'->X.xe e s'
section
variable{X:Cx}{CX:K7}{k:Nat}{f C:a5}{fd:dv}{ps:List bp}{sp:Sp}{zP:List V}{ds:List a9}{E:XK}{x m:bp}{p pos apos:sx}{e o:Expr}{es:List Expr}{ta:TE}{t:TA}
theorem SX{pins:List (a5×mi)}{σ:St}{H:Hp}{s:ba}{Q:VK}{us:List a9}{vs:List V}(F:aE X.prog X.w X.K X.mg X.base CX k f fd ps sp)(hr:jL k X.A)(hb:Binds X.K fd ps ds)(hd:Vals zP ds)(hx:Passes CX X E)
  (I:Inv X pins σ H s) (r:Vals vs us) (h:sp (vs++zP) H Q E):b_ (model X.prog X.w) X.A (call (.ref f) us) (EP X pins σ Q) X.xe s:=by
 have r2:Vals (vs++zP) (us++ds):=r.append hd
 have hl:(us++ds).length=ps.length:=by rw[←r2.length];exact F.len _ _ _ _ h
 refine v0 (tz (F.run X.A X.stack s H ⟨us,[]⟩ (us++ds) (vs++zP) Q E hr I.P0 (hb s us I.qv hl) r2 h) λr s' hq=>?_)
 cases r with
 |error e=>exact hx pins σ H s e s' I hq
 |ok fl =>
  cases fl with
  |ret u=>exact I.after hq
  |next=>exact kn hq
  |brk=>exact kn hq
  |cont=>exact kn hq
theorem az(F:aE X.prog X.w X.K X.mg X.base CX k f fd ps sp)(hr:jL k X.A)(hg:Gl X x)(hm:X.mg x=some (.ref f))(hk:PySem.W.keepIn X.K (.ref f)=true)(hb:Binds X.K fd ps ds)(hd:Vals zP ds)(hx:Passes CX X E)
  (ha:PA X (e::es) t) (hdb:(x==("__debug__" :bp))=false:=by decide) (he:eP (e::es) X.env=(false,eval e X.env)::eP es X.env:=by rfl) (hpl:(backTo pos (eP es X.env)).any (·.1)=false:=by rfl) :
  PE X (.Call (.Name x p) (e::es) [] pos) (Vi sp zP E t):=by
 intro pins s σ H Q I h
 refine mm (nM I hg hm ?_ hdb)
 refine PySem.W.callWith_K (h₀:=X.base) I.ok.mod.QH hk (dG (ha pos pins s σ H _ I h) λus s1 ⟨vs,H1,I1,r,q⟩=>⟨I1.qv,?_⟩) he hpl
 exact SX F hr hb hd hx I1 r q
structure Mk(K:PySem.W.Frag)(C f:a5):Prop where
 makes:PySem.W.makesIn K C=true
 init:PySem.W.findIn K (.ref C) "__init__" =some (some (.ref f))
 fn:PySem.W.isFn K (.ref f)=true
 kp:PySem.W.keepIn K (.ref C)=true
theorem L5{pins:List (a5×mi)}{σ:St}{H:Hp}{s:ba}{Q:VK}{us:List a9}{vs:List V}(M:Mk X.K C f)(F:aE X.prog X.w X.K X.mg X.base CX k f fd ps sp)(hr:jL (k+1) X.A)(hb:Binds X.K fd ps ds)(hd:Vals zP ds)
  (hx:Passes CX X E) (I:Inv X pins σ H s) (r:Vals vs us)
  (h:∀x dx,H x=none->H dx=none->dx≠x->sp (.ref x::(vs++zP)) (upd (upd H dx (.own x)) x (.ins C dx [])) (λv H2=>v= .ia/\Q (.ref x) H2) E) :
  b_ (model X.prog X.w) X.A (call (.ref C) us) (EP X pins σ Q) X.xe s:=by
 have hq:=h (s.heap.objs.size+1) s.heap.objs.size (I.hok.fresh (g_ _)) (I.hok.fresh (a7 _)) (eA (k_ _))
 have I2:=Inv.made (C:=C) I
 have r2:Vals (V.ref (s.heap.objs.size+1)::(vs++zP)) (Value.ref (s.heap.objs.size+1)::(us++ds)):=.cons rfl (r.append hd)
 have hl:(Value.ref (s.heap.objs.size+1)::us++ds).length=ps.length:=by
  have e:=r2.length
  rw[F.len _ _ _ _ hq]at e
  exact e.symm
 refine v0 (MN (f:=f) I.qv M.makes M.init (beq_iff_eq.mp M.fn) (tz (F.run _ X.stack _ _ ⟨Value.ref (s.heap.objs.size+1)::us,[]⟩ (Value.ref (s.heap.objs.size+1)::(us++ds)) _ _ E (hr.make C us [])
  (I2.P0.make C us []) (hb _ (Value.ref (s.heap.objs.size+1)::us) I2.qv hl) r2 hq) λr s' hq'=>?_))
 cases r with
 |error e=>exact hx pins σ _ _ e s' I2 hq'
 |ok fl =>
  cases fl with
  |ret u =>
   obtain⟨v,H',I3,rv,ev,q3⟩:=I2.after hq'
   subst ev
   exact⟨rv,⟨V.ref (s.heap.objs.size+1),H',I3,rfl,q3⟩⟩
  |next=>exact kn hq'
  |brk=>exact kn hq'
  |cont=>exact kn hq'
theorem Iu(M:Mk X.K C f)(F:aE X.prog X.w X.K X.mg X.base CX k f fd ps sp)(hr:jL (k+1) X.A)(hg:Gl X x)(hm:X.mg x=some (.ref C))(hb:Binds X.K fd ps ds)(hd:Vals zP ds)(hx:Passes CX X E)
  (ha:PA X (e::es) t) (hdb:(x==("__debug__" :bp))=false:=by decide) (he:eP (e::es) X.env=(false,eval e X.env)::eP es X.env:=by rfl) (hpl:(backTo pos (eP es X.env)).any (·.1)=false:=by rfl) :
  PE X (.Call (.Name x p) (e::es) [] pos) (Vb C sp zP E t):=by
 intro pins s σ H Q I h
 refine mm (nM I hg hm ?_ hdb)
 refine PySem.W.callWith_K (h₀:=X.base) I.ok.mod.QH M.kp (dG (ha pos pins s σ H _ I h) λus s1 ⟨vs,H1,I1,r,q⟩=>⟨I1.qv,?_⟩) he hpl
 exact L5 M F hr hb hd hx I1 r q
end
section
variable{X:Cx}{CX:K7}{k:Nat}{f C:a5}{fd:dv}{ps ks:List bp}{sp:Sp}{E:XK}{x m:bp}{p pos apos kpos:sx}{e o:Expr}{es:List Expr}{kws:List Keyword}{te ta:TE}{t tk:TA}{nm:Option bp}
variable{g:List a9->List a9->List a9}{gV:List V->List V->List V}
end
structure aC(N P:List bp)(sc:oP):Prop where
 kind:sc.kind= .function
 co:sc.isCoroutine=false
 gen:sc.isGenerator=false
 nd:N.Nodup
 pre:N.take P.length=P
 par:∀x∈P,sc.names.lookup x=some .local\/sc.names.lookup x=some .cell
 Tc:∀y∈sc.names,y.2≠ .free
theorem Bp{kindOf:bp->Option tI}{x:bp}:∀{binds:List (bp×a9)} {m:bp->Option a9},(∀v,(x,v)∉binds)->bindL kindOf binds m x=m x
 |[],_,_=>rfl
 |(n,v)::r,m,h=>by
  unfold bindL
  rw[Bp λw hw=>h w (ce _ hw)]
  split
  ·have:x≠n:=by rintro rfl;exact h v cr
   simp[this]
  ·rfl
theorem Br{kindOf:bp->Option tI}{x:bp}:∀{binds:List (bp×a9)} {m:bp->Option a9},(∀v,(x,v)∉binds)->bindC kindOf binds m x=m x
 |[],_,_=>rfl
 |(n,v)::r,m,h=>by
  unfold bindC
  rw[Br λw hw=>h w (ce _ hw)]
  split
  ·rfl
  ·have:x≠n:=by rintro rfl;exact h v cr
   simp[this]
theorem Bq{kindOf:bp->Option tI}{x:bp}{v:a9}:∀{P:List bp} {vs:List a9} {i:Nat} {m:bp->Option a9},P.Nodup->P[i]? =some x->vs[i]? =some v->kindOf x=some .local →
  bindL kindOf (P.zip vs) m x=some v
 |[],_,_,_,_,h,_,_=>by simp at h
 |_::_,[],_,_,_,_,h,_=>by simp at h
 |p::P,w::vs,0,m,nd,h1,h2,hk=>by
  simp at h1 h2;subst h1;subst h2
  show bindL kindOf ((p,w)::P.zip vs) m p=_
  unfold bindL
  rw[Bp λv hv=>(wb.mp nd).1 (List.of_mem_zip hv).1,if_pos hk]
  simp
 |p::P,w::vs,i+1,m,nd,h1,h2,hk=>by
  show bindL kindOf ((p,w)::P.zip vs) m x=_
  unfold bindL
  exact Bq (i:=i) (wb.mp nd).2 (by simpa using h1) (by simpa using h2) hk
theorem Bs{kindOf:bp->Option tI}{x:bp}{v:a9}:∀{P:List bp} {vs:List a9} {i:Nat} {m:bp->Option a9},P.Nodup->P[i]? =some x->vs[i]? =some v->kindOf x≠some .local →
  bindC kindOf (P.zip vs) m x=some v
 |[],_,_,_,_,h,_,_=>by simp at h
 |_::_,[],_,_,_,_,h,_=>by simp at h
 |p::P,w::vs,0,m,nd,h1,h2,hk=>by
  simp at h1 h2;subst h1;subst h2
  show bindC kindOf ((p,w)::P.zip vs) m p=_
  unfold bindC
  rw[Br λv hv=>(wb.mp nd).1 (List.of_mem_zip hv).1,if_neg hk]
  simp
 |p::P,w::vs,i+1,m,nd,h1,h2,hk=>by
  show bindC kindOf ((p,w)::P.zip vs) m x=_
  unfold bindC
  exact Bs (i:=i) (wb.mp nd).2 (by simpa using h1) (by simpa using h2) hk
noncomputable def start(N:List bp)(vs:List V):St:=vs.map some++fi (N.length-vs.length) none
noncomputable def sR(CX:K7)(P:bn)(w:df)(K:PySem.W.Frag)(mg:bp->Option a9)(base:eJ)(N:List bp)(qual:bp)(scope:oP)(f:a5)(cd:a9)(A:eR)(outer:List Env)(s:ba)(H:Hp)(E:XK):Cx where
 prog:=P
 w:=w
 K:=K
 mg:=mg
 base:=base
 A:=A.deeper (envOfC qual scope s.heap.objs.size f cd)
 N:=N
 s₀:=s
 H₀:=H
 env:=envOfC qual scope s.heap.objs.size f cd
 outer:=outer
 stack:=envOfC qual scope s.heap.objs.size f cd::outer
 ex:=[]
 calm:=true
 fn:=λ_=>true
 pn:=[]
 xe:=λe s'=>b_ (model P w) (A.deeper (envOfC qual scope s.heap.objs.size f cd)) (leaving (envOfC qual scope s.heap.objs.size f cd) e) (λ_ s''=>CX outer H s E e s'') (λe' s''=>CX outer H s E e' s'') s'
theorem EZ{sc:oP}{n:Nat}{x:bp}(h:sc.names.lookup x=some .cell):∃c,(cellsFrom n sc.names []).lookup x=some c:=by
 have q:=PySem.W.cellsFrom_some sc.names n [] (.inl h)
 exact tJ.mp q
theorem Kh{CX:K7}{P:bn}{w:df}{K:PySem.W.Frag}{mg:bp->Option a9}{base:eJ}{N ps:List bp}{qual:bp}{scope:oP}{f:a5}{cd:a9}{A:eR}{outer:List Env}{s s1:ba}{H:Hp}{E:XK}{us:List a9}{vs:List V}
  (S:aC N ps scope) (hd:A.handled=none) (e0:HG P w K mg base A outer s H) (hl:vs.length=ps.length) (r:Vals vs us)
  (x:InCallC s s.heap.objs.size (bindL (envOfC qual scope s.heap.objs.size f cd).kindOf (ps.zip us) λ_=>none) (cellsFrom (s.heap.objs.size+1) scope.names []) (bindC (envOfC qual scope s.heap.objs.size f cd).kindOf (ps.zip us) λ_=>none) s1) (hup:s.toks<=s1.toks) :
  Inv (sR CX P w K mg base N qual scope f cd A outer s H E) [] (start N vs) H s1:=by
 have hpl:ps.length<=N.length:=by have:=congrArg List.length S.pre;rw[lh]at this;omega
 obtain⟨h1,tk,rfl,hk⟩:=x.done
 have htk:s.toks<=tk:=hup
 have noA:∀b:a5,b∉(sR CX P w K mg base N qual scope f cd A outer s H E).ex:=λb z=>absurd (show b∈([]:List a5) from z) (by simp)
 refine⟨⟨e0.mod,S.kind,rfl,rfl,a7 _,λy z c h1 h2=>?_,λy hy=>?_,λy c _ h=>?_,λ_=>hd,Around.frames_deeper e0.frames,.inr ⟨rfl,rfl⟩,λb z=>absurd z (noA b),e0.bs,e0.NO,λb _ _=>noA b,λb z=>absurd z (noA b),e0.tZ,e0.PU,e0.tk⟩,
  rfl,e0.bare,Un.kept hk,⟨_,x.toInCall.ns,λi y v h1 h2 h3=>?_⟩,λy c h=>⟨_,x.cell y c h⟩,e0.hok.fresh (a7 _),λy c h=>?_,λp hp=>absurd (show p∈([]:List (a5×mi)) from hp) (by simp),e0.hok.kept hk,?_,htk⟩
 ·exact name_of_addr x.apart (PySem.mem_of_lookup h1) (PySem.mem_of_lookup h2)
 ·have hy:scope.names.lookup y=some .cell\/scope.names.lookup y=some .free:=hy
  rcases hy with hy|hy
  ·exact EZ hy
  ·exact absurd rfl (S.Tc _ (PySem.mem_of_lookup hy))
 ·exact kz (x.above y c (PySem.mem_of_lookup h))
 ·have hi:i<vs.length:=by
   unfold start at h2
   by_cases hi:i<vs.length
   ·exact hi
   ·rw[js (by simpa using hi)]at h2
    rw[uj]at h2
    split at h2<;>cases h2
  have ha:vs[i]? =some v:=by
   unfold start at h2
   rw[ik (by simpa using hi),eC]at h2
   cases e:vs[i]? with
   |none=>rw[e]at h2;cases h2
   |some a=>rw[e]at h2;cases h2;rfl
  obtain⟨u,hu,rv⟩:=r.get ha
  have hp:ps[i]? =some y:=by
   rw[←S.pre,List.getElem?_take_of_lt (by omega)];exact h1
  have ndP:ps.Nodup:=by rw[←S.pre];exact S.nd.sublist (List.take_sublist _ _)
  refine⟨u,rv,?_⟩
  rcases S.par y (cx hp)with k|k
  ·exact .inl ⟨k,Bq ndP hp hu k⟩
  ·obtain⟨c,e⟩:=EZ (n:=s.heap.objs.size+1) k
   refine .inr ⟨.inl k,c,e,?_⟩
   have q:=x.cell y c e
   rw[Bs ndP hp hu (by show scope.names.lookup y≠_;rw[k];decide)]at q
   exact q
 ·exact e0.hok.fresh (kz (x.above y c (PySem.mem_of_lookup h)))
 ·unfold start
  show _=N.length
  rw[cn,bc,me]
  omega
theorem Np{CX:K7}{P:bn}{w:df}{K:PySem.W.Frag}{mg:bp->Option a9}{base:eJ}{k:Nat}{f:a5}{name qual:bp}{params:w_}{body:List hV}{scope:oP}{dV kV doc pm cdv ct oc:a9}{an od:Option a5}
  {osl:Array (Option a9)} {N ps:List bp} {sp:Sp} (lk:K.lookup f=some ⟨oc,od,.func (PySem.W.fnOf name qual params body scope dV kV doc pm an cdv ct),osl⟩) (hcd:PySem.W.codeIn K cdv qual=true) (S:aC N ps scope)
  (len:∀vs H Q E,sp vs H Q E->vs.length=ps.length)
  (hbody:∀(A:eR) (outer:List Env) (s:ba) (H:Hp) (vs:List V) (Q:VK) (E:XK),jL k (A.deeper (envOfC qual scope s.heap.objs.size f cdv))->sp vs H Q E →
   ∃t,zQ (sR CX P w K mg base N qual scope f cdv A outer s H E) body t/\t { nx:=λ_ H'=>Q .ia H',rt:=Q } (start N vs) H) :
  aE P w K mg base CX (k+1) f (PySem.W.fnOf name qual params body scope dV kV doc pm an cdv ct) ps sp:=by
 refine⟨len,λA outer s H args us vs Q E hr e0 hb r IL=>?_⟩
 have hl:=len _ _ _ _ IL
 have KX:K.In s.heap:=e0.mod.QH.keeps λb o e=>(e0.bs b o e).1
 have lim:s.heap.NoLimit:=e0.mod.nolimit.keeps λb o e=>(e0.bs b o e).1
 have hkind:∀y∈ps.zip us,scope.names.lookup y.1=some .local\/(scope.names.lookup y.1=some .cell/\((cellsFrom (s.heap.objs.size+1) scope.names []).lookup y.1).isSome=true):=λ⟨n,v⟩ hy=>by
  rcases S.par n (List.of_mem_zip hy).1 with q|q
  ·exact .inl q
  ·exact .inr ⟨q,PySem.W.cellsFrom_some _ _ _ (.inl q)⟩
 refine TK.Ho (a7 _) ?_
 refine codeAny_call_function hr.depth (KX _ _ lk) rfl S.co S.gen rfl (PySem.W.codeRec_of KX hcd) (hb _ _ _ _ ?_)
 refine TK.bP (a7 _) (wpAny_newFunctionEnv_cells S.kind hkind λenv he s1 x hup=>?_)
 subst he
 refine⟨lim.keeps x.toInCall.keep,codeAny_func ?_⟩
 obtain⟨t,ht,hq⟩:=hbody A outer s H vs Q E (hr.deeper _) IL
 have I:Inv (sR CX P w K mg base N qual scope f cdv A outer s H E) [] (start N vs) H s1:=Kh S hr.hd e0 hl r x hup
 refine h_ (ht [] s1 (start N vs) H _ I hq) (λfl s' hs abe=>?_) λe s' hs=>h_ hs (λ_ _ z _=>z) λ_ _ z _=>z
 have fin:∀{σ':St} {H':Hp} {v:V} {u:a9},Inv (sR CX P w K mg base N qual scope f cdv A outer s H E) [] σ' H' s'->RelV v u->Q v H'->CE outer P w H s Q u s' :=
  λ{σ' H' v u} J rv q=>⟨v,H',J.os,J.bare,J.base,J.hok,rv,abe,q⟩
 cases fl with
 |ret u =>
  obtain⟨v,σ',H',J,rv,q⟩:=hs
  exact fin J rv q
 |next =>
  obtain⟨σ',H',J,q⟩:=hs
  exact fin (v:=V.ia) (u:=Value.none) J rfl q
 |brk =>
  obtain⟨_,_,_,q⟩:=hs
  exact kn q
 |cont =>
  obtain⟨_,_,_,q⟩:=hs
  exact kn q
end
section
section
variable{X:Cx}{x:bp}{p pos:sx}{e:Expr}{es:List Expr}{t:TA}{id T:String}{r:List V->Hp->VK->Prop}
noncomputable def tCB(r:List V->Hp->VK->Prop)(t:TA):TE:=λσ H Q=>t σ H λvs H1=>r vs H1 Q
theorem aB (hc:pY X (.builtin id) r)(hg:Gl X x)(hm:X.mg x=none)(hv:bootBuiltins x=some (.builtin id))(ha:PA X (e::es) t)(hn:x≠ "__name__" :=by decide)(hdb:(x==("__debug__" :bp))=false:=by decide)
  (he:eP (e::es) X.env=(false,eval e X.env)::eP es X.env:=by rfl) (hpl:(backTo pos (eP es X.env)).any (·.1)=false:=by rfl):PE X (.Call (.Name x p) (e::es) [] pos) (tCB r t):=by
 intro pins s σ H Q I h
 refine mm (pF I hg hm hv ?_ hn hdb)
 exact PyProof.Rows.callWith_builtin1 (dG (ha pos pins s σ H _ I h) λus s1 ⟨vs,H1,I1,r1,q1⟩=>hc pins s1 σ H1 vs us Q I1 r1 q1) he hpl
theorem sG (hc:pY X (.type T) r)(hg:Gl X x)(hm:X.mg x=none)(hv:bootBuiltins x=some (.type T))(ha:PA X (e::es) t)(hn:x≠ "__name__" :=by decide)(hdb:(x==("__debug__" :bp))=false:=by decide)
  (he:eP (e::es) X.env=(false,eval e X.env)::eP es X.env:=by rfl) (hpl:(backTo pos (eP es X.env)).any (·.1)=false:=by rfl):PE X (.Call (.Name x p) (e::es) [] pos) (tCB r t):=by
 intro pins s σ H Q I h
 refine mm (pF I hg hm hv ?_ hn hdb)
 exact lv (dG (ha pos pins s σ H _ I h) λus s1 ⟨vs,H1,I1,r1,q1⟩=>hc pins s1 σ H1 vs us Q I1 r1 q1) he hpl
end
end
end L2
namespace HT
open PySem PyProof.Rows
section
open PySem.SeqAt
open PySem.AutoSeq1 (wpAny_loadPart')
open PySem.MeetsSeq PySem.MeetsSeq2 PySem.MeetsSeq3
end
section
variable{prog:bn}{w:df}{A:eR}{E:a9->ba->Prop}{s:ba}
end
end HT
namespace L2
open PySem PySem.Spec PyProof.Rows
section
noncomputable abbrev TO:=St->Hp->(Option Int->Hp->Prop)->Prop
noncomputable def PO(X:Cx)(e:Option Expr)(t:TO):Prop :=
 ∀(pins:List (a5×mi)) (s:ba) (σ:St) (H:Hp) (Q:Option Int->Hp->Prop),Inv X pins σ H s->t σ H Q →
  b_ (model X.prog X.w) X.A (evalPart e X.env) (λu s'=>∃o H',Inv X pins σ H' s'/\IsPart u o/\Q o H') X.xe s
noncomputable def OI:TO:=λ_ H Q=>Q none H
noncomputable def U4(t:TE):TO:=λσ H Q=>t σ H λx H1=>∃i,x= .int i/\Q (some i) H1
section
variable{X:Cx}{e:Expr}{te:TE}{lo hi:Option Expr}{tl th:TO}{pos p2:sx}
theorem xP:PO X none OI:=by
 intro pins s σ H Q I h
 rw[evalPart_none]
 exact bi ⟨none,H,I,.none,h⟩
theorem oZ(h:PE X e te):PO X (some e) (U4 te):=by
 intro pins s σ H Q I hw
 rw[evalPart_some]
 refine dG (h pins s σ H _ I hw) λu s1 ⟨x,H1,I1,r1,q1⟩=>?_
 obtain⟨i,rfl,q⟩:=q1
 obtain⟨t,rfl⟩:=r1
 exact⟨some i,H1,I1,.int i t,q⟩
noncomputable def SlR(X:Cx)(r:V->Option Int->Option Int->Hp->VK->Prop):Prop :=
 ∀(pins:List (a5×mi)) (s:ba) (σ:St) (H:Hp) (x:V) (v vl vu:a9) (lo hi:Option Int) (sl:a5) (Q:VK),Inv X pins σ H s->RelV x v->s.heap.IsSliceOf sl vl vu .none->IsPart vl lo->IsPart vu hi->r x lo hi H Q →
  ∃T id,typeLookup (.type T) "__getitem__" =pure (some (.builtin id))/\s.TypeIs v T/\b_ (model X.prog X.w) X.A (getItem v (.ref sl)) (EP X pins σ Q) X.xe s
noncomputable def tSl(r:V->Option Int->Option Int->Hp->VK->Prop)(te:TE)(tl th:TO):TE:=λσ H Q=>te σ H λx H1=>tl σ H1 λl H2=>th σ H2 λu H3=>r x l u H3 Q
theorem pQ{r:V->Option Int->Option Int->Hp->VK->Prop}(hr:SlR X r)(he:PE X e te)(hl:PO X lo tl)(hu:PO X hi th):PE X (.Subscript e (.Slice lo hi none p2) pos) (tSl r te tl th):=by
 intro pins s σ H Q I h
 refine Subscript_ (dG (he pins s σ H _ I h) λv s1 ⟨x,H1,I1,r1,q1⟩=>?_)
 refine wpAny_Slice (dG (hl pins s1 σ H1 _ I1 q1) λvl s2 ⟨l,H2,I2,pl,q2⟩=>dG (hu pins s2 σ H2 _ I2 q2) λvu s3 ⟨u,H3,I3,pu,q3⟩=>?_)
 rw[evalPart_none]
 refine bi ?_
 have I4:Inv X pins σ H3 { s3 with heap:=s3.heap.push { cls:=.type "slice",data:=.fields #[vl,vu,.none] } }:=I3.kept (t':=s3.toks) λb ob q=>a8 _ q
 obtain⟨T,id,hT,ht,hg⟩:=hr pins { s3 with heap:=s3.heap.push { cls:=.type "slice",data:=.fields #[vl,vu,.none] } } σ H3 x v vl vu l u s3.heap.objs.size Q I4 r1 (Heap.IsSliceOf.new ..) pl pu q3
 show b_ (model X.prog X.w) X.A (subscriptTail e (.Slice lo hi none p2) v (.ref s3.heap.objs.size)) (EP X pins σ Q) X.xe { s3 with heap:=s3.heap.push { cls:=.type "slice",data:=.fields #[vl,vu,.none] } }
 exact tail_any (ops:=[.ref s3.heap.objs.size,v]) ht hT hg (by with_unfolding_all rfl)
end
end
section
noncomputable def M1(n:Nat)(i:Int):Option Nat:=if 0<=i then(if i<n then some i.toNat else none)else if -(n:Int)<=i then some (i+n).toNat else none
noncomputable def E5{α:Type}(xs:List α)(i:Int):Option α:=(M1 xs.length i).bind λj=>xs[j]?
theorem ID{n:Nat}{i:Int}{j:Nat}(h:M1 n i=some j):seqIndex? i n=some j/\j<n/\ -(n:Int)<=i/\i<n:=by
 unfold M1 at h
 by_cases h0:0<=i
 ·rw[if_pos h0]at h
  by_cases h1:i<n
  ·rw[if_pos h1]at h
   have e:i.toNat=j:=dA h
   exact⟨by rw[seqIndex_of h0 h1,e],by omega,by omega,h1⟩
  ·rw[if_neg h1]at h;cases h
 ·rw[if_neg h0]at h
  by_cases h1: -(n:Int)<=i
  ·rw[if_pos h1]at h
   have e:(i+n).toNat=j:=dA h
   exact⟨by rw[seqIndex_neg (by omega) h1,e],by omega,h1,by omega⟩
  ·rw[if_neg h1]at h;cases h
theorem CI{α:Type}{xs:List α}{i:Int}{v:α}(h:E5 xs i=some v):∃j,seqIndex? i xs.length=some j/\xs[j]? =some v/\j<xs.length/\ -(xs.length:Int)<=i/\i<xs.length:=by
 unfold E5 at h
 cases e:M1 xs.length i with
 |none=>rw[e]at h;cases h
 |some j =>
  rw[e]at h
  obtain⟨h1,h2,h3,h4⟩:=ID e
  exact⟨j,h1,h,h2,h3,h4⟩
theorem dX{α:Type}{xs:List α}{j:Nat}{v:α}(h:xs[j]? =some v):E5 xs (j:Int)=some v:=by
 have hj:j<xs.length:=(bd.mp h).1
 have e:M1 xs.length (j:Int)=some j:=by
  unfold M1
  rw[if_pos (by omega),if_pos (by omega)];simp
 unfold E5;rw[e];exact h
theorem NR{α:Type}(xs:List α)(v:α):E5 (xs++[v]) (-1)=some v:=by
 have hl:(xs++[v]).length=xs.length+1:=by simp
 have e:M1 (xs++[v]).length (-1)=some xs.length:=by
  unfold M1
  rw[hl,if_neg (by decide),if_pos (by omega)]
  congr 1
  omega
 unfold E5
 rw[e]
 show(xs++[v])[xs.length]? =some v
 simp
noncomputable def Qf(b:Expr):Prop:=∀o i,subscripted b false o i=operate [o,i] (getItem o i)
noncomputable def Xy(X:Cx)(r:R2):Prop :=
 ∀(value slice:Expr) (pins:List (a5×mi)) (s:ba) (σ:St) (H:Hp) (x y:V) (v u:a9) (Q:VK),Inv X pins σ H s->RelV x v->RelV y u->r x y H Q →
  subscripted slice false v u=operate [v,u] (getItem v u)->b_ (model X.prog X.w) X.A (subscriptTail value slice v u) (EP X pins σ Q) X.xe s
noncomputable def Xv(X:Cx)(id:String)(r:V->List V->Hp->VK->Prop):Prop :=
 ∀(pins:List (a5×mi)) (s:ba) (σ:St) (H:Hp) (x:V) (xs:List V) (v:a9) (us:List a9) (Q:VK),Inv X pins σ H s->RelV x v->Vals xs us->r x xs H Q →
  b_ (model X.prog X.w) X.A (call (.builtin id) (v::us)) (EP X pins σ Q) X.xe s
section
variable{X:Cx}{a b:Expr}{ta tb:TE}{pos:sx}
theorem aJ{r:R2}(hr:Xy X r)(ha:PE X a ta)(hb:PE X b tb)(hs:Qf b):PE X (.Subscript a b pos) (XX r ta tb):=by
 intro pins s σ H Q I h
 exact Subscript_ (Uv ha hb I h λv u s2 x y H2 I2 rx ry q=>hr a b pins s2 σ H2 x y v u Q I2 rx ry q (hs _ _))
noncomputable def aaw(K:PySem.W.Frag):R2:=λx y H Q=>∃p xs i v,x= .ref p/\y= .int i/\cy K H p xs/\E5 xs i=some v/\Q v H
noncomputable def VA(K:PySem.W.Frag):R2:=λx y H Q=>∃p xs i v,x= .ref p/\y= .int i/\cE K H p xs/\E5 xs i=some v/\Q v H
noncomputable def aav:R2:=λx y H Q=>∃z i c,x= .str z/\y= .int i/\z.length<=bt/\E5 z.cps.toList i=some c/\Q (.str ⟨#[c]⟩) H
theorem cG:Xy X (aaw X.K):=by
 intro value slice pins s σ H x y v u Q I rx ry h hs
 obtain⟨p,xs,i,z,rfl,rfl,hq,he,q⟩:=h
 cases rx
 obtain⟨t,rfl⟩:=ry
 obtain⟨its,r,pl,hz⟩:=I.list hq
 obtain⟨j,h1,h2,h3,h4,h5⟩:=CI he
 obtain⟨w,ew,rw'⟩:=r.get h2
 have hl:=r.length
 have hn:=vQ
 have fin:EP X pins σ Q w s:=⟨z,H,I,rw',q⟩
 by_cases h0:0<=i
 ·have hj:i.toNat=j:=by
   rw[seqIndex_of h0 h5]at h1
   exact dA h1
  exact item_listR pl.isList h0 (by omega) (by rw[hj];simpa using ew) fin hs
 ·have hj:(i+(its.toArray.size:Int)).toNat=j:=by
   rw[seqIndex_neg (by omega) h4]at h1
   rw[d_,←hl]
   exact dA h1
  exact pE (x:=w) pl.isList.typeIs slot_list_getitem.lookup
   (wpAny_getItem_list_neg (Q:=λr s'=>r=w/\EP X pins σ Q r s') pl.isList (by omega) (by rw[d_]<;>omega) (by omega) (by rw[hj];simpa using ew) ⟨rfl,fin⟩) hs
theorem aO:Xy X (VA X.K):=by
 intro value slice pins s σ H x y v u Q I rx ry h hs
 obtain⟨p,xs,i,z,rfl,rfl,hq,he,q⟩:=h
 cases rx
 obtain⟨t,rfl⟩:=ry
 obtain⟨its,r,pl,hz⟩:=I.tuple hq
 obtain⟨j,h1,h2,h3,h4,h5⟩:=CI he
 obtain⟨w,ew,rw'⟩:=r.get h2
 have hl:=r.length
 have hn:=vQ
 have fin:EP X pins σ Q w s:=⟨z,H,I,rw',q⟩
 exact pE (x:=w) pl.typeIs slot_tuple_getitem.lookup
  (getItem_tuple (j:=j) (Q:=λr s'=>r=w/\EP X pins σ Q r s') pl (by omega) (by omega) (by rw[d_,←hl];exact h1) (by simpa using ew) ⟨rfl,fin⟩) hs
theorem rJ:Xy X aav:=by
 intro value slice pins s σ H x y v u Q I rx ry h hs
 obtain⟨z,i,c,rfl,rfl,hz,he,q⟩:=h
 obtain⟨t,rfl⟩:=rx
 obtain⟨t',rfl⟩:=ry
 obtain⟨j,h1,h2,h3,h4,h5⟩:=CI he
 have hl:z.cps.toList.length=z.length:=by simp[Str.length]
 rw[hl]at h1 h4 h5
 have hn:=vQ
 exact tail_any (typeIs_str s z t) slot_str_getitem.lookup (getItem_str (c:=c) (by
  have e1:decide (i< -(2 ^ 63:Int))=false:=decide_eq_false (by omega)
  have e2:decide (i>=2 ^ 63)=false:=decide_eq_false (by omega)
  rw[e1,e2,Bool.or_false]) (by rw[h1];simpa using h2) ⟨.str ⟨#[c]⟩,H,I.tok _,⟨_,rfl⟩,q⟩) hs
theorem GU(its:List a9)(n j:Nat)(u:a9):wy (·.setIfInBounds j u) { cls:=.type "list",data:=.seq its.toArray n }={ cls:=.type "list",data:=.seq (its.set j u).toArray n }:=by
 simp[wy]
theorem Inv.lst{pins:List (a5×mi)}{σ:St}{H:Hp}{s:ba}{p:a5}{xs:List V}(I:Inv X pins σ H s)(h:H p=some (.lst xs)):
  ∃(its:List a9) (n:Nat),Vals xs its/\s.heap.get? p=some { cls:=.type "list",data:=.seq its.toArray n }/\xs.length<=bt:=by
 obtain⟨z,its,n,r,e⟩:=I.hok p _ h
 exact⟨its,n,r,e,z⟩
theorem Inv.Ti{pins:List (a5×mi)}{σ:St}{H:Hp}{s:ba}{p:a5}{xs ys:List V}{its its':List a9}{n n':Nat}{f:mi->mi}(I:Inv X pins σ H s)(h:H p=some (.lst xs))
  (ho:s.heap.get? p=some { cls:=.type "list",data:=.seq its.toArray n }) (hf:f { cls:=.type "list",data:=.seq its.toArray n }={ cls:=.type "list",data:=.seq its'.toArray n' }) (r:Vals ys its') (hz:ys.length<=bt) (t:Nat) (ht:s.toks<=t:=by first|exact a7 _|exact g_ _|assumption|omega) :
  Inv X pins σ (upd H p (.lst ys)) { s with heap:=s.heap.update p f,toks:=t }:=by
 have e:(s.heap.update p f).get? p=some { cls:=.type "list",data:=.seq its'.toArray n' }:=by
  rw[ka f ho (by rw[hf]<;>rfl),hf]
 refine I.write (x:=p) (e:=p) (by rw[h];trivial) (.inl rfl) (λb u hb q=>(ip _ _ (Ne.symm hb)).trans q) ⟨_,e⟩ ?_
 exact⟨hz,its',n',r,e⟩
noncomputable def Vz:V->V->V->Hp->(Hp->Prop)->Prop:=λo i v H Q=>∃p xs k j,o= .ref p/\i= .int k/\H p=some (.lst xs)/\M1 xs.length k=some j/\Q (upd H p (.lst (xs.set j v)))
theorem set_list:Xp X Vz:=by
 intro pins s σ H o i v ov iv u Q I ro ri rv h
 obtain⟨p,xs,k,j,rfl,rfl,hp,hj,q⟩:=h
 cases ro
 obtain⟨t,rfl⟩:=ri
 obtain⟨its,n,r,ho,hz⟩:=I.lst hp
 obtain⟨h1,h2,h3,h4⟩:=ID hj
 have hl:=r.length
 have hn:=vQ
 have I':Inv X pins σ (upd H p (.lst (xs.set j v))) { s with heap:=s.heap.update p (wy (·.setIfInBounds j u)) } :=
  I.Ti hp ho (GU its n j u) (r.set rv j) (by rw[s_];exact hz) s.toks
 by_cases h0:0<=k
 ·have hk:k.toNat=j:=by
   rw[seqIndex_of h0 h4]at h1
   exact dA h1
  exact PySem.W.ki_setAt ho h0 (by omega) (by rw[d_,←hl];exact h4) (by rw[hk];exact⟨_,I',q⟩)
 ·have hk:(k+(its.toArray.size:Int)).toNat=j:=by
   rw[seqIndex_neg (by omega) h3]at h1
   rw[d_,←hl]
   exact dA h1
  exact PySem.W.ki_setBack ho (by omega) (by rw[d_,←hl];exact h3) (by omega) (by rw[hk];exact⟨_,I',q⟩)
noncomputable def wL:V->Bool
 | .ia=>true
 | .bl _=>true
 | .int _=>true
 | .str _=>true
 |_=>false
noncomputable def Q5:V->V->Bool
 | .ia,.ia=>true
 | .bl a,.bl b=>a==b
 | .bl a,.int b=>(if a then 1 else 0)==b
 | .int a,.bl b=>a==(if b then 1 else 0)
 | .int a,.int b=>a==b
 | .str a,.str b=>a==b
 |_,_=>false
theorem Ul{A:eR}{s:ba}{y x:V}{u v:a9}(ry:RelV y u)(rx:RelV x v)(fy:wL y=true)(fx:wL x=true):SeqAt.EqAt A s u v (Q5 y x):=by
 cases y with
 |ia =>
  cases ry
  cases x with
  |ia=>cases rx;exact SeqAt.EqAt.same _
  |bl b=>cases rx;exact SeqAt.EqAt.none_bool b
  |int b=>obtain⟨t,rfl⟩:=rx;exact SeqAt.EqAt.none_int b t
  |str b=>obtain⟨t,rfl⟩:=rx;exact SeqAt.EqAt.none_str b t
  |_=>exact absurd (show false=true from fx) cw
 |bl a =>
  cases ry
  cases x with
  |ia=>cases rx;exact SeqAt.EqAt.bool_none a
  |bl b=>cases rx;exact SeqAt.EqAt.bool_bool a b
  |int b=>obtain⟨t,rfl⟩:=rx;exact SeqAt.EqAt.bool_int a b t
  |str b=>obtain⟨t,rfl⟩:=rx;exact SeqAt.EqAt.bool_str a b t
  |_=>exact absurd (show false=true from fx) cw
 |int a =>
  obtain⟨t',rfl⟩:=ry
  cases x with
  |ia=>cases rx;exact SeqAt.EqAt.int_none a t'
  |bl b=>cases rx;exact SeqAt.EqAt.int_bool a t' b
  |int b=>obtain⟨t,rfl⟩:=rx;exact SeqAt.EqAt.int_int a t' b t
  |str b=>obtain⟨t,rfl⟩:=rx;exact SeqAt.EqAt.int_str a t' b t
  |_=>exact absurd (show false=true from fx) cw
 |str a =>
  obtain⟨t',rfl⟩:=ry
  cases x with
  |ia=>cases rx;exact SeqAt.EqAt.str_none a t'
  |bl b=>cases rx;exact SeqAt.EqAt.str_bool a t' b
  |int b=>obtain⟨t,rfl⟩:=rx;exact SeqAt.EqAt.str_int a t' b t
  |str b=>obtain⟨t,rfl⟩:=rx;exact SeqAt.EqAt.str_str a t' b t
  |_=>exact absurd (show false=true from fx) cw
 |_=>exact absurd (show false=true from fy) cw
noncomputable def PZ(x:V)(u:a9):Bool:=match u with
 | .none=>Q5 .ia x
 | .bool b=>Q5 (.bl b) x
 | .int i _=>Q5 (.int i) x
 | .str z _=>Q5 (.str z) x
 |_=>false
theorem Nv{x y:V}{u:a9}(r:RelV y u)(f:wL y=true):PZ x u=Q5 y x:=by
 cases y with
 |ia=>cases r;rfl
 |bl b=>cases r;rfl
 |int i=>obtain⟨t,rfl⟩:=r;rfl
 |str z=>obtain⟨t,rfl⟩:=r;rfl
 |_=>exact absurd (show false=true from f) cw
theorem CJ{x:V}:∀{xs:List V} {us:List a9},Vals xs us->xs.all wL=true->us.any (PZ x)=xs.any λy=>Q5 y x
 |_,_,.nil,_=>rfl
 |y::xs,u::us,.cons r t,f=>by
  rw[List.all_cons,ll]at f
  rw[Bi,Bi,Nv r f.1,CJ t f.2]
theorem yK{A:eR}{s:ba}{x:V}{v:a9}(rx:RelV x v)(fx:wL x=true):∀{xs:List V} {us:List a9},Vals xs us->xs.all wL=true->∀u∈us,SeqAt.EqAt A s u v (PZ x u)
 |_,_,.nil,_=>λu hu=>by cases hu
 |y::xs,u::us,.cons r t,f=>λu' hu=>by
  rw[List.all_cons,ll]at f
  rcases c_.mp hu with rfl|hu
  ·rw[Nv r f.1];exact Ul r rx f.1 fx
  ·exact yK rx fx t f.2 u' hu
noncomputable def QK(x:V)(xs:List V):Bool:=xs.any λy=>Q5 y x
noncomputable def rIn(K:PySem.W.Frag)(neg:Bool):R2:=λx y H Q=>∃p xs,y= .ref p/\(cy K H p xs\/cE K H p xs)/\wL x=true/\xs.all wL=true/\Q (.bl (if neg then !QK x xs else QK x xs)) H
theorem uD:uh X (compareOp .NotIn) (rIn X.K true):=by
 intro pins s σ H x y v u Q I rx ry h
 obtain⟨p,xs,rfl,hq,fx,fs,q⟩:=h
 cases ry
 rcases hq with hq|hq
 ·obtain⟨its,r,pl,hz⟩:=I.list hq
  refine SeqAt.notIn_listAt (PZ x) pl.isList (λw hw=>yK rx fx r fs w (by simpa using hw)) ⟨.bl _,H,I,rfl,?_⟩
  rw[show its.toArray.any (PZ x)=its.any (PZ x) by simp,CJ r fs]
  exact q
 ·obtain⟨its,r,pl,hz⟩:=I.tuple hq
  refine SeqAt.notIn_tupleAt (PZ x) pl (λw hw=>yK rx fx r fs w (by simpa using hw)) ⟨.bl _,H,I,rfl,?_⟩
  rw[show its.toArray.any (PZ x)=its.any (PZ x) by simp,CJ r fs]
  exact q
theorem uC:uh X (compareOp .NotIn) (λx y H Q=>∃i j,x= .str i/\y= .str j/\Q (.bl (!(!(Builtin.Str.occurrences j i 0 j.length 1).isEmpty))) H):=by
 intro pins s σ H x y v u Q I rx ry h
 obtain⟨i,j,rfl,rfl,q⟩:=h
 obtain⟨t,rfl⟩:=rx
 obtain⟨t',rfl⟩:=ry
 exact notIn_str ⟨.bl _,H,I,rfl,q⟩
theorem CC:pY X (.builtin "len") (λxs H Q=>∃z,xs=[.str z]/\z.length<=bt/\Q (.int z.length) H):=by
 intro pins s σ H xs us Q I r h
 obtain⟨z,rfl,hz,q⟩:=h
 obtain⟨u,rfl,t,rfl⟩:=vals1 r
 have hn:=vQ
 exact len_str (by omega) ⟨.int z.length,H,I.tok _,⟨_,rfl⟩,q⟩
theorem tF:pY X (.type "tuple") (λxs H Q=>∃p ys,xs=[.ref p]/\((cy X.K H p ys/\∀l,H l=none->Q (.ref l) (upd H l (.tup ys)))\/(cE X.K H p ys/\Q (.ref p) H))):=by
 intro pins s σ H xs us Q I r h
 obtain⟨p,ys,rfl,h⟩:=h
 obtain⟨u,rfl,rx⟩:=vals1 r
 cases rx
 rcases h with⟨hq,q⟩|⟨hq,q⟩
 ·obtain⟨its,r',pl,hz⟩:=I.list hq
  have hlen:=r'.length
  refine call_tuple_list pl.isList (λh' kp=>?_) (by simp only[d_]<;>omega)
  have I1:Inv X pins σ H { s with heap:=h' }:=I.kept (t':=s.toks) kp
  have I2:Inv X pins σ (upd H h'.objs.size (.tup ys)) { s with heap:=h'.push { cls:=.type "tuple",data:=.seq its.toArray } } :=
   I1.laid (t':=s.toks) (λb o e=>a8 _ e) (a7 _) (show bM X.prog X.w _ _ _ (.tup ys) from⟨hz,its,r',IsTup.new _ _⟩)
  exact⟨.ref h'.objs.size,_,I2,rfl,q _ (I1.hok.fresh (a7 _))⟩
 ·obtain⟨its,r',pl,hz⟩:=I.tuple hq
  exact call_tuple_same pl ⟨.ref p,H,I,rfl,q⟩
noncomputable def Z6(K:PySem.W.Frag)(T:String)(x:V)(H:Hp):Prop:=match x with
 | .str _=>T= "str"
 | .int _=>T= "int"
 | .ref p=>(T= "list" /\∃xs,cy K H p xs)\/(T= "tuple" /\∃o,K.lookup p=some o/\o.cls= .type "tuple" /\o.dict=none) ∨
   (T= "dict" /\((∃kvs,H p=some (.dK kvs))\/∃kvs,H p=some (.dT kvs)))\/(T= "set" /\∃S n,H p=some (.set S n))
 |_=>False
theorem Lr{pins:List (a5×mi)}{σ:St}{H:Hp}{s:ba}{T:String}{x:V}{v:a9}(I:Inv X pins σ H s)(r:RelV x v)(ty:Z6 X.K T x H):
  s.TypeIs v T/\∀a,v= .ref a->∃ob,s.heap.get? a=some ob/\ob.dict=none:=by
 cases x with
 |str z =>
  obtain⟨t,rfl⟩:=r
  cases (show T= "str" from ty)
  exact⟨typeIs_str s z t,λ_ e=>nomatch e⟩
 |int i =>
  obtain⟨t,rfl⟩:=r
  cases (show T= "int" from ty)
  exact⟨typeIs_int s i t,λ_ e=>nomatch e⟩
 |ref p =>
  cases r
  rcases ty with⟨rfl,xs,hq⟩|⟨rfl,o,hk,hc,hd⟩|⟨rfl,hk⟩|⟨rfl,S,n,hk⟩
  ·obtain⟨its,_,pl,_⟩:=I.list hq
   refine⟨pl.isList.typeIs,λa e=>?_⟩
   cases e
   obtain⟨o,n,e,c,hd,_⟩:=pl
   exact⟨o,e,hd⟩
  ·refine⟨⟨o,I.qv p o hk,hc⟩,λa e=>?_⟩
   cases e
   exact⟨o,I.qv _ o hk,hd⟩
  ·have z:∃o,s.heap.get? p=some o/\o.ExactDict:=by
    rcases hk with⟨kvs,hk⟩|⟨kvs,hk⟩
    ·obtain⟨_,_,_,_,o,_,_,e,ex,_⟩:=I.hok p _ hk
     exact⟨o,e,ex⟩
    ·obtain⟨_,_,_,_,o,_,_,e,ex,_⟩:=I.hok p _ hk
     exact⟨o,e,ex⟩
   obtain⟨o,e,ex⟩:=z
   refine⟨⟨o,e,ex.1⟩,λa e2=>?_⟩
   cases e2
   exact⟨o,e,ex.2.1⟩
  ·obtain⟨o,_,_,_,e,ex,_⟩:=I.hok p _ hk
   refine⟨⟨o,e,ex.1⟩,λa e2=>?_⟩
   cases e2
   exact⟨o,e,ex.2.1⟩
 |_=>exact kn ty
noncomputable def aah(K:PySem.W.Frag)(T:String)(r:V->List V->Hp->VK->Prop)(to:TE):TE:=λσ H Q=>to σ H λx H1=>Z6 K T x H1/\r x [] H1 Q
noncomputable def tBM(K:PySem.W.Frag)(T:String)(r:V->List V->Hp->VK->Prop)(to:TE)(t:TA):TE:=λσ H Q=>to σ H λx H1=>Z6 K T x H1/\t σ H1 λxs H2=>r x xs H2 Q
variable{o e:Expr}{es:List Expr}{to:TE}{t:TA}{name:bp}{apos cpos:sx}{T id:String}{r:V->List V->Hp->VK->Prop}
theorem Gs (pa:PlainAttrs T)(slot:Slot T name id)(hty:typeOf (.builtin id)=pure (.type "method_descriptor"))(hm:Xv X id r)(ho:PE X o to)
  (hbase:attributeBase o name X.env (eval o X.env)=eval o X.env:=by rfl) (hline:(apos.endLine==cpos.line)=true:=by rfl):PE X (.Call (.Attribute o name apos) [] [] cpos) (aah X.K T r to):=by
 intro pins s σ H Q I h
 refine wpAny_Call_method0_late hbase hline (dG (ho pins s σ H _ I h) λv s1 ⟨x,H1,I1,r1,ty,q1⟩=>?_)
 obtain⟨h1,h2⟩:=Lr I1 r1 ty
 exact⟨T,id,pa,slot,hty,h1,h2,v_ rfl (PySem.evalArgs_none (hm pins s1 σ H1 x [] v [] Q I1 r1 .nil q1))⟩
theorem jJ (pa:PlainAttrs T)(slot:Slot T name id)(hty:typeOf (.builtin id)=pure (.type "method_descriptor"))(hm:Xv X id r)(ho:PE X o to)(ha:PA X (e::es) t)
  (hbase:attributeBase o name X.env (eval o X.env)=eval o X.env:=by rfl)
  (hfew:((backTo cpos (eP (e::es) X.env)).all (λx=>!x.1)&&(backToKw cpos (keywordEach [] X.env)).all (λx=>x.1.isSome)
   && decide ((e::es).length+([]:List Keyword).length+(if([]:List Keyword).isEmpty then 0 else 1)<30))=true:=by rfl)
  (hline:(apos.endLine==cpos.line)=true:=by rfl) (hs:eP (e::es) X.env=(false,eval e X.env)::eP es X.env:=by rfl) (hplain:(backTo cpos (eP es X.env)).any (·.1)=false:=by rfl) :
  PE X (.Call (.Attribute o name apos) (e::es) [] cpos) (tBM X.K T r to t):=by
 intro pins s σ H Q I h
 refine wpAny_Call_method_late hbase hfew hline rfl (dG (ho pins s σ H _ I h) λv s1 ⟨x,H1,I1,r1,ty,q1⟩=>?_)
 obtain⟨h1,h2⟩:=Lr I1 r1 ty
 refine⟨T,id,pa,slot,hty,h1,h2,?_⟩
 have hA:=ha cpos pins s1 σ H1 _ I1 q1
 rw[hs]at hA ⊢
 refine v_ (by show(false||(backTo cpos (eP es X.env)).any (·.1))=false;rw[hplain]<;>rfl) (Calls.evalArgs_plain ?_)
 exact dG hA λus s2 ⟨vs,H2,I2,r2,q2⟩=>hm pins s2 σ H2 x vs v us Q I2 r1 r2 q2
end
end
section
noncomputable def YD(X:Cx)(id:String)(r:V->List V->Hp->VK->Prop):Prop :=
 ∀(pins:List (a5×mi)) (s:ba) (σ:St) (H:Hp) (x:V) (xs:List V) (v:a9) (us:List a9) (Q:VK),Inv X pins σ H s->RelV x v->Vals xs us->r x xs H Q →
  b_ (model X.prog X.w) X.A (call (.builtin id) (v::us)) (EP X pins σ Q) X.xe s
theorem Vals.one:∀{x:V} {us:List a9},Vals [x] us->∃u,us=[u]/\RelV x u
 |_,_,.cons r .nil=>⟨_,rfl,r⟩
theorem Vals.zero:∀{us:List a9},Vals [] us->us=[]
 |_,.nil=>rfl
theorem Vals.dropLast{xs:List V}{us:List a9}(h:Vals xs us):Vals xs.dropLast us.dropLast:=by
 induction h with
 |nil=>exact .nil
 |cons r t ih =>
  cases t with
  |nil=>exact .nil
  |cons q t'=>exact .cons r ih
theorem Vals.reverse{xs:List V}{us:List a9}(h:Vals xs us):Vals xs.reverse us.reverse:=by
 induction h with
 |nil=>exact .nil
 |cons r t ih=>rw[List.reverse_cons,List.reverse_cons];exact Vals.append ih (.cons r .nil)
theorem Hh{α:Type}(l:List α):l.eraseIdx (l.length-1)=l.dropLast:=by
 induction l with
 |nil=>rfl
 |cons a r ih =>
  cases r with
  |nil=>rfl
  |cons b r =>
   have e:(a::b::r).length-1=((b::r).length-1)+1:=by
    have h1:(a::b::r).length=r.length+2:=rfl
    have h2:(b::r).length=r.length+1:=rfl
    omega
   rw[e,List.eraseIdx_cons_succ,ih]
   all_goals rfl
section
variable{X:Cx}{pins:List (a5×mi)}{σ:St}{H:Hp}{s:ba}{l b:a5}{xs ys zs:List V}
theorem Inv.Pb{its its':List a9}{n:Nat}{f:Array a9->Array a9}{t':Nat}(I:Inv X pins σ H s)(hH:H l=some (.lst xs))
  (e:s.heap.get? l=some { cls:=.type "list",data:=.seq its.toArray n }) (hf:f its.toArray=its'.toArray) (hv:Vals ys its') (hz:ys.length<=bt) (ht:s.toks<=t':=by first|exact a7 _|exact g_ _|assumption|omega) :
  Inv X pins σ (upd H l (.lst ys)) { s with heap:=s.heap.update l (wy f),toks:=t' }:=by
 have q:=PySem.IsL.update e f
 rw[hf]at q
 refine I.write (x:=l) (e:=l) (by rw[hH];exact trivial) (.inl rfl) (λb' u hb hu=>(ip s.heap (wy f) (Ne.symm hb)).trans hu) ⟨_,q⟩ ?_
 exact⟨hz,its',_,hv,q⟩
theorem Inv.aaU{its:List a9}{t':Nat}(I:Inv X pins σ H s)(hv:Vals ys its)(hz:ys.length<=bt)(ht:s.toks<=t':=by first|exact a7 _|exact g_ _|assumption|omega):
  Inv X pins σ (upd H s.heap.objs.size (.lst ys)) { s with heap:=s.heap.push { cls:=.type "list",data:=.seq its.toArray },toks:=t' } :=
 I.laid (λ_ _ q=>a8 _ q) (a7 _) ⟨hz,its,0,hv,bo _ rfl⟩
theorem Inv.fresh(I:Inv X pins σ H s):H s.heap.objs.size=none:=I.hok.fresh (a7 _)
theorem Inv.MO(I:Inv X pins σ H s)(hH:H l=some (.lst xs)):xs.length<=bt/\∃(its:List a9) (n:Nat),Vals xs its/\xs.length=its.length/\s.heap.get? l=some { cls:=.type "list",data:=.seq its.toArray n }:=by
 obtain⟨z,its,n,r,e⟩:=I.hok l _ hH
 exact⟨z,its,n,r,r.length,e⟩
theorem Mz{n:Nat}(h:n<=bt):xn n=false:=by
 unfold xn
 exact decide_eq_false (by omega)
end
section
variable{X:Cx}
noncomputable def OQ:V->List V->Hp->VK->Prop:=λx vs H Q=>∃l xs y,x= .ref l/\vs=[y]/\H l=some (.lst xs)/\xs.length<bt/\Q .ia (upd H l (.lst (xs++[y])))
theorem b8:YD X "list.append" OQ:=by
 intro pins s σ H x vs v us Q I rx rv h
 obtain⟨l,xs,y,rfl,rfl,hH,hz,q⟩:=h
 cases rx
 obtain⟨u,rfl,ru⟩:=rv.one
 obtain⟨z,its,n,r,hl,e⟩:=I.MO hH
 refine call_meets F.slot_list_append ⟨_,e,rfl⟩ F.entry_list_append (F.args_list_append_2 _ _) (PySem.list_append l its.toArray n u (by rw[d_];omega)) ⟨e,?_⟩
 refine⟨.ia,_,I.Pb (its':=its++[u]) hH e (by simp) (r.append (.cons ru .nil)) ?_,rfl,q⟩
 rw[cn,List.length_singleton]
 omega
noncomputable def OP:V->List V->Hp->VK->Prop:=λx vs H Q=>∃l b xs zs,x= .ref l/\vs=[.ref b]/\H l=some (.lst xs)/\H b=some (.lst zs)/\xs.length+zs.length<=bt/\Q .ia (upd H l (.lst (xs++zs)))
theorem JR:YD X "list.extend" OP:=by
 intro pins s σ H x vs v us Q I rx rv h
 obtain⟨l,b,xs,zs,rfl,rfl,hH,hB,hz,q⟩:=h
 cases rx
 obtain⟨u,rfl,ru⟩:=rv.one
 cases ru
 obtain⟨z,its,n,r,hl,e⟩:=I.MO hH
 obtain⟨z2,its2,n2,r2,hl2,e2⟩:=I.MO hB
 have hsz:its.toArray.size+its2.toArray.size<=bt:=by rw[d_,d_];omega
 have WN:¬(!its.toArray.isEmpty&&xn (its.toArray.size+its2.toArray.size))=true:=by
  rw[Mz hsz,Bool.and_false]
  exact cw
 refine call_meets F.slot_list_extend ⟨_,e,rfl⟩ F.entry_list_extend (F.args_list_extend_2 _ _)
  (AutoSeq1.list_extend_list_list_0 l its.toArray n b its2.toArray n2 WN (by rw[d_];omega) (by omega)) ⟨e,e2,?_⟩
 refine⟨.ia,_,I.Pb (its':=its++its2) hH e (by simp) (r.append r2) ?_,rfl,q⟩
 rw[cn]
 omega
noncomputable def aau:V->List V->Hp->VK->Prop:=λx vs H Q=>∃l xs y,x= .ref l/\vs=[]/\H l=some (.lst xs)/\xs[xs.length-1]? =some y/\Q y (upd H l (.lst xs.dropLast))
theorem Th:YD X "list.pop" aau:=by
 intro pins s σ H x vs v us Q I rx rv h
 obtain⟨l,xs,y,rfl,rfl,hH,hy,q⟩:=h
 cases rx
 have hus:=rv.zero
 subst hus
 obtain⟨z,its,n,r,hl,e⟩:=I.MO hH
 obtain⟨u,hu,ru⟩:=r.get hy
 have hy':its.toArray[its.toArray.size-1]? =some u:=by
  show its.toArray[its.length-1]? =some u
  rw[←fg,←hl]
  exact hu
 refine call_meets F.slot_list_pop ⟨_,e,rfl⟩ F.entry_list_pop (F.args_list_pop_1 _) (MeetsSeq.list_pop_last l its.toArray n u hy' (by rw[d_];omega)) ⟨e,?_⟩
 refine⟨y,_,I.Pb (its':=its.dropLast) hH e ?_ r.dropLast ?_,ru,q⟩
 ·show its.toArray.eraseIdxIfInBounds (its.toArray.size-1)=its.dropLast.toArray
  rw[d_,List.eraseIdxIfInBounds_toArray,Hh]
 ·rw[List.length_dropLast]
  omega
noncomputable def Ma:V->List V->Hp->VK->Prop:=λx vs H Q=>∃l xs,x= .ref l/\vs=[]/\H l=some (.lst xs)/\Q .ia (upd H l (.lst xs.reverse))
theorem yI:YD X "list.reverse" Ma:=by
 intro pins s σ H x vs v us Q I rx rv h
 obtain⟨l,xs,rfl,rfl,hH,q⟩:=h
 cases rx
 have hus:=rv.zero
 subst hus
 obtain⟨z,its,n,r,hl,e⟩:=I.MO hH
 refine call_meets F.slot_list_reverse ⟨_,e,rfl⟩ F.entry_list_reverse (F.args_list_reverse_1 _) (AutoSeq1.list_reverse_list_0 l its.toArray n (by rw[d_];omega)) ⟨e,?_⟩
 refine⟨.ia,_,I.Pb (its':=its.reverse) hH e (by simp) r.reverse ?_,rfl,q⟩
 rw[List.length_reverse]
 omega
end
section
variable{prog:bn}{w:df}{A:eR}{E:a9->ba->Prop}{s:ba}
end
section
variable{X:Cx}
end
end
section
section
variable{κ:Type}[DecidableEq κ]
noncomputable def iO(kvs:List (κ×V))(k:κ):Option V:=(kvs.find? λkv=>decide (kv.1=k)).map (·.2)
noncomputable def putK(kvs:List (κ×V))(k:κ)(v:V):List (κ×V) :=
 if(kvs.any λkv=>decide (kv.1=k))=true then kvs.map (λkv=>if kv.1=k then(kv.1,v)else kv)else kvs++[(k,v)]
theorem eT{p:κ×V}{r:List (κ×V)}{k:κ}(e:p.1=k):iO (p::r) k=some p.2:=by simp[iO,ft,e]
theorem eV{p:κ×V}{r:List (κ×V)}{k:κ}(e:¬p.1=k):iO (p::r) k=iO r k:=by simp[iO,ft,e]
theorem qV(k:κ):∀kvs:List (κ×V),(kvs.any λkv=>decide (kv.1=k))=(iO kvs k).isSome
 |[]=>rfl
 |p::r=>by
  rw[Bi]
  by_cases e:p.1=k
  ·simp only[eT e,decide_eq_true e,Bool.true_or,Option.isSome_some]
  ·rw[eV e,decide_eq_false e,Bool.false_or];exact qV k r
theorem Dr(k j:κ)(y:V):∀kvs:List (κ×V),iO (kvs.map λkv=>if kv.1=k then(kv.1,y)else kv) j=(iO kvs j).map λx=>if j=k then y else x
 |[]=>rfl
 |p::r=>by
  have ih:=Dr k j y r
  rw[g0]
  by_cases h:p.1=k
  ·rw[if_pos h]
   by_cases e:p.1=j
   ·rw[eT (p:=(p.1,y)) e,eT e,Option.map_some,if_pos (e.symm.trans h)]
   ·rw[eV (p:=(p.1,y)) e,eV e,ih]
  ·rw[if_neg h]
   by_cases e:p.1=j
   ·rw[eT (p:=p) e,eT e,Option.map_some,if_neg (λz=>h (e.trans z))]
   ·rw[eV (p:=p) e,eV e,ih]
theorem AI(k j:κ)(y:V):∀kvs:List (κ×V),iO kvs k=none->iO (kvs++[(k,y)]) j=if j=k then some y else iO kvs j
 |[],_=>by
  by_cases e:k=j
  ·rw[if_pos e.symm];exact eT (p:=(k,y)) e
  ·rw[if_neg (λz=>e z.symm)];exact eV (p:=(k,y)) e
 |p::r,hn=>by
  rw[xa]
  have hk:¬p.1=k:=λz=>by rw[eT z]at hn;cases hn
  rw[eV hk]at hn
  have ih:=AI k j y r hn
  by_cases e:p.1=j
  ·rw[eT e,eT e,if_neg (λz=>hk (e.trans z))]
  ·rw[eV e,eV e,ih]
theorem pK(kvs:List (κ×V))(k j:κ)(y:V):iO (putK kvs k y) j=if j=k then some y else iO kvs j:=by
 unfold putK
 by_cases a:(kvs.any λkv=>decide (kv.1=k))=true
 ·rw[if_pos a,Dr]
  rw[qV]at a
  by_cases e:j=k
  ·obtain⟨x,hx⟩:=tJ.mp a
   rw[if_pos e,e,hx,Option.map_some,if_pos rfl]
  ·rw[if_neg e]
   cases iO kvs j with
   |none=>rfl
   |some x=>rw[Option.map_some,if_neg e]
 ·rw[if_neg a]
  refine AI k j y kvs ?_
  rw[qV]at a
  cases q:iO kvs k with
  |none=>rfl
  |some x=>rw[q]at a;exact(a rfl).elim
theorem fM(kvs:List (κ×V))(k:κ)(v:V):(putK kvs k v).length<=kvs.length+1:=by
 unfold putK
 split
 ·rw[bc];omega
 ·rw[cn,eM,List.length_nil];omega
theorem Mh{kvs:List (κ×V)}{k:κ}(v:V)(h:iO kvs k=none):putK kvs k v=kvs++[(k,v)]:=by
 unfold putK
 rw[qV,h]
 exact if_neg (by decide)
theorem oG.pS{o:Option V}{u:Option a9}(r:oG o u):o.isSome=u.isSome:=by
 cases o with
 |none=>cases u with
  |none=>rfl
  |some _=>exact(show False from r).elim
 |some _=>cases u with
  |none=>exact(show False from r).elim
  |some _=>rfl
theorem KV.val{kvs:List (κ×V)}{vs:List (κ×a9)}(r:KV kvs vs)(k:κ):oG (iO kvs k) (valueAt vs k):=by
 unfold KV at r
 induction r with
 |nil=>exact True.intro
 | @cons p q ps qs h t ih =>
  obtain⟨h1,h2⟩:=h
  by_cases e:p.1=k
  ·have e':q.1=k:=h1.symm.trans e
   have b:valueAt (q::qs) k=some q.2:=by simp[valueAt,ft,e']
   rw[eT e,b];exact h2
  ·have e':¬q.1=k:=λz=>e (h1.trans z)
   have b:valueAt (q::qs) k=valueAt qs k:=by simp[valueAt,ft,e']
   rw[eV e,b];exact ih
theorem KV.any{kvs:List (κ×V)}{vs:List (κ×a9)}(r:KV kvs vs)(k:κ):(kvs.any λkv=>decide (kv.1=k))=vs.any λkv=>decide (kv.1=k):=by
 unfold KV at r
 induction r with
 |nil=>rfl
 |cons h t ih=>rw[Bi,Bi,ih,h.1]
theorem KV.repl{kvs:List (κ×V)}{vs:List (κ×a9)}(r:KV kvs vs)(k:κ){y:V}{u:a9}(ry:RelV y u):
  KV (kvs.map λkv=>if kv.1=k then(kv.1,y)else kv) (vs.map λkv=>if kv.1=k then(kv.1,u)else kv):=by
 unfold KV at r ⊢
 induction r with
 |nil=>exact .nil
 | @cons p q ps qs h t ih =>
  rw[g0,g0]
  refine .cons ?_ ih
  obtain⟨h1,h2⟩:=h
  by_cases e:p.1=k
  ·rw[if_pos e,if_pos (h1.symm.trans e)];exact⟨h1,ry⟩
  ·rw[if_neg e,if_neg (λz=>e (h1.trans z))];exact⟨h1,h2⟩
theorem KV.put{kvs:List (κ×V)}{vs:List (κ×a9)}(r:KV kvs vs)(k:κ){y:V}{u:a9}(ry:RelV y u):KV (putK kvs k y) (stored vs k u):=by
 unfold putK stored
 rw[r.any k]
 by_cases e:(vs.any λkv=>decide (kv.1=k))=true
 ·rw[if_pos e,if_pos e];exact r.repl k ry
 ·rw[if_neg e,if_neg e];exact Paired.snoc r ⟨rfl,ry⟩
theorem KV.length{kvs:List (κ×V)}{vs:List (κ×a9)}(r:KV kvs vs):kvs.length=vs.length:=Paired.length r
end
theorem yQ{P:bn}{w:df}{k:Key}{u:a9}(r:RelV (kV k) u):(bH P w).is k u=true:=by
 cases k with
 |inl i=>obtain⟨t,e⟩:=(show ∃t,u=Value.int i t from r);subst e;exact Er P w i t
 |inr x=>obtain⟨t,e⟩:=(show ∃t,u=Value.str x t from r);subst e;exact mV P w x t
theorem Bb{P:bn}{w:df}:∀{ks:List Key} {us:List a9},Vals (ks.map kV) us->ItemsAre (bH P w) ks us
 |[],_,r=>by rw[List.map_nil]at r;cases r;exact .nil
 |k::ks,_,r=>by
  rw[g0]at r
  cases r with
  |cons h t=>exact .cons (yQ h) (Bb t)
noncomputable abbrev KT(H:Hp):List (List Key×V)->List (List Key×a5×a9)->Prop:=Paired λp q=>p.1=q.1/\H q.2.1=some (.tup (p.1.map kV))/\RelV p.2 q.2.2
theorem KT.val{H:Hp}{kvs:List (List Key×V)}{xs:List (List Key×a5×a9)}(r:KT H kvs xs)(k:List Key):oG (iO kvs k) ((atKey xs k).map (·.2)):=by
 induction r with
 |nil=>exact True.intro
 | @cons p q ps qs h t ih =>
  obtain⟨h1,_,h2⟩:=h
  by_cases e:p.1=k
  ·have e':q.1=k:=h1.symm.trans e
   have b:atKey (q::qs) k=some q.2:=by simp[atKey,ft,e']
   rw[eT e,b];exact h2
  ·have e':¬q.1=k:=λz=>e (h1.trans z)
   have b:atKey (q::qs) k=atKey qs k:=by simp[atKey,ft,e']
   rw[eV e,b];exact ih
theorem KT.repl{H:Hp}{kvs:List (List Key×V)}{xs:List (List Key×a5×a9)}(r:KT H kvs xs)(k:List Key){y:V}{u:a9}(ry:RelV y u):
  KT H (kvs.map λkv=>if kv.1=k then(kv.1,y)else kv) (xs.map (putAt k u)):=by
 induction r with
 |nil=>exact .nil
 | @cons p q ps qs h t ih =>
  rw[g0,g0]
  refine .cons ?_ ih
  obtain⟨h1,h2,h3⟩:=h
  unfold putAt
  by_cases e:p.1=k
  ·rw[if_pos e,if_pos (h1.symm.trans e)];exact⟨h1,h2,ry⟩
  ·rw[if_neg e,if_neg (λz=>e (h1.trans z))];exact⟨h1,h2,h3⟩
theorem KT.put{H:Hp}{kvs:List (List Key×V)}{xs:List (List Key×a5×a9)}(r:KT H kvs xs)(k:List Key){b:a5}{y:V}{u:a9}(hb:H b=some (.tup (k.map kV)))(ry:RelV y u):
  KT H (putK kvs k y) (storedH xs k b u):=by
 have e:(kvs.any λkv=>decide (kv.1=k))=(atKey xs k).isSome:=by
  rw[qV,(r.val k).pS,Option.isSome_map]
 unfold putK storedH
 rw[e]
 by_cases q:(atKey xs k).isSome=true
 ·rw[if_pos q,if_pos q];exact r.repl k ry
 ·rw[if_neg q,if_neg q];exact Paired.snoc r ⟨rfl,hb,ry⟩
theorem KT.keeps{H H':Hp}{kvs:List (List Key×V)}{xs:List (List Key×a5×a9)}(r:KT H kvs xs)(ht:∀b ys,H b=some (.tup ys)->H' b=some (.tup ys)):KT H' kvs xs :=
 Paired.g8 r λ_ _ z=>⟨z.1,ht _ _ z.2.1,z.2.2⟩
section
variable{P:bn}{w:df}{H:Hp}{h:eJ}{a:a5}
theorem Qv{u:HO}(ok:nZ P w H h)(e:Rd H a u):bM P w H h a u:=e.ok ok
theorem IV{kvs:List (Key×V)}(ok:nZ P w H h)(e:Rd H a (.dK kvs)):kvs.length<=bt/\(a==sysModules)=false/\∃vs,KV kvs vs/\h.DictOf (bH P w) a vs :=
 show bM P w H h a (.dK kvs) from Qv ok e
theorem Q6{kvs:List (Key×V)}(ok:nZ P w H h)(e:H a=some (.dK kvs)):kvs.length<=bt/\(a==sysModules)=false/\∃vs,KV kvs vs/\h.DictOf (bH P w) a vs:=IV ok (.inl e)
theorem vS{ks:List Key}(ok:nZ P w H h)(e:H a=some (.tup (ks.map kV))):(tupleKind (bH P w)).is h ks a:=by
 obtain⟨_,its,r,o,h1,h2,n,h3⟩:=(show bM P w H h a (.tup (ks.map kV)) from ok a _ e)
 exact⟨o,its.toArray,n,h1,h2,h3,by simpa using Bb r⟩
theorem IU{kvs:List (List Key×V)}(ok:nZ P w H h)(e:Rd H a (.dT kvs)):kvs.length<=bt/\(a==sysModules)=false ∧
  ∃xs,KT H kvs xs/\h.DictOfH (tupleKind (bH P w)) a xs:=by
 obtain⟨z,y,xs,r,o,es,ep,h1,h2,h3,h4,h5⟩:=(show bM P w H h a (.dT kvs) from Qv ok e)
 refine⟨z,y,xs,r,o,es,ep,h1,h2,h3,h4,λx hx=>?_,h5⟩
 have all:∀{l:List (List Key×V)} {m:List (List Key×a5×a9)},KT H l m->∀x∈m,(tupleKind (bH P w)).is h x.1 x.2.1:=by
  intro l m q
  induction q with
  |nil=>intro x hx;exact nomatch hx
  | @cons p q ps qs hq t ih =>
   intro x hx
   rcases c_.mp hx with e|hx
   ·subst e
    exact vS ok (by rw[←hq.1];exact hq.2.1)
   ·exact ih x hx
 exact all r x hx
theorem Xe{kvs:List (List Key×V)}(ok:nZ P w H h)(e:H a=some (.dT kvs)):kvs.length<=bt/\(a==sysModules)=false ∧
  ∃xs,KT H kvs xs/\h.DictOfH (tupleKind (bH P w)) a xs:=IU ok (.inl e)
end
noncomputable def pI(H:Hp)(a:a5)(y:V)(r:Option V):Prop :=
 (∃kvs k,Rd H a (.dK kvs)/\y=kV k/\r=iO kvs k)\/∃kvs k b,Rd H a (.dT kvs)/\y= .ref b/\H b=some (.tup (k.map kV))/\r=iO kvs k
noncomputable def xH(H:Hp)(a:a5)(y v:V)(H':Hp):Prop :=
 (∃kvs k,H a=some (.dK kvs)/\y=kV k/\kvs.length<bt/\H'=upd H a (.dK (putK kvs k v))) ∨
 ∃kvs k b,H a=some (.dT kvs)/\y= .ref b/\H b=some (.tup (k.map kV))/\kvs.length<bt/\H'=upd H a (.dT (putK kvs k v))
theorem pI.k{H:Hp}{a:a5}{kvs:List (Key×V)}{k:Key}(e:H a=some (.dK kvs)):pI H a (kV k) (iO kvs k):=.inl ⟨kvs,k,.inl e,rfl,rfl⟩
theorem pI.t{H:Hp}{a b:a5}{kvs:List (List Key×V)}{k:List Key}(e:H a=some (.dT kvs))(eb:H b=some (.tup (k.map kV))):pI H a (.ref b) (iO kvs k):=.inr ⟨kvs,k,b,.inl e,rfl,eb,rfl⟩
theorem xH.k{H:Hp}{a:a5}{kvs:List (Key×V)}{k:Key}{v:V}(e:H a=some (.dK kvs))(hl:kvs.length<bt):xH H a (kV k) v (upd H a (.dK (putK kvs k v))):=.inl ⟨kvs,k,e,rfl,hl,rfl⟩
theorem xH.t{H:Hp}{a b:a5}{kvs:List (List Key×V)}{k:List Key}{v:V}(e:H a=some (.dT kvs))(eb:H b=some (.tup (k.map kV)))(hl:kvs.length<bt):
  xH H a (.ref b) v (upd H a (.dT (putK kvs k v))):=.inr ⟨kvs,k,b,e,rfl,eb,hl,rfl⟩
section
variable{X:Cx}{pins:List (a5×mi)}{σ:St}{H:Hp}{s:ba}{a:a5}{y v:V}{u r:a9}{o:Option V}{A:eR}{E:a9->ba->Prop}
theorem Inv.big(I:Inv X pins σ H s):sysModules<s.heap.objs.size:=by
 have h:dk<s.heap.objs.size:=(I.mod.glob.keeps I.bk).lt
 exact yB (by decide) h
theorem KD{Q:a9->ba->Prop}(hu:A.units+1<cLine)(I:Inv X pins σ H s)(g:pI H a y (some v))(ry:RelV y u)(h:∀w' s',Inv X pins σ H s'->RelV v w'->Q w' s'):
  b_ (model X.prog X.w) A (getItem (.ref a) u) Q E s:=by
 rcases g with⟨kvs,k,e,ey,l⟩|⟨kvs,k,b,e,ey,eb,l⟩
 ·subst ey
  obtain⟨z,hd,vs,rel,dd⟩:=IV I.hok e
  obtain⟨w',hw,rw'⟩:=oG.some_of (v:=v) (o:=valueAt vs k) (by rw[l];exact rel.val k)
  exact wpAny_getItem_of (yQ ry) dd.mapOf hw (h w' _ (I.tok _) rw')
 ·subst ey
  cases (show u=Value.ref b from ry)
  obtain⟨z,hd,xs,rel,dd⟩:=IU I.hok e
  obtain⟨w',hw,rw'⟩:=oG.some_of (v:=v) (o:=(atKey xs k).map (·.2)) (by rw[l];exact rel.val k)
  obtain⟨p,hp,hp2⟩:=fw.mp hw
  refine x4 (tupleKind_room_in1 hu) (vS I.hok eb) dd hp ?_
  rw[hp2]
  exact h w' _ (I.tok _) rw'
theorem ace{Q:a9->ba->Prop}(hu:A.units+1<cLine)(I:Inv X pins σ H s)(g:pI H a y o)(ry:RelV y u)(h:∀s',Inv X pins σ H s'->Q (.bool o.isSome) s'):
  b_ (model X.prog X.w) A (compareOp .In u (.ref a)) Q E s:=by
 rcases g with⟨kvs,k,e,ey,l⟩|⟨kvs,k,b,e,ey,eb,l⟩
 ·subst ey
  obtain⟨z,hd,vs,rel,dd⟩:=IV I.hok e
  refine wpAny_in_of (yQ ry) hd dd.mapOf ?_
  rw[←(rel.val k).pS,←l]
  exact h _ (I.tok _)
 ·subst ey
  cases (show u=Value.ref b from ry)
  obtain⟨z,hd,xs,rel,dd⟩:=IU I.hok e
  refine wpAny_in_heap (tupleKind_room_in1 hu) (vS I.hok eb) hd dd ?_
  have q:=(rel.val k).pS
  rw[Option.isSome_map]at q
  rw[←q,←l]
  exact h _ (I.tok _)
theorem uW{h':eJ}{t':Nat}{ob:HO}(I:Inv X pins σ H s)(mu:Xu (H a))(hs:mM a s.heap h')(he:∃q,h'.get? a=some q)(new:bM X.prog X.w (upd H a ob) h' a ob)(ht:s.toks<=t':=by first|exact a7 _|exact g_ _|assumption|omega):
  Inv X pins σ (upd H a ob) { s with heap:=h',toks:=t' } :=
 I.write (x:=a) (e:=a) mu (.inl rfl) (λb q hb z=>(hs.2 b hb).trans z) he new
theorem Nz{P:bn}{w:df}{H':Hp}{h':eJ}{kvs:List (Key×V)}{vs:List (Key×a9)}(z:kvs.length<=bt)(hd:(a==sysModules)=false)(rel:KV kvs vs)(dd:h'.DictOf (bH P w) a vs):
  bM P w H' h' a (.dK kvs):=⟨z,hd,vs,rel,dd⟩
theorem KC{H':Hp}{Q:Unit->ba->Prop}(hu:A.units+1<cLine)(I:Inv X pins σ H s)(g:xH H a y v H')(ry:RelV y u)(rv:RelV v r)(h:∀s',Inv X pins σ H' s'->Q () s'):
  b_ (model X.prog X.w) A (setItem (.ref a) u r) Q E s:=by
 rcases g with⟨kvs,k,e,ey,l,eH⟩|⟨kvs,k,b,e,ey,eb,l,eH⟩
 ·subst ey eH
  obtain⟨z,hd,vs,rel,dd⟩:=Q6 I.hok e
  have hz:vs.length<=bt:=by rw[←rel.length];exact z
  have hl:(putK kvs k v).length<=bt:=by have:=fM kvs k v;omega
  refine wpAny_setItem_pairs (hsz:=hz) (yQ ry) dd λh' P1 hs=>h _ ?_
  have he:∃q,h'.get? a=some q:=let ⟨q,_,_,hq,_⟩:=P1;⟨q,hq⟩
  exact uW I (by rw[e];exact True.intro) hs he (Nz hl hd (rel.put k rv) P1)
 ·subst ey eH
  cases (show u=Value.ref b from ry)
  obtain⟨z,hd,xs,rel,dd⟩:=Xe I.hok e
  have hz:xs.length<=bt:=by rw[←Paired.length rel];exact z
  have hl:(putK kvs k v).length<=bt:=by have:=fM kvs k v;omega
  refine wpAny_setItem_heap (hsz:=hz) (tupleKind_room_in1 hu) (vS I.hok eb) dd λh' P1 hs=>h _ ?_
  obtain⟨q,es,ep,hq,h2,h3,h4,_,h5⟩:=P1
  refine uW I (by rw[e];exact True.intro) hs ⟨q,hq⟩ ⟨hl,hd,_,(rel.put k eb rv).keeps λc ys ec=>?_,q,es,ep,hq,h2,h3,h4,h5⟩
  rw[au (qL ec e (λz=>nomatch z))]
  exact ec
end
section
variable{X:Cx}{pins:List (a5×mi)}{σ:St}{H:Hp}{s:ba}{a:a5}{kvs:List (Key×V)}{k:Key}{u:a9}{A:eR}{E:a9->ba->Prop}
end
noncomputable def Qg(i:Expr):Prop:=∀ov iv,subscripted i false ov iv=operate [ov,iv] (getItem ov iv)
theorem uo{prog:bn}{w:df}{A:eR}{E:a9->ba->Prop}{s:ba}{env:Env}{value slice:Expr}{pos:sx}{T id:String}{Q:a9->ba->Prop}
  (hl:typeLookup (.type T) "__getitem__" =pure (some (.builtin id))) (hs:Qg slice)
  (h:b_ (model prog w) A (eval value env) (λo s₁=>b_ (model prog w) A (eval slice env) (λi s₂=>s₂.TypeIs o T/\b_ (model prog w) A (getItem o i) Q E s₂) E s₁) E s) :
  b_ (model prog w) A (eval (.Subscript value slice pos) env) Q E s:=by
 refine Subscript_ (h_ h (λo s₁ h₁=>h_ h₁ (λi s₂ h₂=>?_) λ_ _ x=>x) λ_ _ x=>x)
 obtain⟨hT,h₂⟩:=h₂
 unfold subscriptTail
 refine a0 ?_
 rw[getitemInPython_of_ne hT.not_modules]
 refine a0 (xI hT hl ?_)
 have fin:b_ (model prog w) A (subscripted slice false o i) (λr s₃=>b_ (model prog w) A (letTemporaryGo value o r >>= λ_=>pure r) Q E s₃) E s₂:=by
  rw[hs o i]
  exact wpAny_operating (h_ h₂ (λr s₃ h₃=>a0 (wpAny_letTemporaryGo (bi h₃))) λ_ _ x=>x)
 first
  |exact bi (a0 fin)
  |exact a0 (bi (a0 fin))
  |exact a0 fin
theorem ET{X:Cx}{pins:List (a5×mi)}{σ:St}{H:Hp}{s:ba}{a:a5}{y:V}{o:Option V}(I:Inv X pins σ H s)(g:pI H a y o):s.TypeIs (.ref a) "dict" :=by
 rcases g with⟨kvs,k,e,_,_⟩|⟨kvs,k,b,e,_,_,_⟩
 ·obtain⟨_,_,vs,_,dd⟩:=IV I.hok e
  exact dd.typeIs
 ·obtain⟨_,_,xs,_,dd⟩:=IU I.hok e
  exact dd.typeIs
noncomputable def Vg(td ty:TE):TE:=λσ H Q=>td σ H λx H1=>ty σ H1 λy H2=>∃a v,x= .ref a/\pI H2 a y (some v)/\Q v H2
noncomputable def Vx(td ty tv:TE):TS:=λD σ H=>tv σ H λv H1=>td σ H1 λx H2=>ty σ H2 λy H3=>∃a H4,x= .ref a/\xH H3 a y v H4/\D.nx σ H4
section
variable{X:Cx}{o i e value:Expr}{pos pos' tpos:sx}{td ty tv:TE}
theorem gU(hu:X.A.units+1<cLine)(ho:PE X o td)(hi:PE X i ty)(hs:Qg i):PE X (.Subscript o i pos) (Vg td ty):=by
 intro pins s σ H Q I h
 refine uo PySem.F.slot_dict_getitem.lookup hs (dG (ho pins s σ H _ I h) λu s1 ⟨x,H1,I1,rx,q1⟩=>dG (hi pins s1 σ H1 _ I1 q1) λiv s2 ⟨y,H2,I2,ry,a,v,ex,g,q2⟩=>?_)
 subst ex
 obtain rfl:u=Value.ref a:=rx
 exact⟨ET I2 g,KD hu I2 g ry λw' s3 I3 rw'=>⟨v,H2,I3,rw',q2⟩⟩
theorem sE(hu:X.A.units+1<cLine)(ho:PE X o td)(hi:PE X i ty)(hv:PE X value tv)(hs:swapsWith value (some (.Subscript o i pos')) pos.line X.env=pure false):
  PS X (.Assign [.Subscript o i pos'] value pos) (Vx td ty tv):=by
 intro pins s σ H D I h
 refine wpAny_Assign_Subscript (dG (hv pins s σ H _ I h) λr s1 ⟨v,H1,I1,rv,q1⟩=>dG (ho pins s1 σ H1 _ I1 q1) λu s2 ⟨x,H2,I2,rx,q2⟩=>dG (hi pins s2 σ H2 _ I2 q2) λiv s3 ⟨y,H3,I3,ry,a,H4,ex,g,q3⟩=>?_) hs
 subst ex
 obtain rfl:u=Value.ref a:=rx
 exact KC hu I3 g ry rv λs4 I4=>⟨σ,H4,I4,q3⟩
end
theorem ES{P:bn}{w:df}{H:Hp}(h:eJ)(hb:sysModules<h.objs.size):bM P w H (h.push { cls:=.type "dict",data:=.dict #[] }) h.objs.size (.dK []) :=
 ⟨d0 _,beq_eq_false_iff_ne.mpr (Ne.symm (eA hb)),[],.nil,Heap.DictOf.new h⟩
theorem Ny{P:bn}{w:df}{H:Hp}(h:eJ)(hb:sysModules<h.objs.size):bM P w H (h.push { cls:=.type "dict",data:=.dict #[] }) h.objs.size (.dT []) :=
 ⟨d0 _,beq_eq_false_iff_ne.mpr (Ne.symm (eA hb)),[],.nil,_,#[],0,bo _ rfl,⟨rfl,rfl,rfl⟩,rfl,rfl,re⟩
noncomputable def SI:TE:=λ_ H Q=>∀p,H p=none->Q (.ref p) (upd H p (.dK []))
noncomputable def SH:TE:=λ_ H Q=>∀p,H p=none->Q (.ref p) (upd H p (.dT []))
section
variable{X:Cx}{pos:sx}
theorem om:PE X (.Dict [] [] pos) SI:=λpins s σ H Q I h =>
 wpAny_Dict_empty ⟨.ref s.heap.objs.size,_,I.laid (a:=s.heap.objs.size) (o:=.dK []) (t':=s.toks) (λ_ _ q=>a8 _ q) (a7 _) (ES s.heap I.big),rfl,h _ (I.hok.fresh (a7 _))⟩
theorem Ed:PE X (.Dict [] [] pos) SH:=λpins s σ H Q I h =>
 wpAny_Dict_empty ⟨.ref s.heap.objs.size,_,I.laid (a:=s.heap.objs.size) (o:=.dT []) (t':=s.toks) (λ_ _ q=>a8 _ q) (a7 _) (Ny s.heap I.big),rfl,h _ (I.hok.fresh (a7 _))⟩
end
noncomputable def F6:List (TE×TE)->St->Hp->(List (V×V)->Hp->Prop)->Prop
 |[],_,H,Q=>Q [] H
 |(tk,tv)::r,σ,H,Q=>tk σ H λx H1=>tv σ H1 λy H2=>F6 r σ H2 λps H3=>Q ((x,y)::ps) H3
noncomputable abbrev VV:List (V×V)->List (a9×a9)->Prop:=Paired λp q=>RelV p.1 q.1/\RelV p.2 q.2
noncomputable def YC(X:Cx)(pos:sx)(keys:List (Option Expr))(values:List Expr)(OB:List (TE×TE)):Prop :=
 ∀(pins:List (a5×mi)) (s:ba) (σ:St) (H:Hp) (Q:List (V×V)->Hp->Prop),Inv X pins σ H s->F6 OB σ H Q →
  b_ (model X.prog X.w) X.A (evalPairs (pairTrees keys values X.env pos)) (λvs s'=>∃ps H',Inv X pins σ H' s'/\VV ps vs/\Q ps H') X.xe s
theorem OR{X:Cx}{pos:sx}:YC X pos [] [] []:=λpins s σ H Q I h=>pairTrees_nil_walk ⟨[],H,I,.nil,h⟩
theorem Ea{X:Cx}{pos:sx}{k v:Expr}{ks:List (Option Expr)}{vs:List Expr}{tk tv:TE}{OB:List (TE×TE)}(hk:PE X k tk)(hv:PE X v tv)(hr:YC X pos ks vs OB):
  YC X pos (some k::ks) (v::vs) ((tk,tv)::OB):=λpins s σ H Q I h =>
 pairTrees_cons_walk (dG (hk pins s σ H _ I h) λu s1 ⟨x,H1,I1,rx,q1⟩=>dG (hv pins s1 σ H1 _ I1 q1) λw2 s2 ⟨y,H2,I2,ry,q2⟩ =>
  dG (hr pins s2 σ H2 _ I2 q2) λws s3 ⟨ps,H3,I3,rel,q3⟩=>⟨(x,y)::ps,H3,I3,.cons ⟨rx,ry⟩ rel,q3⟩)
noncomputable def lP(kvs more:List (Key×V)):List (Key×V):=more.foldl (λacc kv=>putK acc kv.1 kv.2) kvs
theorem KV.merge:∀{more:List (Key×V)} {rs:List (Key×a9)} {kvs:List (Key×V)} {vs:List (Key×a9)},KV more rs->KV kvs vs->KV (lP kvs more) (merged vs rs):=by
 intro more rs kvs vs r
 unfold KV at r
 induction r generalizing kvs vs with
 |nil=>intro q;exact q
 | @cons p q ps qs h t ih =>
  intro r0
  have e:KV (putK kvs p.1 p.2) (stored vs q.1 q.2):=by
   have:=r0.put p.1 h.2
   rw[←h.1];exact this
  exact ih e
theorem pD:∀(more kvs:List (Key×V)),(lP kvs more).length<=kvs.length+more.length
 |[],kvs=>by show kvs.length<=kvs.length+0;omega
 |p::r,kvs=>by
  have h1:=pD r (putK kvs p.1 p.2)
  have h2:=fM kvs p.1 p.2
  show(lP (putK kvs p.1 p.2) r).length<=_
  rw[eM];omega
theorem zh{P:bn}{w:df}:∀{kvs:List (Key×V)} {ws:List (a9×a9)},VV (kvs.map λkv=>(kV kv.1,kv.2)) ws->∃rs,Carries (bH P w) ws rs/\KV kvs rs
 |[],_,r=>by rw[List.map_nil]at r;cases r;exact⟨[],True.intro,.nil⟩
 |p::kvs,_,r=>by
  rw[g0]at r
  cases r with
  | @cons a b as bs h t =>
   obtain⟨rs,c,q⟩:=zh (P:=P) (w:=w) t
   obtain⟨b1,b2⟩:=b
   exact⟨(p.1,b2)::rs,⟨yQ h.1,rfl,c⟩,.cons ⟨rfl,h.2⟩ q⟩
noncomputable def Vf(OB:List (TE×TE)):TE:=λσ H Q=>∀p,H p=none->F6 OB σ (upd H p (.dK [])) λps H2=>H2 p=some (.dK [])/\∃kvs:List (Key×V),ps=kvs.map (λkv=>(kV kv.1,kv.2))/\kvs.length<=15/\Q (.ref p) (upd H2 p (.dK (lP [] kvs)))
theorem OX{X:Cx}{pos:sx}{keys:List (Option Expr)}{values:List Expr}{OB:List (TE×TE)}(h:YC X pos keys values OB)(hall:keys.all (·.isSome)=true)(hl:keys.length=values.length)(h0:keys≠[])
  (h15:keys.length<=15):PE X (.Dict keys values pos) (Vf OB):=by
 intro pins s σ H Q I q
 have hn:=I.hok.fresh (a7 s.heap.objs.size)
 have I1:=I.laid (a:=s.heap.objs.size) (o:=.dK []) (h':=s.heap.push { cls:=.type "dict",data:=.dict #[] }) (t':=s.toks) (λ_ _ q=>a8 _ q) (a7 _) (ES s.heap I.big)
 refine wpAny_Dict_walk (knd:=bH X.prog X.w) hall hl h0 h15 (dG (h pins _ σ _ _ I1 (q _ hn)) λws s2 ⟨ps,H2,I2,rel,e,kvs,ep,lk,q2⟩=>?_)
 subst ep
 obtain⟨rs,c,rk⟩:=zh (P:=X.prog) (w:=X.w) rel
 obtain⟨z,hd,vs0,r0,dd⟩:=Q6 I2.hok e
 cases r0
 refine⟨rs,c,dd,λh' P1 hs=>⟨.ref s.heap.objs.size,_,?_,rfl,q2⟩⟩
 have hz:(lP [] kvs).length<=bt:=by
  have h1:=pD kvs []
  rw[List.length_nil]at h1
  rw[B2];omega
 have he:∃q,h'.get? s.heap.objs.size=some q:=let ⟨q,_,_,hq,_⟩:=P1;⟨q,hq⟩
 exact uW I2 (by rw[e];exact True.intro) hs he (Nz hz hd (rk.merge .nil) P1)
section
variable{X:Cx}{pins:List (a5×mi)}{σ:St}{H:Hp}{s:ba}{a:a5}{y d:V}{u r:a9}{o:Option V}{A:eR}{E:a9->ba->Prop}
end
section
variable{X:Cx}{o e f:Expr}{apos cpos:sx}{td ty tx:TE}
end
section
variable{X:Cx}{pins:List (a5×mi)}{σ:St}{H:Hp}{s:ba}{a:a5}{kvs:List (Key×V)}{A:eR}{E:a9->ba->Prop}
end
section
variable{X:Cx}{pins:List (a5×mi)}{σ:St}{H:Hp}{s:ba}{a:a5}{y:V}{u:a9}{A:eR}{E:a9->ba->Prop}
end
end
end L2
namespace Att
open PySem PySem.W PySem.Calls PyProof.Rows
theorem xr{P:Params}{h:eJ}:∀(ns:List Int) (vs:List a9),WellAll P h vs (ns.map WData.int)->IntsAre vs ns:=by
 intro ns
 induction ns with
 |nil =>
  intro vs w
  rw[List.map_nil]at w
  cases w
  exact .nil
 |cons n ns ih =>
  intro vs w
  rw[g0]at w
  cases w with
  |cons a b =>
   cases a
   exact .cons _ _ (ih _ b)
theorem Jw{l:OpenLaw}{n:Nat}(hn:l.most=some n){P:Params}{h:eJ}{args:List WData}{vals:List a9}
  (hpre:l.row.toRowW.claim.pre args=true) (hwl:WellAll P h vals args) :
  ∃a vs ns,vals=[Value.ref a]/\args=[WData.list (ns.map WData.int)]/\h.get? a=some { cls:=.type "list",data:=.seq vs.toArray }/\IntsAre vs ns/\ns.length<=n:=by
 have hsh:WShape.hasAll [] args [.list .int]=true:=(pre_splitW hpre).1
 have hc:l.pre.holds [] { args:=args }=true:=(pre_splitW hpre).2
 obtain⟨d,r,rfl,h1,h2⟩:=hasAllW_cons hsh
 obtain rfl:=hasAllW_nil h2
 obtain⟨xs,rfl,h3⟩:=hasW_list h1
 obtain⟨ns,rfl⟩:=items_int h3
 have hlen:ns.length<=n:=by
  unfold OpenLaw.pre at hc
  have h4:(WTm.not (.lt (.lit (.int (n:Int))) (.len (.arg 0)))).holds [] { args:=[.list (ns.map .int)] }=true:=by
   have h4:=(holds_andW hc).1
   rw[hn]at h4
   exact h4
  have h5:=condW_of h4 (w_not (w_lt w_lit (w_len_list (w_arg rfl))))
  rw[bc]at h5
  refine z_ λq=>?_
  have q':(n:Int)<((ns.length:Nat):Int):=by omega
  first
   |(rw[decide_eq_true q']at h5;exact absurd h5 (by decide))
   |(simp at h5;omega)
 cases hwl with
 |cons w1 w2 =>
  cases w2
  cases w1 with
  |list ho hall=>exact⟨_,_,ns,rfl,rfl,ho,xr ns _ hall,hlen⟩
theorem JE(l:OpenLaw)(args:List WData):l.row.toRowW.claim.post args (.bool true) args=true :=
 postW_of (r:=l.row.toRowW) (X:=(true==true))
  (show WShape.has [] (.bool true) .bool=true by first|rfl|decide|simp[WShape.has,WShape.arms,WShape.armsAll])
  (show(WTm.eq .res (.lit (.bool true))).value [] { args:=args,res:=some (.bool true),after:=args }=some (.bool (true==true)) from w_eq_bool (w_res rfl) w_lit) rfl
theorem E3{l:OpenLaw}{n:Nat}{q:bn}{loose:List bp}{XP:(bp->Option a9)->eJ->Prop}{YP:df->eJ->Prop}{d:DefRec}
  (hn:l.most=some n) (hdf:d.params.defaults=[])
  (call:∀(w:df) (s₀ s₁:ba) (mg mb:bp->Option a9) (fa:a5) (o:mi) (pm cd doc:a9) (a:a5) (vs:List a9) (ns:List Int),
   Ground q loose [] XP w s₀ mg mb s₁.heap->YP w s₁.heap →
   s₁.heap.get? fa=some o->o.data= .func (docDef d.name d.params d.body d.scope pm cd doc)->s₁.heap.CodeRec cd d.name->mg d.name=some (.ref fa) →
   s₁.heap.get? a=some { cls:=.type "list",data:=.seq vs.toArray }->IntsAre vs ns->ns.length<=n->s₁.gens= #[] →
   codeAny (model l.prog w) callerA (.call (.ref fa) ⟨[.ref a],[]⟩) (λr s'=>r= .ok (.ret (.bool true))/\OldK s₁.heap s'.heap/\s'.os=s₁.os/\C_ s'.gens) s₁) :
  WalkO q loose XP YP l.row.toRowW d [] (λf vs=>PySem.call f vs):=by
 intro w s₀ s₁ mg mb G Y fa o pm cd doc dV kV ho hd hcd hD hmg hg args vals as hpre hlay hrd hwl hlo
 obtain rfl:dV= .none:=Dflts.none hD hdf
 obtain rfl:kV= .none:=Dflts.noKw hD
 obtain⟨a,vs,ns,rfl,rfl,hobj,hints,hlen⟩:=Jw hn hpre hwl
 refine enter_call (tz (call w s₀ s₁ mg mb fa o pm cd doc a vs ns G Y ho (fd_plain hd) hcd hmg hobj hints hlen hg) λr s' hq=>?_)
 obtain⟨rfl,h2,h3,h4⟩:=hq
 exact⟨.inl ⟨.bool true,.bool true,[],rfl,λ_=>rfl,.bool true,JE l _,λ_=>⟨List.Pairwise.nil,λ_ hm=>(nomatch hm)⟩⟩,h2,h3,h4⟩
section
variable{prog:bn}{w:df}{A:eR}{E:a9->ba->Prop}{s:ba}{K:Frag}
end
end Att
namespace L2
open PySem PySem.Spec PyProof.Rows
section
theorem AH:∀{vs:List a9} {ns:List Int},IntsAre vs ns->Vals (ns.map V.int) vs
 |_,_,.nil=>.nil
 |_,_,.cons n t h=>.cons ⟨t,rfl⟩ (AH h)
end
section
end
section
noncomputable def inClass(s:hV)(j:Nat):hV:=match s with
 | .ClassDef _ _ _ body _ _ _ _ _ _ _=>body.getD j (.Pass ⟨0,0,0,0⟩)
 |_=>.Pass ⟨0,0,0,0⟩
noncomputable def gf(s:hV):w_:=match s with
 | .FunctionDef _ a _ _ _ _ _ _ _ _=>a
 |_=>{ posonlyargs:=[],args:=[],vararg:=none,kwonlyargs:=[],kw_defaults:=[],kwarg:=none,defaults:=[] }
noncomputable def cV(s:hV):List hV:=match s with
 | .FunctionDef _ _ b _ _ _ _ _ _ _=>b
 |_=>[]
noncomputable def av(s:hV):oP:=match s with
 | .FunctionDef _ _ _ _ _ _ sc _ _ _=>sc
 |_=>{ kind:=.function,names:=[],isGenerator:=false,isCoroutine:=false }
noncomputable abbrev bS:K7:=λ_ _ _ _ _ _=>False
noncomputable abbrev E0:XK:=λ_ _ _=>False
theorem aL{X:Cx}:Passes bS X E0:=λ_ _ _ _ _ _ _ h=>h.elim
structure FH(K:PySem.W.Frag)(x qual:bp)(st:hV)(f:a5)(fd:dv):Prop where
 ex:∃(oc:a9) (od:Option a5) (dV kV doc pm:a9) (an:Option a5) (cdv ct:a9) (osl:Array (Option a9)),
  fd=PySem.W.fnOf x qual (gf st) (cV st) (av st) dV kV doc pm an cdv ct/\K.lookup f=some ⟨oc,od,.func fd,osl⟩/\PySem.W.codeIn K cdv qual=true
 kp:PySem.W.keepIn K (.ref f)=true
section
variable{P:bn}{w:df}{K:PySem.W.Frag}{mg:bp->Option a9}{base:eJ}
theorem FH.ok{x qual:bp}{st:hV}{f:a5}{fd:dv}{N ps:List bp}{k:Nat}{sp:Sp}(F:FH K x qual st f fd)(S:aC N ps (av st))(len:∀vs H Q E,sp vs H Q E->vs.length=ps.length)
  (hbody:∀(cdv:a9) (A:eR) (outer:List Env) (s:ba) (H:Hp) (vs:List V) (Q:VK) (E:XK),jL k (A.deeper (envOfC qual (av st) s.heap.objs.size f cdv))->sp vs H Q E →
   ∃t,zQ (sR bS P w K mg base N qual (av st) f cdv A outer s H E).Qz (cV st) t/\t { nx:=λ_ H'=>Q .ia H',rt:=Q } (start N vs) H):aE P w K mg base bS (k+1) f fd ps sp:=by
 obtain⟨oc,od,dV,kV,doc,pm,an,cdv,ct,osl,rfl,lk,hcd⟩:=F.ex
 refine Np lk hcd S len λA outer s H vs Q E hr IL=>?_
 obtain⟨t,h,q⟩:=hbody cdv A outer s H vs Q E hr IL
 exact⟨t,h.Qz,q⟩
theorem vW{x qual:bp}{st:hV}{f:a5}{oc:a9}{od an:Option a5}{osl:Array (Option a9)}{dV kV doc pm cdv ct:a9}(l:K.lookup f=some ⟨oc,od,.func (PySem.W.fnOf x qual (gf st) (cV st) (av st) dV kV doc pm an cdv ct),osl⟩)
  (c:PySem.W.codeIn K cdv qual=true) (k:PySem.W.keepIn K (.ref f)=true):FH K x qual st f (PySem.W.fnOf x qual (gf st) (cV st) (av st) dV kV doc pm an cdv ct):=⟨⟨oc,od,dV,kV,doc,pm,an,cdv,ct,osl,rfl,l,c⟩,k⟩
end
theorem iM{A:eR}{k:Nat}(hr:jL k A):A.units+1<cLine:=bv (Nat.add_le_add_left (by decide:1<=64) _) hr.units
section
variable{X:Cx}
theorem pv (i:Nat){x:bp}{pos:sx}(hN:X.N[i]? =some x:=by rfl)(hv:YB X.env.scope x:=by first|exact Or.inl rfl|exact Or.inr (Or.inl rfl)|exact Or.inr (Or.inr rfl))(hd:(x==("__debug__" :bp))=false:=by decide)
  (hcd:(x==("__classdict__" :bp))=false:=by decide):PE X (.Name x pos) (U0 i):=S5 hN hv hd hcd
end
theorem lJ{A B:Prop}(h:B):if false=true then A else B:=by
 rw[if_neg cw]
 exact h
theorem qw{A B:Prop}(h:A):if true=true then A else B:=by
 rw[if_pos rfl]
 exact h
noncomputable def aj(H H':Hp):Prop:=∀b o,H b=some o->H' b=some o
theorem aj.refl(H:Hp):aj H H:=λ_ _ h=>h
theorem aj.trans{H H1 H2:Hp}(a:aj H H1)(b:aj H1 H2):aj H H2:=λc o h=>b c o (a c o h)
theorem aj.free{H H':Hp}(e:aj H H'){l:a5}(h:H' l=Option.none):H l=Option.none:=by
 cases q:H l with
 |none=>rfl
 |some o =>
  rw[e l o q]at h
  cases h
theorem aj.seq{K:PySem.W.Frag}{H H':Hp}{a:a5}{xs:List V}(e:aj H H')(h:cy K H a xs):cy K H' a xs:=by
 rcases h with(h|⟨o,h⟩)|h
 ·exact .inl (.inl (e _ _ h))
 ·exact .inl (.inr ⟨o,e _ _ h⟩)
 ·exact .inr h
section
variable{κ:Type}[DecidableEq κ]
end
end
end L2
namespace GP
theorem Pf{α:Type}:∀{l:List α},l.length=1->∃a,l=[a]
 |[a],_=>⟨a,rfl⟩
theorem Ex{α:Type}{n:Nat}:∀{l:List α},l.length=n+1->∃a r,l=a::r/\r.length=n
 |a::r,h=>⟨a,r,rfl,Nat.succ.inj h⟩
theorem To{α:Type}{l:List α}(h:l.length=2):∃a b,l=[a,b]:=by
 obtain⟨a,r,rfl,k⟩:=Ex h
 obtain⟨b,rfl⟩:=Pf k
 exact⟨a,b,rfl⟩
theorem MX{α:Type}{l:List α}(h:l.length=3):∃a b c,l=[a,b,c]:=by
 obtain⟨a,r,rfl,k⟩:=Ex h
 obtain⟨b,c,rfl⟩:=To k
 exact⟨a,b,c,rfl⟩
theorem Pe{α:Type}{l:List α}(h:l.length=4):∃a b c d,l=[a,b,c,d]:=by
 obtain⟨a,r,rfl,k⟩:=Ex h
 obtain⟨b,c,d,rfl⟩:=MX k
 exact⟨a,b,c,d,rfl⟩
theorem MW{α:Type}{l:List α}(h:l.length=5):∃a b c d e,l=[a,b,c,d,e]:=by
 obtain⟨a,r,rfl,k⟩:=Ex h
 obtain⟨b,c,d,e,rfl⟩:=Pe k
 exact⟨a,b,c,d,e,rfl⟩
theorem VQ{α:Type}{l:List α}(h:l.length=6):∃a b c d e f,l=[a,b,c,d,e,f]:=by
 obtain⟨a,r,rfl,k⟩:=Ex h
 obtain⟨b,c,d,e,f,rfl⟩:=MW k
 exact⟨a,b,c,d,e,f,rfl⟩
end GP
namespace L2
open PySem PySem.Spec PyProof.Rows
section
section
variable{X:Cx}
theorem Bo:∀{bs:List Bool} {us:List a9},Vals (bs.map V.bl) us->∀(i:Nat) (v:a9),us[i]? =some v->∃b,bs[i]? =some b/\v= .bool b
 |[],_,r,i,v,e=>by
  cases r
  simp at e
 |b::bs,_,r,i,v,e=>by
  cases r with
  |cons r1 r2 =>
   cases i with
   |zero =>
    simp at e
    subst e
    exact⟨b,rfl,r1⟩
   |succ i =>
    obtain⟨c,h1,h2⟩:=Bo r2 i v (by simpa using e)
    exact⟨c,by simpa using h1,h2⟩
theorem Gj(bs:List Bool):((fe bs.length).all λi=>(bs[i]?).getD true)=bs.all id:=by
 rw[xz,uk,uk]
 constructor
 ·intro h b hb
  obtain⟨i,hi,rfl⟩:=n_ hb
  have:=h i (o0.mpr hi)
  simpa only[a6 hi,Option.getD_some,id]using this
 ·intro h i hi
  have hi':=o0.mp hi
  simpa only[a6 hi',Option.getD_some,id]using h _ (kb hi')
theorem wM(hc:X.calm=true):pY X (.builtin "all") (λxs H Q=>∃(l:a5) (bs:List Bool),xs=[.ref l]/\cy X.K H l (bs.map V.bl)/\Q (.bl (bs.all id)) H):=by
 intro pins s σ H xs us Q I r h
 obtain⟨l,bs,rfl,hl,q⟩:=h
 obtain⟨u,rfl,ru⟩:=vals1 r
 cases ru
 obtain⟨its,rv,p,hz⟩:=I.list hl
 have pl:s.heap.IsList l its.toArray:=p.isList
 have hlt:l<s.heap.objs.size:=by obtain⟨_,e,_⟩:=pl;exact cm e
 have hlen:bs.length=its.length:=by rw[←rv.length,bc]
 refine TK.bP (a7 s.toks) ?_
 refine call_all_walk (pi pl ?_)
 refine⟨s.heap.objs.size,[s.heap.objs.size,l],[s.heap.objs.size],its.toArray.size,_,_,λi=>(bs[i]?).getD true,rfl,Walks.list (A:=X.A.in1) (I.ok.hd hc) _ l (eA hlt) its.toArray,
  ⟨⟨_,bo _ rfl,rfl,rfl⟩,pl.push _⟩,λi v s' Q' E' hP hQ=>?_,λh' tk hk hup=>?_⟩
 ·obtain⟨b,e,rfl⟩:=Bo rv i v (by simpa using hP)
  simp only[e,Option.getD_some]at hQ
  exact kt hQ
 ·have e:((fe its.toArray.size).all λi=>(bs[i]?).getD true)=bs.all id:=by
   rw[d_,←hlen];exact Gj bs
  rw[e]
  refine⟨.bl (bs.all id),H,I.kept (t':=tk) (λb x e=>hk b x (λhm=>?_) (a8 _ e)),rfl,q⟩
  rw[cq.mp hm]at e
  exact f8 _ (cm e)
end
theorem Ip{X:Cx}{K':PySem.W.Frag}{es:List Expr}{k:Nat}{t:Rb}{n:Nat}{pos:sx}(hK:X.K=K')(hc:X.calm=true)(h:Xq X es t)
  (hn:(assignEach es X.env).length=n:=by rfl) (hst:(assignEach es X.env).findIdx? (·.1)=none:=by rfl):PG X (.Tuple es k pos) (W7 K' n t):=by
 subst hK
 exact qm hc h hn hst
noncomputable def aad(t u:TS):TS:=λD σ H=>∃Mid:St->Hp->Prop,t { D with nx:=Mid } σ H/\∀ σ' H',Mid σ' H'->u D σ' H'
theorem bN{X:Cx}{st:hV}{rest:List hV}{t u:TS}(h1:PS X st t)(h2:zQ X rest u):zQ X (st::rest) (aad t u):=by
 intro pins s σ H D I h
 obtain⟨Mid,h,hm⟩:=h
 refine zi (dG (h1 pins s σ H { D with nx:=Mid } I h) λf s1 q=>?_)
 cases f with
 |next =>
  obtain⟨σ',H',I',q⟩:=q
  exact h2 pins s1 σ' H' D I' (hm σ' H' q)
 |ret v=>exact q
 |brk=>exact q
 |cont=>exact q
noncomputable def iW(X:Cx)(scope:oP)(cl:List (bp×a5))(C:a5)(N:List bp)(s:ba)(H:Hp)(ex:List a5)(pn:List (a5×mi))(E:a9->ba->Prop):Cx :=
 { X with N:=N,s₀:=s,H₀:=H,env:=compEnvC scope cl C X.env,outer:=X.stack,ex:=ex,fn:=λx=>scope.names.lookup x==some .cell,pn:=pn,xe:=E }
structure c6(X:Cx)(scope:oP)(cl:List (bp×a5))(N:List bp)(pZ:St->St):Prop where
 clos:closureFor scope X.env=pure cl
 kind:scope.kind= .function
 cell:∀y∈scope.names,y.2= .cell->cl.lookup y.1=none
 names:∀y∈scope.names,y.2= .local->scope.names.lookup y.1=some .local
 sub:∀x c,cl.lookup x=some c->X.env.cells.lookup x=some c
 has:∀x,((relabel scope X.env).names.lookup x=some .cell\/(relabel scope X.env).names.lookup x=some .free)->scope.names.lookup x=some .cell\/∃c,cl.lookup x=some c
 len:∀ σ,(pZ σ).length=N.length
 fv:∀(σ:St) (i:Nat) (x:bp) (v:V),N[i]? =some x->(pZ σ)[i]? =some (some v)->YB (relabel scope X.env) x →
  ∃(j:Nat) (c:a5),X.N[j]? =some x/\σ[j]? =some (some v)/\X.env.kindOf x=some .cell/\((relabel scope X.env).names.lookup x=some .cell\/(relabel scope X.env).names.lookup x=some .free)/\cl.lookup x=some c
structure Oa(cl Hq:List (bp×a5))(scope:oP)(n:Nat)(h₁:eJ):Prop where
 look:∀x c,Hq.lookup x=some c->(n<c/\h₁.IsCell c none)\/cl.lookup x=some c
 inj:∀x y c,n<c->Hq.lookup x=some c->Hq.lookup y=some c->(∀x,cl.lookup x≠some c)->x=y
 keep:∀x c,cl.lookup x=some c->Hq.lookup x=some c
 own:∀x,scope.names.lookup x=some .cell->∃c,Hq.lookup x=some c
theorem iK:∀(names:List (bp×tI)) (n:Nat) (acc:List (bp×a5)),cellsFrom n names acc=cellsFrom n names []++acc
 |[],_,_=>rfl
 |(y,k)::r,n,acc=>by
  unfold cellsFrom
  split
  ·rw[iK r _ ((y,n)::acc),iK r _ [(y,n)],nz];rfl
  ·exact iK r n acc
theorem pG:∀(names:List (bp×tI)) (n:Nat) (acc:List (bp×a5)) (x:bp) (c:a5),(x,c)∈cellsFrom n names acc->(x,wn)∈names\/(x,c)∈acc
 |[],_,_,_,_,h=>.inr h
 |(y,k)::r,n,acc,x,c,h=>by
  unfold cellsFrom at h
  split at h
  next hk =>
   rcases pG r _ _ x c h with z|z
   ·exact .inl (ce _ z)
   ·rcases c_.mp z with e|e
    ·cases e
     have hk':k= .cell:=by simpa using hk
     rw[hk']
     exact .inl cr
    ·exact .inr e
  next=>exact(pG r _ _ x c h).imp (ce _) id
theorem NH{X:Cx}{scope:oP}{cl:List (bp×a5)}{N:List bp}{pZ:St->St}(S:c6 X scope cl N pZ){M:Dx}{A:eR}{E:a9->ba->Prop}{s:ba}{Q:Env->ba->Prop}
  (h:∀Hq h₁,Oa cl Hq scope s.heap.objs.size h₁->h₁.Ns s.heap.objs.size (λ_=>none)->(∀b o,s.heap.get? b=some o->h₁.get? b=some o)->Q { compEnvC scope Hq s.heap.objs.size X.env with scope:=scope } { s with heap:=h₁ }) :
  b_ M A (newFunctionEnv scope X.env.globals cl [] X.env.qual none .none (some X.env)) Q E s:=by
 simp only[newFunctionEnv,Option.isSome_some,if_true]
 refine a0 (wpAny_alloc ?_)
 refine a0 (wpAny_layCells _ (λname kind cells=>by cases hkc:kind==wn<;>simp[hkc]) _ _ _ _ ?_)
 have hz:(s.heap.push { cls:=.type "dict",data:=.dict #[] }).objs.size=s.heap.objs.size+1:=l_ ..
 have ok:=cellsFrom_ok scope.names (s.heap.push { cls:=.type "dict",data:=.dict #[] }) (s.heap.objs.size+1) [] ⟨λ_ _ hm=>(nomatch hm),List.Pairwise.nil⟩ (by rw[hz];exact a7 _)
 simp only[List.forIn_nil]
 refine a0 (bi (bi (h (cellsFrom (s.heap.push { cls:=.type "dict",data:=.dict #[] }).objs.size scope.names cl) _ ⟨λx c e=>?_,λx y c _ ex ey hn=>?_,λx c e=>?_,λx e=>?_⟩ ((Heap.Ns.new s.heap (.type "dict")).keeps λb o e=>pushCells_keeps _ _ _ _ e) λb o e=>pushCells_keeps _ _ _ _ (a8 _ e))))
 ·rw[iK,List.lookup_append]at e
  cases q:(cellsFrom (s.heap.push { cls:=.type "dict",data:=.dict #[] }).objs.size scope.names []).lookup x with
  |none=>rw[q]at e;exact .inr e
  |some d =>
   rw[q]at e
   cases e
   exact .inl ((ok.empty x c (mem_of_lookup q)).symm)
 ·rw[iK,List.lookup_append]at ex ey
  cases qx:(cellsFrom (s.heap.push { cls:=.type "dict",data:=.dict #[] }).objs.size scope.names []).lookup x with
  |none=>rw[qx]at ex;exact absurd ex (hn x)
  |some d =>
   rw[qx]at ex
   cases ex
   cases qy:(cellsFrom (s.heap.push { cls:=.type "dict",data:=.dict #[] }).objs.size scope.names []).lookup y with
   |none=>rw[qy]at ey;exact absurd ey (hn y)
   |some d =>
    rw[qy]at ey
    cases ey
    exact name_of_addr ok.apart (mem_of_lookup qx) (mem_of_lookup qy)
 ·rw[iK,List.lookup_append]
  cases q:(cellsFrom (s.heap.push { cls:=.type "dict",data:=.dict #[] }).objs.size scope.names []).lookup x with
  |none=>exact e
  |some d =>
   rcases pG _ _ _ _ _ (mem_of_lookup q)with z|z
   ·rw[S.cell _ z rfl]at e;cases e
   ·cases z
 ·exact tJ.mp (PySem.W.cellsFrom_some _ _ _ (.inl e))
theorem c6.plain{X:Cx}{scope:oP}{N:List bp}(hfree:∀x∈scope.names,x.2≠ .free)(kind:scope.kind= .function)(_:∀y∈scope.names,y.2= .cell->(y.1,gc)∉scope.names)
  (names:∀y∈scope.names,y.2= .local->scope.names.lookup y.1=some .local):c6 X scope [] N (λ_=>fi N.length none):=by
 have hr:(relabel scope X.env).names=scope.names:=by
  unfold relabel
  exact map_eq_self λx hx=>by
   obtain⟨n,k⟩:=x
   have:(k==gc)=false:=by simpa using hfree _ hx
   simp[this]
 refine⟨closureFor_none hfree,kind,λ_ _ _=>rfl,names,λx c e=>by simp at e,λx hx=>?_,λσ=>me,λσ i x v _ e _=>?_⟩
 ·rw[hr]at hx
  rcases hx with hx|hx
  ·exact .inl hx
  ·exact absurd rfl (hfree _ (PySem.mem_of_lookup hx))
 ·rw[uj]at e
  split at e
  ·cases e
  ·cases e
noncomputable def pW(look:bp->Option a5):List (bp×tI)->List (bp×a5)->List (bp×a5)
 |[],acc=>acc
 |(n,k)::r,acc=>if(k==gc)=true then(match look n with|some a=>pW look r ((n,a)::acc)|none=>pW look r acc)else pW look r acc
theorem qD{env:Env}:∀(names:List (bp×tI)) (acc:List (bp×a5)),(∀x∈names,x.2= .free->∃a,env.cells.lookup x.1=some a) →
  (forIn names acc (λ(x:bp×tI) (r:List (bp×a5))=>match x with|(name,kind)=>if(kind==gc)=true then do let c ←cellOf env name;pure (ForInStep.yield ((name,c)::r))else pure (ForInStep.yield r)):Sem (List (bp×a5)))=pure (pW (env.cells.lookup ·) names acc)
 |[],acc,_=>rfl
 |(n,k)::r,acc,h=>by
  rw[xL]
  dsimp only
  unfold pW
  by_cases hk:(k==gc)=true
  ·obtain⟨a,ha⟩:=h (n,k) cr (by simpa using hk)
   have ha':env.cells.lookup n=some a:=ha
   rw[if_pos hk,if_pos hk,ha']
   have hc:cellOf env n=pure a:=by unfold cellOf;rw[ha']
   rw[hc]
   exact qD r _ λx hx=>h x (ce _ hx)
  ·rw[if_neg hk,if_neg hk]
   exact qD r _ λx hx=>h x (ce _ hx)
theorem uX{look:bp->Option a5}:∀(names:List (bp×tI)) (acc:List (bp×a5)),(∀x c,acc.lookup x=some c->look x=some c)->∀x c,(pW look names acc).lookup x=some c->look x=some c
 |[],acc,h=>h
 |(n,k)::r,acc,h=>by
  unfold pW
  by_cases hk:(k==gc)=true
  ·rw[if_pos hk]
   cases e:look n with
   |none=>exact uX r acc h
   |some a =>
    refine uX r _ λx c q=>?_
    rw[ul]at q
    by_cases hx:(x==n)=true
    ·rw[hx]at q
     have:x=n:=by simpa using hx
     rw[this,e]
     exact q
    ·have hx':(x==n)=false:=by simpa using hx
     rw[hx']at q
     exact h x c q
  ·rw[if_neg hk]
   exact uX r acc h
theorem qF{look:bp->Option a5}:∀(names:List (bp×tI)) (acc:List (bp×a5)) (x:bp),(∃c,acc.lookup x=some c)->∃c,(pW look names acc).lookup x=some c
 |[],_,_,h=>h
 |(n,k)::r,acc,x,h=>by
  unfold pW
  by_cases hk:(k==gc)=true
  ·rw[if_pos hk]
   cases e:look n with
   |none=>exact qF r acc x h
   |some a =>
    refine qF r _ x ?_
    rw[ul]
    cases hx:x==n with
    |true=>exact⟨a,rfl⟩
    |false=>exact h
  ·rw[if_neg hk]
   exact qF r acc x h
theorem rS{look:bp->Option a5}:∀(names:List (bp×tI)) (acc:List (bp×a5)) (x:bp),(x,gc)∈names->(∃a,look x=some a)->∃c,(pW look names acc).lookup x=some c
 |[],_,_,h,_=>by cases h
 |(n,k)::r,acc,x,h,ha=>by
  unfold pW
  rcases c_.mp h with e|e
  ·obtain⟨a,ha⟩:=ha
   have e1:x=n:=congrArg Prod.fst e
   have e2:k=gc:=(congrArg Prod.snd e).symm
   subst e1 e2
   rw[if_pos (by decide),ha]
   refine qF r _ x ⟨a,?_⟩
   rw[ul]
   simp
  ·by_cases hk:(k==gc)=true
   ·rw[if_pos hk]
    cases e2:look n with
    |none=>exact rS r acc x e ha
    |some a=>exact rS r _ x e ha
   ·rw[if_neg hk]
    exact rS r acc x e ha
theorem uY{look:bp->Option a5}:∀(names:List (bp×tI)) (acc:List (bp×a5)) (x:bp) (c:a5),(pW look names acc).lookup x=some c->(x,gc)∈names\/acc.lookup x=some c
 |[],_,_,_,h=>.inr h
 |(n,k)::r,acc,x,c,h=>by
  unfold pW at h
  by_cases hk:(k==gc)=true
  ·rw[if_pos hk]at h
   cases e:look n with
   |none=>rw[e]at h;exact(uY r acc x c h).imp (ce _) id
   |some a =>
    rw[e]at h
    rcases uY r _ x c h with z|z
    ·exact .inl (ce _ z)
    ·rw[ul]at z
     cases hx:x==n with
     |true =>
      have e1:x=n:=by simpa using hx
      have e2:k= .free:=by simpa using hk
      rw[e1,e2]
      exact .inl cr
     |false=>rw[hx]at z;exact .inr z
  ·rw[if_neg hk]at h
   exact(uY r acc x c h).imp (ce _) id
theorem qk{env:Env}:∀{names:List (bp×tI)} {x:bp} {k:tI},
  (names.map λ(n,k)=>if(k==gc&&env.scope.kind== .function&&env.kindOf n==some .cell)then(n,wn)else(n,k)).lookup x=some k →
  (k= .cell\/k= .free)->names.lookup x=some .cell\/(x,gc)∈names
 |[],_,_,h,_=>by simp at h
 |(n,j)::r,x,k,h,hk=>by
  rw[g0,ul]at h
  rw[ul]
  by_cases hj:(j==gc&&env.scope.kind== .function&&env.kindOf n==some .cell)=true
  ·simp only[hj,if_true]at h
   by_cases hx:(x==n)=true
   ·have e:x=n:=by simpa using hx
    have ej:j= .free:=by
     rw[ll,ll]at hj
     simpa using hj.1.1
    rw[e,←ej]
    exact .inr cr
   ·have hx':(x==n)=false:=by simpa using hx
    rw[hx']at h ⊢
    exact(qk h hk).imp id (ce _)
  ·simp only[hj]at h
   by_cases hx:(x==n)=true
   ·have e:x=n:=by simpa using hx
    rw[e]at h
    simp at h
    subst h
    rw[hx]
    rcases hk with q|q
    ·rw[q];exact .inl rfl
    ·rw[e,←q]
     exact .inr cr
   ·have hx':(x==n)=false:=by simpa using hx
    simp[hx']at h
    rw[hx']
    exact(qk (by simpa using h) hk).imp id (ce _)
noncomputable def XZ(nt:Nat)(ix:List Nat)(σ:St):St:=fi nt none++ix.map λj=>(σ[j]?).join
theorem c6.free{X:Cx}{scope:oP}{N:List bp}{nt:Nat}{ix:List Nat}(kind:scope.kind= .function)(cell:∀y∈scope.names,y.2= .cell->(y.1,gc)∉scope.names)
  (names:∀y∈scope.names,y.2= .local->scope.names.lookup y.1=some .local) (hf:∀y∈scope.names,y.2= .free->X.env.kindOf y.1=some .cell)
  (hl:N.length=nt+ix.length) (hx:∀(k j:Nat),ix[k]? =some j->∃x,N[nt+k]? =some x/\X.N[j]? =some x/\(x,gc)∈scope.names/\(relabel scope X.env).names.lookup x=some .cell) (ok:X.Ok) :
  ∃cl,c6 X scope cl N (XZ nt ix):=by
 have hcl:∀y∈scope.names,y.2= .free->∃a,X.env.cells.lookup y.1=some a:=λy hy hk=>ok.has y.1 (.inl (hf y hy hk))
 refine⟨pW (X.env.cells.lookup ·) scope.names [],?_,kind,λy hy hk=>?_,names,uX scope.names [] (λx c e=>by simp at e),λx h=>?_,λσ=>?_,λσ i x v e1 e2 e3=>?_⟩
 ·have z:=qD scope.names [] hcl
  unfold closureFor
  dsimp only
  rw[z]
  rfl
 ·cases q:(pW (X.env.cells.lookup ·) scope.names []).lookup y.1 with
  |none=>rfl
  |some c =>
   rcases uY _ _ _ _ q with z|z
   ·exact absurd z (cell y hy hk)
   ·cases z
 ·have hm:scope.names.lookup x=some .cell\/(x,gc)∈scope.names:=by
   rcases h with h|h
   ·exact qk h (.inl rfl)
   ·exact qk h (.inr rfl)
  exact hm.imp id λhm=>rS scope.names [] x hm (hcl _ hm rfl)
 ·unfold XZ
  rw[cn,me,bc,hl]
 ·unfold XZ at e2
  by_cases hi:i<nt
  ·rw[ik (by rw[me];exact hi),uj]at e2
   split at e2
   ·cases e2
   ·cases e2
  ·rw[js (by rw[me];omega),me,eC]at e2
   cases ej:ix[i-nt]? with
   |none=>rw[ej]at e2;cases e2
   |some j =>
    rw[ej]at e2
    have Xd:(σ[j]?).join=some v:=dA e2
    obtain⟨x',n1,n2,n3,n4⟩:=hx (i-nt) j ej
    rw[show nt+(i-nt)=i by omega,e1]at n1
    cases n1
    obtain⟨c,hc⟩:=rS (look:=(X.env.cells.lookup ·)) scope.names [] x n3 (hcl _ n3 rfl)
    refine⟨j,c,n2,?_,hf _ n3 rfl,.inl n4,hc⟩
    cases es:σ[j]? with
    |none=>rw[es]at Xd;cases Xd
    |some o=>rw[es]at Xd;rw[show o=some v from Xd]
noncomputable def Kp(a b:St):Prop:=∀(i:Nat) (v:V),a[i]? =some (some v)->b[i]? =some (some v)
theorem Kp.rep(n:Nat)(b:St):Kp (fi n none) b:=λi v e=>by
 rw[uj]at e
 split at e
 ·cases e
 ·cases e
noncomputable def DF(wi:TI)(g:TG)(te:TE)(pZ:St->St):TE:=λσ H Q=>wi σ H λJ H1=>∀l,H1 l=none->∃W:Nat->Nat->List V->Hp->Prop,(∃m,W 0 m [] (upd H1 l (.lst []))) ∧
 ∀i m ys H2,W i m ys H2->(J.stop i H2/\Q (.ref l) H2) ∨
  (J.go i H2/\∀x H3,J.AE i H2 x H3->g x (pZ σ) H3 λAD H4=>Kp (pZ σ) AD/\te AD H4 λy H5=>H5 l=some (.lst ys)/\ys.length<bt/\∃m',m'<m/\W (i+1) m' (ys++[y]) (upd H5 l (.lst (ys++[y]))))
theorem Inv.Ql{X:Cx}{pins:List (a5×mi)}{σ:St}{H:Hp}{s:ba}(I:Inv X pins σ H s):Inv X [] σ H s:=I.BW λ_ hp=>nomatch hp
theorem nZ.but{P:bn}{w:df}{H:Hp}{h h':eJ}{C:a5}(x:nZ P w H h)(hC:H C=none)(sb:mM C h h'):nZ P w H h':=λb u e =>
 (x b u e).stay (λc v hc q=>(sb.2 c (by
  rintro rfl
  rcases hc with z|z
  ·rw[z,e]at hC;cases hC
  ·rw[hC]at z;cases z)).trans q) (λ_ q=>q) λ_ _ q=>q
section
variable{X:Cx}{pins:List (a5×mi)}{σ:St}{H:Hp}{s:ba}{scope:oP}{cl:List (bp×a5)}{N:List bp}{pZ:St->St}{fp:List a5}{h₁:eJ}{m:bp->Option a9}{E:a9->ba->Prop}
theorem M3{Hq:List (bp×a5)}(S:c6 X scope cl N pZ)(G:Oa cl Hq scope s.heap.objs.size h₁)(I:Inv X pins σ H s)(hf:∀b∈fp,qR X pins H b/\b<s.heap.objs.size)(kp:∀b o,s.heap.get? b=some o->h₁.get? b=some o)(hns:h₁.Ns s.heap.objs.size m)(t':Nat)(ht:s.toks<=t':=by first|exact a7 _|exact g_ _|assumption|omega):
  Inv (iW X scope Hq s.heap.objs.size N s H fp (X.pn++pins) E) [] (pZ σ) H { s with heap:=h₁,toks:=t' }:=by
 have VG:∀b,b≠X.env.locals->b∉X.fs->b∉frs X.stack:=λb h1 h2 z=>by
  rcases c_.mp (I.vC b z)with q|q
  ·exact h1 q
  ·exact h2 q
 have P9:∀x c,cl.lookup x=some c->c<s.heap.objs.size:=λx c e=>by
  obtain⟨v,o,ho,_⟩:=I.cell x c (S.sub x c e)
  exact cm ho
 refine⟨⟨I.mod,S.kind,I.ok.glob,I.ok.blt,a7 _,λx y c a b=>?_,λx h=>(S.has x h).elim (G.own x) λ⟨c,e⟩=>⟨c,G.keep x c e⟩,λx c z e=>?_,I.ok.hd,I.ok.frames,.inl rfl,λb hb=>?_,I.bs,bj I.ok.NO I.sz,λb o e hb=>?_,λb hb=>?_,I.stack,I.BH,I.tk⟩,
  rfl,I.bare,Un.kept kp,⟨m,hns,λi x v e1 e2 e3=>?_⟩,λx c e=>?_,I.hok.fresh (a7 _),λx c e=>(G.look x c e).elim (λz=>I.hok.fresh (kz z.1)) λz=>I.j4 x c (S.sub x c z),λp hp=>?_,I.hok.kept kp,S.len σ,ht⟩
 ·by_cases hc:s.heap.objs.size<c
  ·exact G.inj x y c hc a b λz e=>Nat.lt_asymm hc (P9 z c e)
  ·exact I.ok.inj x y c (S.sub x c ((G.look x c a).elim (λz=>absurd z.1 hc) id)) (S.sub y c ((G.look y c b).elim (λz=>absurd z.1 hc) id))
 ·rcases G.look x c e with q|q
  ·exact kz q.1
  ·have z2:(scope.names.lookup x==some wn)=true:=z
   have z':scope.names.lookup x=some .cell:=by simpa using z2
   rw[S.cell _ (mem_of_lookup z') rfl]at q
   cases q
 ·obtain⟨⟨_,_,_,_,f4,_⟩,lt⟩:=hf b hb
  exact⟨eA lt,λx c e=>(G.look x c e).elim (λz=>m_ (yB lt z.1)) λz=>f4 x c (S.sub x c z)⟩
 ·obtain⟨⟨f0,_,_,f3,_⟩,_⟩:=hf b hb
  rcases f3 with z|z
  ·exact I.ok.GI b o e z
  ·exact absurd (dy (cm e) (bj I.ok.NO z)) (f8 _)
 ·obtain⟨⟨_,f1,f2,_⟩,_⟩:=hf b hb
  exact VG b f1 f2
 ·obtain⟨j,c,n1,n2,n3,n4,n5⟩:=S.fv σ i x v e1 e2 e3
  obtain⟨mX,_,hl⟩:=I.loc
  obtain⟨u,r,l⟩:=hl j x v n1 n2 (.inr (.inl n3))
  refine⟨u,r,.inr ⟨n4,c,G.keep x c n5,?_⟩⟩
  rcases l with⟨k,_⟩|⟨_,c',ec,o,ho,hd⟩
  ·have k':X.env.scope.names.lookup x=some .local:=k
   have n3':X.env.scope.names.lookup x=some .cell:=n3
   rw[k']at n3';cases n3'
  ·have q:=S.sub x c n5
   rw[q]at ec;cases ec
   exact⟨o,kp _ _ ho,hd⟩
 ·rcases G.look x c e with z|z
  ·exact⟨none,z.2⟩
  ·obtain⟨v,o,ho,hd⟩:=I.cell x c (S.sub x c z)
   exact⟨v,o,kp _ _ ho,hd⟩
 ·have Yk:p∈X.pn++pins:=by
   rcases e_.mp hp with z|z
   ·exact z
   ·cases z
  obtain⟨a,b,c,d,e⟩:=I.pin p Yk
  exact⟨kp _ _ a,b,eA (cm a),VG _ c d,e⟩
end
end
section
inductive Cp where
 |lst (a:a5)|tup (a:a5)|txt (x:bp)
noncomputable def dR(x:bp):List V:=x.cps.toList.map λc=>V.str ⟨#[c]⟩
noncomputable def Cp.val:Cp->V
 | .lst a=>.ref a
 | .tup a=>.ref a
 | .txt x=>.str x
noncomputable def Cp.at(K:PySem.W.Frag)(H:Hp):Cp->List V->Prop
 | .lst a=>cy K H a
 | .tup a=>cE K H a
 | .txt x=>λxs=>xs=dR x
noncomputable def Cp.FG(h:eJ)(it:a5)(i:Nat):Cp->Prop
 | .lst a=>h.IsListIter it a i
 | .tup a=>h.IsTupleIter it a i
 | .txt x=>∃t,h.IsStrIter it (strIterType x) x t i
noncomputable def Cp.src(h:eJ):Cp->List V->Prop
 | .lst a=>λxs=>∃its,Vals xs its/\h.IsList a its.toArray
 | .tup a=>λxs=>∃its,Vals xs its/\h.IsTuple a its.toArray
 | .txt x=>λxs=>xs=dR x
noncomputable def Cp.off(b:a5):Cp->Prop
 | .lst a=>a≠b
 | .tup a=>a≠b
 | .txt _=>True
section
variable{X:Cx}{pins:List (a5×mi)}{σ:St}{H:Hp}{s:ba}{c d:Cp}{xs ys:List V}
theorem Cp.qb(I:Inv X pins σ H s)(h:c.at X.K H xs):c.src s.heap xs:=by
 cases c with
 |lst a=>obtain⟨its,r,p,_⟩:=I.list h;exact⟨its,r,p.isList⟩
 |tup a=>obtain⟨its,r,p,_⟩:=I.tuple h;exact⟨its,r,p⟩
 |txt x=>exact h
theorem Cp.Hu(I:Inv X pins σ H s)(h:c.at X.K H xs)(h':c.at X.K H ys):xs=ys:=by
 cases c with
 |lst a=>exact I.yO h h'
 |tup a=>exact I.AK h h'
 |txt x=>exact(show xs=dR x from h).trans (show ys=dR x from h').symm
theorem Cp.pA {h:eJ}{b:a5}{o:mi}{T:String}(hs:c.src h xs)(hb:h.get? b=some o)(hc:o.cls= .type T)(n1:T≠ "list")(n2:T≠ "tuple"):c.off b:=by
 cases c with
 |lst a =>
  obtain⟨its,_,o',ho,hc',_⟩:=hs
  intro e
  rw[e,hb]at ho
  cases ho
  rw[hc]at hc'
  injection hc' with q
  exact n1 q
 |tup a =>
  obtain⟨its,_,o',ho,hc',_⟩:=hs
  intro e
  rw[e,hb]at ho
  cases ho
  rw[hc]at hc'
  injection hc' with q
  exact n2 q
 |txt x=>trivial
theorem Cp.IA{h:eJ}{b:a5}(hs:c.src h xs)(hb:h.objs.size<=b):c.off b:=by
 cases c with
 |lst a =>
  obtain⟨its,_,o',ho,_⟩:=hs
  exact eA (dy (cm ho) hb)
 |tup a =>
  obtain⟨its,_,o',ho,_⟩:=hs
  exact eA (dy (cm ho) hb)
 |txt x=>trivial
theorem Cp.mw{h h':eJ}{b:a5}(hs:c.src h xs)(hx:B_ b h h')(ho:c.off b):c.src h' xs:=by
 cases c with
 |lst a=>obtain⟨its,r,p⟩:=hs;exact⟨its,r,p.extBut hx ho⟩
 |tup a=>obtain⟨its,r,p⟩:=hs;exact⟨its,r,p.extBut hx ho⟩
 |txt x=>exact hs
theorem Cp.LH{h h':eJ}(hs:c.src h xs)(hx:∀b o,h.get? b=some o->h'.get? b=some o):c.src h' xs:=by
 cases c with
 |lst a=>obtain⟨its,r,o,ho,q⟩:=hs;exact⟨its,r,o,hx _ _ ho,q⟩
 |tup a=>obtain⟨its,r,o,ho,q⟩:=hs;exact⟨its,r,o,hx _ _ ho,q⟩
 |txt x=>exact hs
theorem Cp.lz{h:eJ}{it:a5}{i:Nat}(q:c.FG h it i):∃o T vs,h.get? it=some o/\o.cls= .type T/\o.data= .fields vs/\T≠ "list" /\T≠ "tuple" :=by
 cases c with
 |lst a=>obtain⟨o,ho,hc,hd⟩:=q;exact⟨o,_,_,ho,hc,hd,by decide,by decide⟩
 |tup a=>obtain⟨o,ho,hc,hd⟩:=q;exact⟨o,_,_,ho,hc,hd,by decide,by decide⟩
 |txt x =>
  obtain⟨t,o,ho,hc,hd⟩:=q
  refine⟨o,_,_,ho,hc,hd,?_,?_⟩
  ·unfold strIterType;split<;>decide
  ·unfold strIterType;split<;>decide
theorem Cp.jC{h h':eJ}{it:a5}{i:Nat}(q:c.FG h it i)(e:∀o,h.get? it=some o->h'.get? it=some o):c.FG h' it i:=by
 cases c with
 |lst a=>obtain⟨o,ho,r⟩:=q;exact⟨o,e _ ho,r⟩
 |tup a=>obtain⟨o,ho,r⟩:=q;exact⟨o,e _ ho,r⟩
 |txt x=>obtain⟨t,o,ho,r⟩:=q;exact⟨t,o,e _ ho,r⟩
end
section
variable{prog:bn}{w:df}{A:eR}{E:a9->ba->Prop}{s:ba}{c d:Cp}{xs ys:List V}
theorem uI{it t:a5}{i:Nat}{items}{x:a9}{Q:a9->ba->Prop}(hit:s.heap.IsTupleIter it t i)
  (ht:s.heap.IsTuple t items) (hx:items[i]? =some x)
  (hQ:∀h',h'.IsTupleIter it t (i+1)->mM it s.heap h'->Q x { s with heap:=h' }) :
  b_ (model prog w) A (ge (.ref it)) Q E s:=by
 obtain⟨o,ho,hc,hd⟩:=id hit
 obtain⟨ol,Dk,_,nl,hdl⟩:=ht
 unfold ge
 refine a0 (mx (name:=a_ "__next__") hit.typeIs rf
  (my rf hit.typeIs F.entry_tuple_iterator_next ?_ (F.args_tuple_iterator_next_1 _)))
 show b_ _ _ (field (.ref it) 0 >>= _) _ _ s
 refine a0 (lr ho hd (x:=.ref t) rfl ?_)
 show b_ _ _ (if(Value.ref t==Value.none)=true then _ else _) _ _ s
 rw[if_neg (show ¬((Value.ref t==Value.none)=true) from cw)]
 show b_ _ _ (field (.ref it) 1 >>= _) _ _ s
 refine a0 (lr ho hd (x:=.int i 0) rfl ?_)
 show b_ _ _ (seqItems? (.ref t) >>= _) _ _ s
 refine a0 (j_ Dk hdl ?_)
 simp only[kx,hx]
 refine a0 (rg ho hd (by simp) (bi ⟨x,rfl,bi (hQ _ ?_ (gd ..))⟩))
 exact⟨_,ka _ ho (sk (mr hd _)),(Obj.cls_mapFields ..).trans hc,by
  rw[mr hd];simp[rawInt]⟩
theorem vO{it t:a5}{i:Nat}{items}{Q:a9->ba->Prop}(hh:A.handled=none)
  (hit:s.heap.IsTupleIter it t i) (ht:s.heap.IsTuple t items) (hx:items[i]? =none)
  (hE:∀h' e,B_ it s.heap h'->(∃o,h'.get? e=some o/\o.cls= .type "StopIteration")->E (.ref e) { s with heap:=h' }) :
  b_ (model prog w) A (ge (.ref it)) Q E s:=by
 obtain⟨o,ho,hc,hd⟩:=id hit
 obtain⟨ol,Dk,_,nl,hdl⟩:=ht
 unfold ge
 refine a0 (mx (name:=a_ "__next__") hit.typeIs rf
  (my rf hit.typeIs F.entry_tuple_iterator_next ?_ (F.args_tuple_iterator_next_1 _)))
 show b_ _ _ (field (.ref it) 0 >>= _) _ _ s
 refine a0 (lr ho hd (x:=.ref t) rfl ?_)
 show b_ _ _ (if(Value.ref t==Value.none)=true then _ else _) _ _ s
 rw[if_neg (show ¬((Value.ref t==Value.none)=true) from cw)]
 show b_ _ _ (field (.ref it) 1 >>= _) _ _ s
 refine a0 (lr ho hd (x:=.int i 0) rfl ?_)
 show b_ _ _ (seqItems? (.ref t) >>= _) _ _ s
 refine a0 (j_ Dk hdl ?_)
 simp only[kx,hx]
 refine a0 (wpAny_rule (a0 (rg ho hd (by simp) ?_)))
 show b_ _ _ (newExc (.type "StopIteration") [] >>= _) _ _ _
 refine a0 ?_
 simp only[newExc,newTuple]
 refine a0 (pj ?_ (by size_fits))
 refine a0 (m:=firstArgMember _ _) (Ch (a:=Value.none) (by first|rfl|(simp only[firstArgMember];rfl)) ?_)
 refine pj ?_ (by size_fits)
 simp only[raiseNew]
 refine a0 (wpAny_handled ?_)
 first|rw[show A.in1.handled=none from hh]|rw[hh]
 refine a0 (bi (wpAny_throw ?_))
 exact hE _ _ (((gd ..).extBut.push _).push _) ⟨_,bo _ rfl,rfl⟩
theorem signs_get{x:bp}{i:Nat}{v:V}(h:(dR x)[i]? =some v):∃k,x.cps[i]? =some k/\v= .str ⟨#[k]⟩:=by
 unfold dR at h
 rw[eC]at h
 cases e:x.cps.toList[i]? with
 |none=>rw[e]at h;cases h
 |some k =>
  rw[e]at h
  exact⟨k,by simpa using e,(dA h).symm⟩
theorem Ju{x:bp}{i:Nat}(h:(dR x)[i]? =none):x.cps[i]? =none:=by
 unfold dR at h
 rw[eC]at h
 cases e:x.cps.toList[i]? with
 |none=>simpa using e
 |some k=>rw[e]at h;cases h
theorem Cp.item{it:a5}{i:Nat}{x:V}{Q:a9->ba->Prop}(hit:c.FG s.heap it i)(hs:c.src s.heap xs)(hx:xs[i]? =some x)
  (hQ:∀u h' tk,RelV x u->c.FG h' it (i+1)->mM it s.heap h'->Q u { s with heap:=h',toks:=tk }) :
  b_ (model prog w) A (ge (.ref it)) Q E s:=by
 cases c with
 |lst a =>
  obtain⟨its,r,p⟩:=hs
  obtain⟨u,hu,ru⟩:=r.get hx
  exact wpAny_nextOf_list_item hit p (x:=u) (by simpa using hu) λh' q sb=>hQ u h' s.toks ru q sb
 |tup a =>
  obtain⟨its,r,p⟩:=hs
  obtain⟨u,hu,ru⟩:=r.get hx
  exact uI hit p (x:=u) (by simpa using hu) λh' q sb=>hQ u h' s.toks ru q sb
 |txt x' =>
  obtain⟨t,q⟩:=hit
  rw[show xs=dR x' from hs]at hx
  obtain⟨k,hk,rfl⟩:=signs_get hx
  unfold strIterType at q
  by_cases ha:(x'.cps.all (·<128))=true
  ·rw[if_pos ha]at q
   exact wpAny_nextOf_ascii_item q hk λh' q' sb=>hQ _ h' _ ⟨_,rfl⟩ ⟨t,by unfold strIterType;rw[if_pos ha];exact q'⟩ sb
  ·rw[if_neg ha]at q
   exact wpAny_nextOf_wide_item q hk λh' q' sb=>hQ _ h' _ ⟨_,rfl⟩ ⟨t,by unfold strIterType;rw[if_neg ha];exact q'⟩ sb
theorem Cp.fin{it:a5}{i:Nat}{Q:a9->ba->Prop}(hh:A.handled=none)(hit:c.FG s.heap it i)(hs:c.src s.heap xs)(hx:xs[i]? =none)
  (hE:∀h' e,B_ it s.heap h'->(∃o,h'.get? e=some o/\o.cls= .type "StopIteration")->E (.ref e) { s with heap:=h' }) :
  b_ (model prog w) A (ge (.ref it)) Q E s:=by
 cases c with
 |lst a =>
  obtain⟨its,r,p⟩:=hs
  exact wpAny_nextOf_list_end hh hit p (by simpa using r.none_of hx) hE
 |tup a =>
  obtain⟨its,r,p⟩:=hs
  exact vO hh hit p (by simpa using r.none_of hx) hE
 |txt x' =>
  obtain⟨t,q⟩:=hit
  rw[show xs=dR x' from hs]at hx
  have hk:=Ju hx
  unfold strIterType at q
  by_cases ha:(x'.cps.all (·<128))=true
  ·rw[if_pos ha]at q
   exact wpAny_nextOf_ascii_end hh q hk hE
  ·rw[if_neg ha]at q
   exact wpAny_nextOf_wide_end hh q hk hE
structure zm(z TI TO i1 i2:a5):Prop where
 TIz:TI≠z
 TOz:TO≠z
 i1z:i1≠z
 i2z:i2≠z
 TITO:TI≠TO
 TIi1:TI≠i1
 TIi2:TI≠i2
 TOi1:TO≠i1
 TOi2:TO≠i2
 i12:i1≠i2
structure Jf(h:eJ)(z TI TO i1 i2:a5)(c d:Cp)(f0:a9)(i:Nat):Prop where
 zz:IsZip h z TI TO f0
 ti:Db h TI (.ref i1) (.ref i2)
 to:∃a b,Db h TO a b
 h1:c.FG h i1 i
 h2:d.FG h i2 i
 c1:c.off TO
 c2:d.off TO
theorem Lg{z TI TO i1 i2:a5}{i:Nat}{x y:V}{Q:Option a9->ba->Prop}(D:zm z TI TO i1 i2)(Z:Jf s.heap z TI TO i1 i2 c d .none i)
  (sc:c.src s.heap xs) (sd:d.src s.heap ys) (hx:xs[i]? =some x) (hy:ys[i]? =some y)
  (hQ:∀u v h' tk,RelV x u->RelV y v->Jf h' z TI TO i1 i2 c d (rawInt s.heap.objs.size) (i+1)->Db h' s.heap.objs.size u v →
   (∀b o,b≠z->b≠TO->b≠i1->b≠i2->s.heap.get? b=some o->h'.get? b=some o)->Q (some (.ref s.heap.objs.size)) { s with heap:=h',toks:=tk }) :
  b_ (model prog w) A (pyNext (.ref z)) Q E s:=by
 obtain⟨hz,hTI,⟨a,b,hTO⟩,h1,h2,c1,c2⟩:=id Z
 have hT:s.TypeIs (.ref z) "zip" :=⟨_,hz,rfl⟩
 obtain⟨oi1,T1,_,hi1,Xj,_,VJ,QC⟩:=Cp.lz h1
 obtain⟨oi2,T2,_,hi2,ci2,_,n21,n22⟩:=Cp.lz h2
 have cz:c.off z:=Cp.pA sc hz rfl (by decide) (by decide)
 have dz:d.off z:=Cp.pA sd hz rfl (by decide) (by decide)
 have ci:c.off i1:=Cp.pA sc hi1 Xj VJ QC
 have di:d.off i1:=Cp.pA sd hi1 Xj VJ QC
 unfold pyNext
 refine a0 (Bz (mx (name:=a_ "__next__") hT F.slot_zip_next
  (my F.slot_zip_next hT F.entry_zip_next ?_ (F.args_zip_next_1 _))))
 show b_ _ _ (field (.ref z) 2 >>= _) _ _ _
 refine a0 (lr hz rfl (x:=.bool false) rfl ?_)
 show b_ _ _ (field (.ref z) 3 >>= _) _ _ _
 refine a0 (lr hz rfl (x:=.ref TI) rfl ?_)
 refine a0 (j_ hTI rfl ?_)
 show b_ _ _ (mf (.ref z) >>= _) _ _ _
 refine a0 ?_
 unfold mf
 refine a0 (lr hz rfl (x:=.none) rfl (bi ?_))
 simp only[if_true]
 refine a0 (wpAny_rule ?_)
 refine a0 (lr hz rfl (x:=.ref TO) rfl ?_)
 refine a0 (rp hz (by simp) λh₁ wH hs₁=>?_)
 replace wH:IsZip h₁ z TI TO .ellipsis:=wH
 refine a0 ?_
 simp only[List.zipIdx_cons,List.zipIdx_nil,xL,List.forIn_nil]
 refine a0 (a0 (wpAny_onRaise ?_))
 show b_ _ _ (ge (.ref i1) >>= _) _ _ _
 refine a0 (Cp.item (c:=c) (Cp.jC h1 λo e=>hs₁.extBut _ _ D.i1z e) (Cp.mw sc hs₁.extBut cz) hx λu h₂ tk₂ ru Q4 hs₂=>bi ?_)
 have yS:Db h₂ TO a b:=hs₂.extBut _ _ D.TOi1 (hs₁.extBut _ _ D.TOz hTO)
 refine a0 (j_ yS rfl ?_)
 refine a0 (wpAny_updateSeq_pair yS λh₃ Cr o4=>?_)
 replace Cr:Db h₃ TO u b:=Cr
 refine a0 (o_ (bi ?_))
 refine a0 (a0 (wpAny_onRaise ?_))
 show b_ _ _ (ge (.ref i2) >>= _) _ _ _
 refine a0 (Cp.item (c:=d) (Cp.jC h2 λo e=>o4.extBut _ _ D.TOi2.symm (hs₂.extBut _ _ D.i12.symm (hs₁.extBut _ _ D.i2z e))) (Cp.mw (Cp.mw (Cp.mw sd hs₁.extBut dz) hs₂.extBut di) o4.extBut c2) hy λv h₄ tk₄ rv W5 wJ=>bi ?_)
 have Nj:Db h₄ TO u b:=wJ.extBut _ _ D.TOi2 Cr
 refine a0 (j_ Nj rfl ?_)
 refine a0 (wpAny_updateSeq_pair Nj λh₅ Cq wI=>?_)
 replace Cq:Db h₅ TO u v:=Cq
 refine a0 (o_ (bi (bi ?_)))
 refine a0 (j_ Cq rfl ?_)
 refine a0 (wpAny_newTuple ?_)
 have hsz:h₅.objs.size=s.heap.objs.size:=by rw[wI.1,wJ.1,o4.1,hs₂.1,hs₁.1]
 have QL:IsZip h₅ z TI TO .ellipsis:=wI.extBut _ _ D.TOz.symm (wJ.extBut _ _ D.i2z.symm (o4.extBut _ _ D.TOz.symm (hs₂.extBut _ _ D.i1z.symm wH)))
 have QZ:∀e o,e≠z->e≠TO->e≠i1->e≠i2->s.heap.get? e=some o->h₅.get? e=some o:=λe o e1 e2 e3 e4 q =>
  wI.extBut _ _ e2 (wJ.extBut _ _ e4 (o4.extBut _ _ e2 (hs₂.extBut _ _ e3 (hs₁.extBut _ _ e1 q))))
 have W6:c.FG h₅ i1 (i+1):=Cp.jC Q4 λo e=>wI.extBut _ _ D.TOi1.symm (wJ.extBut _ _ D.i12 (o4.extBut _ _ D.TOi1.symm e))
 have W4:d.FG h₅ i2 (i+1):=Cp.jC W5 λo e=>wI.extBut _ _ D.TOi2.symm e
 have Wx:z<h₅.objs.size:=cm QL
 show b_ _ _ (Builtin.SmallTypes.ownedTupleHandOut (.ref z) (.ref h₅.objs.size) >>= _) _ _ _
 refine a0 ?_
 unfold Builtin.SmallTypes.ownedTupleHandOut
 have Ww:IsZip (h₅.push { cls:=.type "tuple",data:=.seq #[u,v] }) z TI TO .ellipsis:=a8 _ QL
 refine a0 (rp Ww (by simp) λaa6 M6 QW=>?_)
 replace M6:IsZip aa6 z TI TO (rawInt h₅.objs.size):=M6
 refine rp M6 (by simp) λPB IJ QV=>?_
 replace IJ:IsZip PB z TI TO (rawInt h₅.objs.size):=IJ
 have up:∀e o,e≠z->h₅.get? e=some o->PB.get? e=some o:=λe o e1 q=>QV.extBut _ _ e1 (QW.extBut _ _ e1 (a8 _ q))
 have Q2:Db PB h₅.objs.size u v:=QV.extBut _ _ (m_ Wx) (QW.extBut _ _ (m_ Wx) (bo _ rfl))
 rw[hsz]at IJ Q2
 refine bi ⟨_,rfl,bi ?_⟩
 show Q (some (.ref h₅.objs.size)) _
 rw[hsz]
 exact hQ u v PB _ ru rv ⟨IJ,up _ _ D.TIz (QZ _ _ D.TIz D.TITO D.TIi1 D.TIi2 hTI),⟨_,_,up _ _ D.TOz Cq⟩,Cp.jC W6 λo e=>up _ o D.i1z e,Cp.jC W4 λo e=>up _ o D.i2z e,c1,c2⟩ Q2
  λe o e1 e2 e3 e4 q=>up e o e1 (QZ e o e1 e2 e3 e4 q)
theorem Oq{z TI TO i1 i2:a5}{i:Nat}{Q:Option a9->ba->Prop}(hh:A.handled=none)(D:zm z TI TO i1 i2)(Z:Jf s.heap z TI TO i1 i2 c d .none i)
  (sc:c.src s.heap xs) (sd:d.src s.heap ys) (hend:xs[i]? =none\/ys[i]? =none)
  (hQ:∀h' tk,(∀b o,b≠z->b≠TO->b≠i1->b≠i2->s.heap.get? b=some o->h'.get? b=some o)->Q none { s with heap:=h',toks:=tk }) :
  b_ (model prog w) A (pyNext (.ref z)) Q E s:=by
 obtain⟨hz,hTI,⟨a,b,hTO⟩,h1,h2,c1,c2⟩:=id Z
 have hT:s.TypeIs (.ref z) "zip" :=⟨_,hz,rfl⟩
 obtain⟨oi1,T1,_,hi1,Xj,_,VJ,QC⟩:=Cp.lz h1
 have cz:c.off z:=Cp.pA sc hz rfl (by decide) (by decide)
 have dz:d.off z:=Cp.pA sd hz rfl (by decide) (by decide)
 have ci:c.off i1:=Cp.pA sc hi1 Xj VJ QC
 have di:d.off i1:=Cp.pA sd hi1 Xj VJ QC
 have stop:∀(h':eJ) (e:a5) (tk:Nat),(∃o,h'.get? e=some o/\o.cls= .type "StopIteration")->(∀b o,b≠z->b≠TO->b≠i1->b≠i2->s.heap.get? b=some o->h'.get? b=some o) →
   b_ (model prog w) A (isInstance (.ref e) (.type "StopIteration") >>= λb=>if b=true then pure (none:Option a9)else throw (.ref e)) Q E { s with heap:=h',toks:=tk }:=by
  intro h' e tk he hk
  obtain⟨o,ho,hc⟩:=he
  refine a0 (ut (T:= "StopIteration") (b:=true) ⟨o,ho,hc⟩ isSubtype_stop ?_)
  exact bi (hQ _ _ hk)
 unfold pyNext
 refine a0 (Bz (mx (name:=a_ "__next__") hT F.slot_zip_next
  (my F.slot_zip_next hT F.entry_zip_next ?_ (F.args_zip_next_1 _))))
 show b_ _ _ (field (.ref z) 2 >>= _) _ _ _
 refine a0 (lr hz rfl (x:=.bool false) rfl ?_)
 show b_ _ _ (field (.ref z) 3 >>= _) _ _ _
 refine a0 (lr hz rfl (x:=.ref TI) rfl ?_)
 refine a0 (j_ hTI rfl ?_)
 show b_ _ _ (mf (.ref z) >>= _) _ _ _
 refine a0 ?_
 unfold mf
 refine a0 (lr hz rfl (x:=.none) rfl (bi ?_))
 simp only[if_true]
 refine a0 (wpAny_rule ?_)
 refine a0 (lr hz rfl (x:=.ref TO) rfl ?_)
 refine a0 (rp hz (by simp) λh₁ wH hs₁=>?_)
 replace wH:IsZip h₁ z TI TO .ellipsis:=wH
 refine a0 ?_
 simp only[List.zipIdx_cons,List.zipIdx_nil,xL,List.forIn_nil]
 refine a0 (a0 (wpAny_onRaise ?_))
 show b_ _ _ (ge (.ref i1) >>= _) _ _ _
 cases hx:xs[i]? with
 |none =>
  refine a0 (Cp.fin (c:=c) hh (Cp.jC h1 λo e=>hs₁.extBut _ _ D.i1z e) (Cp.mw sc hs₁.extBut cz) hx λh₂ e hs₂ he=>?_)
  obtain⟨oe,T3,hce⟩:=he
  have QN:IsZip h₂ z TI TO .ellipsis:=hs₂ _ _ D.i1z.symm wH
  have hez:e≠z:=λx=>by subst x;rw[QN]at T3;cases T3;simp at hce
  refine rp QN (by simp) λh₃ _ o4=>?_
  exact stop h₃ e _ ⟨oe,o4.extBut _ _ hez T3,hce⟩ λk o c1 _ c3 _ x=>o4.extBut _ _ c1 (hs₂ _ _ c3 (hs₁.extBut _ _ c1 x))
 |some x =>
  have hy:ys[i]? =none:=by rcases hend with h|h;rw[hx]at h;cases h;exact h
  refine a0 (Cp.item (c:=c) (Cp.jC h1 λo e=>hs₁.extBut _ _ D.i1z e) (Cp.mw sc hs₁.extBut cz) hx λu h₂ tk₂ ru Q4 hs₂=>bi ?_)
  have yS:Db h₂ TO a b:=hs₂.extBut _ _ D.TOi1 (hs₁.extBut _ _ D.TOz hTO)
  refine a0 (j_ yS rfl ?_)
  refine a0 (wpAny_updateSeq_pair yS λh₃ Cr o4=>?_)
  refine a0 (o_ (bi ?_))
  refine a0 (a0 (wpAny_onRaise ?_))
  show b_ _ _ (ge (.ref i2) >>= _) _ _ _
  refine a0 (Cp.fin (c:=d) hh (Cp.jC h2 λo e=>o4.extBut _ _ D.TOi2.symm (hs₂.extBut _ _ D.i12.symm (hs₁.extBut _ _ D.i2z e))) (Cp.mw (Cp.mw (Cp.mw sd hs₁.extBut dz) hs₂.extBut di) o4.extBut c2) hy λh₄ e wJ he=>?_)
  obtain⟨oe,T3,hce⟩:=he
  have QM:IsZip h₄ z TI TO .ellipsis:=wJ _ _ D.i2z.symm (o4.extBut _ _ D.TOz.symm (hs₂.extBut _ _ D.i1z.symm wH))
  have hez:e≠z:=λx=>by subst x;rw[QM]at T3;cases T3;simp at hce
  refine rp QM (by simp) λh₅ _ wI=>?_
  exact stop h₅ e _ ⟨oe,wI.extBut _ _ hez T3,hce⟩ λk o c1 c2 c3 c4 x=>wI.extBut _ _ c1 (wJ _ _ c4 (o4.extBut _ _ c2 (hs₂.extBut _ _ c3 (hs₁.extBut _ _ c1 x))))
noncomputable def Cp.dQ(t:Do):Cp->mi
 | .lst a=>{ cls:=.type "list_iterator",data:=.fields #[.ref a,.int 0 0] }
 | .tup a=>{ cls:=.type "tuple_iterator",data:=.fields #[.ref a,.int 0 0] }
 | .txt x=>{ cls:=.type (strIterType x),data:=.fields #[.str x t,.int 0 0] }
noncomputable def Cp.value(t:Do):Cp->a9
 | .lst a=>.ref a
 | .tup a=>.ref a
 | .txt x=>.str x t
theorem Cp.value_of{u:a9}(r:RelV c.val u):∃t,u=c.value t:=by
 cases c with
 |lst a=>exact⟨0,r⟩
 |tup a=>exact⟨0,r⟩
 |txt x=>exact r
theorem Cp.iter{t:Do}{Q:a9->ba->Prop}(hs:c.src s.heap xs)(hQ:Q (.ref s.heap.objs.size) { s with heap:=s.heap.push (c.dQ t) }):b_ (model prog w) A (pyIter (c.value t)) Q E s:=by
 cases c with
 |lst a=>obtain⟨its,_,p⟩:=hs;exact pi p hQ
 |tup a=>obtain⟨its,_,p⟩:=hs;exact rc p hQ
 |txt x=>exact y0 hQ
theorem Cp.IE{t:Do}{h:eJ}{it:a5}(e:h.get? it=some (c.dQ t)):c.FG h it 0:=by
 cases c with
 |lst a=>exact⟨_,e,rfl,rfl⟩
 |tup a=>exact⟨_,e,rfl,rfl⟩
 |txt x=>exact⟨t,_,e,rfl,rfl⟩
noncomputable abbrev XT(h:eJ)(o1:mi):eJ:=h.push o1
noncomputable abbrev XS(h:eJ)(o1 o2:mi):eJ:=(XT h o1).push o2
noncomputable abbrev XR(h:eJ)(o1 o2:mi):eJ:=(XS h o1 o2).push { cls:=.type "tuple",data:=.seq #[.ref h.objs.size,.ref (XT h o1).objs.size] }
noncomputable abbrev XQ(h:eJ)(o1 o2:mi):eJ:=(XR h o1 o2).push { cls:=.type "tuple",data:=.seq #[.none,.none] }
noncomputable abbrev UC(h:eJ)(o1 o2:mi):eJ:=(XQ h o1 o2).push { cls:=.type "zip",data:=.fields #[.none,.bool false,.bool false,.ref (XS h o1 o2).objs.size,.ref (XR h o1 o2).objs.size] }
theorem JX(c d:Cp)(t1 t2:Do)(xs ys:List V):
  Meets (Builtin.«zip.__new__» ⟨[.type "zip",c.value t1,d.value t2],[]⟩) (λ_ R s=>c.src s.heap xs/\d.src s.heap ys ∧
   R (.ok (.ret (.ref (XQ s.heap (c.dQ t1) (d.dQ t2)).objs.size))) { s with heap:=UC s.heap (c.dQ t1) (d.dQ t2) }) :=
 .of_wp λprog w A R s h=>by
  obtain⟨hp,g,dd,tk,os⟩:=s;obtain⟨hl1,hl2,h⟩:=h
  have hsub:=sub_zip
  have hL1:c.src (Shared.heap ⟨hp,g,dd,tk,os⟩) xs:=hl1
  have hL2:d.src (Shared.heap ⟨hp.push (c.dQ t1),g,dd,tk,os⟩) ys:=Cp.LH hl2 λb o e=>a8 _ e
  wp_walk using Cp.iter (t:=t1) hL1,Cp.iter (t:=t2) hL2
  exact⟨_,rfl,h⟩
theorem KH{t1 t2:Do}{Q:a9->ba->Prop}(sc:c.src s.heap xs)(sd:d.src s.heap ys)
  (h:∀h',IsZip h' (s.heap.objs.size+4) (s.heap.objs.size+2) (s.heap.objs.size+3) .none->Db h' (s.heap.objs.size+2) (.ref s.heap.objs.size) (.ref (s.heap.objs.size+1)) →
   Db h' (s.heap.objs.size+3) .none .none->c.FG h' s.heap.objs.size 0->d.FG h' (s.heap.objs.size+1) 0->(∀b o,s.heap.get? b=some o->h'.get? b=some o)->Q (.ref (s.heap.objs.size+4)) { s with heap:=h' }) :
  b_ (model prog w) A (call (.type "zip") [c.value t1,d.value t2]) Q E s:=by
 refine callType_new F.called_zip (by decide) (F.typeCall_zip_2 _ _) (F.newCall_zip_2 _ _) (λobj=>F.args_object_init_3 obj _ _) F.entry_zip_new
  (JX c d t1 t2 xs ys) ⟨sc,sd,?_⟩
 have z1:(XT s.heap (c.dQ t1)).objs.size=s.heap.objs.size+1:=l_ ..
 have z2:(XS s.heap (c.dQ t1) (d.dQ t2)).objs.size=s.heap.objs.size+2:=by rw[l_,z1]
 have z3:(XR s.heap (c.dQ t1) (d.dQ t2)).objs.size=s.heap.objs.size+3:=by rw[l_,z2]
 have z4:(XQ s.heap (c.dQ t1) (d.dQ t2)).objs.size=s.heap.objs.size+4:=by rw[l_,z3]
 have it1:(c.dQ t1).isFreed=false:=by cases c<;>rfl
 have it2:(d.dQ t2).isFreed=false:=by cases d<;>rfl
 have g5:(UC s.heap (c.dQ t1) (d.dQ t2)).get? (XQ s.heap (c.dQ t1) (d.dQ t2)).objs.size=some _:=bo _ rfl
 have g4:(UC s.heap (c.dQ t1) (d.dQ t2)).get? (XR s.heap (c.dQ t1) (d.dQ t2)).objs.size=some _:=a8 _ (bo _ rfl)
 have g3:(UC s.heap (c.dQ t1) (d.dQ t2)).get? (XS s.heap (c.dQ t1) (d.dQ t2)).objs.size=some _:=a8 _ (a8 _ (bo _ rfl))
 have g2:(UC s.heap (c.dQ t1) (d.dQ t2)).get? (XT s.heap (c.dQ t1)).objs.size=some _:=a8 _ (a8 _ (a8 _ (bo _ it2)))
 have g1:(UC s.heap (c.dQ t1) (d.dQ t2)).get? s.heap.objs.size=some _:=a8 _ (a8 _ (a8 _ (a8 _ (bo _ it1))))
 show _/\_
 rw[z2,z3,z4]at g5
 rw[z1,z2]at g3
 rw[z3]at g4
 rw[z1]at g2
 rw[z4]
 exact⟨⟨_,g5,rfl⟩,h _ g5 g3 g4 (Cp.IE g1) (Cp.IE g2) λb o x =>
  a8 _ (a8 _ (a8 _ (a8 _ (a8 _ x))))⟩
end
section
variable{X:Cx}{pins:List (a5×mi)}{σ:St}{H:Hp}{s:ba}
theorem Inv.moved{h':eJ}{t':Nat}{ch:List a5}(I:Inv X pins σ H s)(k:∀b o,b∉ch->s.heap.get? b=some o->h'.get? b=some o)(hf:∀b∈ch,qR X pins H b)(ht:s.toks<=t':=by first|exact a7 _|exact g_ _|assumption|omega):Inv X pins σ H { s with heap:=h',toks:=t' }:=by
 have QB:∀b u,H b=some u->b∉ch:=λb u e z=>by rw[(hf b z).1]at e;cases e
 refine I.step (g':=s.gens) (d':=s.drawn) (ch:=ch) (λb hb=>?_) (λb o _ _ hc e _=>k b o hc e) (λb o _ _ hc e _=>⟨o.slots,k b o hc e⟩) (λ_ _ _ _ n=>n)
  (λb o hc e=>⟨o,k b o hc e⟩) (λ_ _ e=>e) (λ_ _ _ e=>e) (λb ps e=>⟨#[],by rw[e];simp⟩) (λm hm=>?_) (λb u e=>?_) I.bare (bj I.up ht)
 ·obtain⟨_,h1,_,h3,h4,h5⟩:=hf b hb
  exact⟨h3,h1,h4,h5⟩
 ·obtain⟨o,es,ep,ho,r⟩:=hm
  exact⟨o,es,ep,k _ o (λz=>(hf _ z).2.1 rfl) ho,r⟩
 ·refine(I.hok b u e).stay (λc v hc q=>k c v ?_ q) (λ_ q=>q) λ_ _ q=>q
  rcases hc with z|z
  ·rw[z];exact QB b u e
  ·exact QB c _ z
theorem Inv.Lw{a:a5}{o:HO}(I:Inv X pins σ H s)(hf:qR X pins H a)(new:bM X.prog X.w (upd H a o) s.heap a o):Inv X pins σ (upd H a o) s:=by
 have hn:=hf.1
 have e:s={ s with heap:=s.heap,gens:=s.gens,drawn:=s.drawn,toks:=s.toks }:=rfl
 rw[e]
 refine I.step (ch:=[a]) (λb hb=>?_) (λ_ _ _ _ _ e _=>e) (λ_ o _ _ _ e _=>⟨o.slots,e⟩) (λb _ hc _ n=>?_)
  (λ_ o _ e=>⟨o,e⟩) (λb _ e=>?_) (λb _ _ e=>?_) (λb ps e=>⟨#[],?_⟩) (λ_ hm=>hm) (λb u q=>?_) I.bare I.up
 ·have eb:b=a:=by simpa using hb
  subst eb
  obtain⟨_,h1,_,h3,h4,h5⟩:=hf
  exact⟨h3,h1,h4,h5⟩
 ·rw[au (λz=>hc (by simp[z]))];exact n
 ·rw[au (aN e hn)];exact e
 ·rw[au (aN e hn)];exact e
 ·rw[au (aN e hn),e];simp
 ·by_cases hb:b=a
  ·subst hb;rw[ah]at q;cases q;exact new
  ·rw[au hb]at q
   exact(I.hok b u q).stay (λc v _ r=>r) (λc r=>by rw[au (aN r hn)];exact r) λc xs r=>by rw[au (aN r hn)];exact r
noncomputable def Xz(K:PySem.W.Frag)(c d:Cp):It :=
 ⟨λi H=>∃xs ys x y,c.at K H xs/\d.at K H ys/\xs[i]? =some x/\ys[i]? =some y,
  λi H v H'=>∃p x y,v= .ref p/\H p=none/\H'=upd H p (.tup [x,y])/\∀xs ys,c.at K H xs->d.at K H ys->xs[i]? =some x/\ys[i]? =some y,
  λi H=>∃xs ys,c.at K H xs/\d.at K H ys/\(xs.length<=i\/ys.length<=i)⟩
theorem Ls{P:bn}{w:df}{K:PySem.W.Frag}{elts:List Expr}{k:Nat}{pos:sx}{c d:Cp}{z TI TO i1 i2:a5}(D:zm z TI TO i1 i2):
  Turn P w K (.Tuple elts k pos) (Xz K c d) [z,TI,TO,i1,i2] z (λi h=>Jf h z TI TO i1 i2 c d .none i) where
 mem:=by simp
 obj:=λi h Z b hb=>by
  obtain⟨hz,hTI,⟨a,b',hTO⟩,h1,h2,_,_⟩:=Z
  obtain⟨oi1,T1,v1,hi1,_,d1,_⟩:=Cp.lz h1
  obtain⟨oi2,T2,v2,hi2,_,d2,_⟩:=Cp.lz h2
  simp only[c_,hZ,or_false]at hb
  rcases hb with rfl|rfl|rfl|rfl|rfl
  ·exact⟨_,hz,λv q=>by cases q⟩
  ·exact⟨_,hTI,λv q=>by cases q⟩
  ·exact⟨_,hTO,λv q=>by cases q⟩
  ·exact⟨_,hi1,λv q=>by rw[d1]at q;cases q⟩
  ·exact⟨_,hi2,λv q=>by rw[d2]at q;cases q⟩
 keep:=λi h h' Z kp=>by
  obtain⟨hz,hTI,⟨a,b',hTO⟩,h1,h2,o1,o2⟩:=Z
  exact⟨kp z (by simp) _ hz,kp TI (by simp) _ hTI,⟨a,b',kp TO (by simp) _ hTO⟩,Cp.jC h1 λo e=>kp i1 (by simp) o e,Cp.jC h2 λo e=>kp i2 (by simp) o e,o1,o2⟩
 item:=by
  intro X hP hw hK hc i pins s σ H E I hf Z hg
  subst hP hw hK
  obtain⟨xs,ys,x,y,hx,hy,ex,ey⟩:=hg
  have sc:=Cp.qb I hx
  have sd:=Cp.qb I hy
  refine TK.bP (a7 s.toks) (Lg D Z sc sd ex ey λu v h' tk ru rv Z' hp kk hup=>⟨_,rfl,?_⟩)
  refine wpAny_letOwnedTupleGo_zip Z'.zz λh'' aa8 sb=>?_
  have hnz:s.heap.objs.size≠z:=m_ (cm Z.zz)
  have k2:∀b o,b∉[z,TI,TO,i1,i2]->s.heap.get? b=some o->h''.get? b=some o:=λb o hb e=>by
   simp only[c_,hZ,or_false,not_or]at hb
   exact sb.extBut _ _ hb.1 (kk b o hb.1 hb.2.2.1 hb.2.2.2.1 hb.2.2.2.2 e)
  have I1:Inv X pins σ H { s with heap:=h'',toks:=tk }:=I.moved k2 hf
  have hn:H s.heap.objs.size=none:=I.fresh
  have Xa:qR X pins H s.heap.objs.size:=I.uU (a7 _) hn
  have hp2:Db h'' s.heap.objs.size u v:=sb.extBut _ _ hnz hp
  have I2:Inv X pins σ (upd H s.heap.objs.size (.tup [x,y])) { s with heap:=h'',toks:=tk } :=
   I1.Lw Xa ⟨aw,[u,v],.cons ru (.cons rv .nil),⟨_,hp2,rfl,_,rfl⟩⟩
  refine⟨.ref s.heap.objs.size,_,I2,rfl,⟨_,x,y,rfl,hn,rfl,λxs' ys' hx' hy'=>?_⟩,?_,λb hb=>?_⟩
  ·rw[Cp.Hu I hx' hx,Cp.Hu I hy' hy];exact⟨ex,ey⟩
  ·obtain⟨_,hTI,⟨a,b',hTO⟩,h1,h2,o1,o2⟩:=Z'
   exact⟨aa8,sb.extBut _ _ D.TIz hTI,⟨a,b',sb.extBut _ _ D.TOz hTO⟩,Cp.jC h1 λo e=>sb.extBut _ _ D.i1z e,Cp.jC h2 λo e=>sb.extBut _ _ D.i2z e,o1,o2⟩
  ·have lt:b<s.heap.objs.size:=by
    obtain⟨hz,hTI,⟨a,b',hTO⟩,h1,h2,_,_⟩:=Z
    obtain⟨oi1,T1,v1,hi1,_,d1,_⟩:=Cp.lz h1
    obtain⟨oi2,T2,v2,hi2,_,d2,_⟩:=Cp.lz h2
    simp only[c_,hZ,or_false]at hb
    rcases hb with rfl|rfl|rfl|rfl|rfl
    ·exact cm hz
    ·exact cm hTI
    ·exact cm hTO
    ·exact cm hi1
    ·exact cm hi2
   rw[au (eA lt)]
   exact(hf b hb).1
 done:=by
  intro X hP hw hK hc i pins s σ H E I hf Z hg
  subst hP hw hK
  obtain⟨xs,ys,hx,hy,he⟩:=hg
  refine TK.bP (a7 s.toks) (Oq (I.ok.hd hc) D Z (Cp.qb I hx) (Cp.qb I hy) (he.imp (λq=>so q) λq=>so q) λh' tk kk hup=>⟨rfl,?_⟩)
  exact I.moved (λb o hb e=>by
   simp only[c_,hZ,or_false,not_or]at hb
   exact kk b o hb.1 hb.2.2.1 hb.2.2.2.1 hb.2.2.2.2 e) hf
 self:=λ_ _ _ _ _ Z h=>wpAny_pyIter_zip Z.zz h
theorem FL(n:Nat):zm (n+4) (n+2) (n+3) n (n+1):=by
 have ne:∀{a b:Nat},a<b->a≠b:=λh=>eA h
 exact⟨ne (by omega),ne (by omega),ne (by omega),ne (by omega),ne (by omega),(ne (by omega)).symm,(ne (by omega)).symm,(ne (by omega)).symm,(ne (by omega)).symm,ne (by omega)⟩
noncomputable def aa2(K:PySem.W.Frag)(ta:TA):TI:=λσ H R=>ta σ H λvs H1=>∃c d xs ys,vs=[c.val,d.val]/\c.at K H1 xs/\d.at K H1 ys/\R (Xz K c d) H1
theorem BY {a b:Expr}{ta:TA}{p pos:sx}{elts:List Expr}{k:Nat}{tpos:sx}(hc:X.calm=true)(hg:Gl X "zip")(hm:X.mg "zip" =none)(ha:PA X [a,b] ta)
  (hs:eP [a,b] X.env=[(false,eval a X.env),(false,eval b X.env)]:=by rfl) (hs2:eP [b] X.env=[(false,eval b X.env)]:=by rfl) :
  PI X (.Tuple elts k tpos) (.Call (.Name "zip" p) [a,b] [] pos) (aa2 X.K ta):=by
 intro pins s σ H R I h
 refine Call_ (pF I hg hm boot_zip (lv (dG (ha pos pins s σ H _ I h) λus s1 ⟨vs,H1,I1,r1,q1⟩=>?_) (by rw[hs,hs2]) (by rw[hs2];rfl)))
 obtain⟨c,d,xs,ys,e,hx,hy,q⟩:=q1
 subst e
 obtain⟨u,v,rfl,ru,rv⟩:=vals2 r1
 obtain⟨t1,rfl⟩:=Cp.value_of ru
 obtain⟨t2,rfl⟩:=Cp.value_of rv
 have sc:=Cp.qb I1 hx
 have sd:=Cp.qb I1 hy
 refine KH sc sd λh' hz hTI hTO h1 h2 kk=>wpAny_pyIter_zip hz ?_
 have D:zm (s1.heap.objs.size+4) (s1.heap.objs.size+2) (s1.heap.objs.size+3) s1.heap.objs.size (s1.heap.objs.size+1) :=
  FL _
 refine⟨_,[s1.heap.objs.size+4,s1.heap.objs.size+2,s1.heap.objs.size+3,s1.heap.objs.size,s1.heap.objs.size+1],_,_,H1,rfl,I1.kept (t':=s1.toks) kk,Ls D,
  ⟨hz,hTI,⟨_,_,hTO⟩,h1,h2,Cp.IA sc (km _ 3),Cp.IA sd (km _ 3)⟩,λb hb=>?_,q⟩
 have le:s1.heap.objs.size<=b:=by
  simp only[c_,hZ,or_false]at hb
  rcases hb with rfl|rfl|rfl|rfl|rfl
  ·exact km _ _
  ·exact km _ _
  ·exact km _ _
  ·exact a7 _
  ·exact km _ _
 exact I1.uU le (I1.hok.fresh le)
end
end
section
noncomputable def XC(x:bp):It:=⟨λi _=>i<x.cps.size,λi H v H'=>H'=H/\∃k,x.cps[i]? =some k/\v= .str ⟨#[k]⟩,λi _=>x.cps.size<=i⟩
section
variable{prog:bn}{w:df}{A:eR}{E:a9->ba->Prop}{s:ba}
theorem qK{it:a5}{x:bp}{t:Do}{i k:Nat}{Q:Option a9->ba->Prop}(hit:s.heap.IsStrIter it (strIterType x) x t i)(hx:x.cps[i]? =some k)
  (hQ:∀h',h'.IsStrIter it (strIterType x) x t (i+1)->mM it s.heap h'->Q (some (.str ⟨#[k]⟩ s.toks)) { s with heap:=h',toks:=s.toks+1 }):b_ (model prog w) A (pyNext (.ref it)) Q E s:=by
 unfold strIterType at hit hQ
 by_cases ha:(x.cps.all (·<128))=true
 ·rw[if_pos ha]at hit hQ
  exact wpAny_pyNext_ascii_item hit hx hQ
 ·rw[if_neg ha]at hit hQ
  exact wpAny_pyNext_wide_item hit hx hQ
theorem rq{it:a5}{x:bp}{t:Do}{i:Nat}{Q:Option a9->ba->Prop}(hh:A.handled=none)(hit:s.heap.IsStrIter it (strIterType x) x t i)(hx:x.cps[i]? =none)
  (hQ:∀h',B_ it s.heap h'->Q none { s with heap:=h' }):b_ (model prog w) A (pyNext (.ref it)) Q E s:=by
 unfold strIterType at hit
 by_cases ha:(x.cps.all (·<128))=true
 ·rw[if_pos ha]at hit
  exact wpAny_pyNext_ascii_end hh hit hx hQ
 ·rw[if_neg ha]at hit
  exact wpAny_pyNext_wide_end hh hit hx hQ
theorem rz{it:a5}{x:bp}{t:Do}{i:Nat}{Q:a9->ba->Prop}(hit:s.heap.IsStrIter it (strIterType x) x t i)(h:Q (.ref it) s):b_ (model prog w) A (pyIter (.ref it)) Q E s:=by
 unfold strIterType at hit
 by_cases ha:(x.cps.all (·<128))=true
 ·rw[if_pos ha]at hit
  exact wpAny_pyIter_striter_ascii hit h
 ·rw[if_neg ha]at hit
  exact wpAny_pyIter_striter_wide hit h
end
theorem vB(x:bp):["enumerate","zip","dict_itemiterator","dict_reverseitemiterator","odict_iterator","itertools.zip_longest","itertools.pairwise"].contains (strIterType x)=false:=by
 unfold strIterType
 split<;>decide
theorem Dt{P:bn}{w:df}{K:PySem.W.Frag}{tg:Expr}(x:bp)(t:Do)(it:a5):Turn P w K tg (XC x) [it] it (λi h=>h.IsStrIter it (strIterType x) x t i) where
 mem:=by simp
 obj:=λi h st b hb=>by
  have e:b=it:=by simpa using hb
  subst e
  obtain⟨o,e,c,d⟩:=st
  exact⟨o,e,λv z=>by rw[d]at z;cases z⟩
 keep:=λi h h' st k=>by
  obtain⟨o,e,r⟩:=st
  exact⟨o,k it (by simp) o e,r⟩
 item:=by
  intro X hP hw hK hc i pins s σ H E I hf st hg
  subst hP hw hK
  have hi:i<x.cps.size:=hg
  obtain⟨f0,f1,f2,f3,f4,f5⟩:=hf it (by simp)
  refine qK st (k:=x.cps[i]) (by simp[hi]) λh' st' sb=>?_
  have I1:Inv X pins σ H { s with heap:=h',toks:=s.toks+1 }:=I.turned (λb o hb e=>(sb.2 b hb).trans e) f0 f1 f3 f4 f5
  obtain⟨o,e,c,d⟩:=id st'
  exact⟨_,rfl,Bc (s:={ s with heap:=h',toks:=s.toks+1 }) e c d (vB x) ⟨.str ⟨#[x.cps[i]]⟩,H,I1,⟨_,rfl⟩,⟨rfl,_,by simp[hi],rfl⟩,st',λb hb=>(hf b hb).1⟩⟩
 done:=by
  intro X hP hw hK hc i pins s σ H E I hf st hg
  subst hP hw hK
  have hi:x.cps.size<=i:=hg
  obtain⟨f0,f1,f2,f3,f4,f5⟩:=hf it (by simp)
  exact rq (I.ok.hd hc) st (by simp[hi]) λh' eb=>⟨rfl,I.turned (t':=s.toks) (λb o hb e=>eb b o hb e) f0 f1 f3 f4 f5⟩
 self:=λ_ _ _ _ _ st h=>rz st h
section
variable{X:Cx}{tg:Expr}
noncomputable def aa3(tl:TE):TI:=λσ H R=>tl σ H λv H1=>∃x,v= .str x/\R (XC x) H1
theorem Gq{l:Expr}{tl:TE}(hl:PE X l tl):PI X tg l (aa3 tl):=by
 intro pins s σ H R I h
 refine dG (hl pins s σ H _ I h) λv s1 ⟨y,H1,I1,r1,q1⟩=>?_
 obtain⟨x,e,q⟩:=q1
 subst e
 obtain⟨t,rfl⟩:=r1
 refine y0 ?_
 refine⟨s1.heap.objs.size,[s1.heap.objs.size],_,_,H1,rfl,I1.kept (t':=s1.toks) λb o e=>a8 _ e,Dt x t _,⟨_,bo _ rfl,rfl,rfl⟩,λb hb=>?_,q⟩
 have e:b=s1.heap.objs.size:=by simpa using hb
 subst e
 exact I1.uU (a7 _) (I1.hok.fresh (a7 _))
theorem PV{x:bp}{g:TG}{tb:TS}{D:Ends}{σ:St}{H:Hp}(Pv:Nat->St->Hp->Prop)(h0:Pv 0 σ H)
  (hs:∀i k σ H,x.cps[i]? =some k->Pv i σ H->g (.str ⟨#[k]⟩) σ H λσ2 H2=>tb { D with nx:=Pv (i+1),ct:=Pv (i+1),bk:=D.nx } σ2 H2) (hd:∀ σ H,Pv x.cps.size σ H->D.nx σ H) :
  ∃W:Nat->Nat->St->Hp->Prop,(∃m,W 0 m σ H)/\∀i m σ H,W i m σ H →
   ((XC x).stop i H/\D.nx σ H)\/((XC x).go i H/\∃N:St->Hp->Prop,(∀ σ' H',N σ' H'->∃m',m'<m/\W (i+1) m' σ' H')/\∀y H',(XC x).AE i H y H'->g y σ H' λσ2 H2=>tb { D with nx:=N,ct:=N,bk:=D.nx } σ2 H2):=by
 refine⟨λi m σ H=>m=x.cps.size-i/\i<=x.cps.size/\Pv i σ H,⟨x.cps.size,by simp,d0 _,h0⟩,?_⟩
 rintro i m σ H ⟨rfl,hi,p⟩
 by_cases hlt:i<x.cps.size
 ·refine .inr ⟨hlt,Pv (i+1),λσ' H' p'=>⟨x.cps.size-(i+1),by omega,rfl,hlt,p'⟩,λy H' q=>?_⟩
  obtain⟨e,k,ek,rfl⟩:=q
  subst e
  exact hs i k σ _ ek p
 ·have e:i=x.cps.size:=by omega
  subst e
  exact .inl ⟨a7 _,hd σ H p⟩
theorem Ct{K:PySem.W.Frag}{c d:Cp}{xs ys:List V}{g:TG}{tb:TS}{D:Ends}{σ:St}{H:Hp}(Pv:Nat->St->Hp->Prop)(h0:Pv 0 σ H)(hl:∀i σ H,i<=min xs.length ys.length->Pv i σ H->c.at K H xs/\d.at K H ys)
  (hs:∀i x y p σ H,xs[i]? =some x->ys[i]? =some y->H p=none->Pv i σ H->g (.ref p) σ (upd H p (.tup [x,y])) λσ2 H2=>tb { D with nx:=Pv (i+1),ct:=Pv (i+1),bk:=D.nx } σ2 H2)
  (hd:∀ σ H,Pv (min xs.length ys.length) σ H->D.nx σ H) :
  ∃W:Nat->Nat->St->Hp->Prop,(∃m,W 0 m σ H)/\∀i m σ H,W i m σ H →
   ((Xz K c d).stop i H/\D.nx σ H)\/((Xz K c d).go i H/\∃N:St->Hp->Prop,(∀ σ' H',N σ' H'->∃m',m'<m/\W (i+1) m' σ' H')/\∀y H',(Xz K c d).AE i H y H'->g y σ H' λσ2 H2=>tb { D with nx:=N,ct:=N,bk:=D.nx } σ2 H2):=by
 refine⟨λi m σ H=>m=min xs.length ys.length-i/\i<=min xs.length ys.length/\Pv i σ H,⟨min xs.length ys.length,by simp,d0 _,h0⟩,?_⟩
 rintro i m σ H ⟨rfl,hi,p⟩
 obtain⟨zx,zy⟩:=hl i σ H hi p
 by_cases hlt:i<min xs.length ys.length
 ·have h1:i<xs.length:=by omega
  have h2:i<ys.length:=by omega
  refine .inr ⟨⟨xs,ys,xs[i],ys[i],zx,zy,by simp[h1],by simp[h2]⟩,Pv (i+1),λσ' H' p'=>⟨min xs.length ys.length-(i+1),by omega,rfl,hlt,p'⟩,λv H' q=>?_⟩
  obtain⟨a,x,y,rfl,ha,rfl,e⟩:=q
  obtain⟨e1,e2⟩:=e xs ys zx zy
  exact hs i x y a σ H e1 e2 ha p
 ·have e:i=min xs.length ys.length:=by omega
  subst e
  refine .inl ⟨⟨xs,ys,zx,zy,?_⟩,hd σ H p⟩
  rcases Nat.le_total xs.length ys.length with q|q
  ·exact .inl (by rw[Nat.min_eq_left q];exact a7 _)
  ·exact .inr (by rw[Nat.min_eq_right q];exact a7 _)
end
end
section
noncomputable def Cp.adr:Cp->List a5
 | .lst a=>[a]
 | .tup a=>[a]
 | .txt _=>[]
theorem Cp.O1{c:Cp}{b:a5}(h:c.off b):b∉c.adr:=by
 cases c with
 |lst a =>
  intro z
  have q:b=a:=by simpa[Cp.adr]using z
  exact h q.symm
 |tup a =>
  intro z
  have q:b=a:=by simpa[Cp.adr]using z
  exact h q.symm
 |txt x=>intro z;cases z
theorem Cp.OJ{c:Cp}{xs:List V}{h h':eJ}(hs:c.src h xs)(k:∀b∈c.adr,∀o,h.get? b=some o->h'.get? b=some o):c.src h' xs:=by
 cases c with
 |lst a=>obtain⟨its,r,o,ho,q⟩:=hs;exact⟨its,r,o,k a (by simp[Cp.adr]) _ ho,q⟩
 |tup a=>obtain⟨its,r,o,ho,q⟩:=hs;exact⟨its,r,o,k a (by simp[Cp.adr]) _ ho,q⟩
 |txt x=>exact hs
theorem Cp.draws{prog:bn}{w:df}{A:eR}{c:Cp}{xs:List V}(hh:A.handled=none)(it:a5):
  Draws prog w A it (it::c.adr) xs.length (λi v=>∃x,xs[i]? =some x/\RelV x v) (λi h=>c.FG h it i/\c.src h xs) where
 live:=λi h st=>by
  obtain⟨o,_,_,ho,_⟩:=Cp.lz st.1
  exact⟨o,ho⟩
 frame:=λi h h' st k=>⟨Cp.jC st.1 λo e=>k it (by simp) o e,Cp.OJ st.2 λb hb o e=>k b (ce _ hb) o e⟩
 item:=λi s Q E hi st hQ=>by
  obtain⟨o,T,_,ho,hc,_,n1,n2⟩:=Cp.lz st.1
  have off:c.off it:=Cp.pA st.2 ho hc n1 n2
  refine Cp.item st.1 st.2 (x:=xs[i]) (by simp[hi]) λu h' tk ru q sb=>?_
  exact hQ u h' tk ⟨_,by simp[hi],ru⟩ ⟨q,Cp.mw st.2 sb.extBut off⟩ sb
 done:=λs Q E st hE=>Cp.fin hh st.1 st.2 (by simp) hE
noncomputable def XE(K:PySem.W.Frag)(c:Cp):It :=
 ⟨λi H=>∃xs x,c.at K H xs/\xs[i]? =some x,
  λi H v H'=>∃p x,v= .ref p/\H p=none/\H'=upd H p (.tup [.int (i:Int),x])/\∀xs,c.at K H xs->xs[i]? =some x,
  λi H=>∃xs,c.at K H xs/\xs.length<=i⟩
theorem Jo{P:bn}{w:df}{K:PySem.W.Frag}{elts:List Expr}{k:Nat}{pos:sx}{c:Cp}{e it:a5}(hei:e≠it):
  Turn P w K (.Tuple elts k pos) (XE K c) [e,it] e (λi h=>(∃old,IsEnum h e it i old)/\c.FG h it i) where
 mem:=by simp
 obj:=λi h Z b hb=>by
  obtain⟨⟨old,he⟩,hi⟩:=Z
  obtain⟨o,_,vs,ho,_,d,_⟩:=Cp.lz hi
  simp only[c_,hZ,or_false]at hb
  rcases hb with rfl|rfl
  ·exact⟨_,he,λv q=>by cases q⟩
  ·exact⟨_,ho,λv q=>by rw[d]at q;cases q⟩
 keep:=λi h h' Z kp=>by
  obtain⟨⟨old,he⟩,hi⟩:=Z
  exact⟨⟨old,kp e (by simp) _ he⟩,Cp.jC hi λo q=>kp it (by simp) o q⟩
 item:=by
  intro X hP hw hK hc i pins s σ H E I hf Z hg
  subst hP hw hK
  obtain⟨xs,x,hx,ex⟩:=hg
  obtain⟨⟨old,he⟩,hi⟩:=id Z
  have sc:=Cp.qb I hx
  have aaB:c.off e:=Cp.pA sc he rfl (by decide) (by decide)
  have hlt:i<xs.length:=(bd.mp ex).1
  have hh:X.A.in1.handled=none:=I.ok.hd hc
  refine TK.bP (a7 s.toks) (wpAny_pyNext_enum_itemD (Cp.draws (c:=c) (xs:=xs) hh it) he ⟨hi,sc⟩ hlt hei (λz=>?_) λu h' tk hP ho st' hT hsz kk hup=>⟨_,rfl,?_⟩)
  ·rcases c_.mp z with q|q
   ·exact hei q
   ·exact Cp.O1 aaB q
  ·obtain⟨x',ex',ru⟩:=hP
   rw[ex]at ex'
   cases ex'
   refine wpAny_letOwnedTupleGo_enum ho λh'' Ud sb=>?_
   have hne:s.heap.objs.size≠e:=m_ (cm he)
   have k2:∀b o,b∉[e,it]->s.heap.get? b=some o->h''.get? b=some o:=λb o hb q=>by
    simp only[c_,hZ,or_false,not_or]at hb
    exact sb.extBut _ _ hb.1 (kk b o hb.1 hb.2 q)
   have I1:Inv X pins σ H { s with heap:=h'',toks:=tk+1 }:=I.moved k2 hf (by have z:s.toks<=tk+1:=hup;exact z)
   have hn:H s.heap.objs.size=none:=I.fresh
   have Xa:qR X pins H s.heap.objs.size:=I.uU (a7 _) hn
   have hp2:h''.get? s.heap.objs.size=some { cls:=.type "tuple",data:=.seq #[.int i tk,u] }:=sb.extBut _ _ hne hT
   have I2:Inv X pins σ (upd H s.heap.objs.size (.tup [.int (i:Int),x])) { s with heap:=h'',toks:=tk+1 } :=
    I1.Lw Xa ⟨aw,[.int i tk,u],.cons ⟨_,rfl⟩ (.cons ru .nil),⟨_,hp2,rfl,_,rfl⟩⟩
   refine⟨.ref s.heap.objs.size,_,I2,rfl,⟨_,x,rfl,hn,rfl,λxs' hx'=>?_⟩,⟨⟨_,Ud⟩,Cp.jC st'.1 λo q=>sb.extBut _ _ (Ne.symm hei) q⟩,λb hb=>?_⟩
   ·rw[Cp.Hu I hx' hx];exact ex
   ·obtain⟨o,_,vs,hoi,_⟩:=Cp.lz hi
    have lt:b<s.heap.objs.size:=by
     have hb':=hb
     simp only[c_,hZ,or_false]at hb'
     rcases hb' with rfl|rfl
     ·exact cm he
     ·exact cm hoi
    rw[au (eA lt)]
    exact(hf b hb).1
 done:=by
  intro X hP hw hK hc i pins s σ H E I hf Z hg
  subst hP hw hK
  obtain⟨xs,hx,hle⟩:=hg
  obtain⟨⟨old,he⟩,hi⟩:=Z
  have hh:X.A.in1.handled=none:=I.ok.hd hc
  have hT:s.TypeIs (.ref e) "enumerate" :=⟨_,he,rfl⟩
  unfold pyNext
  refine a0 (Bz (mx (name:=a_ "__next__") hT F.slot_enumerate_next
   (my F.slot_enumerate_next hT F.entry_enumerate_next ?_ (F.args_enumerate_next_1 _))))
  show b_ _ _ (field (.ref e) 2 >>= _) _ _ _
  refine a0 (lr he rfl (x:=.ref it) rfl ?_)
  refine a0 (Cp.fin hh hi (Cp.qb I hx) (so hle) λh' y eb hy=>?_)
  obtain⟨o,ho,hcl⟩:=hy
  refine a0 (ut (T:= "StopIteration") (b:=true) ⟨o,ho,hcl⟩ isSubtype_stop ?_)
  refine bi ⟨rfl,I.moved (t':=s.toks) (ch:=[e,it]) (λb o hb q=>eb b o ?_ q) hf⟩
  simp only[c_,hZ,or_false,not_or]at hb
  exact hb.2
 self:=λ_ _ _ _ _ Z h=>by
  obtain⟨⟨old,he⟩,_⟩:=Z
  exact wpAny_pyIter_enum he h
section
variable{prog:bn}{w:df}{A:eR}{E:a9->ba->Prop}{s:ba}
set_option maxHeartbeats 1000000 in
theorem yL(l:a5)(items:Array a9)(n:Nat)(dct:Option a5)(sl:Array (Option a9)):
  Meets (Builtin.«enumerate.__new__» ⟨[.type "enumerate",.ref l],[]⟩) (λ_ R s=>s.heap.get? l=some { cls:=.type "tuple",dict:=dct,data:=.seq items n,slots:=sl } ∧
   R (.ok (.ret (.ref (s.heap.push { cls:=.type "tuple_iterator",data:=.fields #[.ref l,.int 0 0] }).objs.size)))
    { s with heap:=(s.heap.push { cls:=.type "tuple_iterator",data:=.fields #[.ref l,.int 0 0] }).push { cls:=.type "enumerate",data:=.fields #[.none,.bool false,.ref s.heap.objs.size,rawInt 0,.none,.none] } }) :=
 .of_wp λprog w A R s h=>by
  obtain⟨hp,g,d,tk,os⟩:=s;obtain⟨hl,h⟩:=h
  have hsub:=sub_enumerate
  have hL:Heap.IsTuple (Shared.heap ⟨hp,g,d,tk,os⟩) l items:=⟨_,hl,rfl,n,rfl⟩
  wp_walk using t5 hl
  refine wpAny_stack_any λst=>bi ?_
  split
  ·rename_i c _ _ _ _ _
   cases (c==Value.type "enumerate")
   ·wp_walk using t5 hl,rc hL
    exact⟨_,rfl,h⟩
   ·wp_walk using t5 hl,rc hL
    exact⟨_,rfl,h⟩
  ·wp_walk using t5 hl,rc hL
   exact⟨_,rfl,h⟩
theorem Ak{l:a5}{items:Array a9}{Q:a9->ba->Prop}(hL:s.heap.IsTuple l items)
  (h:∀h',IsEnum h' (s.heap.objs.size+1) s.heap.objs.size 0 .none->h'.IsTupleIter s.heap.objs.size l 0 →
   (∀b o,s.heap.get? b=some o->h'.get? b=some o)->Q (.ref (s.heap.objs.size+1)) { s with heap:=h' }) :
  b_ (model prog w) A (call (.type "enumerate") [.ref l]) Q E s:=by
 obtain⟨⟨c,dct,dt,sl⟩,hl,hc,n,hd⟩:=hL
 replace hc:c= .type "tuple" :=hc
 replace hd:dt= .seq items n:=hd
 subst hc hd
 refine callType_new F.called_enumerate (by decide) (F.typeCall_enumerate_1 _) (F.newCall_enumerate_1 _) (λobj=>F.args_object_init_2 obj _) F.entry_enumerate_new
  (yL l items n dct sl) ⟨hl,?_⟩
 have hz:(s.heap.push { cls:=.type "tuple_iterator",data:=.fields #[.ref l,.int 0 0] }).objs.size=s.heap.objs.size+1:=l_ ..
 show _/\_
 rw[hz]
 have he:IsEnum ((s.heap.push { cls:=.type "tuple_iterator",data:=.fields #[.ref l,.int 0 0] }).push
   { cls:=.type "enumerate",data:=.fields #[.none,.bool false,.ref s.heap.objs.size,rawInt 0,.none,.none] }) (s.heap.objs.size+1) s.heap.objs.size 0 .none:=by
  have:=bo (s.heap.push { cls:=.type "tuple_iterator",data:=.fields #[.ref l,.int 0 0] })
   (o:={ cls:=.type "enumerate",data:=.fields #[.none,.bool false,.ref s.heap.objs.size,rawInt 0,.none,.none] }) rfl
  rw[hz]at this;exact this
 exact⟨⟨_,he,rfl⟩,h _ he ⟨_,a8 _ (bo _ rfl),rfl,rfl⟩ λb o x=>a8 _ (a8 _ x)⟩
theorem Hr{c:Cp}{xs:List V}{t:Do}{Q:a9->ba->Prop}(sc:c.src s.heap xs)
  (h:∀h',IsEnum h' (s.heap.objs.size+1) s.heap.objs.size 0 .none->c.FG h' s.heap.objs.size 0->(∀b o,s.heap.get? b=some o->h'.get? b=some o)->Q (.ref (s.heap.objs.size+1)) { s with heap:=h' }) :
  b_ (model prog w) A (call (.type "enumerate") [c.value t]) Q E s:=by
 cases c with
 |lst a=>obtain⟨its,_,p⟩:=sc;exact call_enumerate_list p λh' a b _ k=>h h' a b k
 |tup a=>obtain⟨its,_,p⟩:=sc;exact Ak p λh' a b k=>h h' a b k
 |txt x=>exact call_enumerate_str λh' a b _ k=>h h' a ⟨t,b⟩ k
end
section
variable{X:Cx}
noncomputable def Wv(K:PySem.W.Frag)(ta:TA):TI:=λσ H R=>ta σ H λvs H1=>∃c xs,vs=[c.val]/\c.at K H1 xs/\R (XE K c) H1
theorem BZ {a:Expr}{ta:TA}{p pos:sx}{elts:List Expr}{k:Nat}{tpos:sx}(hg:Gl X "enumerate")(hm:X.mg "enumerate" =none)(ha:PA X [a] ta)
  (hs:eP [a] X.env=[(false,eval a X.env)]:=by rfl):PI X (.Tuple elts k tpos) (.Call (.Name "enumerate" p) [a] [] pos) (Wv X.K ta):=by
 intro pins s σ H R I h
 refine Call_ (pF I hg hm boot_enumerate (lv (dG (ha pos pins s σ H _ I h) λus s1 ⟨vs,H1,I1,r1,q1⟩=>?_) hs rfl))
 obtain⟨c,xs,e,hx,q⟩:=q1
 subst e
 obtain⟨u,rfl,ru⟩:=vals1 r1
 obtain⟨t,rfl⟩:=Cp.value_of ru
 have sc:=Cp.qb I1 hx
 refine Hr sc λh' he hi kk=>wpAny_pyIter_enum he ?_
 have hei:s1.heap.objs.size+1≠s1.heap.objs.size:=m_ (k_ _)
 refine⟨_,[s1.heap.objs.size+1,s1.heap.objs.size],_,_,H1,rfl,I1.kept (t':=s1.toks) kk,Jo hei,⟨⟨_,he⟩,hi⟩,λb hb=>?_,q⟩
 have le:s1.heap.objs.size<=b:=by
  simp only[c_,hZ,or_false]at hb
  rcases hb with rfl|rfl
  ·exact km _ _
  ·exact a7 _
 exact I1.uU le (I1.hok.fresh le)
theorem yT{K:PySem.W.Frag}{c:Cp}{xs:List V}{g:TG}{tb:TS}{D:Ends}{σ:St}{H:Hp}(Pv:Nat->St->Hp->Prop)(h0:Pv 0 σ H)(hl:∀i σ H,i<=xs.length->Pv i σ H->c.at K H xs)
  (hs:∀(i:Nat) x p σ H,xs[i]? =some x->H p=none->Pv i σ H->g (.ref p) σ (upd H p (.tup [.int (i:Int),x])) λσ2 H2=>tb { D with nx:=Pv (i+1),ct:=Pv (i+1),bk:=D.nx } σ2 H2)
  (hd:∀ σ H,Pv xs.length σ H->D.nx σ H) :
  ∃W:Nat->Nat->St->Hp->Prop,(∃m,W 0 m σ H)/\∀i m σ H,W i m σ H →
   ((XE K c).stop i H/\D.nx σ H)\/((XE K c).go i H/\∃N:St->Hp->Prop,(∀ σ' H',N σ' H'->∃m',m'<m/\W (i+1) m' σ' H')/\∀y H',(XE K c).AE i H y H'->g y σ H' λσ2 H2=>tb { D with nx:=N,ct:=N,bk:=D.nx } σ2 H2):=by
 refine⟨λi m σ H=>m=xs.length-i/\i<=xs.length/\Pv i σ H,⟨xs.length,by simp,d0 _,h0⟩,?_⟩
 rintro i m σ H ⟨rfl,hi,p⟩
 have zx:=hl i σ H hi p
 by_cases hlt:i<xs.length
 ·refine .inr ⟨⟨xs,xs[i],zx,by simp[hlt]⟩,Pv (i+1),λσ' H' p'=>⟨xs.length-(i+1),by omega,rfl,hlt,p'⟩,λv H' q=>?_⟩
  obtain⟨a,x,rfl,ha,rfl,e⟩:=q
  exact hs i x a σ H (e xs zx) ha p
 ·have e:i=xs.length:=by omega
  subst e
  exact .inl ⟨⟨xs,zx,a7 _⟩,hd σ H p⟩
end
end
section
set_option maxRecDepth 100000
noncomputable def met(val:Nat->bp)(i:Nat):List bp:=((fe i).map val).foldl Ap []
theorem yJ(val:Nat->bp):met val 0=[]:=rfl
theorem rF(val:Nat->bp)(i:Nat):met val (i+1)=Ap (met val i) (val i):=by
 unfold met;rw[wd,dC,wv];rfl
theorem sX(val:Nat->bp):∀i,(met val i).length<=i
 | 0=>by rw[yJ];exact a7 _
 |i+1=>by
  rw[rF]
  have ih:=sX val i
  unfold Ap
  split
  ·omega
  ·rw[cn,List.length_singleton];omega
theorem uL(σ:List bp)(v k:bp):(Ap σ v).any (·==k)=(σ.any (·==k)||decide (k=v)):=by
 unfold Ap
 by_cases h:σ.any (·==v)=true
 ·rw[if_pos h]
  by_cases e:k=v
  ·subst e;rw[h];simp
  ·simp[e]
 ·rw[if_neg h,List.any_append]
  by_cases e:k=v
  ·subst e;simp
  ·have hb:(v==k)=false:=by simpa[beq_iff_eq]using(λh':v=k=>e h'.symm)
   simp[hb,e]
theorem qN(σ:List bp)(v:bp):(Ap σ v).length=if σ.any (·==v)then σ.length else σ.length+1:=by
 unfold Ap;split<;>simp
section
variable{prog:bn}{w:df}{A:eR}{R:Result->ba->Prop}{I:a5}{fp wr:List a5}{G:Array GenState->Array GenState->Prop}{n:Nat}{P:Nat->a9->Prop}{St:Nat->ba->Prop}
theorem BL(W:WalksS prog w A.in1 I fp wr G n P St)(S:a5)(hSf:S∉fp)(val:Nat->bp)(hval:∀i v,P i v->∃t,v= .str (val i) t)(hb:n+1<scanBound):
  ∀(k i:Nat) (s:ba),n-i=k->i<=n->St i s->s.heap.SetOf (strKind prog w) S (λk'=>(met val i).any (·==k')) (met val i).length →
   (∀s',Moved (S::wr) G s s'->s'.heap.SetOf (strKind prog w) S (λk'=>(met val n).any (·==k')) (met val n).length->R (.ok (.ret .none)) s') →
   codeAny (model prog w) A (.builtin "set.update.loop" ⟨[.ref S,.ref I],[]⟩) R s:=by
 have hSw:S∉wr:=λh=>hSf (W.sub _ h)
 have hsub:∀b∈wr,b∈S::wr:=λb hb=>ce _ hb
 intro k
 induction k with
 |zero =>
  intro i s hk hi hst hS hR
  have hin:i=n:=by omega
  subst hin
  refine oo PyProof.Rows.F.entry_set_update_loop ?_
  rw[ma pz _]
  show b_ _ A.in1 (pyNext (.ref I) >>= _) _ _ s
  refine a0 (W.done s _ _ hst λs' hm=>?_)
  show b_ _ A.in1 (ret Value.none) _ _ s'
  exact bi (hR s' (hm.mono hsub) (by
   obtain⟨o,es,ep,t,ho,rest⟩:=hS
   exact⟨o,es,ep,t,hm.heap S _ hSw ho,rest⟩))
 |succ k ih =>
  intro i s hk hi hst hS hR
  have hlt:i<n:=by omega
  refine oo PyProof.Rows.F.entry_set_update_loop ?_
  rw[ma pz _]
  show b_ _ A.in1 (pyNext (.ref I) >>= _) _ _ s
  refine a0 (W.item i s _ _ hlt hst λv s' hP abh hm=>?_)
  obtain⟨t,rfl⟩:=hval i v hP
  have hS':s'.heap.SetOf (strKind prog w) S (λk'=>(met val i).any (·==k')) (met val i).length:=by
   obtain⟨o,es,ep,tb,ho,rest⟩:=hS
   exact⟨o,es,ep,tb,hm.heap S _ hSw ho,rest⟩
  show b_ _ A.in1 (holding [Value.str (val i) t] (setAdd S (.str (val i) t)) >>= _) _ _ s'
  refine a0 (iq ?_)
  unfold setAdd
  refine iq ?_
  refine a0 ((strKind prog w).pyHash (k:=val i) (strKind_is _ _ _ _) ?_)
  have hroom:(met val i).length+1<scanBound:=by have:=sX val i;omega
  refine wpAny_setAddHashed_of (knd:=strKind prog w) (s:={ s' with toks:=s'.toks+1 }) (strKind_is _ _ _ _) rfl hS' hroom λh' QX hS2=>?_
  have hSi:h'.SetOf (strKind prog w) S (λk'=>(met val (i+1)).any (·==k')) (met val (i+1)).length :=
   SetOf_congr hS2 (λk'=>by rw[rF,uL]) (by rw[rF,qN])
  refine bi ⟨qr pz _,ih (i+1) _ (by omega) hlt (W.frame _ s' _ _ abh (g_ _) λb hb o e=>?_) hSi λs'' abt abK=>?_⟩
  ·rw[QX.2 b (λh:b=S=>hSf (by rw[←h];exact hb))];exact e
  ·refine hR s'' (Moved.trans W.gtrans ((hm.mono hsub).then_heap (g_ _) λb o hb e=>?_) abt) abK
   rw[QX.2 b (λh:b=S=>hb (by rw[h];exact cr))];exact e
end
noncomputable def nh(x:bp)(i:Nat):bp:=⟨#[x.cps.getD i 0]⟩
theorem Jl{prog:bn}{w:df}{A:eR}(hh:A.handled=none)(I:a5)(x:bp)(t:Do):
  Walks prog w A I [I] [I] x.cps.size (λi v=>∃u,v= .str (nh x i) u) (λi h=>h.IsStrIter I (strIterType x) x t i) where
 sub:=λ_ hb=>hb
 frame:=λ_ _ _ st hk=>let ⟨o,ho,r⟩:=st;⟨o,hk I (by simp) o ho,r⟩
 item:=λi s Q E hi st hQ=>by
  refine qK st (k:=x.cps.getD i 0) (by simp[hi]) λh' Km hs'=>?_
  exact hQ _ h' (s.toks+1) ⟨_,rfl⟩ Km λb o hb e=>hs'.extBut b o (λh=>hb (by simp[h])) e
 done:=λs Q E st hQ=>rq hh st (by simp) λh' he'=>hQ h' s.toks λb o hb e=>he' b o (λh=>hb (by simp[h])) e
 self:=λ_ _ _ _ st hQ=>rz st hQ
theorem BG:isSubtype (.type "str") (.type "set")=pure false:=by rw[isSubtype_type];kernel_rfl
theorem tN:isSubtype (.type "str") (.type "frozenset")=pure false:=by rw[isSubtype_type];kernel_rfl
section
variable{prog:bn}{w:df}{A:eR}{E:a9->ba->Prop}{s:ba}
set_option maxHeartbeats 3200000 in
theorem CA{x:bp}{t:Do}{Q:a9->ba->Prop}(hh:A.handled=none)(hb:x.cps.size+1<scanBound)
  (h:∀(h':eJ) (tk:Nat),h'.SetOf (strKind prog w) s.heap.objs.size (λk'=>(met (nh x) x.cps.size).any (·==k')) (met (nh x) x.cps.size).length →
   (∀b o,b<s.heap.objs.size->s.heap.get? b=some o->h'.get? b=some o)->Q (.ref s.heap.objs.size) { s with heap:=h',toks:=tk }) :
  b_ (model prog w) A (call (.type "set") [.str x t]) Q E s:=by
 obtain⟨c,tl,ae5⟩:=F.called_set.mro
 have hmade:=F.called_set.made
 have hsub:=F.called_set.sub
 refine v0 (codeAny_of_tree ?_)
 show b_ _ _ (callAny (.type "set") _) _ _ _
 refine bi ⟨Code.quiet_builtin _ (by decide +kernel),oo F.entry_type_call ?_⟩
 rw[Around.under_plain (weight_type_call_type "set" [.str x t] []) rfl]
 have h1:=F.called_set.notType
 have h2:=F.called_set.canCreate
 have hct:=F.typeCall_set_1 (.str x t)
 repeat (any_goals (first|assumption|wp_step))
 refine tz (code_set_new_1 (.str x t) (E:=E) (Q₁:=λobj s₁=>∃led:Bool,obj= .ref s.heap.objs.size/\s₁={ s with heap:=s.heap.push { cls:=.type "set",dict:=none,data:=.set #[] 0 (.fresh 0 0 led) } }) λled=>⟨led,rfl,rfl⟩) λr s₁ hr=>?_
 cases r with
 |error e=>exact hr
 |ok fl =>
  cases fl with
  |ret obj =>
   obtain⟨led,rfl,rfl⟩:=hr
   have hS:(s.heap.push { cls:=.type "set",dict:=none,data:=.set #[] 0 (.fresh 0 0 led) }).get? s.heap.objs.size=some { cls:=.type "set",dict:=none,data:=.set #[] 0 (.fresh 0 0 led) }:=bo _ rfl
   have hT:Shared.TypeIs { s with heap:=s.heap.push { cls:=.type "set",dict:=none,data:=.set #[] 0 (.fresh 0 0 led) } } (.ref s.heap.objs.size) "set" :=⟨_,hS,rfl⟩
   have hli:=F.called_set.init.lookup
   have hbi:=F.called_set.init.bind (.ref s.heap.objs.size)
   repeat (any_goals (first|assumption|wp_step))
   refine tz (wE (R:=wants (λr s₂=>r= .none/\∃h' tk,s₂={ s with heap:=h',toks:=tk } ∧
     h'.SetOf (strKind prog w) s.heap.objs.size (λk'=>(met (nh x) x.cps.size).any (·==k')) (met (nh x) x.cps.size).length ∧
     (∀b o,b<s.heap.objs.size->s.heap.get? b=some o->h'.get? b=some o)) E) F.called_set.init.plain F.entry_set_init (check_set_init_1 hT ?_)) λr₂ s₂ Na=>?_
   ·have aeV:=BG
    have aeW:=tN
    have hne:(Value.type "str" ==Value.type "dict")=false:=by decide
    unfold Builtin.«set.__init__» noKeywords Builtin.Frozenset.updateFrom
    generalize hPI:pyIter=PI
    wp_walk
    subst hPI
    refine y0 ?_
    refine a0 (wpAny_runValue ?_)
    have hh3:A.in1.in1.in1.handled=none:=by simp[hh]
    have hSf:s.heap.objs.size∉[(s.heap.push { cls:=.type "set",dict:=none,data:=.set #[] 0 (.fresh 0 0 led) }).objs.size]:=by
     rw[l_];simp only[cq]
     exact eA (k_ _)
    refine BL ((Jl hh3 _ x t).toS) s.heap.objs.size hSf (nh x) (λi v hv=>hv) hb (x.cps.size-0) 0 _ (by omega) (d0 _)
     ⟨_,bo _ rfl,rfl,rfl⟩ ?hS0 ?hR
    case hS0 =>
     have hget:((s.heap.push { cls:=.type "set",dict:=none,data:=.set #[] 0 (.fresh 0 0 led) }).push { cls:=.type (strIterType x),data:=.fields #[.str x t,.int 0 0] }).get? s.heap.objs.size
       = some { cls:=.type "set",dict:=none,data:=.set #[] 0 (.fresh 0 0 led) }:=a8 _ hS
     exact SetOf_congr ((setObjOf_fresh (knd:=strKind prog w) led).setOf hget (by unfold scanBound;omega)) (λ_=>rfl) rfl
    case hR =>
     intro s' hm hS'
     obtain⟨h',g',d',tk',os'⟩:=s'
     have eg:g'=s.gens:=hm.gens
     have ed:d'=s.drawn:=hm.drawn
     have eo:os'=s.os:=hm.os
     subst eg;subst ed;subst eo
     show b_ _ _ _ _ _ _
     refine bi ?_
     show b_ _ _ (ret Value.none) _ _ _
     refine bi ⟨rfl,h',tk',rfl,hS',λb o hb e=>?_⟩
     have hb1:b≠s.heap.objs.size:=eA hb
     have hb2:b≠(s.heap.push { cls:=.type "set",dict:=none,data:=.set #[] 0 (.fresh 0 0 led) }).objs.size:=by
      rw[l_];exact eA (Nat.lt_succ_of_lt hb)
     exact hm.heap b o (by simp only[c_,cq,hZ,or_false,not_or];exact⟨hb1,hb2⟩) (a8 _ (a8 _ e))
   ·cases r₂ with
    |error e=>exact Na
    |ok Xb =>
     cases Xb with
     |ret r =>
      obtain⟨rfl,h',tk,rfl,hS',hk'⟩:=Na
      repeat (any_goals (first|assumption|wp_step))
      exact h _ _ hS' hk'
     |_=>exact Na.elim
  |_=>exact hr.elim
end
end
section
noncomputable def Vs(P:bn)(w:df)(a:a5)(n:Nat):HO:=.ext λh=>∃S,h.SetOf (strKind P w) a S n
section
variable{X:Cx}
theorem KI(hc:X.calm=true):pY X (.type "set") (λxs H Q=>∃x,xs=[.str x]/\x.cps.size+1<scanBound/\∀p,H p=none->Q (.ref p) (upd H p (Vs X.prog X.w p (met (nh x) x.cps.size).length))):=by
 intro pins s σ H xs us Q I r h
 obtain⟨x,rfl,hb,q⟩:=h
 obtain⟨u,rfl,t,rfl⟩:=vals1 r
 refine TK.bP (a7 s.toks) (CA (I.ok.hd hc) hb λh' tk hS kk hup=>?_)
 have hn:H s.heap.objs.size=none:=I.fresh
 have k:∀b o,s.heap.get? b=some o->h'.get? b=some o:=λb o e=>kk b o (cm e) e
 refine⟨.ref s.heap.objs.size,_,I.laid (t':=tk) k (a7 _) ?_,rfl,q _ hn⟩
 refine⟨⟨_,hS⟩,?_,λh1 h2 p e=>?_⟩
 ·obtain⟨o,_,_,_,ho,_⟩:=hS
  exact⟨o,ho⟩
 ·obtain⟨S,o,es,ep,t,ho,rest⟩:=p
  exact⟨S,o,es,ep,t,e o ho,rest⟩
theorem Aj:pY X (.builtin "len") (λxs H Q=>∃p n,xs=[.ref p]/\H p=some (Vs X.prog X.w p n)/\Q (.int (n:Nat)) H):=by
 intro pins s σ H xs us Q I r h
 obtain⟨p,n,rfl,hp,q⟩:=h
 obtain⟨u,rfl,ru⟩:=vals1 r
 cases ru
 obtain⟨⟨S,o,es,ep,t,ho,hex,hd,_,_,hz,hf,hn⟩,_⟩:=I.hok p _ hp
 subst hn
 have:es.size<4096:=hz
 exact call_len_set ho hex hd hf (by omega) ⟨.int es.size,H,I.tok _,⟨_,rfl⟩,q⟩
noncomputable def Bg(i:Int):Prop:=i.natAbs<2 ^ 9000
theorem Bg.log{i:Int}(h:Bg i):i.natAbs.log2<9000:=by
 rcases Nat.eq_zero_or_pos i.natAbs with h0|hp
 ·rw[h0];decide
 ·exact(Nat.log2_lt (by omega)).mpr h
theorem Bg.bits{i:Int}(h:Bg i):Builtin.Int.intBits i<=2 ^ 20:=by
 have:=h.log
 unfold Builtin.Int.intBits
 split
 ·exact d0 _
 ·exact bj (show i.natAbs.log2+1<=9000 by omega) (by decide)
theorem O0:uh X (binaryOp .Mult) (rI (λi j=>Bg i/\Bg j) λi j=>.int (i*j)):=VE λ_ _ _ _ _ _ _ hc q=>mul_int q (IntMulOk.of_bits hc.1.bits hc.2.bits)
end
end
section
noncomputable def YE(K:PySem.W.Frag)(c:Cp):It :=
 ⟨λi H=>∃xs x,c.at K H xs/\xs[i]? =some x,λi H x H'=>H'=H/\∀xs,c.at K H xs->xs[i]? =some x,λi H=>∃xs,c.at K H xs/\xs.length<=i⟩
theorem Turn.conv{P:bn}{w:df}{K:PySem.W.Frag}{tg:Expr}{J J':It}{fp:List a5}{it:a5}{tn:Nat->eJ->Prop}(T:Turn P w K tg J fp it tn)
  (hg:∀i H,J'.go i H->J.go i H) (hy:∀i H x H',J.AE i H x H'->J'.AE i H x H') (hs:∀i H,J'.stop i H->J.stop i H):Turn P w K tg J' fp it tn where
 mem:=T.mem
 obj:=T.obj
 keep:=T.keep
 item:=λX hP hw hK hc i pins s σ H E I hf st g=>h_ (T.item X hP hw hK hc i pins s σ H E I hf st (hg i H g)) (λr s1 ⟨u,hr,h⟩=>⟨u,hr,h_ h (λ_ s2 ⟨x,H',I',r',y,t',n'⟩=>⟨x,H',I',r',hy i H x H' y,t',n'⟩) λ_ _ z=>z⟩) λ_ _ z=>z
 done:=λX hP hw hK hc i pins s σ H E I hf st g=>T.done X hP hw hK hc i pins s σ H E I hf st (hs i H g)
 self:=T.self
theorem signs_length(x:bp):(dR x).length=x.cps.size:=by simp[dR]
theorem signs_at{x:bp}{i k:Nat}(h:x.cps[i]? =some k):(dR x)[i]? =some (.str ⟨#[k]⟩):=by
 unfold dR
 rw[eC]
 have e:x.cps.toList[i]? =some k:=by simpa using h
 rw[e]
 rfl
section
variable{X:Cx}{tg:Expr}
noncomputable def iCp(K:PySem.W.Frag)(tl:TE):TI:=λσ H R=>tl σ H λv H1=>∃c xs,v=Cp.val c/\c.at K H1 xs/\R (YE K c) H1
theorem AY{l:Expr}{tl:TE}(hl:PE X l tl):PI X tg l (iCp X.K tl):=by
 intro pins s σ H R I h
 refine dG (hl pins s σ H _ I h) λv s1 ⟨y,H1,I1,r1,q1⟩=>?_
 obtain⟨c,xs,e,hq,q⟩:=q1
 subst e
 have fp1:∀b∈[s1.heap.objs.size],qR X pins H1 b:=λb hb=>by
  have e:b=s1.heap.objs.size:=by simpa using hb
  subst e
  exact I1.uU (a7 _) (I1.hok.fresh (a7 _))
 cases c with
 |lst a =>
  cases (show v=Value.ref a from r1)
  obtain⟨its,rv,p,hz⟩:=I1.list hq
  refine pi p.isList ?_
  exact⟨s1.heap.objs.size,[s1.heap.objs.size],_,_,H1,rfl,I1.kept (t':=s1.toks) λb o e=>a8 _ e,AJ a _,⟨_,bo _ rfl,rfl,rfl⟩,fp1,q⟩
 |tup a =>
  cases (show v=Value.ref a from r1)
  obtain⟨its,rv,p,hz⟩:=I1.tuple hq
  refine rc (show s1.heap.IsTuple a its.toArray from p) ?_
  exact⟨s1.heap.objs.size,[s1.heap.objs.size],_,_,H1,rfl,I1.kept (t':=s1.toks) λb o e=>a8 _ e,yb a _,⟨_,bo _ rfl,rfl,rfl⟩,fp1,q⟩
 |txt x =>
  obtain⟨t,rfl⟩:=(show ∃t,v=Value.str x t from r1)
  refine y0 ?_
  refine⟨s1.heap.objs.size,[s1.heap.objs.size],_,_,H1,rfl,I1.kept (t':=s1.toks) λb o e=>a8 _ e,(Dt x t _).conv ?_ ?_ ?_,⟨_,bo _ rfl,rfl,rfl⟩,fp1,q⟩
  ·rintro i H ⟨xs,y,hx,e⟩
   rw[show xs=dR x from hx]at e
   have:=(bd.mp e).1
   rw[signs_length]at this
   exact this
  ·rintro i H y H' ⟨rfl,k,e,rfl⟩
   refine⟨rfl,λxs hx=>?_⟩
   rw[show xs=dR x from hx]
   exact signs_at e
  ·rintro i H ⟨xs,hx,e⟩
   rw[show xs=dR x from hx,signs_length]at e
   exact e
theorem G7{K:PySem.W.Frag}{c:Cp}{xs:List V}{g:TG}{tb:TS}{D:Ends}{σ:St}{H:Hp}(Pv:Nat->St->Hp->Prop)(h0:Pv 0 σ H)(hl:∀i σ H,i<=xs.length->Pv i σ H->c.at K H xs)
  (hs:∀i x σ H,xs[i]? =some x->Pv i σ H->g x σ H λσ2 H2=>tb { D with nx:=Pv (i+1),ct:=Pv (i+1),bk:=D.nx } σ2 H2) (hd:∀ σ H,Pv xs.length σ H->D.nx σ H) :
  ∃W:Nat->Nat->St->Hp->Prop,(∃m,W 0 m σ H)/\∀i m σ H,W i m σ H →
   ((YE K c).stop i H/\D.nx σ H)\/((YE K c).go i H/\∃N:St->Hp->Prop,(∀ σ' H',N σ' H'->∃m',m'<m/\W (i+1) m' σ' H')/\∀x H',(YE K c).AE i H x H'->g x σ H' λσ2 H2=>tb { D with nx:=N,ct:=N,bk:=D.nx } σ2 H2):=by
 refine⟨λi m σ H=>m=xs.length-i/\i<=xs.length/\Pv i σ H,⟨xs.length,by simp,d0 _,h0⟩,?_⟩
 rintro i m σ H ⟨rfl,hi,p⟩
 have q:=hl i σ H hi p
 by_cases hlt:i<xs.length
 ·refine .inr ⟨⟨xs,xs[i],q,by simp[hlt]⟩,Pv (i+1),λσ' H' p'=>⟨xs.length-(i+1),by omega,rfl,hlt,p'⟩,λx H' y=>?_⟩
  obtain⟨e,y⟩:=y
  subst e
  exact hs i x σ _ (y xs q) p
 ·have e:i=xs.length:=by omega
  subst e
  exact .inl ⟨⟨xs,q,a7 _⟩,hd σ H p⟩
end
end
end L2
namespace rW
noncomputable def lo(a b:Int):Int×Int:=(a / (f_ a b:Int),b / (f_ a b:Int))
theorem qA(a:Int){b:Int}(hb:0<b):0<(f_ a b:Int):=by
 have:0<f_ a b:=Int.gcd_pos_of_ne_zero_right a (by omega)
 omega
theorem G3(a:Int){b:Int}(hb:0<b):(f_ a b:Int)<=b:=Int.le_of_dvd hb (px ..)
theorem MR(a:Int){b:Int}(hb:0<b):0<(lo a b).2 :=
 r_ hb (md (qA a hb)) (px ..)
theorem lo_le(a:Int){b:Int}(hb:0<b):(lo a b).2<=b:=by
 have h:=qA a hb
 exact Int.ediv_le_self _ (md hb)
theorem MS(a:Int){b:Int}(hb:0<b):f_ (lo a b).1 (lo a b).2=1 :=
 Int.gcd_ediv_gcd_ediv_gcd (Int.gcd_pos_of_ne_zero_right a (by omega))
theorem GX(a b:Int):(lo a b).1*(f_ a b:Int)=a:=Int.ediv_mul_cancel (At ..)
theorem MQ(a b:Int):(lo a b).2*(f_ a b:Int)=b:=Int.ediv_mul_cancel (px ..)
theorem MT(a b:Int):(lo a b).1*b=a*(lo a b).2:=by
 have h1:=GX a b
 have h2:=MQ a b
 generalize (lo a b).1=x at *
 generalize (lo a b).2=y at *
 generalize (f_ a b:Int)=g at *
 rw[←h1,←h2,Int.mul_assoc,Int.mul_comm y g]
theorem Nk(a b:Int):f_ b (a % b)=f_ a b:=by
 have e:a=a % b+b*(a / b):=(Int.emod_add_mul_ediv a b).symm
 have h:f_ (a % b+b*(a / b)) b=f_ (a % b) b:=Int.gcd_add_mul_left_left ..
 rw[←e]at h
 rw[h,Int.gcd_comm]
theorem PN(a:Int):(if a<0 then -a else a)=(f_ a 0:Int):=by
 rw[Int.gcd_zero_right]
 split<;>omega
end rW
namespace GP
open PySem L2 rW
section
noncomputable abbrev bT:=Int×Int
noncomputable def k9(f:bT):bT:=lo f.1 f.2
theorem aj.upd{H:Hp}{q:a5}{o:HO}(h:H q=none):aj H (L2.upd H q o):=λb u e=>by rw[au (aN e h)];exact e
theorem aj.at{H H2:Hp}{t:a5}{o:HO}(e:aj H H2)(h:H t=none):aj H (L2.upd H2 t o):=λb u q=>by rw[au (aN q h)];exact e b u q
theorem aj.tup{K:PySem.W.Frag}{H H':Hp}{a:a5}{xs:List V}(e:aj H H')(h:cE K H a xs):cE K H' a xs:=by
 rcases h with(h|⟨o,h⟩)|h
 ·exact .inl (.inl (e _ _ h))
 ·exact .inl (.inr ⟨o,e _ _ h⟩)
 ·exact .inr h
theorem aj.cp{K:PySem.W.Frag}{H H':Hp}{c:Cp}{xs:List V}(e:aj H H')(h:c.at K H xs):c.at K H' xs:=by
 cases c with
 |lst a=>exact aj.seq e h
 |tup a=>exact aj.tup e h
 |txt x=>exact h
noncomputable def jD(K:PySem.W.Frag)(H:Hp)(p:a5)(f:bT):Prop:=cE K H p [.int f.1,.int f.2]
theorem jD.same{K:PySem.W.Frag}{H H':Hp}{p:a5}{f:bT}(e:aj H H')(h:jD K H p f):jD K H' p f:=aj.tup e h
noncomputable def lE(K:PySem.W.Frag)(H:Hp)(c:Cp)(fs:List bT):Prop:=∃ps:List a5,c.at K H (ps.map V.ref)/\Paired (jD K H) ps fs
theorem lE.same{K:PySem.W.Frag}{H H':Hp}{c:Cp}{fs:List bT}(e:aj H H')(h:lE K H c fs):lE K H' c fs:=by
 obtain⟨ps,a,b⟩:=h
 exact⟨ps,aj.cp e a,Paired.g8 b λ_ _ z=>z.same e⟩
noncomputable def Rg(K:PySem.W.Frag)(H:Hp)(c:Cp)(rows:List (List bT)):Prop:=∃cs:List Cp,c.at K H (cs.map Cp.val)/\Paired (lE K H) cs rows
theorem Paired.at{α β:Type}{F:α->β->Prop}:∀{l₁:List α} {l₂:List β} {i:Nat} {x:α},Paired F l₁ l₂->l₁[i]? =some x->∃y,l₂[i]? =some y/\F x y
 |_,_,i,_,.nil,e=>by simp at e
 |_,_,0,_,.cons r _,e=>by simp at e;subst e;exact⟨_,rfl,r⟩
 |_,_,i+1,x,.cons _ t,e=>by
  obtain⟨y,h1,h2⟩:=Paired.at (i:=i) (x:=x) t (by simpa using e)
  exact⟨y,by simpa using h1,h2⟩
theorem Paired.len{α β:Type}{F:α->β->Prop}{l₁:List α}{l₂:List β}(h:Paired F l₁ l₂):l₁.length=l₂.length:=Paired.length h
theorem Paired.snoc{α β:Type}{F:α->β->Prop}{x:α}{y:β}:∀{l₁:List α} {l₂:List β},Paired F l₁ l₂->F x y->Paired F (l₁++[x]) (l₂++[y])
 |_,_,.nil,h=>.cons h .nil
 |_,_,.cons r t,h=>.cons r (Paired.snoc t h)
theorem take_snoc{α:Type}{l:List α}{i:Nat}{x:α}(h:l[i]? =some x):l.take (i+1)=l.take i++[x]:=by
 rw[List.take_add_one,h];rfl
theorem sY{α β:Type}{l:List α}{f:α->β}{i:Nat}{x:α}(h:l[i]? =some x):(l.map f).take (i+1)=(l.map f).take i++[f x]:=take_snoc (by rw[eC,h];rfl)
theorem Cm{i j:Int}{A B:Prop}(h1:i≠j->A)(h2:i=j->B):if(!decide (V.int i=V.int j))=true then A else B:=by
 by_cases h:i=j
 ·rw[nN,if_neg (by simp[h])];exact h2 h
 ·rw[nN,if_pos (by simp[h])];exact h1 h
theorem rK{i j:Int}{A B:Prop}(h1:i=j->A)(h2:i≠j->B):if(decide (V.int i=V.int j))=true then A else B:=by
 by_cases h:i=j
 ·rw[nN,if_pos (by simp[h])];exact h1 h
 ·rw[nN,if_neg (by simp[h])];exact h2 h
theorem cK{p:Prop}[Decidable p]{A B:Prop}(h1:p->A)(h2:¬p->B):if(decide p)=true then A else B:=by
 by_cases h:p
 ·rw[if_pos (decide_eq_true h)];exact h1 h
 ·rw[if_neg (by rw[decide_eq_false h];exact cw)];exact h2 h
theorem IF{A B:Prop}(h:A):if(!false)=true then A else B:=by
 rw[if_pos (show(!false)=true from rfl)];exact h
theorem wF{A B:Prop}(h:B):if(!true)=true then A else B:=by
 rw[if_neg (by decide)];exact h
structure Dn(K:PySem.W.Frag)(mg:bp->Option a9)(x:bp)(st:hV)(ps:List bp)(f:a5)(fd:dv):Prop where
 fn:FH K x x st f fd
 b:Binds K fd ps []
 m:mg x=some (.ref f)
theorem ae{X:Cx}{k n:Nat}{f:a5}{fd:dv}{ps:List bp}{sp:Sp}{x:bp}{st:hV}{e:Expr}{es:List Expr}{t:TA}{p pos:sx}(F:aE X.prog X.w X.K X.mg X.base bS k f fd ps sp)(hr:jL n X.A)(D:Dn X.K X.mg x st ps f fd)(ha:PA X (e::es) t)(hg:Gl X x:=by exact rfl)(hn:k<=n:=by decide)(hdb:(x==("__debug__" :bp))=false:=by decide)(he:eP (e::es) X.env=(false,eval e X.env)::eP es X.env:=by rfl)(hpl:(backTo pos (eP es X.env)).any (·.1)=false:=by rfl):PE X (.Call (.Name x p) (e::es) [] pos) (Vi sp [] E0 t):=az F (hr.mono hn) hg D.m D.fn.kp D.b .nil aL ha hdb he hpl
theorem ag{X:Cx}{x:bp}{e:Expr}{te:TE}{pos pos':sx}(i:Nat)(hN:X.N.Nodup)(he:PE X e te)(hi:X.N[i]? =some x:=by rfl)(hx:Loc X.env.scope x:=by exact Or.inl rfl)(hs:swapsWith e (some (.Name x pos')) pos.line X.env=pure false:=by rfl)(hf:X.fn x=true\/X.env.scope.names.lookup x=some .local:=by first|exact .inl rfl|exact .inr rfl|assumption):PS X (.Assign [.Name x pos'] e pos) (SK te (Nm i)):=aA hN hi hx he hs hf
theorem al{X:Cx}{x:bp}{pos:sx}(i:Nat)(hN:X.N.Nodup)(hi:X.N[i]? =some x:=by rfl)(hx:Loc X.env.scope x:=by exact Or.inl rfl)(hf:X.fn x=true\/X.env.scope.names.lookup x=some .local:=by first|exact .inl rfl|exact .inr rfl|assumption):PG X (.Name x pos) (Nm i):=aM hN hi hx hf
noncomputable def HZ:Sp:=λvs H Q _=>∃a b:Int,vs=[.int a,.int b]/\0<=b/\Q (.int (f_ a b)) H
noncomputable def lm(a b:Int):Int:=a / (f_ a b:Int)*b
noncomputable def Qs(K:PySem.W.Frag):Sp:=λvs H Q _=>∃(p:a5) (f:bT),vs=[.ref p]/\jD K H p f/\0<f.2/\f.2<1073741824 ∧
 ∀q,H q=none->Q (.ref q) (L2.upd H q (.tup [.int (k9 f).1,.int (k9 f).2]))
noncomputable def Fp(f:bT):Prop:=1<=f.2/\f.2<1073741824
noncomputable def tO(K:PySem.W.Frag):Sp:=λvs H Q _=>∃(p:a5) (f:bT),vs=[.ref p]/\jD K H p f/\Fp f ∧
 ∀q,H q=none->Q (.ref q) (L2.upd H q (.tup [.int (k9 f).1,.int (k9 f).2]))
noncomputable def wk(K:PySem.W.Frag):Sp:=λvs H Q _=>∃(c:Cp) (fs:List bT),vs=[c.val]/\lE K H c fs/\(∀f∈fs,Fp f)/\fs.length<=1000 ∧
 ∀q H',aj H H'->H q=none->lE K H' (.tup q) (fs.map k9)->Q (.ref q) H'
noncomputable def aX(o m:Int)(rows:List (List bT)):Int:=(rows.flatten.map (·.2)).foldl lm (lm o m)
noncomputable def mT(fo fm:bT)(rows:List (List bT)):List Int:=fo.2::fm.2::rows.flatten.map (·.2)
noncomputable def DL(K:PySem.W.Frag):Sp:=λvs H Q _=>∃(P o m:a5) (rows:List (List bT)) (fo fm:bT),vs=[.ref P,.ref o,.ref m]/\Rg K H (.tup P) rows/\jD K H o fo/\jD K H m fm ∧
 rows.length<=12/\(∀r∈rows,r.length<=12)/\∀l H',aj H H'->H l=none->H' l=some (.lst ((mT fo fm rows).map V.int))->Q (.ref l) H'
noncomputable def sJ(p:List Int×Int)(b:Int):List Int×Int:=if b / (f_ p.2 b:Int)>1 then(p.1++[b / (f_ p.2 b:Int)],p.2*(b / (f_ p.2 b:Int)))else p
noncomputable def pU(ns:List Int):List Int×Int:=ns.foldl sJ ([],1)
noncomputable def pH(n:Int):Prop:=0<n/\n<1073741824
noncomputable def AO(K:PySem.W.Frag):Sp:=λvs H Q _=>∃(l:a5) (ns:List Int),vs=[.ref l]/\cy K H l (ns.map V.int)/\ns.length<=1000/\(∀n∈ns,pH n) ∧
 ∀q H',aj H H'->H q=none->H' q=some (.lst ((pU ns).1.map V.int))->Q (.ref q) H'
noncomputable def sU(fs:List Int):Int:=fs.foldl (·*·) 1
noncomputable def LO(K:PySem.W.Frag):Sp:=λvs H Q _=>∃(l:a5) (fs:List Int),vs=[.ref l]/\cy K H l (fs.map V.int)/\(∀n∈fs,pH n)/\Q (.int (sU fs)) H
noncomputable def yg(K:PySem.W.Frag):Sp:=λvs H Q _=>∃(p:a5) (f:bT) (u:Int),vs=[.ref p,.int u]/\jD K H p f/\Fp f/\Bg f.1/\Bg (u / f.2)/\Q (.int (f.1*(u / f.2))) H
theorem Tj{b:Int}:lm 1 b=b:=by
 unfold lm
 rw[Int.gcd_one_left]
 simp
theorem Tn{a b:Int}:lm a b=a*(b / (f_ a b:Int)):=by
 unfold lm
 rw[←Int.mul_ediv_assoc' b (At a b),Int.mul_ediv_assoc a (px a b)]
structure FE(p:List Int×Int)(ns:List Int):Prop where
 small:∀f∈p.1,pH f
 prod:sU p.1=p.2
 unit:p.2=ns.foldl lm 1
 pos:0<p.2
 len:p.1.length<=ns.length
theorem tT(fs:List Int)(f:Int):sU (fs++[f])=sU fs*f:=by
 unfold sU
 rw[wv]
 rfl
theorem IT{u b:Int}(hb:pH b):0<b / (f_ u b:Int)/\b / (f_ u b:Int)<=b:=by
 have g1:=qA u hb.1
 exact⟨r_ hb.1 (md g1) (px u b),Int.ediv_le_self _ (md hb.1)⟩
theorem FE.step{p:List Int×Int}{ns:List Int}{b:Int}(h:FE p ns)(hb:pH b):FE (sJ p b) (ns++[b]):=by
 obtain⟨d1,d2⟩:=IT (u:=p.2) hb
 have e:(ns++[b]).foldl lm 1=p.2*(b / (f_ p.2 b:Int)):=by
  rw[wv,←h.unit]
  exact Tn
 unfold sJ
 split
 ·next h1 =>
  refine⟨λf hf=>?_,?_,e.symm,Int.mul_pos h.pos d1,?_⟩
  ·rcases e_.mp hf with hf|hf
   ·exact h.small f hf
   ·rw[cq.mp hf]
    exact⟨d1,Int.lt_of_le_of_lt d2 hb.2⟩
  ·rw[tT,h.prod]
  ·rw[cn,cn]
   exact Nat.add_le_add_right h.len 1
 ·next h1 =>
  have e1:b / (f_ p.2 b:Int)=1:=by omega
  refine⟨h.small,h.prod,?_,h.pos,?_⟩
  ·rw[e,e1,Int.mul_one]
  ·rw[cn]
   exact bj h.len (km _ _)
theorem yZ(ns:List Int)(b:Int):pU (ns++[b])=sJ (pU ns) b:=by
 unfold pU
 rw[wv]
 rfl
theorem vX{ns:List Int}(h:∀n∈ns,pH n):∀i,i<=ns.length->FE (pU (ns.take i)) (ns.take i)
 | 0,_=>by
  rw[List.take_zero]
  exact⟨λf hf=>(by cases hf),rfl,rfl,(by decide),a7 _⟩
 |i+1,hi=>by
  have e:=a6 (l:=ns) (i:=i) hi
  rw[take_snoc e,yZ]
  exact(vX h i (kz hi)).step (h _ (kb hi))
theorem PY{ns:List Int}(h:∀n∈ns,pH n):FE (pU ns) ns:=by
 have z:=vX h ns.length (a7 _)
 rw[u_]at z
 exact z
theorem Ds(fo fm:bT)(rows:List (List bT)):(mT fo fm rows).foldl lm 1=aX fo.2 fm.2 rows:=by
 unfold mT aX
 rw[tf,tf,Tj]
end
section
structure Dm(K:PySem.W.Frag)(x qual:bp)(st:hV)(ps:List bp)(f:a5)(fd:dv):Prop where
 fn:FH K x qual st f fd
 b:Binds K fd ps []
noncomputable def Dat(H H':Hp):Prop:=∀b u,(∀C dx fs,u≠HO.ins C dx fs)->H b=some u->H' b=some u
theorem Dat.of{H H':Hp}(e:aj H H'):Dat H H':=λb u _ h=>e b u h
theorem Dat.trans{H H' N4:Hp}(e:Dat H H')(f:Dat H' N4):Dat H N4:=λb u n h=>f b u n (e b u n h)
theorem Dat.set{H:Hp}{x C dx:a5}{fs fs':List (bp×V)}(h:H x=some (.ins C dx fs)):Dat H (L2.upd H x (.ins C dx fs')):=λb u n e=>by
 rw[au (λz=>by subst z;rw[h]at e;cases e;exact n _ _ _ rfl)];exact e
theorem Dat.tup{K:PySem.W.Frag}{H H':Hp}{a:a5}{xs:List V}(e:Dat H H')(h:cE K H a xs):cE K H' a xs:=by
 rcases h with(h|⟨o,h⟩)|h
 ·exact .inl (.inl (e _ _ (λ_ _ _ z=>by cases z) h))
 ·exact .inl (.inr ⟨o,e _ _ (λ_ _ _ z=>by cases z) h⟩)
 ·exact .inr h
theorem Dat.lst{K:PySem.W.Frag}{H H':Hp}{a:a5}{xs:List V}(e:Dat H H')(h:cy K H a xs):cy K H' a xs:=by
 rcases h with(h|⟨o,h⟩)|h
 ·exact .inl (.inl (e _ _ (λ_ _ _ z=>by cases z) h))
 ·exact .inl (.inr ⟨o,e _ _ (λ_ _ _ z=>by cases z) h⟩)
 ·exact .inr h
theorem Dat.cp{K:PySem.W.Frag}{H H':Hp}{c:Cp}{xs:List V}(e:Dat H H')(h:c.at K H xs):c.at K H' xs:=by
 cases c with
 |lst a=>exact Dat.lst e h
 |tup a=>exact Dat.tup e h
 |txt x=>exact h
theorem jD.dat{K:PySem.W.Frag}{H H':Hp}{p:a5}{f:bT}(e:Dat H H')(h:jD K H p f):jD K H' p f:=Dat.tup e h
theorem lE.dat{K:PySem.W.Frag}{H H':Hp}{c:Cp}{fs:List bT}(e:Dat H H')(h:lE K H c fs):lE K H' c fs:=by
 obtain⟨ps,a,b⟩:=h
 exact⟨ps,Dat.cp e a,Paired.g8 b λ_ _ z=>z.dat e⟩
noncomputable def CL(K:PySem.W.Frag)(H:Hp)(P:a5)(rows:List (List bT)):Prop:=∃qs:List a5,cE K H P (qs.map V.ref)/\Paired (λq r=>lE K H (.tup q) r) qs rows
theorem CL.dat{K:PySem.W.Frag}{H H':Hp}{P:a5}{rows:List (List bT)}(e:Dat H H')(h:CL K H P rows):CL K H' P rows:=by
 obtain⟨cs,a,b⟩:=h
 exact⟨cs,Dat.tup e a,Paired.g8 b λ_ _ z=>z.dat e⟩
theorem tU{α β γ:Type}{F:γ->β->Prop}{g:α->γ}:∀{l₁:List α} {l₂:List β},Paired (λa b=>F (g a) b) l₁ l₂->Paired F (l₁.map g) l₂
 |_,_,.nil=>.nil
 |_,_,.cons r t=>.cons r (tU t)
theorem CL.mat{K:PySem.W.Frag}{H:Hp}{P:a5}{rows:List (List bT)}(h:CL K H P rows):Rg K H (.tup P) rows:=by
 obtain⟨qs,a,b⟩:=h
 refine⟨qs.map Cp.tup,?_,tU b⟩
 rw[n0]
 exact a
theorem NF{K:PySem.W.Frag}{H:Hp}{c:Cp}{xs:List V}(h:c.at K H xs)(hx:∀x,c≠ .txt x):Uz K c.val H xs.length:=by
 cases c with
 |lst a=>exact .inl ⟨_,h,rfl⟩
 |tup a=>exact .inr ⟨_,h,rfl⟩
 |txt x=>exact absurd rfl (hx x)
theorem lE.len{K:PySem.W.Frag}{H:Hp}{c:Cp}{fs:List bT}(h:lE K H c fs)(hx:∀x,c≠ .txt x):Uz K c.val H fs.length:=by
 obtain⟨ps,a,b⟩:=h
 have z:=NF a hx
 rw[bc,Paired.len b]at z
 exact z
noncomputable def qz(n:Nat):Bool:=(decide ((32:Int)<=(n:Int))&&decide ((n:Int)<=126))&& !QK (.int n) [.int 34,.int 37,.int 45]
noncomputable def Bw(x:bp):Prop:=0<x.cps.size/\x.cps.size<=100/\(∀c∈x.cps.toList,qz c=true)/\x.cps.toList.Nodup
theorem q8{x:bp}(h:x.cps.toList.Nodup){i j a b:Nat}(hi:x.cps[i]? =some a)(hj:x.cps[j]? =some b)(hij:i≠j):a≠b:=by
 intro z
 subst z
 rw[←fg]at hi hj
 exact hij ((List.getElem?_inj (bd.mp hi).1 h).mp (hi.trans hj.symm))
theorem IC(val:Nat->bp)(k:bp):∀i,(met val i).any (·==k)=true->∃j,j<i/\val j=k
 | 0,h=>by rw[yJ]at h;cases h
 |i+1,h=>by
  rw[rF,uL,Bool.or_eq_true]at h
  rcases h with h|h
  ·obtain⟨j,h1,h2⟩:=IC val k i h
   exact⟨j,by omega,h2⟩
  ·exact⟨i,by omega,(of_decide_eq_true h).symm⟩
theorem Eu{val:Nat->bp}{n:Nat}(h:∀i j,i<n->j<n->i≠j->val i≠val j):∀i,i<=n->(met val i).length=i
 | 0,_=>by rw[yJ];rfl
 |i+1,hi=>by
  rw[rF,qN]
  have e:¬((met val i).any (·==val i)=true):=λz=>by
   obtain⟨j,h1,h2⟩:=IC val _ i z
   exact h j i (by omega) (by omega) (by omega) h2
  rw[if_neg e,Eu h i (by omega)]
theorem JW{x:bp}(h:x.cps.toList.Nodup):(met (nh x) x.cps.size).length=x.cps.size:=by
 refine Eu (n:=x.cps.size) (λi j hi hj hij z=>?_) _ (a7 _)
 unfold nh at z
 have e1:x.cps[i]? =some (x.cps.getD i 0):=by simp[hi]
 have e2:x.cps[j]? =some (x.cps.getD j 0):=by simp[hj]
 refine q8 h e1 e2 hij ?_
 have z2: #[x.cps.getD i 0]= #[x.cps.getD j 0]:=congrArg Str.cps z
 simpa using z2
noncomputable def DR:Sp:=λvs H Q _=>∃c:Nat,vs=[.str ⟨#[c]⟩]/\Q (.bl (qz c)) H
noncomputable def yh:Sp:=λvs H Q _=>∃x:bp,vs=[.str x]/\x.cps.size<=1000/\∀H',aj H H'->Q (.bl (x.cps.toList.all qz)) H'
noncomputable def uu:Sp:=λvs H Q _=>∃x:bp,vs=[.str x]/\Bw x/\∀H',aj H H'->Q .ia H'
noncomputable def Rf(c:Cp):Prop:=∀x,c≠ .txt x
noncomputable def K2(K:PySem.W.Frag)(H:Hp)(c:Cp)(rows:List (List bT)):Prop:=Rf c/\∃cs:List Cp,(∀d∈cs,Rf d)/\c.at K H (cs.map Cp.val)/\Paired (lE K H) cs rows
theorem K2.dat{K:PySem.W.Frag}{H H':Hp}{c:Cp}{rows:List (List bT)}(e:Dat H H')(h:K2 K H c rows):K2 K H' c rows:=by
 obtain⟨n,cs,m,a,b⟩:=h
 exact⟨n,cs,m,Dat.cp e a,Paired.g8 b λ_ _ z=>z.dat e⟩
noncomputable def NZ(n:Nat)(rows:List (List bT)):Prop:=rows.length=n/\∀r∈rows,r.length=n
noncomputable def qZ(K:PySem.W.Frag):Sp:=λvs H Q _=>∃(x:bp) (c:Cp) (rows:List (List bT)),vs=[.str x,c.val]/\K2 K H c rows/\x.cps.size<=100/\NZ x.cps.size rows/\Q .ia H
noncomputable def Oo(rows:List (List bT))(i j:Nat)(f:bT):Prop:=∃r,rows[i]? =some r/\r[j]? =some f
noncomputable def keyOf(a b:Nat):List Key:=[.inr ⟨#[a]⟩,.inr ⟨#[b]⟩]
noncomputable def HH(kvs:List (List Key×V))(x:bp)(rows:List (List bT))(u:Int):Prop :=
 ∀i j a b f,x.cps[i]? =some a->x.cps[j]? =some b->Oo rows i j f->iO kvs (keyOf a b)=some (.int (f.1*(u / f.2)))
noncomputable def Sm(i:Int):Prop:=i.natAbs<2 ^ 200
noncomputable def Bu(i:Int):Prop:=i.natAbs<=2 ^ 4380
theorem Sm.bg{i:Int}(h:Sm i):Bg i:=dy h (wP (by decide) (by decide))
theorem Bu.bg{i:Int}(h:Bu i):Bg i:=bv h (Nat.pow_lt_pow_right (by decide) (by decide))
noncomputable def Xs(u:Int)(f:bT):Prop:=Fp f/\Sm f.1/\Bu (u / f.2)
noncomputable def Ib(K:PySem.W.Frag):Sp:=λvs H Q _=>∃(x:bp) (P:a5) (u:Int) (rows:List (List bT)),vs=[.str x,.ref P,.int u]/\CL K H P rows/\x.cps.size<=100/\x.cps.toList.Nodup/\NZ x.cps.size rows/\(∀r∈rows,∀f∈r,Xs u f) ∧
 ∀d H' kvs,aj H H'->H d=none->H' d=some (.dT kvs)->HH kvs x rows u->Q (.ref d) H'
noncomputable def jK(x:bp)(P o m:a5)(u:Int)(d:a5×a5):List (bp×V) :=
 aG "costs" (.ref d.1) (aG "unit" (.int u) (aG "factors" (.ref d.2) (aG "more" (.ref m) (aG "opening" (.ref o) (aG "pairs" (.ref P) (aG "signs" (.str x) []))))))
theorem EN{x:bp}{P o m:a5}{u:Int}{d:a5×a5}:(jK x P o m u d).lookup ("signs" :bp)=some (.str x):=by
 unfold jK
 rw[ay,if_neg (by decide +kernel),ay,if_neg (by decide +kernel),ay,if_neg (by decide +kernel),ay,if_neg (by decide +kernel),ay,if_neg (by decide +kernel),ay,if_neg (by decide +kernel),ay,if_pos rfl]
theorem Ah{x:bp}{P o m:a5}{u:Int}{d:a5×a5}:(jK x P o m u d).lookup ("opening" :bp)=some (.ref o):=by
 unfold jK
 rw[ay,if_neg (by decide +kernel),ay,if_neg (by decide +kernel),ay,if_neg (by decide +kernel),ay,if_neg (by decide +kernel),ay,if_pos rfl]
theorem G9{x:bp}{P o m:a5}{u:Int}{d:a5×a5}:(jK x P o m u d).lookup ("more" :bp)=some (.ref m):=by
 unfold jK
 rw[ay,if_neg (by decide +kernel),ay,if_neg (by decide +kernel),ay,if_neg (by decide +kernel),ay,if_pos rfl]
theorem Ai{x:bp}{P o m:a5}{u:Int}{d:a5×a5}:(jK x P o m u d).lookup ("factors" :bp)=some (.ref d.2):=by
 unfold jK
 rw[ay,if_neg (by decide +kernel),ay,if_neg (by decide +kernel),ay,if_pos rfl]
theorem yW{x:bp}{P o m:a5}{u:Int}{d:a5×a5}:(jK x P o m u d).lookup ("unit" :bp)=some (.int u):=by
 unfold jK
 rw[ay,if_neg (by decide +kernel),ay,if_pos rfl]
theorem EO{x:bp}{P o m:a5}{u:Int}{d:a5×a5}:(jK x P o m u d).lookup ("costs" :bp)=some (.ref d.1):=by
 unfold jK
 rw[ay,if_pos rfl]
noncomputable def xx(x:bp)(P o m:a5)(u:Int)(d:a5×a5)(ou mu:Int):List (bp×V) :=
 aG "more_units" (.int mu) (aG "opening_units" (.int ou) (jK x P o m u d))
theorem yV {x:bp}{P o m:a5}{u:Int}{d:a5×a5}{ou mu:Int}{f:bp}(h1:¬f= "more_units")(h2:¬f= "opening_units"):(xx x P o m u d ou mu).lookup f=(jK x P o m u d).lookup f:=by
 unfold xx
 rw[ay,if_neg h1,ay,if_neg h2]
theorem qB{x:bp}{P o m:a5}{u:Int}{d:a5×a5}{ou mu:Int}:(xx x P o m u d ou mu).lookup ("signs" :bp)=some (.str x):=(yV (by decide +kernel) (by decide +kernel)).trans EN
theorem qC{x:bp}{P o m:a5}{u:Int}{d:a5×a5}{ou mu:Int}:(xx x P o m u d ou mu).lookup ("factors" :bp)=some (.ref d.2):=(yV (by decide +kernel) (by decide +kernel)).trans Ai
theorem G8{x:bp}{P o m:a5}{u:Int}{d:a5×a5}{ou mu:Int}:(xx x P o m u d ou mu).lookup ("costs" :bp)=some (.ref d.1):=(yV (by decide +kernel) (by decide +kernel)).trans EO
theorem tE {x:bp}{P o m:a5}{u:Int}{d:a5×a5}{v:V}{f:bp}(h2:¬f= "opening_units"):(aG "opening_units" v (jK x P o m u d)).lookup f=(jK x P o m u d).lookup f:=by
 rw[ay,if_neg h2]
theorem ud{x:bp}{P o m:a5}{u:Int}{d:a5×a5}{ou mu:Int}:(xx x P o m u d ou mu).lookup ("opening_units" :bp)=some (.int ou):=by
 unfold xx
 rw[ay,if_neg (by decide +kernel),ay,if_pos rfl]
theorem xw{x:bp}{P o m:a5}{u:Int}{d:a5×a5}{ou mu:Int}:(xx x P o m u d ou mu).lookup ("more_units" :bp)=some (.int mu):=by
 unfold xx
 rw[ay,if_pos rfl]
theorem MK{x:bp}{P o m:a5}:(aG "more" (.ref m) (aG "opening" (.ref o) (aG "pairs" (.ref P) (aG "signs" (.str x) []))):List (bp×V)).lookup ("pairs" :bp)=some (.ref P):=by
 rw[ay,if_neg (by decide +kernel),ay,if_neg (by decide +kernel),ay,if_pos rfl]
theorem GQ{x:bp}{P o m:a5}:(aG "more" (.ref m) (aG "opening" (.ref o) (aG "pairs" (.ref P) (aG "signs" (.str x) []))):List (bp×V)).lookup ("opening" :bp)=some (.ref o):=by
 rw[ay,if_neg (by decide +kernel),ay,if_pos rfl]
theorem O7{x:bp}{P o m:a5}:(aG "more" (.ref m) (aG "opening" (.ref o) (aG "pairs" (.ref P) (aG "signs" (.str x) []))):List (bp×V)).lookup ("more" :bp)=some (.ref m):=by
 rw[ay,if_pos rfl]
theorem GS{x:bp}{P o m fl:a5}:(aG "factors" (.ref fl) (aG "more" (.ref m) (aG "opening" (.ref o) (aG "pairs" (.ref P) (aG "signs" (.str x) [])))):List (bp×V)).lookup ("factors" :bp)=some (.ref fl):=by
 rw[ay,if_pos rfl]
theorem MJ{x:bp}{P o m fl:a5}{u:Int}:(aG "unit" (.int u) (aG "factors" (.ref fl) (aG "more" (.ref m) (aG "opening" (.ref o) (aG "pairs" (.ref P) (aG "signs" (.str x) []))))):List (bp×V)).lookup ("signs" :bp)=some (.str x):=by
 rw[ay,if_neg (by decide +kernel),ay,if_neg (by decide +kernel),ay,if_neg (by decide +kernel),ay,if_neg (by decide +kernel),ay,if_neg (by decide +kernel),ay,if_pos rfl]
theorem JS{x:bp}{P o m fl:a5}{u:Int}:(aG "unit" (.int u) (aG "factors" (.ref fl) (aG "more" (.ref m) (aG "opening" (.ref o) (aG "pairs" (.ref P) (aG "signs" (.str x) []))))):List (bp×V)).lookup ("pairs" :bp)=some (.ref P):=by
 rw[ay,if_neg (by decide +kernel),ay,if_neg (by decide +kernel),ay,if_neg (by decide +kernel),ay,if_neg (by decide +kernel),ay,if_pos rfl]
theorem O6{x:bp}{P o m fl:a5}{u:Int}:(aG "unit" (.int u) (aG "factors" (.ref fl) (aG "more" (.ref m) (aG "opening" (.ref o) (aG "pairs" (.ref P) (aG "signs" (.str x) []))))):List (bp×V)).lookup ("unit" :bp)=some (.int u):=by
 rw[ay,if_pos rfl]
theorem aU{f:bp}{v:V}{fs:List (bp×V)}{n:Nat}(h:fs.length<=n):(aG f v fs).length<=n+1:=by
 have:=rH f v fs
 omega
structure nO(K:PySem.W.Frag)(C:a5)(H:Hp)(x:a5)(sg:bp)(rows:List (List bT))(fo fm:bT):Prop where
 sig:Bw sg
 sqr:NZ sg.cps.size rows
 ok:∀r∈rows,∀f∈r,Xs (aX fo.2 fm.2 rows) f
 Mv:Xs (aX fo.2 fm.2 rows) fo
 Mw:Xs (aX fo.2 fm.2 rows) fm
 pos:0<aX fo.2 fm.2 rows
 big:Bu (aX fo.2 fm.2 rows)
 ob:∃dx P o m,∃d:a5×a5,∃kvs,H x=some (.ins C dx (xx sg P o m (aX fo.2 fm.2 rows) d (fo.1*(aX fo.2 fm.2 rows / fo.2)) (fm.1*(aX fo.2 fm.2 rows / fm.2))))/\CL K H P rows/\jD K H o fo/\jD K H m fm/\H d.1=some (.dT kvs)/\HH kvs sg rows (aX fo.2 fm.2 rows) ∧
  ∃fs:List Int,(∀f∈fs,pH f)/\sU fs=aX fo.2 fm.2 rows/\H d.2=some (.lst (fs.map V.int))
theorem nO.same{K:PySem.W.Frag}{C:a5}{H H':Hp}{x:a5}{sg:bp}{rows:List (List bT)}{fo fm:bT}(e:aj H H')(h:nO K C H x sg rows fo fm):nO K C H' x sg rows fo fm:=by
 obtain⟨a,b,c,d,f,g,i,dx,P,o,m,dd,kvs,h1,h2,h3,h4,h5,h6,fs,h7,h8,h9⟩:=h
 exact⟨a,b,c,d,f,g,i,dx,P,o,m,dd,kvs,e _ _ h1,h2.dat (Dat.of e),h3.same e,h4.same e,e _ _ h5,h6,fs,h7,h8,e _ _ h9⟩
noncomputable def N2(H:Hp)(x c:a5):Prop:=∀C dx fs,H x=some (.ins C dx fs)->fs.lookup ("factors" :bp)≠some (.ref c)
noncomputable def Xr(f:bT):Prop:=Fp f/\Sm f.1
noncomputable def Af(rows:List (List bT)):List (List bT):=rows.map λr=>r.map k9
noncomputable def LW(K:PySem.W.Frag)(C:a5):Sp:=λvs H Q _=>∃(x dx o m:a5) (sg:bp) (c:Cp) (rows:List (List bT)) (fo fm:bT),vs=[.ref x,.str sg,c.val,.ref o,.ref m]/\H x=some (.ins C dx [])/\Bw sg/\sg.cps.size<=12 ∧
 K2 K H c rows/\NZ sg.cps.size rows/\(∀r∈rows,∀f∈r,Xr f)/\jD K H o fo/\Xr fo/\jD K H m fm/\Xr fm ∧
 ∀H',nO K C H' x sg (Af rows) (k9 fo) (k9 fm)->(∀b u,H b=some u->b≠x->H' b=some u)->(∀c,H c≠none->N2 H' x c)->Q .ia H'
noncomputable def qc(K:PySem.W.Frag)(C:a5):Sp:=λvs H Q _=>∃(x:a5) (sg:bp) (rows:List (List bT)) (fo fm:bT) (i j a b:Nat) (f:bT),vs=[.ref x,.str ⟨#[a]⟩,.str ⟨#[b]⟩]/\nO K C H x sg rows fo fm ∧
 sg.cps[i]? =some a/\sg.cps[j]? =some b/\Oo rows i j f/\∀H',aj H H'->Q (.int (f.1*(aX fo.2 fm.2 rows / f.2))) H'
noncomputable def AN(K:PySem.W.Frag)(C:a5):Sp:=λvs H Q _=>∃(x:a5) (sg:bp) (rows:List (List bT)) (fo fm:bT),vs=[.ref x]/\nO K C H x sg rows fo fm/\Q (.int (fo.1*(aX fo.2 fm.2 rows / fo.2))) H
noncomputable def LQ(K:PySem.W.Frag)(C:a5):Sp:=λvs H Q _=>∃(x:a5) (sg:bp) (rows:List (List bT)) (fo fm:bT),vs=[.ref x]/\nO K C H x sg rows fo fm/\Q (.int (fm.1*(aX fo.2 fm.2 rows / fm.2))) H
noncomputable def vE(K:PySem.W.Frag)(C:a5):Sp:=λvs H Q _=>∃(x:a5) (n:Int) (sg:bp) (rows:List (List bT)) (fo fm:bT),vs=[.ref x,.int n]/\nO K C H x sg rows fo fm ∧
 ∀q H',aj H H'->H q=none->H' q=some (.tup [.int (k9 (n,aX fo.2 fm.2 rows)).1,.int (k9 (n,aX fo.2 fm.2 rows)).2])->Q (.ref q) H'
end
section
theorem iU{α β:Type}{l:List α}{g:α->β}{i:Nat}{y:β}(h:(l.map g)[i]? =some y):∃x,l[i]? =some x/\y=g x:=by
 rw[eC]at h
 cases e:l[i]? with
 |none=>rw[e]at h;cases h
 |some x=>rw[e]at h;exact⟨x,rfl,(dA h).symm⟩
noncomputable def mj(kvs:List (List Key×V))(x:bp)(rows:List (List bT))(u:Int)(n m:Nat):Prop :=
 ∀i j a b f,(i<n\/(i=n/\j<m))->x.cps[i]? =some a->x.cps[j]? =some b->Oo rows i j f->iO kvs (keyOf a b)=some (.int (f.1*(u / f.2)))
theorem mj.nil(x:bp)(rows:List (List bT))(u:Int):mj [] x rows u 0 0:=λi j a b f h=>by omega
theorem Ka{a b c d:Nat}(h:keyOf a b=keyOf c d):a=c/\b=d:=by
 unfold keyOf at h
 have h1:=(wq h).1
 have h2:=(wq (wq h).2).1
 have e1:(⟨#[a]⟩:bp)=⟨#[c]⟩:=Sum.inr.inj h1
 have e2:(⟨#[b]⟩:bp)=⟨#[d]⟩:=Sum.inr.inj h2
 have z1: #[a]= #[c]:=congrArg Str.cps e1
 have z2: #[b]= #[d]:=congrArg Str.cps e2
 exact⟨by simpa using z1,by simpa using z2⟩
theorem mj.put{kvs:List (List Key×V)}{x:bp}{rows:List (List bT)}{u:Int}{n m a b:Nat}{f:bT}(nd:x.cps.toList.Nodup)(h:mj kvs x rows u n m)(ha:x.cps[n]? =some a)(hb:x.cps[m]? =some b)(hf:Oo rows n m f):
  mj (putK kvs (keyOf a b) (.int (f.1*(u / f.2)))) x rows u n (m+1):=by
 intro i j c d g hij hc hd hg
 rw[pK]
 by_cases e:i=n/\j=m
 ·obtain⟨rfl,rfl⟩:=e
  rw[ha]at hc
  rw[hb]at hd
  cases hc
  cases hd
  obtain⟨r,r1,r2⟩:=hf
  obtain⟨r',r3,r4⟩:=hg
  rw[r1]at r3
  cases r3
  rw[r2]at r4
  cases r4
  rw[if_pos rfl]
 ·have hne:¬keyOf c d=keyOf a b:=λz=>by
   obtain⟨z1,z2⟩:=Ka z
   subst z1 z2
   refine e ⟨?_,?_⟩
   ·exact Decidable.byContradiction λq=>q8 nd hc ha q rfl
   ·exact Decidable.byContradiction λq=>q8 nd hd hb q rfl
  rw[if_neg hne]
  exact h i j c d g (by omega) hc hd hg
theorem mj.row{kvs:List (List Key×V)}{x:bp}{rows:List (List bT)}{u:Int}{n m:Nat}(hm:x.cps.size<=m)(h:mj kvs x rows u n m):mj kvs x rows u (n+1) 0:=by
 intro i j a b f hij ha hb hf
 refine h i j a b f ?_ ha hb hf
 have:j<x.cps.size:=by
  rw[←fg]at hb
  have:=(bd.mp hb).1
  simpa using this
 omega
theorem mj.all{kvs:List (List Key×V)}{x:bp}{rows:List (List bT)}{u:Int}{n:Nat}(hn:x.cps.size<=n)(h:mj kvs x rows u n 0):HH kvs x rows u:=by
 intro i j a b f ha hb hf
 refine h i j a b f (.inl ?_) ha hb hf
 have:i<x.cps.size:=by
  rw[←fg]at ha
  have:=(bd.mp ha).1
  simpa using this
 omega
theorem MU{a b:Int}(ha:0<a)(hb:0<b):0<lm a b:=by
 have h:=qA a hb
 have:=r_ ha (md h) (At a b)
 exact Int.mul_pos this hb
theorem ue(a g:Int):(a / g).natAbs<=a.natAbs:=Int.natAbs_ediv_le_natAbs a g
theorem MV(a b:Int):(lm a b).natAbs<=a.natAbs*b.natAbs:=by
 unfold lm
 rw[Int.natAbs_mul]
 exact wS _ (ue a _)
theorem EK:∀(l:List Int) {u:Int},0<u->(∀b∈l,0<b)->0<l.foldl lm u
 |[],_,h,_=>h
 |b::l,_,h,hb=>EK l (MU h (hb b cr)) λc hc=>hb c (ce _ hc)
theorem EL{B:Nat}:∀(l:List Int) {u:Int},(∀b∈l,b.natAbs<=B)->(l.foldl lm u).natAbs<=u.natAbs*B ^ l.length
 |[],_,_=>by simp
 |b::l,u,h=>by
  have h1:=EL (B:=B) l (u:=lm u b) λc hc=>h c (ce _ hc)
  have h2:=MV u b
  have h3:=h b cr
  show(l.foldl lm (lm u b)).natAbs<=_
  refine bj h1 ?_
  rw[eM,Nat.pow_succ,Nat.mul_comm (B ^ l.length) B,←Nat.mul_assoc]
  exact wS _ (bj h2 (Nat.mul_le_mul_left _ h3))
theorem yX{n:Nat}:∀{rows:List (List bT)},(∀r∈rows,r.length=n)->rows.flatten.length=rows.length*n
 |[],_=>by simp
 |r::rows,h=>by
  rw[ww,cn,h r cr,yX λr' hr=>h r' (ce _ hr),eM,Nat.succ_mul,Nat.add_comm]
theorem Fp.abs{f:bT}(h:Fp f):f.2.natAbs<=2 ^ 30:=by
 obtain⟨h1,h2⟩:=h
 have:(2:Nat) ^ 30=1073741824:=by decide
 omega
theorem Lp{rows:List (List bT)}{fo fm:bT}(ho:Fp fo)(hm:Fp fm)(h:∀r∈rows,∀f∈r,Fp f):0<aX fo.2 fm.2 rows:=by
 refine EK _ (MU (by have:=ho.1;omega) (by have:=hm.1;omega)) λb hb=>?_
 obtain⟨f,hf,rfl⟩:=gL.mp hb
 obtain⟨r,hr,hfr⟩:=List.mem_flatten.mp hf
 have:=(h r hr f hfr).1
 omega
theorem Lq{n:Nat}{rows:List (List bT)}{fo fm:bT}(hn:n<=12)(hs:NZ n rows)(ho:Fp fo)(hm:Fp fm)(h:∀r∈rows,∀f∈r,Fp f):Bu (aX fo.2 fm.2 rows):=by
 have h1:(aX fo.2 fm.2 rows).natAbs<=(lm fo.2 fm.2).natAbs*(2 ^ 30) ^ (rows.flatten.map (·.2)).length:=by
  refine EL _ λb hb=>?_
  obtain⟨f,hf,rfl⟩:=gL.mp hb
  obtain⟨r,hr,hfr⟩:=List.mem_flatten.mp hf
  exact(h r hr f hfr).abs
 have h2:(lm fo.2 fm.2).natAbs<=2 ^ 30*2 ^ 30:=bj (MV _ _) (va ho.abs hm.abs)
 have h3:(rows.flatten.map (·.2)).length<=144:=by
  rw[bc,yX hs.2,hs.1]
  exact bj (va hn hn) (by decide)
 have h4:(2 ^ 30:Nat) ^ (rows.flatten.map (·.2)).length<=(2 ^ 30) ^ 144:=wP (by decide) h3
 have h5:(2 ^ 30:Nat)*2 ^ 30*(2 ^ 30) ^ 144<=2 ^ 4380:=by
  rw[←Nat.pow_mul,←Nat.pow_add,←Nat.pow_add]
  exact wP (by decide) (by decide)
 exact bj h1 (bj (va h2 h4) h5)
theorem rG{f:bT}(h:Fp f):Fp (k9 f):=by
 obtain⟨h1,h2⟩:=h
 have h0:0<f.2:=by omega
 have p:=MR f.1 h0
 have l:=lo_le f.1 h0
 exact⟨by show 1<=(lo f.1 f.2).2;omega,by show(lo f.1 f.2).2<_;omega⟩
theorem Pd{f:bT}(h:Sm f.1):Sm (k9 f).1:=bv (ue _ _) h
theorem Bu.div{u:Int}(h:Bu u)(g:Int):Bu (u / g):=bj (ue _ _) h
theorem Pc{n:Nat}{rows:List (List bT)}(h:NZ n rows):NZ n (Af rows):=by
 refine⟨by unfold Af;rw[bc];exact h.1,λr hr=>?_⟩
 obtain⟨r',h',rfl⟩:=gL.mp hr
 rw[bc]
 exact h.2 r' h'
theorem Ck{p:bT->Prop}{rows:List (List bT)}(h:∀r∈rows,∀f∈r,p (k9 f)):∀r∈Af rows,∀f∈r,p f:=by
 intro r hr f hf
 obtain⟨r',h',rfl⟩:=gL.mp hr
 obtain⟨f',hf',rfl⟩:=gL.mp hf
 exact h r' h' f' hf'
theorem Oo.mem{rows:List (List bT)}{i j:Nat}{f:bT}(h:Oo rows i j f):∃r∈rows,f∈r:=by
 obtain⟨r,h1,h2⟩:=h
 exact⟨r,cx h1,cx h2⟩
end
section
theorem cE.off{K:PySem.W.Frag}{H:Hp}{l a:a5}{ys xs:List V}{o:HO}(hl:H l=some (.lst ys))(h:cE K H a xs):cE K (L2.upd H l o) a xs:=by
 rcases h with(h|⟨u,h⟩)|h
 ·exact .inl (.inl (by rw[au (qL h hl (by intro z;cases z))];exact h))
 ·exact .inl (.inr ⟨u,by rw[au (qL h hl (by intro z;cases z))];exact h⟩)
 ·exact .inr h
theorem lE.off{K:PySem.W.Frag}{H:Hp}{l q:a5}{ys:List V}{fs:List bT}{o:HO}(hl:H l=some (.lst ys))(h:lE K H (.tup q) fs):lE K (L2.upd H l o) (.tup q) fs:=by
 obtain⟨ps,a,b⟩:=h
 exact⟨ps,cE.off hl a,Paired.g8 b λ_ _ z=>cE.off hl z⟩
noncomputable def Off(x:a5)(H H':Hp):Prop:=∀b u,H b=some u->b≠x->H' b=some u
theorem Off.of{x:a5}{H H':Hp}(e:aj H H'):Off x H H':=λb u h _=>e b u h
theorem Off.trans{x:a5}{H H' N4:Hp}(e:Off x H H')(f:Off x H' N4):Off x H N4:=λb u h n=>f b u (e b u h n) n
theorem Off.set{x:a5}{H:Hp}{o:HO}:Off x H (L2.upd H x o):=λb u h n=>by rw[au n];exact h
theorem Off.dat{x C dx:a5}{fs:List (bp×V)}{H H':Hp}(hx:H x=some (.ins C dx fs))(e:Off x H H'):Dat H H':=λb u n h=>e b u h λz=>by
 subst z
 rw[hx]at h
 cases h
 exact n _ _ _ rfl
theorem pl1{a:bp}{x:V}:(aG a x []).length<1000:=bv (aU (a7 0)) (by decide)
theorem pl2{a b:bp}{x y:V}:(aG a x (aG b y [])).length<1000:=bv (aU (aU (a7 0))) (by decide)
theorem pl3{a b c:bp}{x y z:V}:(aG a x (aG b y (aG c z []))).length<1000:=bv (aU (aU (aU (a7 0)))) (by decide)
theorem pl4{a b c d:bp}{x y z w:V}:(aG a x (aG b y (aG c z (aG d w [])))).length<1000:=bv (aU (aU (aU (aU (a7 0))))) (by decide)
theorem pl5{a b c d e:bp}{x y z w v:V}:(aG a x (aG b y (aG c z (aG d w (aG e v []))))).length<1000:=bv (aU (aU (aU (aU (aU (a7 0)))))) (by decide)
theorem pl6{a b c d e g:bp}{x y z w v t:V}:(aG a x (aG b y (aG c z (aG d w (aG e v (aG g t [])))))).length<1000:=bv (aU (aU (aU (aU (aU (aU (a7 0))))))) (by decide)
theorem pl7{x:bp}{P o m:a5}{u:Int}{d:a5×a5}:(jK x P o m u d).length<1000:=bv (aU (aU (aU (aU (aU (aU (aU (a7 0)))))))) (by decide)
theorem pl8{x:bp}{P o m:a5}{u:Int}{d:a5×a5}{a:bp}{v:V}:(aG a v (jK x P o m u d)).length<1000:=bv (aU (aU (aU (aU (aU (aU (aU (aU (a7 0))))))))) (by decide)
end
section
theorem IZ{a b c:Int}(h:f_ a b=1)(d:a∣b*c):a∣c:=by
 have d':a.natAbs∣b.natAbs*c.natAbs:=by rw[←Int.natAbs_mul];exact Int.natAbs_dvd_natAbs.mpr d
 have h':Nat.Coprime a.natAbs b.natAbs:=h
 exact Int.natAbs_dvd_natAbs.mp (h'.dvd_of_dvd_mul_left d')
theorem MP{x y x' y':Int}(hy:0<y)(hy':0<y')(h:f_ x y=1)(h':f_ x' y'=1)(e:x*y'=x'*y):x=x'/\y=y':=by
 have d1:y∣y':=IZ (b:=x) (by rw[Int.gcd_comm];exact h) (by rw[e];exact Int.dvd_mul_left _ _)
 have d2:y'∣y:=IZ (b:=x') (by rw[Int.gcd_comm];exact h') (by rw[←e];exact Int.dvd_mul_left _ _)
 have ey:=Int.dvd_antisymm (md hy) (md hy') d1 d2
 subst ey
 exact⟨Int.eq_of_mul_eq_mul_right (Int.ne_of_gt hy) e,rfl⟩
theorem NG{ov un b:Int}(hb:0<b)(hg:f_ ov un=1):f_ (ov / (f_ ov b:Int)) (un*(b / (f_ ov b:Int)))=1:=by
 have h1:f_ (ov / (f_ ov b:Int)) (b / (f_ ov b:Int))=1:=MS ov hb
 have h2:f_ (ov / (f_ ov b:Int)) un=1:=by
  refine Nat.dvd_one.mp ?_
  rw[←hg]
  refine Int.dvd_gcd (Int.dvd_trans (At ..) ?_) (px ..)
  exact⟨_,(GX ov b).symm⟩
 have z:Nat.Coprime (ov / (f_ ov b:Int)).natAbs (un.natAbs*(b / (f_ ov b:Int)).natAbs):=Nat.Coprime.mul_right h2 h1
 rw[←Int.natAbs_mul]at z
 exact z
theorem Hi{ov un b n p:Int}(he:ov*p=n*un):ov / (f_ ov b:Int)*(p*b)=n*(un*(b / (f_ ov b:Int))):=by
 have h1:=GX ov b
 have h2:=MQ ov b
 unfold lo at h1 h2
 dsimp only at h1 h2
 generalize ov / (f_ ov b:Int)=x at *
 generalize b / (f_ ov b:Int)=y at *
 generalize (f_ ov b:Int)=g at *
 rw[←Int.mul_assoc n,←he,←h1,←h2]
 ac_rfl
theorem VM{n U ov un:Int}(hU:0<U)(hun:0<un)(hg:f_ ov un=1)(he:ov*U=n*un):k9 (n,U)=(ov,un):=by
 have c:=MT n U
 have e:(lo n U).1*un=ov*(lo n U).2:=by
  refine Int.eq_of_mul_eq_mul_right (Int.ne_of_gt hU) ?_
  calc (lo n U).1*un*U=(lo n U).1*U*un:=by ac_rfl
   _=n*un*(lo n U).2:=by rw[c];ac_rfl
   _=ov*(lo n U).2*U:=by rw[←he];ac_rfl
 obtain⟨z1,z2⟩:=MP (MR n hU) hun (MS n hU) hg e
 show lo n U=(ov,un)
 rw[←z1,←z2]
end
end GP
namespace L2
open PySem PySem.Spec PyProof.Rows
noncomputable def uS(scope:oP)(X:Cx):Bool:=scope.names.all λy=>(y.2 != gc)||(X.env.scope.names.lookup y.1==some wn)
noncomputable def ixB(scope:oP)(X:Cx)(N:List bp)(nt:Nat)(ix:List Nat):Bool:=(fe ix.length).all λk=>match N[nt+k]?,ix[k]? with
 |some x,some j=>(X.N[j]? ==some x)&&(scope.names.contains (x,gc))&&((relabel scope X.env).names.lookup x==some wn)
 |_,_=>false
theorem c6.uS{X:Cx}{scope:oP}{N:List bp}{nt:Nat}{ix:List Nat}(kind:scope.kind= .function)(cell:∀y∈scope.names,y.2= .cell->(y.1,gc)∉scope.names)
  (names:∀y∈scope.names,y.2= .local->scope.names.lookup y.1=some .local) (hf:L2.uS scope X=true) (hl:N.length=nt+ix.length) (hx:ixB scope X N nt ix=true) (ok:X.Ok) :
  ∃cl,c6 X scope cl N (XZ nt ix):=by
 refine c6.free kind cell names (λy hy hk=>?_) hl (λk j hj=>?_) ok
 ·have z:=uk.mp hf y hy
  rw[hk]at z
  have z2:X.env.scope.names.lookup y.1=some wn:=by simpa using z
  exact z2
 ·have hk:k<ix.length:=(bd.mp hj).1
  have z:=uk.mp hx k (o0.mpr hk)
  have hn:nt+k<N.length:=by omega
  rw[a6 hn,hj]at z
  simp only[ll]at z
  obtain⟨⟨z1,z2⟩,z3⟩:=z
  exact⟨_,a6 hn,by simpa using z1,by simpa using z2,by simpa using z3⟩
theorem Kp.Jv{r:St}{v:Option V}:Kp (none::r) ((none::r).set 0 v):=λi x e=>by
 cases i with
 |zero=>cases e
 |succ i=>exact e
theorem bI{X:Cx}:pY X (.builtin "isinstance") (λxs H Q=>∃x n t b,xs=[x,.ty n]/\(vc X.K H x t\/∃a ys,x= .ref a/\cE X.K H a ys/\t= .type "tuple")/\PySem.W.kitOne X.K t (.type n)=some b/\Q (.bl b) H):=by
 intro pins s σ H xs us Q I r h
 obtain⟨x,n,t,b,rfl,ty,e,q⟩:=h
 obtain⟨u,w',rfl,rx,rn⟩:=vals2 r
 cases rn
 rcases ty with ty|⟨a,ys,rfl,hs,rfl⟩
 ·exact TK.bP (a7 s.toks) (Kf I rx ty e λtk hup=>⟨.bl b,H,I.tok _,rfl,q⟩)
 ·cases (show u=Value.ref a from rx)
  obtain⟨its,_,⟨o,h1,h2,_⟩,_⟩:=I.tuple hs
  exact TK.bP (a7 s.toks) (PySem.W.kia_one PySem.W.kitx_tuple I.qv ⟨o,h1,h2⟩ e (λz=>nomatch z) λtk hup=>⟨.bl b,H,I.tok _,rfl,q⟩)
end L2
namespace GP
open PySem L2 rW
theorem ly{K:PySem.W.Frag}{t:a9}:PySem.W.kitOne K t t=some true:=by unfold PySem.W.kitOne;rw[if_pos (by simp)]
theorem uO{K:PySem.W.Frag}:PySem.W.kitOne K (.type "int") (.type "bool")=some false:=by kernel_rfl
theorem uN{K:PySem.W.Frag}:PySem.W.kitOne K (.type "int") (.type "list")=some false:=by kernel_rfl
theorem tw{K:PySem.W.Frag}:PySem.W.kitOne K (.type "int") (.type "tuple")=some false:=by kernel_rfl
theorem wD{K:PySem.W.Frag}:PySem.W.kitOne K (.type "int") (.type "str")=some false:=by kernel_rfl
theorem oF{K:PySem.W.Frag}:PySem.W.kitOne K (.type "tuple") (.type "list")=some false:=by kernel_rfl
noncomputable def Wo(t:a5)(H:Hp):Hp:=λb=>if b=t then none else H b
theorem Wo.sub{t:a5}{H:Hp}:aj (Wo t H) H:=λb u h=>by
 unfold Wo at h
 by_cases e:b=t
 ·rw[if_pos e]at h;cases h
 ·rw[if_neg e]at h;exact h
theorem Wo.ne{t:a5}{H:Hp}{b:a5}{u:HO}(h:Wo t H b=some u):b≠t:=λe=>by
 unfold Wo at h
 rw[if_pos e]at h;cases h
theorem Wo.in{t:a5}{H:Hp}{b:a5}{u:HO}(n:b≠t)(h:H b=some u):Wo t H b=some u:=by
 unfold Wo
 rw[if_neg n];exact h
theorem Wo.free{t:a5}{H:Hp}{b:a5}(h:H b=none):Wo t H b=none:=by
 unfold Wo
 split
 ·rfl
 ·exact h
theorem Wo.set{t:a5}{H:Hp}{o:HO}:Wo t (L2.upd H t o)=Wo t H:=by
 funext b
 unfold Wo
 by_cases e:b=t
 ·rw[if_pos e,if_pos e]
 ·rw[if_neg e,if_neg e,au e]
theorem Wo.same{t:a5}{H H':Hp}(e:aj H H'):aj (Wo t H) (Wo t H'):=λb u h=>Wo.in (Wo.ne h) (e b u (Wo.sub b u h))
theorem Wo.upd{t:a5}{H:Hp}{o:HO}:aj (Wo t H) (L2.upd H t o):=λb u h=>by rw[au (Wo.ne h)];exact Wo.sub b u h
theorem x6{H:Hp}{t r:a5}{o:HO}(h:L2.upd H t o r=none):H r=none:=by
 by_cases e:r=t
 ·rw[e,ah]at h;cases h
 ·rw[au e]at h;exact h
structure xU(K:PySem.W.Frag)(H:Hp)(s t:a5)(ns:List Int)(k:Int):Prop where
 sq:cy K (Wo t H) s (ns.map V.int)
 len:ns.length<=63
 at_:H t=some (.lst [.int k])
 k0:0<=k
theorem xU.Vt{K:PySem.W.Frag}{H:Hp}{s t:a5}{ns:List Int}{k:Int}(c:xU K H s t ns k)(o:HO):cy K (L2.upd H t o) s (ns.map V.int):=aj.seq Wo.upd c.sq
theorem xU.same{K:PySem.W.Frag}{H H':Hp}{s t:a5}{ns:List Int}{k:Int}(c:xU K H s t ns k)(e:aj H H'):xU K H' s t ns k:=⟨aj.seq (Wo.same e) c.sq,c.len,e _ _ c.at_,c.k0⟩
theorem xU.step{K:PySem.W.Frag}{H:Hp}{s t:a5}{ns:List Int}{k k':Int}(c:xU K H s t ns k)(h:0<=k'):xU K (L2.upd H t (.lst [.int k'])) s t ns k':=⟨by rw[Wo.set];exact c.sq,c.len,ah,h⟩
theorem xU.off{K:PySem.W.Frag}{H H':Hp}{s t:a5}{ns:List Int}{k k':Int}(c:xU K H s t ns k)(e:aj (Wo t H) (Wo t H'))(h:H' t=some (.lst [.int k']))(h0:0<=k'):xU K H' s t ns k':=⟨aj.seq e c.sq,c.len,h,h0⟩
theorem zj{c:Int}(h1: -(10 ^ 40)<=c)(h2:c<=10 ^ 40):Sm c:=by
 have h:c.natAbs<=10 ^ 40:=by omega
 have h3:(10:Nat) ^ 40<2 ^ 200:=by decide
 exact bv h h3
noncomputable def Ol(f:bT):Prop:=1<=f.2/\f.2<=999/\Sm f.1
theorem Ol.h{f:bT}(h:Ol f):Xr f:=⟨⟨h.1,by have:=h.2.1;omega⟩,h.2.2⟩
noncomputable def qX(K:PySem.W.Frag):Sp:=λvs H Q _=>∃(s t:a5) (ns:List Int) (k:Int),vs=[.ref s,.ref t]/\xU K H s t ns k/\k<=100000 ∧
 ∀m:Int,0<=m->m<1999999973->Q (.int m) (L2.upd H t (.lst [.int (k+1)]))
structure vg(K:PySem.W.Frag)(H:Hp)(l:a5)(rs:List a5)(rows:List (List bT)):Prop where
 len:rs.length=rows.length
 at_:H l=some (.lst (rs.map V.ref))
 nd:rs.Nodup
 nl:l∉rs
 row:∀(i:Nat) r row,rs[i]? =some r->rows[i]? =some row->∃ps:List a5,H r=some (.lst (ps.map V.ref))/\Paired (jD K H) ps row
theorem vg.same{K:PySem.W.Frag}{H H':Hp}{l:a5}{rs:List a5}{rows:List (List bT)}(e:aj H H')(h:vg K H l rs rows):vg K H' l rs rows :=
 ⟨h.len,e _ _ h.at_,h.nd,h.nl,λi r row h1 h2=>by
  obtain⟨ps,a,b⟩:=h.row i r row h1 h2
  exact⟨ps,e _ _ a,Paired.g8 b λ_ _ z=>z.same e⟩⟩
theorem vI{α β:Type}{F:α->β->Prop}:∀{l₁:List α} {l₂:List β},l₁.length=l₂.length->(∀(i:Nat) x y,l₁[i]? =some x->l₂[i]? =some y->F x y)->Paired F l₁ l₂
 |[],[],_,_=>.nil
 |x::l₁,y::l₂,hl,h=>.cons (h 0 x y rfl rfl) (vI (by simpa using hl) λi a b h1 h2=>h (i+1) a b h1 h2)
theorem vg.aaO{K:PySem.W.Frag}{H:Hp}{l:a5}{rs:List a5}{rows:List (List bT)}(h:vg K H l rs rows):K2 K H (.lst l) rows:=by
 refine⟨λx z=>(by cases z),rs.map Cp.lst,λd hd x z=>?_,?_,?_⟩
 ·obtain⟨q,_,e⟩:=gL.mp hd
  rw[←e]at z
  cases z
 ·rw[n0]
  exact cy.of h.at_
 ·refine tU (vI h.len λi r row h1 h2=>?_)
  obtain⟨ps,a,b⟩:=h.row i r row h1 h2
  exact⟨ps,cy.of a,b⟩
end GP
namespace L2
open PySem PySem.Spec PyProof.Rows
section
noncomputable def yc(wi:TI)(g:TG)(tt:TT)(te:TE)(pZ:St->St):TE:=λσ H Q=>wi σ H λJ H1=>∀l,H1 l=none->∃W:Nat->Nat->List V->Hp->Prop,(∃m,W 0 m [] (upd H1 l (.lst []))) ∧
 ∀i m ys H2,W i m ys H2->(J.stop i H2/\Q (.ref l) H2) ∨
  (J.go i H2/\∀x H3,J.AE i H2 x H3->g x (pZ σ) H3 λAD H4=>Kp (pZ σ) AD/\tt AD H4 λb H5 =>
   if b=true then te AD H5 (λy H6=>H6 l=some (.lst ys)/\ys.length<bt/\∃m',m'<m/\W (i+1) m' (ys++[y]) (upd H6 l (.lst (ys++[y]))))else ∃m',m'<m/\W (i+1) m' ys H5)
theorem Wr{A B:Prop}(h:if false=true then A else B):B:=by rw[if_neg cw]at h;exact h
theorem Wq{A B:Prop}(h:if true=true then A else B):A:=by rw[if_pos rfl]at h;exact h
noncomputable def PTs(X:Cx)(ifs:List Expr)(t:TT):Prop :=
 ∀(pins:List (a5×mi)) (s:ba) (σ:St) (H:Hp) (Q:Bool->Hp->Prop),Inv X pins σ H s->t σ H Q->b_ (model X.prog X.w) X.A (forIn ifs true λc r=>if r=true then do let ok ←isTrue c X.env (eval c X.env);pure (ForInStep.yield ok)else pure (ForInStep.yield r)) (TP X pins σ Q) X.xe s
set_option maxHeartbeats 2000000 in
theorem y9{X:Cx}{elt tg iter:Expr}{ifs:List Expr}{tt:TT}{scope:oP}{pos pos':sx}{wi:TI}{g:TG}{te:TE}{N:List bp}{pZ:St->St}(hc:X.calm=true)(hS:X.Ok->∃cl,c6 X scope cl N pZ)(hi:PI X tg iter wi)
  (hg:∀cl C s H ex pn E,PG (iW X scope cl C N s H ex pn E) tg g) (he:∀cl C s H ex pn E,PE (iW X scope cl C N s H ex pn E) elt te) (ht:∀cl C s H ex pn E,PTs (iW X scope cl C N s H ex pn E) ifs tt) (hs:∀x,foldedSetIterable iter X.env x=pure x)
  {pins:List (a5×mi)} {s:ba} {σ:St} {H:Hp} {Q:VK} {use:Option (a9->Sem Unit)} {QQ:a9->ba->Prop} (I:Inv X pins σ H s) (h:yc wi g tt te pZ σ H Q)
  (Ng:∀(l C:a5) (mC:bp->Option a9) (H':Hp) (s':ba),Inv X pins σ H' s'->qR X pins H' C->s'.heap.Ns C mC->Q (.ref l) H'->compPost (model X.prog X.w) X.A X.xe use QQ (.ref l) C (.ok .next) s') :
  b_ (model X.prog X.w) X.A (comprehension (.ListComp elt [⟨tg,iter,ifs,0⟩] scope pos) scope X.env pos' (newList []) false (eval iter X.env) use) QQ X.xe s:=by
 obtain⟨cl,S⟩:=hS I.ok
 refine wpAny_comprehension_free (use:=use) rfl hs S.clos S.kind S.names (dG (hi pins s σ H _ I h) λv s1 h1=>dG h1 λitv s2 h2=>?_)
 obtain⟨it,fp,tn,J,H2,e,I2,T,st2,f2,hq⟩:=h2
 subst e
 obtain⟨W,⟨m0,w0⟩,turn⟩:=hq _ I2.fresh
 refine pj (NH S λHq h₁ G T4 kp=>?_)
 have I3:Inv X pins σ (upd H2 s2.heap.objs.size (.lst [])) { s2 with heap:=s2.heap.push { cls:=.type "list",data:=.seq ([]:List a9).toArray } }:=I2.aaU (t':=s2.toks) .nil (d0 _)
 have Qy:∀b o,s2.heap.get? b=some o->(s2.heap.push { cls:=.type "list",data:=.seq ([]:List a9).toArray }).get? b=some o:=λb o e=>a8 _ e
 have f3:∀b∈fp,qR X pins (upd H2 s2.heap.objs.size (.lst [])) b/\b<(s2.heap.push { cls:=.type "list",data:=.seq ([]:List a9).toArray }).objs.size:=λb hb=>by
  obtain⟨o,ho,_⟩:=T.obj _ _ st2 b hb
  have hlt:=cm ho
  obtain⟨f0,f1⟩:=f2 b hb
  exact⟨⟨by rw[au (eA hlt)];exact f0,f1⟩,cm (Qy b o ho)⟩
 have st3:tn 0 h₁:=T.keep _ _ _ st2 λb _ o e=>kp b o (Qy b o e)
 generalize hR:(λr s'=>compPost (model X.prog X.w) X.A X.xe use QQ (.ref s2.heap.objs.size) (s2.heap.push { cls:=.type "list",data:=.seq ([]:List a9).toArray }).objs.size r s')=R
 generalize ED:iW X scope Hq (s2.heap.push { cls:=.type "list",data:=.seq ([]:List a9).toArray }).objs.size N { s2 with heap:=s2.heap.push { cls:=.type "list",data:=.seq ([]:List a9).toArray } }
  (upd H2 s2.heap.objs.size (.lst [])) fp (X.pn++pins) (notedBy (model X.prog X.w) X.A (compEnvC scope Hq (s2.heap.push { cls:=.type "list",data:=.seq ([]:List a9).toArray }).objs.size X.env) λe s'=>R (.error e) s')=X'
 have I4:Inv X' [] (pZ σ) (upd H2 s2.heap.objs.size (.lst [])) { s2 with heap:=h₁ }:=by
  subst ED
  exact M3 (s:={ s2 with heap:=s2.heap.push { cls:=.type "list",data:=.seq ([]:List a9).toArray } }) S G I3 f3 kp T4 s2.toks
 have PG':PG X' tg g:=by subst ED;exact hg _ _ _ _ _ _ _
 have PE':PE X' elt te:=by subst ED;exact he _ _ _ _ _ _ _
 have PT':PTs X' ifs tt:=by subst ED;exact ht _ _ _ _ _ _ _
 have stat:∀{H':Hp},(∀b∈fp,H' b=none)->∀b∈fp,qR X' [] H' b:=λhn b hb=>by
  subst ED
  obtain⟨⟨_,f1,fn,_,f4,f5⟩,lt⟩:=f3 b hb
  refine⟨hn b hb,eA lt,λz=>?_,.inl hb,λx c e=>(G.look x c e).elim (λz=>m_ (yB lt z.1)) λz=>f4 x c (S.sub x c z),λp hp=>f5 p ?_⟩
  ·rcases c_.mp (I3.vC b z)with q|q
   ·exact f1 q
   ·exact fn q
  ·rcases e_.mp hp with z|z
   ·exact z
   ·cases z
 have hp1:X'.prog=X.prog:=by subst ED;rfl
 have hp2:X'.w=X.w:=by subst ED;rfl
 have hp3:X'.K=X.K:=by subst ED;rfl
 have WH:X'.calm=true:=by subst ED;exact hc
 have UK:X'.A=X.A:=by subst ED;rfl
 have hp6:X'.env=compEnvC scope Hq (s2.heap.push { cls:=.type "list",data:=.seq ([]:List a9).toArray }).objs.size X.env:=by subst ED;rfl
 have Yj:X'.xe=notedBy (model X.prog X.w) X.A X'.env λe s'=>R (.error e) s':=by subst ED;rfl
 have fin:∀{H':Hp} {s':ba},Inv X' [] (pZ σ) H' s'->Q (.ref s2.heap.objs.size) H'->R (.ok .next) s':=by
  intro H' s' I5 q
  subst hR
  obtain⟨mC,hnC,_⟩:=I5.loc
  rw[hp6]at hnC
  have hok:nZ X.prog X.w H' s'.heap:=by
   have z:=I5.hok
   rw[hp1,hp2]at z
   exact z
  have u:Un (frs X.stack) fp (upd H2 s2.heap.objs.size (.lst [])) H' (s2.heap.push { cls:=.type "list",data:=.seq ([]:List a9).toArray }) s'.heap:=by
   have z:=I5.base
   subst ED
   exact z
  have hC:H' (s2.heap.push { cls:=.type "list",data:=.seq ([]:List a9).toArray }).objs.size=none:=by
   have zf:=I5.free
   rw[hp6]at zf
   exact zf
  refine Ng _ _ mC H' s' (I3.Ra (ch:=fp) (s':=s') (by have z:=I5.os;subst ED;exact z) u hok I5.bare (λb hb=>?_) (by have z:=I5.up;subst ED;exact bj I3.up z)) (I3.uU (a7 _) hC) hnC q
  obtain⟨⟨_,f1,_,f3',f4,f5⟩,_⟩:=f3 b hb
  exact⟨f3',f1,f4,f5⟩
 have loop:∀s3:ba,Inv X' [] (pZ σ) (upd H2 s2.heap.objs.size (.lst [])) s3->tn 0 s3.heap →
   codeAny (model X.prog X.w) X.A (.compLoop (.ListComp elt [⟨tg,iter,ifs,0⟩] scope pos) 0 (.ref it) (.ref s2.heap.objs.size) X'.env) R s3:=by
  intro s3 J3 t3
  refine codeAny_loop rfl (λn s'=>∃i ys H',Inv X' [] (pZ σ) H' s'/\tn i s'.heap/\(∀b∈fp,H' b=none)/\W i n ys H') ?_ m0 ⟨0,[],_,J3,t3,λb hb=>(f3 b hb).1.1,w0⟩
  rintro n s4 ⟨i,ys,H4,J4,t4,n4,w4⟩
  show b_ _ _ ((compTurn (.ListComp elt [⟨tg,iter,ifs,0⟩] scope pos) 0 (.ref it) (.ref s2.heap.objs.size) X'.env).onRaise (λx=>do noteFrame x X'.env;theTreesLotGoes x)) _ _ s4
  refine wpAny_noted ?_
  rw[compTurn_list]
  refine a0 (A_ (a0 ?_))
  rcases turn i n ys H4 w4 with⟨stop,q⟩|⟨go,step⟩
  ·have z:=T.done X' hp1 hp2 hp3 WH i [] s4 (pZ σ) H4 (notedBy (model X.prog X.w) X.A X'.env λe s'=>R (.error e) s') J4 (stat n4) t4 stop
   rw[UK]at z
   refine h_ z (λr s5 ⟨hr,J5⟩=>?_) λ_ _ x=>x
   subst hr
   exact bi (fin J5 q)
  ·have z:=T.item X' hp1 hp2 hp3 WH i [] s4 (pZ σ) H4 (notedBy (model X.prog X.w) X.A X'.env λe s'=>R (.error e) s') J4 (stat n4) t4 go
   rw[UK]at z
   refine h_ z (λr s5 ⟨u,hr,h5⟩=>?_) λ_ _ x=>x
   subst hr
   refine a0 (h_ h5 (λ_ s6 ⟨x,H6,J6,r6,y6,t6,n6⟩=>?_) λ_ _ x=>x)
   have J6':=J6.pinned (stat n6) (T.obj _ _ t6)
   have zg:=PG' _ s6 (pZ σ) H6 x u _ J6' r6 (step x H6 y6)
   rw[hp1,hp2,UK,Yj]at zg
   refine a0 (h_ zg (λ_ s7 ⟨FJ,H7,J7,k7,q7⟩=>?_) λ_ _ x=>x)
   have zt:=PT' _ s7 FJ H7 _ J7 q7
   rw[hp1,hp2,UK,Yj]at zt
   refine a0 (h_ zt (λok s7b h7b=>?_) λ_ _ x=>x)
   obtain⟨H7b,Xx,q7b⟩:=h7b
   cases ok with
   |false =>
    obtain⟨m',hm,w8⟩:=Wr q7b
    refine bi ⟨rfl,m',hm,i+1,ys,_,?_,?_,?_,w8⟩
    ·refine Xx.Ql.weak ?_ ?_
     ·rw[S.len,Xx.len]
      subst ED
      rfl
     ·exact k7
    ·exact T.keep _ _ _ t6 λb hb o e=>(Xx.pin (b,o) (eQ _ (eQ _ (lR hb e)))).1
    ·intro b hb
     obtain⟨o,e,d⟩:=T.obj _ _ t6 b hb
     exact(Xx.pin (b,o) (eQ _ (eQ _ (lR hb e)))).2.1
   |true =>
    have ze:=PE' _ s7b FJ H7b _ Xx (Wq q7b)
    rw[hp1,hp2,UK,Yj]at ze
    refine a0 (a0 (h_ ze (λyv s8 h8=>?_) λ_ _ x=>x))
    obtain⟨y,H8,J8,r8,e8,z8,m',hm,w8⟩:=h8
    have za:=b8 (X:=X') _ s8 FJ H8 (.ref s2.heap.objs.size) [y] (.ref s2.heap.objs.size) [yv] (λ_ H9=>H9=upd H8 s2.heap.objs.size (.lst (ys++[y]))) J8 rfl (.cons r8 .nil) ⟨_,ys,y,rfl,rfl,e8,z8,rfl⟩
    rw[hp1,hp2,UK,Yj]at za
    refine a0 (h_ za (λ_ s9 h9=>?_) λ_ _ x=>x)
    obtain⟨_,H9,J9,_,e9⟩:=h9
    subst e9
    refine bi (bi ⟨rfl,m',hm,i+1,ys++[y],_,?_,?_,?_,w8⟩)
    ·refine J9.Ql.weak ?_ ?_
     ·rw[S.len,J9.len]
      subst ED
      rfl
     ·exact k7
    ·exact T.keep _ _ _ t6 λb hb o e=>(J9.pin (b,o) (eQ _ (eQ _ (lR hb e)))).1
    ·intro b hb
     obtain⟨o,e,d⟩:=T.obj _ _ t6 b hb
     exact(J9.pin (b,o) (eQ _ (eQ _ (lR hb e)))).2.1
 have l0:=loop _ I4 st3
 have l1:=codeAny_compStart_list l0 (T.self X.A 0 _ _ _ st3 l0)
 rw[hp6]at l1
 subst hR
 exact l1
theorem Bl{X:Cx}{elt tg iter:Expr}{scope:oP}{pos pos':sx}{wi:TI}{g:TG}{te:TE}{N:List bp}{pZ:St->St}(hc:X.calm=true)(hS:X.Ok->∃cl,c6 X scope cl N pZ)(hi:PI X tg iter wi)
  (hg:∀cl C s H ex pn E,PG (iW X scope cl C N s H ex pn E) tg g) (he:∀cl C s H ex pn E,PE (iW X scope cl C N s H ex pn E) elt te) (hs:∀x,foldedSetIterable iter X.env x=pure x)
  {pins:List (a5×mi)} {s:ba} {σ:St} {H:Hp} {Q:VK} {use:Option (a9->Sem Unit)} {QQ:a9->ba->Prop} (I:Inv X pins σ H s) (h:DF wi g te pZ σ H Q)
  (Ng:∀(l C:a5) (mC:bp->Option a9) (H':Hp) (s':ba),Inv X pins σ H' s'->qR X pins H' C->s'.heap.Ns C mC->Q (.ref l) H'->compPost (model X.prog X.w) X.A X.xe use QQ (.ref l) C (.ok .next) s') :
  b_ (model X.prog X.w) X.A (comprehension (.ListComp elt [⟨tg,iter,[],0⟩] scope pos) scope X.env pos' (newList []) false (eval iter X.env) use) QQ X.xe s:=by
 have e:DF wi g te pZ=yc wi g (λ_ H Q=>Q true H) te pZ:=by unfold DF yc;simp only[if_true]
 rw[e]at h
 exact y9 hc hS hi hg he (λ_ _ _ _ _ _ _ pins s σ H Q I q=>bi ⟨H,I,q⟩) hs I h Ng
theorem qp{X:Cx}{elt tg iter:Expr}{scope:oP}{pos:sx}{wi:TI}{g:TG}{te:TE}{N:List bp}{pZ:St->St}(hc:X.calm=true)(hS:X.Ok->∃cl,c6 X scope cl N pZ)(hi:PI X tg iter wi)
  (hg:∀cl C s H ex pn E,PG (iW X scope cl C N s H ex pn E) tg g) (he:∀cl C s H ex pn E,PE (iW X scope cl C N s H ex pn E) elt te)
  (hs:∀x,foldedSetIterable iter X.env x=pure x:=by intro _;rfl):PE X (.ListComp elt [⟨tg,iter,[],0⟩] scope pos) (DF wi g te pZ):=by
 intro pins s σ H Q I h
 rw[eval_ListComp]
 refine Bl (use:=none) (QQ:=EP X pins σ Q) hc hS hi hg he hs I h ?_
 intro l C mC H' s' I' fp hn q
 exact⟨mC,hn,λh' sb=>⟨.ref l,H',I'.moved (ch:=[C]) (t':=s'.toks) (λb o hb e=>(sb.2 b (by simpa using hb)).trans e) (λb hb=>by rw[cq.mp hb];exact fp),rfl,q⟩⟩
theorem tS{X:Cx}{i:Nat}{y:bp}{py spos:sx}{elt tg iter:Expr}{scope:oP}{pos:sx}{wi:TI}{g:TG}{te:TE}{N:List bp}{pZ:St->St}(hN:X.N.Nodup)(hi:X.N[i]? =some y)(hx:Loc X.env.scope y)
  (hc:X.calm=true) (hS:X.Ok->∃cl,c6 X scope cl N pZ) (hit:PI X tg iter wi)
  (hg:∀cl C s H ex pn E,PG (iW X scope cl C N s H ex pn E) tg g) (he:∀cl C s H ex pn E,PE (iW X scope cl C N s H ex pn E) elt te)
  (hsw:swapsWith (.ListComp elt [⟨tg,iter,[],0⟩] scope pos) (some (.Name y py)) spos.line X.env=pure true:=by rfl)
  (hf:X.fn y=true\/X.env.scope.names.lookup y=some .local:=by first|exact .inl rfl|exact .inr rfl|assumption)
  (hs:∀x,foldedSetIterable iter X.env x=pure x:=by intro _;rfl):PS X (.Assign [.Name y py] (.ListComp elt [⟨tg,iter,[],0⟩] scope pos) spos) (SK (DF wi g te pZ) (Nm i)):=by
 intro pins s σ H D I h
 rw[exec_Assign_Name_used _ _ _ _ hsw]
 refine a0 (A_ (a0 ?_))
 show b_ _ X.A (do let _ ←comprehension (.ListComp elt [⟨tg,iter,[],0⟩] scope pos) scope X.env _ (newList []) false (eval iter X.env) (some (assign (.Name y py) X.env))) _ _ s
 refine a0 (h_ (Bl (use:=some (assign (.Name y py) X.env)) (QQ:=λ_ s'=>SP X pins D .next s') hc hS hit hg he hs I h ?_) (λ_ s' hq=>bi (bi hq)) λ_ _ e=>e)
 intro l C mC H' s' I' fp hn q
 show b_ _ X.A (assign (.Name y py) X.env (.ref l)) _ _ _
 refine wpAny_assign_Name (AL I' hN hi hx (v:=.ref l) rfl (λs2 I2 sb=>?_) hf)
 obtain⟨a,sb,ha⟩:=sb
 have nC:C≠a:=by
  obtain⟨_,f1,_,_,f4,_⟩:=fp
  rcases ha with z|z
  ·rw[z];exact f1
  ·exact λe=>f4 y a z e.symm
 refine⟨mC,hn.sameBut sb nC,λh' sb2=>?_⟩
 refine⟨_,H',I2.moved (ch:=[C]) (t':=s2.toks) (λb o hb e=>(sb2.2 b (by simpa using hb)).trans e) (λb hb=>?_),q⟩
 rw[cq.mp hb]
 exact fp
end
section
theorem Py{X:Cx}{K':PySem.W.Frag}(hK:X.K=K'):Xy X (VA K'):=by subst hK;exact aO
end
end L2
namespace GP
open PySem L2 rW
section
theorem Wo.au{t q:a5}{H:Hp}{o:HO}(n:q≠t):Wo t (L2.upd H q o)=L2.upd (Wo t H) q o:=by
 funext b
 by_cases e:b=q
 ·subst e
  rw[L2.ah]
  unfold Wo
  rw[if_neg n,L2.ah]
 ·rw[L2.au e]
  unfold Wo
  split
  ·rfl
  ·rw[L2.au e]
theorem Wo.step{t:a5}{H H':Hp}{o:HO}(e:aj (L2.upd H t o) H'):aj (Wo t H) (Wo t H'):=by
 have z:=Wo.same (t:=t) e
 rw[Wo.set]at z
 exact z
theorem Wo.back{t r:a5}{H H':Hp}{o:HO}(e:aj (Wo t H) (Wo t H'))(ht:H' t=some o)(h:H' r=none):H r=none:=by
 cases q:H r with
 |none=>rfl
 |some u =>
  have n:r≠t:=λz=>by rw[z,ht]at h;cases h
  have z:=Wo.sub _ _ (e r u (Wo.in n q))
  rw[h]at z
  cases z
theorem Paired.Vr{α β:Type}{F:α->β->Prop}{x:α}{y:β}:∀{l₁:List α} {l₂:List β} (j:Nat),Paired F l₁ l₂->F x y->Paired F (l₁.set j x) (l₂.set j y)
 |_,_,_,.nil,_=>.nil
 |_,_,0,.cons r t,h=>.cons h t
 |_,_,j+1,.cons r t,h=>.cons r (Paired.Vr j t h)
theorem vg.put{K:PySem.W.Frag}{H:Hp}{l r p:a5}{rs ps:List a5}{rows:List (List bT)}{row:List bT}{i j:Nat}{f:bT}(h:vg K H l rs rows)(hr:rs[i]? =some r)(TV:rows[i]? =some row)
  (hps:H r=some (.lst (ps.map V.ref))) (hp:Paired (jD K H) ps row) (hf:jD K H p f):vg K (L2.upd H r (.lst ((ps.map V.ref).set j (.ref p)))) l rs (rows.set i (row.set j f)):=by
 have X8:l≠r:=λz=>h.nl (z▸cx hr)
 refine⟨by rw[s_];exact h.len,by rw[L2.au X8];exact h.at_,h.nd,h.nl,λi' r' SY h1 h2=>?_⟩
 have hi:i<rows.length:=(bd.mp TV).1
 by_cases e:i=i'
 ·subst e
  rw[hr]at h1
  cases h1
  rw[y4,if_pos rfl,if_pos hi]at h2
  cases h2
  refine⟨ps.set j p,by rw[L2.ah,List.map_set],?_⟩
  exact Paired.g8 (Paired.Vr j hp hf) λ_ _ z=>cE.off hps z
 ·rw[y4,if_neg e]at h2
  obtain⟨ps',a,b⟩:=h.row i' r' SY h1 h2
  have n:r'≠r:=λz=>by
   subst z
   exact e ((List.getElem?_inj (bd.mp hr).1 h.nd).mp (hr.trans h1.symm))
  exact⟨ps',by rw[L2.au n];exact a,Paired.g8 b λ_ _ z=>cE.off hps z⟩
theorem vg.snoc{K:PySem.W.Frag}{H H':Hp}{l r:a5}{rs ps:List a5}{rows:List (List bT)}{row:List bT}(h:vg K H l rs rows)(e:aj H H')(hr:H r=none)(hps:H' r=some (.lst (ps.map V.ref)))(hp:Paired (jD K H') ps row):
  vg K (L2.upd H' l (.lst (rs.map V.ref++[.ref r]))) l (rs++[r]) (rows++[row]):=by
 have hl':=e _ _ h.at_
 have X8:r≠l:=λz=>by rw[z,h.at_]at hr;cases hr
 have nin:r∉rs:=λz=>by
  obtain⟨i,hi,ei⟩:=n_ z
  have hi2:i<rows.length:=by rw[←h.len];exact hi
  obtain⟨ps',a,_⟩:=h.row i r rows[i] (by rw[a6 hi,ei]) (a6 hi2)
  rw[hr]at a
  cases a
 refine⟨by rw[cn,cn,h.len];rfl,by rw[L2.ah,dC];rfl,?_,?_,λi r' SY h1 h2=>?_⟩
 ·refine y7.mpr ⟨h.nd,(by simp),λx hx y hy z=>?_⟩
  rw[cq.mp hy]at z
  exact nin (z▸hx)
 ·intro z
  rcases e_.mp z with z|z
  ·exact h.nl z
  ·exact X8 (cq.mp z).symm
 ·by_cases q:i<rs.length
  ·rw[ik q]at h1
   rw[ik (by rw[←h.len];exact q)]at h2
   obtain⟨ps',a,b⟩:=h.row i r' SY h1 h2
   have n:r'≠l:=λz=>h.nl (z▸cx h1)
   exact⟨ps',by rw[L2.au n];exact e _ _ a,Paired.g8 b λ_ _ z=>cE.off hl' (z.same e)⟩
  ·have q':rs.length<=i:=z_ q
   rw[js q']at h1
   rw[js (by rw[←h.len];exact q')]at h2
   have z:i-rs.length=0:=by
    have:=(bd.mp h1).1
    simp at this
    omega
   rw[z]at h1
   rw[←h.len,z]at h2
   cases h1
   cases h2
   exact⟨ps,by rw[L2.au X8];exact hps,Paired.g8 hp λ_ _ z=>cE.off hl' z⟩
end
section
section
variable{K:PySem.W.Frag}{C:a5}{H0 H H':Hp}{t l x o m:a5}{rs:List a5}{sg:bp}{rows:List (List bT)}{fo fm:bT}{k:Int}
end
end
end GP
namespace L2
open PySem PySem.Spec PyProof.Rows
noncomputable def KDict(P:bn)(w:df)(K:PySem.W.Frag)(a:a5)(kvs:List (Key×V)):Prop:=(a==sysModules)=false/\∃vs,KV kvs vs/\∀h:eJ,K.In h->h.DictOf (bH P w) a vs
noncomputable def ab7(w:df)(x:bp×Do×a9):DictEntry:=⟨hashStr w x.1,.str x.1 x.2.1,x.2.2⟩
theorem KDict.mk {P:bn}{w:df}{K:PySem.W.Frag}{a:a5}{ep:Nat}{es:Array DictEntry}(ys:List (bp×Do×a9)){vs:List V}(hk:K.lookup a=some { cls:=.type "dict",data:=.dict es ep })
  (he:es.toList=ys.map (ab7 w)) (hn:(ys.map (·.1)).Nodup) (hv:Vals vs (ys.map (·.2.2))) (hs:(a==sysModules)=false):KDict P w K a ((ys.map (·.1)).zipWith (λx v=>(Sum.inr x,v)) vs):=by
 refine⟨hs,ys.map λy=>(Sum.inr y.1,y.2.2),?_,λh X=>⟨_,es,ep,X a _ hk,⟨rfl,rfl,rfl⟩,rfl,?_,?_,?_⟩⟩
 ·clear hk he hn
  induction ys generalizing vs with
  |nil=>cases hv;exact .nil
  |cons y ys ih =>
   cases hv with
   |cons r t=>exact .cons ⟨rfl,r⟩ (ih t)
 ·intro e hm
  rw[←Array.mem_toList_iff,he]at hm
  obtain⟨y,_,rfl⟩:=gL.mp hm
  exact⟨Sum.inr y.1,mV P w _ _,rfl⟩
 ·rw[he]
  clear hk he hn hv
  induction ys with
  |nil=>exact .nil
  |cons y ys ih=>exact .cons (mV P w _ _) rfl ih
 ·rw[n0]
  have e:((λx:Key×a9=>x.1) ∘ λy:bp×Do×a9=>((Sum.inr y.1:Key),y.2.2))=(λx:bp=>(Sum.inr x:Key)) ∘ (·.1):=rfl
  rw[e,←n0]
  exact List.Pairwise.map _ (λa b h z=>h (Sum.inr.inj z)) hn
section
variable{X:Cx}
theorem Eg:uh X (compareOp .NotIn) (λx y H Q=>∃a kvs k,y= .ref a/\x=kV k/\KDict X.prog X.w X.K a kvs/\Q (.bl (!(iO kvs k).isSome)) H):=by
 intro pins s σ H x y v u Q I rx ry h
 obtain⟨a,kvs,k,rfl,rfl,⟨hs,vs,rel,dd⟩,q⟩:=h
 cases ry
 refine wpAny_notIn_of (yQ rx) hs (dd _ I.qv).mapOf ?_
 rw[←(rel.val k).pS]
 exact⟨.bl _,H,I.tok _,rfl,q⟩
noncomputable def Vc(P:bn)(w:df)(K:PySem.W.Frag)(td ty:TE):TE:=λσ H Q=>td σ H λx H1=>ty σ H1 λy H2=>∃a kvs k v,x= .ref a/\y=kV k/\KDict P w K a kvs/\iO kvs k=some v/\Q v H2
theorem OT{o i:Expr}{pos:sx}{td ty:TE}(ho:PE X o td)(hi:PE X i ty)(hs:Qg i):PE X (.Subscript o i pos) (Vc X.prog X.w X.K td ty):=by
 intro pins s σ H Q I h
 refine uo PySem.F.slot_dict_getitem.lookup hs (dG (ho pins s σ H _ I h) λu s1 ⟨x,H1,I1,rx,q1⟩=>dG (hi pins s1 σ H1 _ I1 q1) λiv s2 ⟨y,H2,I2,ry,a,kvs,k,v,ex,ey,⟨hd,vs,rel,dd⟩,l,q2⟩=>?_)
 subst ex ey
 obtain rfl:u=Value.ref a:=rx
 obtain⟨w',hw,rw'⟩:=oG.some_of (v:=v) (o:=valueAt vs k) (by rw[←l];exact rel.val k)
 have d2:=dd _ I2.qv
 exact⟨d2.typeIs,wpAny_getItem_of (yQ ry) d2.mapOf hw ⟨v,H2,I2.tok _,rw',q2⟩⟩
end
end L2
namespace GP
open PySem L2 rW
section
noncomputable def TupAt(H:Hp)(q:a5)(f:bT):Prop:=H q=some (.tup [.int f.1,.int f.2])
theorem TupAt.same{H H':Hp}{q:a5}{f:bT}(e:aj H H')(h:TupAt H q f):TupAt H' q f:=e _ _ h
theorem TupAt.fr{K:PySem.W.Frag}{H:Hp}{q:a5}{f:bT}(h:TupAt H q f):jD K H q f:=cE.of h
theorem TupAt.off{H:Hp}{q l:a5}{f:bT}{ys:List V}{o:HO}(hl:H l=some (.lst ys))(h:TupAt H q f):TupAt (L2.upd H l o) q f:=by
 have n:q≠l:=qL h hl (by intro z;cases z)
 show L2.upd H l o q=_
 rw[L2.au n];exact h
noncomputable def VL(c:Nat):Prop:=c=112\/c=97\/c=98
noncomputable def stp(q:bT)(c:Nat):bT:=(q.1+(if c=98 then 0 else 1),q.2+(if c=97 then 0 else 1))
noncomputable def zX(q:bT)(cs:List Nat)(k:Nat):bT:=(cs.take k).foldl stp q
theorem yt{q:bT}{cs:List Nat}{k c:Nat}(h:cs[k]? =some c):zX q cs (k+1)=stp (zX q cs k) c:=by
 unfold zX
 rw[take_snoc h,wv]
 rfl
noncomputable def InR(f s:bp)(q:bT):Prop:=0<=q.1/\q.1<=(f.cps.size:Int)/\0<=q.2/\q.2<=(s.cps.size:Int)
structure Way(f s:bp)(b:bT)(mv:bp):Prop where
 fs:f.cps.size<=1000
 ss:s.cps.size<=1000
 ms:mv.cps.size<=2000
 ok:∀c∈mv.cps.toList,VL c
 Yg:∀k,k<=mv.cps.size->InR f s (zX b mv.cps.toList k)
noncomputable def Of(sg x:bp):Prop:=∀c∈x.cps.toList,c∈sg.cps.toList
theorem Hj{x:bp}{i c:Nat}(h:x.cps[i]? =some c):i<x.cps.size:=by
 rw[←fg]at h
 have:=(bd.mp h).1
 simpa using this
theorem lC{x:bp}{i c:Nat}(h:x.cps[i]? =some c):c∈x.cps.toList:=by
 rw[←fg]at h
 exact cx h
theorem e7{x:bp}{i c:Nat}(h:x.cps[i]? =some c):x.cps.toList[i]? =some c:=by
 rw[fg];exact h
theorem vY{x:bp}{i:Nat}(h:i<x.cps.size):∃c,x.cps[i]? =some c:=⟨x.cps[i],by simp[h]⟩
noncomputable def La(sg:bp)(rows:List (List bT))(u:Int)(a b:Nat):Int :=
 match (rows[sg.cps.toList.idxOf a]?).bind (·[sg.cps.toList.idxOf b]?)with
 |some f=>f.1*(u / f.2)
 |none=>0
theorem Gu{sg:bp}{rows:List (List bT)}{u:Int}{a b:Nat}(sq:NZ sg.cps.size rows)(ha:a∈sg.cps.toList)(hb:b∈sg.cps.toList):
  ∃i j f,sg.cps[i]? =some a/\sg.cps[j]? =some b/\Oo rows i j f/\La sg rows u a b=f.1*(u / f.2):=by
 have hi:=List.idxOf_lt_length_iff.mpr ha
 have hj:=List.idxOf_lt_length_iff.mpr hb
 have ei:sg.cps.toList[sg.cps.toList.idxOf a]? =some a:=by rw[a6 hi,List.getElem_idxOf hi]
 have ej:sg.cps.toList[sg.cps.toList.idxOf b]? =some b:=by rw[a6 hj,List.getElem_idxOf hj]
 have hi':sg.cps.toList.idxOf a<rows.length:=by rw[sq.1];simpa using hi
 have hj':sg.cps.toList.idxOf b<(rows[sg.cps.toList.idxOf a]).length:=by rw[sq.2 _ (kb hi')];simpa using hj
 refine⟨_,_,(rows[sg.cps.toList.idxOf a])[sg.cps.toList.idxOf b],by rw[←fg];exact ei,by rw[←fg];exact ej,⟨_,a6 hi',a6 hj'⟩,?_⟩
 unfold La
 rw[a6 hi']
 show(match (rows[sg.cps.toList.idxOf a])[sg.cps.toList.idxOf b]? with|some f=>f.1*(u / f.2)|none=>0)=_
 rw[a6 hj']
noncomputable def QJ(pc:Nat->Nat->Int)(op mo:Int)(f s:bp)(b:bT)(cs:List Nat)(i:Nat):Int :=
 match cs[i]? with
 |some c=>if c=112 then pc (f.cps.toList.getD (zX b cs i).1.toNat 0) (s.cps.toList.getD (zX b cs i).2.toNat 0)else if i≠0/\cs[i-1]? =some c then mo else op+mo
 |none=>0
noncomputable def cst(pc:Nat->Nat->Int)(op mo:Int)(f s:bp)(b:bT)(cs:List Nat):Nat->Int
 | 0=>0
 |k+1=>cst pc op mo f s b cs k+QJ pc op mo f s b cs k
noncomputable def cX(u:Int)(f:bT):Int:=f.1*(u / f.2)
noncomputable def KG(sg:bp)(rows:List (List bT))(fo fm:bT)(f s:bp)(b:bT)(mv:bp)(k:Nat):Int :=
 cst (La sg rows (aX fo.2 fm.2 rows)) (cX (aX fo.2 fm.2 rows) fo) (cX (aX fo.2 fm.2 rows) fm) f s b mv.cps.toList k
noncomputable def uv(K:PySem.W.Frag):Sp:=λvs H Q _=>∃(f s:bp) (q:a5) (ij:bT),vs=[.str f,.str s,.ref q]/\jD K H q ij/\InR f s ij/\f.cps.size<=1000/\s.cps.size<=1000/\Q .ia H
noncomputable def DV(K:PySem.W.Frag):Sp:=λvs H Q _=>∃(q:a5) (c:Nat) (ij:bT),vs=[.ref q,.str ⟨#[c]⟩]/\jD K H q ij/\VL c/\∀r,H r=none->Q (.ref r) (L2.upd H r (.tup [.int (stp ij c).1,.int (stp ij c).2]))
noncomputable def DO(K:PySem.W.Frag):Sp:=λvs H Q _=>∃(f s:bp) (b:a5) (ij:bT) (mv:bp),vs=[.str f,.str s,.ref b,.str mv]/\jD K H b ij/\Way f s ij mv ∧
 ∀l H' (qs:List a5),aj H H'->H' l=some (.lst (qs.map V.ref))->qs.length=mv.cps.size+1->(∀(k:Nat) q,qs[k]? =some q->TupAt H' q (zX ij mv.cps.toList k))->Q (.ref l) H'
noncomputable def xO(K:PySem.W.Frag)(C:a5):Sp:=λvs H Q _=>∃(x:a5) (sg:bp) (rows:List (List bT)) (fo fm:bT) (a b:bp),vs=[.ref x,.str a,.str b]/\nO K C H x sg rows fo fm ∧
 Q (.int (if a=b then cX (aX fo.2 fm.2 rows) fm else cX (aX fo.2 fm.2 rows) fo+cX (aX fo.2 fm.2 rows) fm)) H
noncomputable def DU(K:PySem.W.Frag)(C:a5):Sp:=λvs H Q _=>∃(x:a5) (sg:bp) (rows:List (List bT)) (fo fm:bT) (f s:bp) (b:a5) (ij:bT) (mv:bp),vs=[.ref x,.str f,.str s,.ref b,.str mv]/\nO K C H x sg rows fo fm/\Of sg f/\Of sg s/\jD K H b ij/\Way f s ij mv ∧
 ∀q H',aj H H'->TupAt H' q (k9 (KG sg rows fo fm f s ij mv mv.cps.size,aX fo.2 fm.2 rows))->Q (.ref q) H'
theorem P8(mv:bp)(i c:Nat)(hi:i<mv.cps.size){a b:Int}:(if i≠0/\mv.cps.toList[i-1]? =some c then a else b)=(if(⟨#[c]⟩:bp)=(if i=0 then a_ "" else⟨#[mv.cps.toList.getD (i-1) 0]⟩)then a else b):=by
 by_cases h0:i=0
 ·rw[if_neg (λz=>z.1 h0),if_pos h0,if_neg]
  intro z
  have z2: #[c]= #[]:=congrArg Str.cps z
  simp at z2
 ·rw[if_neg h0]
  have hl:i-1<mv.cps.toList.length:=by rw[eD];omega
  by_cases e:mv.cps.toList[i-1]? =some c
  ·rw[if_pos ⟨h0,e⟩,cf,e]
   exact(if_pos rfl).symm
  ·rw[if_neg (λz=>e z.2),if_neg]
   intro z
   have z2: #[c]= #[mv.cps.toList.getD (i-1) 0]:=congrArg Str.cps z
   have z3:c=mv.cps.toList.getD (i-1) 0:=by simpa using z2
   rw[cf,a6 hl]at z3
   exact e (by rw[a6 hl,z3];rfl)
end
section
theorem cE.wo{K:PySem.W.Frag}{H:Hp}{t a:a5}{ys xs:List V}(ht:H t=some (.lst ys))(h:cE K H a xs):cE K (Wo t H) a xs:=by
 rcases h with(h|⟨u,h⟩)|h
 ·exact .inl (.inl (Wo.in (qL h ht (by intro z;cases z)) h))
 ·exact .inl (.inr ⟨u,Wo.in (qL h ht (by intro z;cases z)) h⟩)
 ·exact .inr h
theorem nO.wo{K:PySem.W.Frag}{C:a5}{H:Hp}{t x:a5}{ys:List V}{sg:bp}{rows:List (List bT)}{fo fm:bT}(ht:H t=some (.lst ys))(nf:N2 H x t)(h:nO K C H x sg rows fo fm):nO K C (Wo t H) x sg rows fo fm:=by
 obtain⟨a,b,c,d,f,g,i,dx,P,o,m,dd,kvs,h1,⟨qs,h2,h2'⟩,h3,h4,h5,h6,fs,h7,h8,h9⟩:=h
 have n:dd.2≠t:=λz=>nf _ _ _ h1 (by rw[qC,z])
 refine⟨a,b,c,d,f,g,i,dx,P,o,m,dd,kvs,Wo.in (qL h1 ht (by intro z;cases z)) h1,⟨qs,cE.wo ht h2,Paired.g8 h2' λq r z=>?_⟩,cE.wo ht h3,cE.wo ht h4,Wo.in (qL h5 ht (by intro z;cases z)) h5,h6,fs,h7,h8,Wo.in n h9⟩
 obtain⟨ps,z1,z2⟩:=z
 exact⟨ps,cE.wo ht z1,Paired.g8 z2 λ_ _ y=>cE.wo ht y⟩
end
end GP
namespace L2
open PySem PySem.Spec PyProof.Rows
section
noncomputable def HF(h:eJ)(φ:a5->Prop)(ea:a5)(cls:a9)(od:Option a5):Prop :=
 φ ea/\∃vs sl,h.get? ea=some ⟨cls,od,.fields vs,sl⟩/\(od=none->vs[2]? =some .none)/\(vs[1]? =some .none ∨
  ∃T oT ts,vs[1]? =some (.ref T)/\T≠ea/\φ T/\h.get? T=some oT/\oT.data= .fields ts/\3<ts.size)
noncomputable def AB(h:eJ)(φ:a5->Prop)(ea:a5)(cls:a9)(od:Option a5):Prop :=
 φ ea/\∃vs sl,h.get? ea=some ⟨cls,od,.fields vs,sl⟩/\(od=none->vs[2]? =some .none) ∧
  ∃T oT ts,vs[1]? =some (.ref T)/\T≠ea/\φ T/\h.get? T=some oT/\oT.data= .fields ts/\3<ts.size
theorem AB.n{h:eJ}{φ:a5->Prop}{ea:a5}{cls:a9}{od:Option a5}(x:AB h φ ea cls od):HF h φ ea cls od:=by
 obtain⟨p,vs,sl,e,c2,t⟩:=x
 exact⟨p,vs,sl,e,c2,.inr t⟩
theorem HF.to{h:eJ}{φ ψ:a5->Prop}{ea:a5}{cls:a9}{od:Option a5}(x:HF h φ ea cls od)(m:∀b,φ b->ψ b):HF h ψ ea cls od:=by
 obtain⟨p,vs,sl,e,c2,t⟩:=x
 refine⟨m _ p,vs,sl,e,c2,?_⟩
 rcases t with t|⟨T,oT,ts,a,b,c,d⟩
 ·exact .inl t
 ·exact .inr ⟨T,oT,ts,a,b,m _ c,d⟩
structure o6(fr:List a5)(φ:a5->Prop)(h h':eJ):Prop where
 keep:∀b o,h.get? b=some o->¬ φ b->b∉fr->h'.get? b=some o
 slot:∀b o,h.get? b=some o->¬ φ b->∃sl,h'.get? b=some { o with slots:=sl }
 there:∀b o,h.get? b=some o->∃o',h'.get? b=some o'
 size:h.objs.size<=h'.objs.size
theorem o6.refl{fr:List a5}{φ:a5->Prop}{h:eJ}:o6 fr φ h h:=⟨λ_ _ e _ _=>e,λ_ o e _=>⟨o.slots,e⟩,λ_ o e=>⟨o,e⟩,a7 _⟩
theorem o6.trans{fr:List a5}{φ:a5->Prop}{h h1 h2:eJ}(a:o6 fr φ h h1)(b:o6 fr φ h1 h2):o6 fr φ h h2 where
 keep:=λc o e n f=>b.keep c o (a.keep c o e n f) n f
 slot:=λc o e n=>by
  obtain⟨sl,e1⟩:=a.slot c o e n
  obtain⟨K8,e2⟩:=b.slot c _ e1 n
  exact⟨K8,e2⟩
 there:=λc o e=>by
  obtain⟨o',e1⟩:=a.there c o e
  exact b.there c o' e1
 size:=bj a.size b.size
section
variable{M:Dx}{A:eR}{E:a9->ba->Prop}{s:ba}{base:eJ}{env e0:Env}{r:List Env}{L ea:a5}{φ:a5->Prop}{cls:a9}{od:Option a5}
theorem EI{Q:a9->ba->Prop}(hs:A.frames=some (e0::r))(hl:s.heap.FunFrames base (e0::r))(h0:e0.frame=some L)(he:env.frame=some L)
  (h:∀h',Heap.SlotsOnly ((e0::r).filterMap (·.frame)) s.heap h'->Q (.ref L) { s with heap:=h' }):b_ M A (PySem.frameOf env) Q E s:=by
 unfold PySem.frameOf
 refine a0 (wpAny_frameEnvs hs ?_)
 rw[show((e0::r).dropWhile λx=>x.frame != env.frame)=e0::r by simp[List.dropWhile,h0,he]]
 unfold frameObject
 refine a0 (a0 (wpAny_readyFrames_fun hl λh1 k1=>bi ?_))
 rw[h0]
 exact bi (h h1 k1)
theorem Bj{vs:Array a9}{sl:Array (Option a9)}{head:a9}{hadNext:Bool}{Q:Unit->ba->Prop}(hs:A.frames=some (e0::r))(hl:s.heap.FunFrames base (e0::r))(h0:e0.frame=some L)(hf:env.frame=some L)
  (pe:φ ea) (he:s.heap.get? ea=some ⟨cls,od,.fields vs,sl⟩) (h1:1<vs.size) (h2:od=none->vs[2]? =some .none) (new:∀b,s.heap.objs.size<=b->φ b)
  (q:∀h',o6 (frs (e0::r)) φ s.heap h'->AB h' φ ea cls od->Q () { s with heap:=h' }) :
  b_ M A (do let a ←PySem.frameOf env;let pl ←entryPlaceOf L hadNext;let b ←EntryCells.newEntry head a .none (rawInt L) .none pl;setField (.ref ea) 1 b) Q E s:=by
 have nfr:ea∉(e0::r).filterMap (·.frame):=λhm=>by
  obtain⟨_,o,ho,nf⟩:=hl.mem hm
  rw[he]at ho
  cases ho
  exact nf vs rfl
 refine a0 (EI hs hl h0 hf λg k=>?_)
 refine a0 (wpAny_entryPlaceOf λpl pk=>?_)
 simp only[EntryCells.newEntry,newFields]
 refine a0 (pj ?_ (pk.sizeOk5 _ _ _ _ _))
 have e1:g.get? ea=some ⟨cls,od,.fields vs,sl⟩:=(k.2.1 ea nfr).trans he
 have ne:g.objs.size≠ea:=m_ (cm e1)
 generalize hob:({ cls:=.type "traceback",dict:=none,data:=.fields ([head,.ref L,.none,rawInt L,.none]++(if pl.isEmpty then fi 6 Value.none else pl)).toArray }:mi)=ob
 have e2:=a8 (h:=g) ob e1
 refine rg e2 rfl h1 (q _ ⟨λb o e n f=>?_,λb o e n=>?_,λb o e=>?_,?_⟩ ⟨pe,_,sl,ka _ e2 rfl,λz=>(Array.getElem?_setIfInBounds_ne (by decide)).trans (h2 z),g.objs.size,ob,_,?_,ne,new _ (Nat.le_of_eq k.1.symm),?_,by subst hob;rfl,?_⟩)
 ·have be:b≠ea:=λz=>n (z▸pe)
  rw[ip _ _ (Ne.symm be)]
  exact a8 _ ((k.2.1 b f).trans e)
 ·have be:b≠ea:=λz=>n (z▸pe)
  obtain⟨K8,e'⟩:=k.2.2 b o e
  refine⟨K8,?_⟩
  rw[ip _ _ (Ne.symm be)]
  exact a8 _ e'
 ·by_cases be:b=ea
  ·subst be
   exact⟨_,ka _ e2 rfl⟩
  ·obtain⟨K8,e'⟩:=k.2.2 b o e
   exact⟨{ o with slots:=K8 },(ip _ _ (Ne.symm be)).trans (a8 _ e')⟩
 ·rw[Heap.size_after_update,l_,k.1]
  exact g_ _
 ·simp[h1]
 ·rw[ip _ _ (Ne.symm ne)]
  exact bo _ (by subst hob;rfl)
 ·rw[d_,cn]
  exact dy (by decide:3<5) (km _ _)
theorem Ep{Q:Unit->ba->Prop}(hs:A.frames=some (e0::r))(hl:s.heap.FunFrames base (e0::r))(h0:e0.frame=some L)(hf:env.frame=some L)
  (x:HF s.heap φ ea cls od) (new:∀b,s.heap.objs.size<=b->φ b) (q:∀h',o6 (frs (e0::r)) φ s.heap h'->AB h' φ ea cls od->Q () { s with heap:=h' }) :
  b_ M A (noteFrame (.ref ea) env) Q E s:=by
 obtain⟨pe,vs,sl,he,c2,hv⟩:=x
 unfold noteFrame
 simp only[hf]
 rcases hv with h1|⟨T,oT,ts,h1,ne,pT,hT,hd,h3⟩
 ·refine a0 (lr he rfl h1 ?_)
  rw[if_neg (by decide)]
  exact Bj hs hl h0 hf pe he (wT.mp h1).1 c2 new q
 ·have g3:ts[3]? =some ts[3]:=sK h3
  refine a0 (lr he rfl h1 ?_)
  rw[if_pos (show(Value.ref T != Value.none)=true by simp)]
  refine a0 (lr hT hd g3 ?_)
  by_cases e3:(ts[3]==rawInt L)=true
  ·rw[if_pos e3]
   exact bi (q s.heap o6.refl ⟨pe,vs,sl,he,c2,T,oT,ts,h1,ne,pT,hT,hd,h3⟩)
  ·rw[if_neg e3]
   refine a0 (rg hT hd h3 ?_)
   have other:∀b,b≠T->(s.heap.update T (wt (·.setIfInBounds 3 Value.none))).get? b=s.heap.get? b:=λb z=>ip _ _ (Ne.symm z)
   have n1:o6 (frs (e0::r)) φ s.heap (s.heap.update T (wt (·.setIfInBounds 3 Value.none))):=by
    refine⟨λb o e n f=>(other b λz=>n (z▸pT)).trans e,λb o e n=>⟨o.slots,(other b λz=>n (z▸pT)).trans e⟩,λb o e=>?_,Nat.le_of_eq (Heap.size_after_update ..).symm⟩
    by_cases z:b=T
    ·subst z
     exact⟨_,ka _ hT (sk (mr hd _))⟩
    ·exact⟨o,(other b z).trans e⟩
   refine Bj (s:={ s with heap:=s.heap.update T (wt (·.setIfInBounds 3 Value.none)) }) hs (hl.of_keeps λb o e nf=>⟨o,(other b λz=>?_).trans e,rfl⟩) h0 hf pe ((other ea (Ne.symm ne)).trans he) (wT.mp h1).1 c2
    (λb hb=>new b (bj n1.size hb)) λh' n2 x2=>q h' (n1.trans n2) x2
   subst z
   rw[hT]at e
   cases e
   exact nf ts hd
theorem uc{fl:Option a5}{fr:List a5}{Q:Unit->ba->Prop}(x:AB s.heap φ ea cls od)(q:∀h',o6 fr φ s.heap h'->AB h' φ ea cls od->Q () { s with heap:=h' }):
  b_ M A (setFlight (.ref ea) fl) Q E s:=by
 obtain⟨pe,vs,sl,he,c2,T,oT,ts,h1,ne,pT,hT,hd,h3⟩:=x
 unfold setFlight
 refine a0 (lr he rfl h1 ?_)
 rw[if_pos (show(Value.ref T != Value.none)=true by simp)]
 have other:∀(f:mi->mi) b,b≠T->(s.heap.update T f).get? b=s.heap.get? b:=λf b z=>ip _ _ (Ne.symm z)
 refine rg hT hd h3 (q _ ⟨λb o e n f=>(other _ b λz=>n (z▸pT)).trans e,λb o e n=>⟨o.slots,(other _ b λz=>n (z▸pT)).trans e⟩,λb o e=>?_,Nat.le_of_eq (Heap.size_after_update ..).symm⟩
  ⟨pe,vs,sl,(other _ ea (Ne.symm ne)).trans he,c2,T,_,_,h1,ne,pT,ka _ hT (sk (mr hd _)),mr hd _,by simp[h3]⟩)
 by_cases z:b=T
 ·subst z
  exact⟨_,ka _ hT (sk (mr hd _))⟩
 ·exact⟨o,(other _ b z).trans e⟩
end
end
section
section
variable{X:Cx}{pins:List (a5×mi)}{σ:St}{H H':Hp}{s:ba}
noncomputable def Qa(X:Cx)(pins:List (a5×mi))(H:Hp)(b:a5):Prop :=
 H b=none/\b≠X.env.locals/\b∉X.fs/\(X.s₀.heap.get? b=none\/b∈X.ex)/\(∀x c,X.env.cells.lookup x=some c->c≠b)/\∀p∈X.pn++pins,p.1≠b
theorem Inv.XU{b:a5}(I:Inv X pins σ H s)(hn:s.heap.get? b=none)(hH:H' b=none):Qa X pins H' b:=by
 refine⟨hH,λz=>?_,λz=>?_,?_,λx c e z=>?_,λp hp z=>?_⟩
 ·obtain⟨m,⟨o,_,_,ho,_⟩,_⟩:=I.loc
  rw[←z,hn]at ho
  cases ho
 ·obtain⟨_,o,ho,_⟩:=I.tZ.mem z
  rw[hn]at ho
  cases ho
 ·by_cases hx:b∈X.ex
  ·exact .inr hx
  ·left
   cases q:X.s₀.heap.get? b with
   |none=>rfl
   |some o =>
    obtain⟨o',e⟩:=I.base.there b o q hx
    rw[hn]at e
    cases e
 ·obtain⟨v,o,ho,_⟩:=I.cell x c e
  rw[z,hn]at ho
  cases ho
 ·have q:=(I.pin p hp).1
  rw[z,hn]at q
  cases q
theorem Inv.UY{b:a5}(I:Inv X pins σ H s)(hb:s.heap.objs.size<=b):Qa X pins H b:=I.XU (lL hb) (I.hok.fresh hb)
theorem Un.noted{fs fr ex:List a5}{H₀:Hp}{h₀ h h':eJ}{φ:a5->Prop}(u:Un fs ex H₀ H h₀ h)(n:o6 fr φ h h')(new:∀b o,h₀.get? b=some o->b∉ex->¬ φ b)(hf:∀b o,h₀.get? b=some o->b∈fr->b∈fs):Un fs ex H₀ H h₀ h' where
 keep:=λb o e hn nf nx=>n.keep b o (u.keep b o e hn nf nx) (new b o e nx) λz=>nf (hf b o e z)
 slot:=λb o e hn hb nx=>by
  obtain⟨sl,e1⟩:=u.slot b o e hn hb nx
  obtain⟨K8,e2⟩:=n.slot b _ e1 (new b o e nx)
  exact⟨K8,e2⟩
 free:=u.free
 there:=λb o e nx=>by
  obtain⟨o',e1⟩:=u.there b o e nx
  exact n.there b o' e1
 tups:=u.tups
 sQ:=u.sQ
 tL:=u.tL
theorem nZ.noted{P:bn}{w:df}{h h':eJ}{fr:List a5}{φ:a5->Prop}(x:nZ P w H h)(n:o6 fr φ h h')(hφ:∀b,φ b->H b=none)(hf:∀b∈fr,H b=none):nZ P w H h':=λa u e =>
 (x a u e).stay (λb v hb q=>by
  have nb:H b≠none:=λz=>by
   rcases hb with y|y
   ·rw[y,e]at z;cases z
   ·rw[y]at z;cases z
  exact n.keep b v q (λz=>nb (hφ b z)) λz=>nb (hf b z)) (λ_ q=>q) λ_ _ q=>q
theorem Inv.noted{h':eJ}(I:Inv X pins σ H s)(n:o6 (frs X.stack) (Qa X pins H) s.heap h'):Inv X pins σ H { s with heap:=h' }:=by
 have cellK:∀x c,X.env.cells.lookup x=some c->∀v,s.heap.IsCell c v->h'.IsCell c v:=λx c e v ⟨o,ho,hd⟩=>by
  obtain⟨sl,q⟩:=n.slot c o ho λk=>k.2.2.2.2.1 x c e rfl
  exact⟨_,q,hd⟩
 refine⟨I.ok,I.os,I.bare,I.base.noted n (λb o e nx k=>?_) (λb o e z=>?_),?_,λx c e=>?_,I.free,I.j4,λp hp=>?_,I.hok.noted n (λb k=>k.1) I.BH,I.len,I.up⟩
 ·rcases k.2.2.2.1 with z|z
  ·rw[e]at z;cases z
  ·exact nx z
 ·rcases c_.mp (I.vC b z)with q|q
  ·subst q
   exact absurd (dy (cm e) I.ok.above) (f8 _)
  ·exact q
 ·obtain⟨m,⟨o,es,ep,ho,rr⟩,hl⟩:=I.loc
  obtain⟨sl,q⟩:=n.slot _ o ho λk=>k.2.1 rfl
  refine⟨m,⟨_,es,ep,q,rr⟩,λi x v e1 e2 e3=>?_⟩
  obtain⟨u,rv,l⟩:=hl i x v e1 e2 e3
  refine⟨u,rv,?_⟩
  rcases l with l|⟨k,c,e,z⟩
  ·exact .inl l
  ·exact .inr ⟨k,c,e,cellK x c e _ z⟩
 ·obtain⟨v,z⟩:=I.cell x c e
  exact⟨v,cellK x c e v z⟩
 ·obtain⟨e,hn,ne,nf,d⟩:=I.pin p hp
  refine⟨n.keep p.1 p.2 e (λk=>k.2.2.2.2.2 p hp rfl) λz=>?_,hn,ne,nf,d⟩
  rcases c_.mp (I.vC _ z)with q|q
  ·exact ne q
  ·exact nf q
end
theorem Un.same{fs ex:List a5}{H₀ H:Hp}{h₀ h h':eJ}(u:Un fs ex H₀ H h₀ h)(k:∀b o,h₀.get? b=some o->h'.get? b=h.get? b):Un fs ex H₀ H h₀ h' where
 keep:=λb o e hn nf nx=>(k b o e).trans (u.keep b o e hn nf nx)
 slot:=λb o e hn hb nx=>by
  obtain⟨sl,e1⟩:=u.slot b o e hn hb nx
  exact⟨sl,(k b o e).trans e1⟩
 free:=u.free
 there:=λb o e nx=>by
  obtain⟨o',e1⟩:=u.there b o e nx
  exact⟨o',(k b o e).trans e1⟩
 tups:=u.tups
 sQ:=u.sQ
 tL:=u.tL
noncomputable def vt(P:bn)(w:df):K7:=λouter H s E e s'=>∃ea cls od H',e= .ref ea/\s'.os=s.os/\C_ s'.gens/\s.toks<=s'.toks/\Un (frs outer) [] H H' s.heap s'.heap/\nZ P w H' s'.heap ∧
 HF s'.heap (λb=>s.heap.get? b=none/\H' b=none) ea cls od/\E cls od H'
noncomputable def Lets(X:Cx)(E:St->XK):Prop:=∀(pins:List (a5×mi)) (σ:St) (H:Hp) (s:ba) (ea:a5) (cls:a9) (od:Option a5),Inv X pins σ H s->HF s.heap (Qa X pins H) ea cls od->E σ cls od H->X.xe (.ref ea) s
theorem Lets.pass{X:Cx}{E:St->XK}{pins:List (a5×mi)}{σ:St}{H:Hp}{s s':ba}{e:a9}(L:Lets X E)(I:Inv X pins σ H s)(h:vt X.prog X.w X.stack H s (E σ) e s'):X.xe e s':=by
 obtain⟨ea,cls,od,H',rfl,os,bare,tt,un,hok,x,hE⟩:=h
 have I2:Inv X pins σ H' s':=I.Ra (ch:=[]) os un hok bare (λb z=>nomatch z) (bj I.up tt)
 exact L pins σ H' s' ea cls od I2 (x.to λb k=>I.XU k.1 k.2) hE
theorem Lets.passes{X:Cx}{E:XK}(L:Lets X λ_=>E):Passes (vt X.prog X.w) X E:=λ_ _ _ _ _ _ I h=>L.pass I h
section
variable{P:bn}{w:df}{K:PySem.W.Frag}{mg:bp->Option a9}{base:eJ}
theorem qu{N:List bp}{qual:bp}{scope:oP}{f:a5}{cd:a9}{A:eR}{outer:List Env}{s:ba}{H:Hp}{E:XK}:Lets (sR (vt P w) P w K mg base N qual scope f cd A outer s H E) λ_=>E:=by
 intro pins σ H' s' ea cls od I x hE
 show b_ _ _ (leaving _ (.ref ea)) _ _ s'
 unfold leaving
 refine a0 (Ep I.ok.frames I.stack rfl rfl x (λb hb=>I.UY hb) λh1 n1 x1=>?_)
 refine uc (fr:=frs (sR (vt P w) P w K mg base N qual scope f cd A outer s H E).stack) x1 λh2 n2 x2=>?_
 have I2:=I.noted (n1.trans n2)
 refine⟨ea,cls,od,H',rfl,I2.os,I2.bare,I2.up,I2.base,I2.hok,x2.n.to λb k=>⟨?_,k.1⟩,hE⟩
 rcases k.2.2.2.1 with z|z
 ·exact z
 ·exact nomatch z
theorem uB{N:List bp}{qual:bp}{scope:oP}{f:a5}{cd:a9}{A:eR}{outer:List Env}{s:ba}{H:Hp}{E:XK}:
  PassesOwn (model P w) (sR (vt P w) P w K mg base N qual scope f cd A outer s H E).A (sR (vt P w) P w K mg base N qual scope f cd A outer s H E).env (sR (vt P w) P w K mg base N qual scope f cd A outer s H E).xe:=PassesOwn.leaving
theorem FH.okX{x qual:bp}{st:hV}{f:a5}{fd:dv}{N ps:List bp}{k:Nat}{sp:Sp}(F:FH K x qual st f fd)(S:aC N ps (av st))(len:∀vs H Q E,sp vs H Q E->vs.length=ps.length)
  (hbody:∀(cdv:a9) (A:eR) (outer:List Env) (s:ba) (H:Hp) (vs:List V) (Q:VK) (E:XK),jL k (A.deeper (envOfC qual (av st) s.heap.objs.size f cdv))->sp vs H Q E →
   ∃t,zQ (sR (vt P w) P w K mg base N qual (av st) f cdv A outer s H E) (cV st) t/\t { nx:=λ_ H'=>Q .ia H',rt:=Q } (start N vs) H):aE P w K mg base (vt P w) (k+1) f fd ps sp:=by
 obtain⟨oc,od,dV,kV,doc,pm,an,cdv,ct,osl,rfl,lk,hcd⟩:=F.ex
 exact Np lk hcd S len λA outer s H vs Q E hr IL=>hbody cdv A outer s H vs Q E hr IL
end
theorem bM.got{P:bn}{w:df}{H:Hp}{h:eJ}{a:a5}{o:HO}(x:bM P w H h a o):h.get? a≠none:=by
 cases o with
 |lst xs=>obtain⟨_,_,_,_,e⟩:=x;rw[e];exact λz=>nomatch z
 |tup xs=>obtain⟨_,_,_,ob,e,_⟩:=x;rw[e];exact λz=>nomatch z
 |dK kvs=>obtain⟨_,_,_,_,o,_,_,e,_⟩:=x;rw[e];exact λz=>nomatch z
 |dT kvs=>obtain⟨_,_,_,_,o,_,_,e,_⟩:=x;rw[e];exact λz=>nomatch z
 |set S n=>obtain⟨o,_,_,_,e,_⟩:=x;rw[e];exact λz=>nomatch z
 |ins C dx fs=>obtain⟨_,_,_,e,_⟩:=x;rw[e];exact λz=>nomatch z
 |own y=>obtain⟨_,e⟩:=x;rw[e];exact λz=>nomatch z
 |xd fs=>obtain⟨_,⟨_,_,_,e,_⟩,_⟩:=x;rw[e];exact λz=>nomatch z
 |X5 lo hi=>obtain⟨_,_,_,e⟩:=x;rw[e];exact λz=>nomatch z
 |uR ob u=>obtain⟨e,_⟩:=x;rw[e];exact λz=>nomatch z
 |Qm ps=>have e:h.get? a=some _:=x;rw[e];exact λz=>nomatch z
 |met f y=>have e:h.get? a=some _:=x;rw[e];exact λz=>nomatch z
 |ext φ=>obtain⟨_,⟨_,e⟩,_⟩:=x;rw[e];exact λz=>nomatch z
theorem nZ.none_of{P:bn}{w:df}{H:Hp}{h:eJ}{a:a5}(x:nZ P w H h)(e:h.get? a=none):H a=none:=by
 cases q:H a with
 |none=>rfl
 |some o=>exact absurd e (x a o q).got
set_option genInjectivity false in
structure XP where
 nm:bp
 q:bp
 N:a5
 bs:List a9
 bm:List a9
 hdct:Bool
 sn:List bp
 sub:List a9
 ab:Bool
 col:Option Bool
 dd:Option a5
 k0:Option a9
 k1:Option a9
 k2:Option a9
 k3:Option a9
 k5:Option a9
 mN:bp->Option a9
noncomputable abbrev XP.obj(d:XP)(C:a5)(newId:String):mi:=excClassObj d.nm d.q C d.N d.bs d.bm d.hdct d.sn d.sub d.ab d.col d.dd d.k0 d.k1 d.k2 d.k3 d.k5 newId
structure acr(K:PySem.W.Frag)(C:a5)(Bn B newId inN nid initId:String)(bmN bmB:List a9):Prop where
 fn:y8 Bn newId inN bmN
 has:bmB.contains (.type Bn)=true
 fb:y8 B nid initId bmB
 obj:∀h:eJ,K.In h->∃d:XP,h.get? C=some (d.obj C newId)/\h.Ns d.N d.mN/\d.mN "__init__" =none/\OwnTail h bmB d.bm
noncomputable def NW(K:PySem.W.Frag)(C:a5):Prop:=∃Bn B newId inN nid initId bmN bmB,acr K C Bn B newId inN nid initId bmN bmB
theorem Ot {K:PySem.W.Frag}{C:a5}(q:PySem.W.excIn K C [.type "ValueError",.type "Exception",.type "BaseException",.type "object"] "ValueError.__new__" =true):NW K C:=by
 refine⟨_,_,_,_,_,_,_,_,PySem.F.excBase_ValueError,PySem.F.excBase_ValueError.hasB,PySem.F.excBase_ValueError,λh k=>?_⟩
 unfold PySem.W.excIn at q
 split at q
 ·rename_i dd cd sl hob
  split at q
  ·rename_i C' bm k0 k1 k2 k3 nn k5 hmr M8
   simp only[ll,beq_iff_eq,Bool.not_eq_true']at q
   obtain⟨⟨⟨⟨⟨e1,e2⟩,e3⟩,e4⟩,e5⟩,e6⟩:=q
   subst e1 e2
   obtain⟨nm,bs,mro,ns,qn,hd,sn,sub,ab,col,del⟩:=cd
   dsimp only at hmr e3 e5 e6
   subst hmr e3
   have hsl:sl= #[k0,k1,k2,k3,some (.builtin "ValueError.__new__"),k5]:=by
    obtain⟨l⟩:=sl
    simp only at M8
    rw[M8]
   subst hsl
   exact⟨⟨nm,qn,ns,bs,bm,hd,sn,sub,ab,col,dd,k0,k1,k2,k3,k5,_⟩,k _ _ hob,.of_isNs (PySem.W.isNs_of_in k e5),PySem.W.nsMap_none_of_in k e5 e6,PySem.W.tail_of_in k e4⟩
  ·cases q
 ·cases q
noncomputable def SE(C:a5)(E:St->XK)(t:TA):TS:=λ_ σ H=>t σ H λvs H1=>vs.length<=bt/\E σ (.ref C) none H1
theorem Mj{X:Cx}{E:St->XK}{C:a5}{x:bp}{np cpos pos:sx}{e:Expr}{es:List Expr}{t:TA}(L:Lets X E)(OE:NW X.K C)(hc:X.calm=true)
  (hg:Gl X x) (hm:X.mg x=some (.ref C)) (ha:PA X (e::es) t) (hdb:(x==("__debug__" :bp))=false:=by decide) (he:eP (e::es) X.env=(false,eval e X.env)::eP es X.env:=by rfl)
  (hpl:(backTo cpos (eP es X.env)).any (·.1)=false:=by rfl):PS X (.Raise (some (.Call (.Name x np) (e::es) [] cpos)) none pos) (SE C E t):=by
 intro pins s σ H D I h
 obtain⟨Bn,B,newId,inN,nid,initId,bmN,bmB,O⟩:=OE
 obtain⟨d,hC,hN,hni,T⟩:=O.obj X.base I.ok.mod.QH
 refine wpAny_Raise_call_subU (C:=C) (nm:=d.nm) (q:=d.q) (N:=d.N) (bs:=d.bs) (bm:=d.bm) (hdct:=d.hdct) (sn:=d.sn) (sub:=d.sub) (ab:=d.ab) (col:=d.col) (dd:=d.dd) (k0:=d.k0) (k1:=d.k1) (k2:=d.k2) (k3:=d.k3) (k5:=d.k5) O.fn O.has O.fb
  (mN:=d.mN) (T.hasType O.fb.hasBase) (I.ok.hd hc) (by rw[he];show(false||(backTo cpos (eP es X.env)).any (·.1))=false;rw[hpl];rfl) hni (nM I hg hm ⟨rfl,?_⟩ hdb)
 have z:=ha cpos pins s σ H _ I h
 rw[he]at z ⊢
 refine Calls.evalArgs_plain (dG z λus s2 ⟨vs,H2,I2,r,hl,q2⟩=>⟨rfl,?_,I2.bk _ _ hC,hN.keeps I2.bk,T.keeps I2.bk,λh' ea hm=>?_⟩)
 ·show us.length<=bt
  rw[←r.length]
  exact hl
 ·obtain⟨t',ht,_,_⟩:=hm.there
  exact L pins σ H2 _ ea (.ref C) none (I2.kept (t':=s2.toks) hm.keeps) ⟨I2.XU hm.new (I2.hok.none_of hm.new),_,_,ht,λ_=>rfl,.inl rfl⟩ q2
end
section
noncomputable def Fm(X:Cx):Prop:=∃e0 r L,X.stack=e0::r/\e0.frame=some L/\X.env.frame=some L
theorem Uj{CX:K7}{P:bn}{w:df}{K:PySem.W.Frag}{mg:bp->Option a9}{base:eJ}{N:List bp}{qual:bp}{scope:oP}{f:a5}{cd:a9}{A:eR}{outer:List Env}{s:ba}{H:Hp}{E:XK}:
  Fm (sR CX P w K mg base N qual scope f cd A outer s H E).Qz:=⟨_,_,_,rfl,rfl,rfl⟩
noncomputable abbrev Cx.zl(X:Cx)(pn:List (a5×mi))(xe:a9->ba->Prop):Cx:={ X with pn:=pn,xe:=xe }
theorem Cx.Ok.zl{X:Cx}(ok:X.Ok)(pn:List (a5×mi))(xe:a9->ba->Prop):(X.zl pn xe).Ok :=
 ⟨ok.mod,ok.kind,ok.glob,ok.blt,ok.above,ok.inj,ok.has,ok.P9,ok.hd,ok.frames,ok.stk,ok.Yy,ok.bs,ok.NO,ok.GI,ok.Kw,ok.tZ,ok.PU,ok.tk⟩
section
variable{X:Cx}{pins ps:List (a5×mi)}{σ:St}{H:Hp}{s:ba}{xe:a9->ba->Prop}
theorem Inv.zl(I:Inv X pins σ H s):Inv (X.zl (X.pn++pins) xe) [] σ H s :=
 ⟨I.ok.zl _ _,I.os,I.bare,I.base,I.loc,I.cell,I.free,I.j4,λp hp=>I.pin p (by simpa using hp),I.hok,I.len,I.up⟩
theorem Inv.tK(ok:X.Ok)(I:Inv (X.zl (X.pn++pins) xe) ps σ H s):Inv X pins σ H s :=
 ⟨ok,I.os,I.bare,I.base,I.loc,I.cell,I.free,I.j4,λp hp=>I.pin p (hJ _ hp),I.hok,I.len,I.up⟩
theorem Qa.tK{b:a5}(k:Qa (X.zl (X.pn++pins) xe) ps H b):Qa X pins H b :=
 ⟨k.1,k.2.1,k.2.2.1,k.2.2.2.1,k.2.2.2.2.1,λp hp=>k.2.2.2.2.2 p (hJ _ hp)⟩
theorem AB.to{h:eJ}{φ ψ:a5->Prop}{ea:a5}{cls:a9}{od:Option a5}(x:AB h φ ea cls od)(m:∀b,φ b->ψ b):AB h ψ ea cls od:=by
 obtain⟨p,vs,sl,e,c2,T,oT,ts,a,b,c,d⟩:=x
 exact⟨m _ p,vs,sl,e,c2,T,oT,ts,a,b,m _ c,d⟩
end
noncomputable abbrev TH:=a9->Option a5->TS
noncomputable def PH(X:Cx)(hs:List ExceptHandler)(th:TH):Prop :=
 ∀(pins:List (a5×mi)) (s:ba) (σ:St) (H:Hp) (D:Ends) (ea:a5) (cls:a9) (od:Option a5),Inv X pins σ H s->AB s.heap (Qa X pins H) ea cls od->th cls od D σ H →
  b_ (model X.prog X.w) X.A (handleBy (.ref ea) X.env hs) (SP X pins D) X.xe s
noncomputable def Z9(tb:(St->XK)->TS)(th:TH):TS:=λD σ H=>tb (λσ' cls od H'=>th cls od D σ' H') D σ H
theorem S1{X:Cx}{body:List hV}{h₀:ExceptHandler}{hs:List ExceptHandler}{pos:sx}{tb:(St->XK)->TS}{th:TH}(F:Fm X)
  (hb:∀(E:St->XK) (pn:List (a5×mi)) (xe:a9->ba->Prop),Lets (X.zl pn xe) E->PassesOwn (model X.prog X.w) X.A X.env xe->zQ (X.zl pn xe) body (tb E)) (hh:PH X (h₀::hs) th) :
  PS X (.Try body (h₀::hs) [] [] pos) (Z9 tb th):=by
 intro pins s σ H D I h
 obtain⟨e0,r,L,hst,h0,hf⟩:=F
 refine wpAny_Try_except ?_
 generalize hxe:(λe s₁=>b_ (model X.prog X.w) X.A (noteFrame e X.env) (λ_ s₂=>b_ (model X.prog X.w) X.A (setFlight e none) (λ_ s₃=>b_ (model X.prog X.w) X.A (handleBy e X.env (h₀::hs)) (SP X pins D) X.xe s₃) X.xe s₂) X.xe s₁)=xe
 have LX:Lets (X.zl (X.pn++pins) xe) λσ' cls od H'=>th cls od D σ' H':=by
  intro ps σ' H' s' ea cls od J x q
  show xe (.ref ea) s'
  subst hxe
  have fr:=J.ok.frames
  have sf:=J.stack
  refine Ep (s:=s') (e0:=e0) (r:=r) (by rw[←hst];exact fr) (by rw[←hst];exact sf) h0 hf x (λb hb=>J.UY hb) λh1 n1 x1=>?_
  refine uc (fr:=frs (e0::r)) x1 λh2 n2 x2=>?_
  have QC:=n1.trans n2
  rw[←hst]at QC
  have J2:=J.noted QC
  exact hh pins _ σ' H' D ea cls od (J2.tK I.ok) (x2.to λb k=>k.tK) q
 have po:PassesOwn (model X.prog X.w) X.A X.env xe:=by
  subst hxe
  exact PassesOwn.looking
 refine h_ (hb _ _ xe LX po [] s σ H D I.zl h) (λf s1 q=>?_) λe s1 q=>?_
 ·cases f with
  |next =>
   obtain⟨σ',H',J,q⟩:=q
   exact xv ⟨σ',H',J.tK I.ok,q⟩
  |brk =>
   obtain⟨σ',H',J,q⟩:=q
   exact⟨σ',H',J.tK I.ok,q⟩
  |cont =>
   obtain⟨σ',H',J,q⟩:=q
   exact⟨σ',H',J.tK I.ok,q⟩
  |ret u =>
   obtain⟨v,σ',H',J,rv,q⟩:=q
   exact⟨v,σ',H',J.tK I.ok,rv,q⟩
 ·have q':xe e s1:=q
  subst hxe
  exact q'
noncomputable abbrev Cx.within(X:Cx)(ea:a5):Cx:={ X with A:=X.A.mark (some (.ref ea)),calm:=false,xe:=λ_ _=>False }
theorem Cx.Ok.within{X:Cx}(ok:X.Ok)(ea:a5):(X.within ea).Ok :=
 ⟨ok.mod,ok.kind,ok.glob,ok.blt,ok.above,ok.inj,ok.has,ok.P9,(λz=>nomatch z),ok.frames,ok.stk,ok.Yy,ok.bs,ok.NO,ok.GI,ok.Kw,ok.tZ,ok.PU,ok.tk⟩
section
variable{X:Cx}{pins:List (a5×mi)}{σ:St}{H:Hp}{s:ba}{ea:a5}
theorem Inv.within(I:Inv X pins σ H s)(ea:a5):Inv (X.within ea) pins σ H s:=⟨I.ok.within ea,I.os,I.bare,I.base,I.loc,I.cell,I.free,I.j4,I.pin,I.hok,I.len,I.up⟩
theorem Inv.behind(ok:X.Ok)(I:Inv (X.within ea) pins σ H s):Inv X pins σ H s:=⟨ok,I.os,I.bare,I.base,I.loc,I.cell,I.free,I.j4,I.pin,I.hok,I.len,I.up⟩
end
noncomputable def UO(ea:a5)(cls:a9)(od:Option a5):HO:=.ext λh=>∃vs sl,h.get? ea=some ⟨cls,od,.fields vs,sl⟩
noncomputable def Ends.un(D:Ends)(i:Nat):Ends:={ nx:=λσ H=>D.nx (σ.set i none) H,rt:=D.rt,bk:=λσ H=>D.bk (σ.set i none) H,ct:=λσ H=>D.ct (σ.set i none) H }
theorem Inv.Lv{X:Cx}{pins:List (a5×mi)}{σ:St}{H:Hp}{s:ba}{a:a5}{o:HO}(I:Inv X pins σ H s)(k:Qa X pins H a)(new:bM X.prog X.w (upd H a o) s.heap a o):Inv X pins σ (upd H a o) s:=by
 obtain⟨hn,k1,k2,k3,k4,k5⟩:=k
 refine⟨I.ok,I.os,I.bare,⟨I.base.keep,I.base.slot,λb ob q n hx=>?_,I.base.there,λb xs q=>?_,λb ob u q=>?_,λb ps q=>?_⟩,I.loc,I.cell,?_,λx c e=>?_,λp hp=>?_,λb u q=>?_,I.len,I.up⟩
 ·have ne:b≠a:=λz=>by
   rcases k3 with y|y
   ·rw[←z,q]at y;cases y
   ·exact hx (z▸y)
  rw[au ne]
  exact I.base.free b ob q n hx
 ·have q':=I.base.tups b xs q
  rw[au (aN q' hn)];exact q'
 ·have q':=I.base.sQ b ob u q
  rw[au (aN q' hn)];exact q'
 ·obtain⟨more,q'⟩:=I.base.tL b ps q
  exact⟨more,by rw[au (aN q' hn)];exact q'⟩
 ·rw[au (Ne.symm k1)];exact I.free
 ·rw[au (k4 x c e)];exact I.j4 x c e
 ·obtain⟨e,n,r⟩:=I.pin p hp
  exact⟨e,by rw[au (k5 p hp)];exact n,r⟩
 ·by_cases hb:b=a
  ·subst hb;rw[ah]at q;cases q;exact new
  ·rw[au hb]at q
   exact(I.hok b u q).stay (λc v _ r=>r) (λc r=>by rw[au (aN r hn)];exact r) λc xs r=>by rw[au (aN r hn)];exact r
structure XB(K:PySem.W.Frag)(D:a5):Prop where
 hd:PySem.W.hasDictIn K D=true
 ty:PySem.W.typeIn K (.ref D)=some (.type "type")
 be:PySem.W.mroIn K D (.type "BaseException")=some true
theorem Ky{M:Dx}{A:eR}{E:a9->ba->Prop}{s:ba}{K:PySem.W.Frag}{Q:Bool->ba->Prop}{ea C D:a5}{o:mi}{b:Bool}(k:K.In s.heap)(he:s.heap.get? ea=some o)(hc:o.cls= .ref C)
  (h0:PySem.W.subIn K (.ref C) (.ref D)=some b) (h2:XB K D) (q:Q b s):b_ M A (excMatches (.ref ea) (.ref D)) Q E s:=by
 have h1:PySem.W.kitCls K (.ref C) (.ref D)=some b:=by
  obtain⟨cd,hcd,_⟩:=PySem.W.any_some h2.hd
  show(if((PySem.W.clsIn K D).isSome&&PySem.W.typeIn K (.ref D)==some (.type "type"))=true then PySem.W.subIn K (.ref C) (.ref D)else none)=some b
  rw[if_pos (by rw[hcd,h2.ty];simp)]
  exact h0
 obtain⟨lt,li,ls⟩:=PySem.W.kit_cls (M:=M) k h1
 have lb:=PySem.W.looks_mroIn (M:=M) k h2.be
 have le:PySem.W.Looks M s.heap (typeOf (.ref ea)) (.ref C):=by
  intro A' Q' E' s' kk qq
  unfold typeOf
  exact a0 (wpAny_loadPart (kk _ _ he) (bi (by rw[hc];exact qq)))
 have l0:PySem.W.Looks M s.heap (isInstance (.ref D) (.type "tuple")) false:=lt.andThen (PySem.W.Looks.of_pure tc_notTuple)
 have l1:PySem.W.Looks M s.heap (isExcClass (.ref D)) true:=by
  unfold isExcClass
  exact li.andThen lb
 unfold excMatches
 refine a0 (l0.here (a0 ?_))
 simp only[gN,if_false]
 refine bi ?_
 rw[xL]
 refine a0 (a0 (a0 (l1.here ?_)))
 simp only[q_,gN,if_false]
 refine bi (bi ?_)
 refine a0 (le.here (a0 ?_))
 rw[xL]
 refine a0 (a0 (ls.here ?_))
 cases b with
 |true =>
  simp only[if_true]
  exact bi (bi (bi q))
 |false =>
  simp only[gN,if_false]
  exact bi (bi (bi q))
theorem name_goes{X:Cx}{pins:List (a5×mi)}{σ:St}{H:Hp}{s:ba}{M:Dx}{A:eR}{E:a9->ba->Prop}{Q:Unit->ba->Prop}{i:Nat}{n:bp}{pos:sx}(I:Inv X pins σ H s)(hN:X.N.Nodup)(hi:X.N[i]? =some n)(hl:X.env.scope.names.lookup n=some .local)
  (h:∀s',Inv X pins (σ.set i none) H s'->Q () s'):b_ M A (do bindName X.env n .none;unbindBehindTheSuite X.env n pos) Q E s:=by
 obtain⟨m,hn,hlk⟩:=I.loc
 refine wpAny_nameGoes_keeps hl hn (by rw[I.ok.kind];rfl) λh' v hn' sb=>h _ ?_
 have cellK:∀x c,X.env.cells.lookup x=some c->∀v,s.heap.IsCell c v->h'.IsCell c v:=λx c e v ⟨o,ho,hd⟩=>⟨o,(sb.2 c (I.Q7 x c e)).trans ho,hd⟩
 refine⟨I.ok,I.os,I.bare,I.base.same λb o e=>sb.2 b (eA (dy (cm e) I.ok.above)),⟨_,hn',λj y u e1 e2 e3=>?_⟩,λx c e=>?_,I.free,I.j4,λp hp=>?_,I.hok.but I.free sb,by rw[s_];exact I.len,yA I.up⟩
 ·have ji:i≠j:=λz=>by
   subst z
   rw[List.getElem?_set_self (by rw[I.len];exact(bd.mp hi).1)]at e2
   cases e2
  rw[List.getElem?_set_ne ji]at e2
  obtain⟨w,rv,l⟩:=hlk j y u e1 e2 e3
  refine⟨w,rv,?_⟩
  rcases l with⟨k1,k2⟩|⟨k,c,e,z⟩
  ·refine .inl ⟨k1,?_⟩
   have ne:y≠n:=λz=>ji (yG hN hi (z▸e1))
   show(if y=n then v else m y)=some w
   rw[if_neg ne]
   exact k2
  ·exact .inr ⟨k,c,e,cellK y c e _ z⟩
 ·obtain⟨v,z⟩:=I.cell x c e
  exact⟨v,cellK x c e v z⟩
 ·obtain⟨e,hh,ne,r⟩:=I.pin p hp
  exact⟨(sb.2 _ ne).trans e,hh,ne,r⟩
noncomputable def tAs(K:PySem.W.Frag)(C:a5)(i:Nat)(ts:TS)(th:TH):TH:=λcls od D σ H=>∃Ce b,cls= .ref Ce/\PySem.W.subIn K (.ref Ce) (.ref C)=some b ∧
 if b=true then ∀ea,H ea=none->ts (D.un i) (σ.set i (some (.ref ea))) (upd H ea (UO ea cls od))else th cls od D σ H
theorem VC{X:Cx}{i:Nat}{n x:bp}{C:a5}{b₀:hV}{suite:List hV}{np pos:sx}{rest:List ExceptHandler}{ts:TS}{th:TH}(hN:X.N.Nodup)(hi:X.N[i]? =some n)(hl:X.env.scope.names.lookup n=some .local)(hg:Gl X x)(hm:X.mg x=some (.ref C))
  (Ni:XB X.K C) (hsu:∀ea,zQ (X.within ea) (b₀::suite) ts) (hr:PH X rest th) (hdb:(x==("__debug__" :bp))=false:=by decide) :
  PH X (.ExceptHandler (some (.Name x np)) (some n) (b₀::suite) pos::rest) (tAs X.K C i ts th):=by
 intro pins s σ H D ea cls od I x h
 obtain⟨Ce,b,rfl,hk,h⟩:=h
 obtain⟨pe,vs,sl,he,hT⟩:=id x
 refine wpAny_handleBy_cons (codeAny_handlers_test (nM (X:=X.within ea) (I.within ea) hg hm ?_ hdb)) (by intro q;cases q)
 refine Ky I.qv he rfl hk Ni ?_
 cases b with
 |false=>exact hr pins s σ H D ea _ od I x h
 |true =>
  refine codeAny_handlers_suite_as ?_
  refine uc (fr:=frs X.stack) x λh1 n1 x1=>?_
  have I1:=I.noted n1
  obtain⟨pe1,vs1,sl1,Yp,_⟩:=id x1
  have I2:Inv X pins σ (upd H ea (UO ea (.ref Ce) od)) { s with heap:=h1 }:=I1.Lv pe1 ⟨⟨vs1,sl1,Yp⟩,⟨_,Yp⟩,λh1 h2 ⟨v,s',e⟩ k=>⟨v,s',k _ e⟩⟩
  refine yd (X:=X.within ea) (I2.within ea) hN hi (.inl hl) (v:=.ref ea) rfl (λs2 I3=>?_) (.inr hl)
  have z:=hsu ea pins s2 _ _ (D.un i) I3 (h ea pe1.1)
  refine h_ z (λf s3 q=>?_) λ_ _ z=>kn z
  cases f with
  |next =>
   obtain⟨σ',H',J,q⟩:=q
   exact name_goes (J.behind I.ok) hN hi hl λs4 J4=>⟨_,_,J4,q⟩
  |brk =>
   obtain⟨σ',H',J,q⟩:=q
   exact name_goes (J.behind I.ok) hN hi hl λs4 J4=>⟨_,_,J4,q⟩
  |cont =>
   obtain⟨σ',H',J,q⟩:=q
   exact name_goes (J.behind I.ok) hN hi hl λs4 J4=>⟨_,_,J4,q⟩
  |ret u =>
   obtain⟨v,σ',H',J,rv,q⟩:=q
   exact name_goes (J.behind I.ok) hN hi hl λs4 J4=>⟨v,_,_,J4,rv,q⟩
theorem S4{X:Cx}:PH X [] λ_ _ _ _ _=>False:=λ_ _ _ _ _ _ _ _ _ _ h=>kn h
noncomputable def SJ(sp:Sp)(zP:List V)(E:St->XK)(t:TA):TE:=λσ H Q=>t σ H λvs H1=>sp (vs++zP) H1 Q (E σ)
section
variable{X:Cx}{k:Nat}{f C:a5}{fd:dv}{ps:List bp}{sp:Sp}{zP:List V}{ds:List a9}{E:St->XK}{x:bp}{p pos:sx}{e:Expr}{es:List Expr}{t:TA}
theorem Ms(F:aE X.prog X.w X.K X.mg X.base (vt X.prog X.w) k f fd ps sp)(hr:jL k X.A)(hg:Gl X x)(hm:X.mg x=some (.ref f))(hk:PySem.W.keepIn X.K (.ref f)=true)(hb:Binds X.K fd ps ds)(hd:Vals zP ds)(LX:Lets X E)
  (ha:PA X (e::es) t) (hdb:(x==("__debug__" :bp))=false:=by decide) (he:eP (e::es) X.env=(false,eval e X.env)::eP es X.env:=by rfl) (hpl:(backTo pos (eP es X.env)).any (·.1)=false:=by rfl) :
  PE X (.Call (.Name x p) (e::es) [] pos) (SJ sp zP E t):=by
 intro pins s σ H Q I h
 refine mm (nM I hg hm ?_ hdb)
 refine PySem.W.callWith_K (h₀:=X.base) I.ok.mod.QH hk (dG (ha pos pins s σ H _ I h) λus s1 ⟨vs,H1,I1,r,q⟩=>⟨I1.qv,?_⟩) he hpl
 have r2:Vals (vs++zP) (us++ds):=r.append hd
 have hl:(us++ds).length=ps.length:=by rw[←r2.length];exact F.len _ _ _ _ q
 refine v0 (tz (F.run X.A X.stack s1 H1 ⟨us,[]⟩ (us++ds) (vs++zP) Q (E σ) hr I1.P0 (hb s1 us I1.qv hl) r2 q) λrr s' hq=>?_)
 cases rr with
 |error e=>exact LX.pass I1 hq
 |ok fl =>
  cases fl with
  |ret u=>exact I1.after hq
  |next=>exact kn hq
  |brk=>exact kn hq
  |cont=>exact kn hq
end
end
section
end
section
section
variable{X:Cx}
noncomputable abbrev TJ:=St->Hp->bp->(bp->Hp->Prop)->Prop
noncomputable def PJ(X:Cx)(es:List Expr)(tj:TJ):Prop:=∀(pins:List (a5×mi)) (s:ba) (σ:St) (H:Hp) (acc:bp) (R:bp->Hp->Prop),Inv X pins σ H s->tj σ H acc R →
 Joins (model X.prog X.w) X.A X.xe (evalEach es X.env) acc (λout s1=>out.length<=bt/\∃H1,Inv X pins σ H1 s1/\R out H1) s
theorem Ml:PJ X [] (λ_ H acc R=>acc.length<=bt/\R acc H):=λ_ _ _ H _ _ I h=>⟨h.1,H,I,h.2⟩
theorem sF{e:Expr}{es:List Expr}{te:TE}{tj:TJ}(he:PE X e te)(hr:PJ X es tj)(hx:evalEach (e::es) X.env=eval e X.env::evalEach es X.env:=by rfl):
  PJ X (e::es) (λσ H acc R=>te σ H λv H1=>∃y,v= .str y/\(acc++y).length<=bt/\tj σ H1 (acc++y) R):=by
 intro pins s σ H acc R I h
 rw[hx]
 refine dG (he pins s σ H _ I h) λu s1 ⟨v,H1,I1,r,y,e1,hl,q⟩=>?_
 subst e1
 obtain⟨t,rfl⟩:=r
 exact⟨y,t,rfl,hl,hr pins s1 σ H1 _ R I1 q⟩
theorem Ba{M:Dx}{A:eR}{E:a9->ba->Prop}:∀{parts:List (Sem a9)} {acc:bp} {Q Q':bp->ba->Prop} {s:ba},Joins M A E parts acc Q s->(∀out s1,Q out s1->Q' out s1)->Joins M A E parts acc Q' s
 |[],_,_,_,_,h,k=>k _ _ h
 |_::_,_,_,_,_,h,k=>dG h λ_ _ ⟨y,t,e,hl,q⟩=>⟨y,t,e,hl,Ba q k⟩
theorem Iv{v₁ v₂:Expr}{rest:List Expr}{pos:sx}{tj:TJ}(h:PJ X (v₁::v₂::rest) tj):PE X (.JoinedStr (v₁::v₂::rest) pos) (λσ H Q=>tj σ H zn λout H1=>Q (.str out) H1):=by
 intro pins s σ H Q I q
 refine wpAny_JoinedStr (Ba (h pins s σ H zn _ I q) λout s1 ⟨hl,H1,I1,q1⟩=>⟨hl,.str out,H1,I1.tok _,⟨_,rfl⟩,q1⟩)
theorem OU{value:Expr}{pos:sx}{te:TE}(he:PE X value te):PE X (.FormattedValue value 114 none pos) (λσ H Q=>te σ H λv H1=>∃x,v= .str x/\(reprText x).length<=bt/\Q (.str (reprText x)) H1):=by
 intro pins s σ H Q I h
 refine wpAny_FormattedValue_repr (dG (he pins s σ H _ I h) λu s1 ⟨v,H1,I1,r,x,e,hl,q⟩=>?_)
 subst e
 obtain⟨t,rfl⟩:=r
 refine wpAny_pyReprObj_str (x:=x) ?_ hl
 exact wpAny_formatField_str ⟨.str (reprText x),H1,I1.tok _,⟨_,rfl⟩,q⟩ ⟨.str (reprText x),H1,(I1.tok _).tok _,⟨_,rfl⟩,q⟩ hl
theorem Mq{value:Expr}{pos:sx}{te:TE}(he:PE X value te):PE X (.FormattedValue value (-1) none pos) (λσ H Q=>te σ H λv H1=>∃i:Int,v= .int i/\i.natAbs.log2<1920/\Q (.str (a_ (toString i))) H1):=by
 intro pins s σ H Q I h
 refine wpAny_FormattedValue_plain (dG (he pins s σ H _ I h) λu s1 ⟨v,H1,I1,r,i,e,hl,q⟩=>?_)
 subst e
 obtain⟨t,rfl⟩:=r
 exact wpAny_formatField_int hl ⟨.str (a_ (toString i)),H1,I1.tok _ (by show s1.toks<=_;omega),⟨_,rfl⟩,q⟩
end
structure XTy(K:PySem.W.Frag)(C:a5):Prop where
 ga:PySem.W.findIn K (.ref C) "__getattribute__" =some (some (.builtin "BaseException.__getattribute__"))
 gn:PySem.W.findIn K (.ref C) "__getattr__" =some none
 hd:PySem.W.hasDictIn K C=true
 ha:PySem.W.findIn K (.ref C) "__class__" =some (some (.builtin "object.__class__"))
 hn:PySem.W.specialIn K (.builtin "object.__class__") "__get__" =some (some (.builtin "getset_descriptor.__get__"))
 htk:PySem.W.takesIn K (.builtin "object.__class__")=some true
 hm:PySem.W.mroIn K C (.type "object")=some true
 hb:PySem.W.mroIn K C (.type "BaseException")=some true
end
section
end
end L2
namespace GP
open PySem L2 rW
theorem NS{x:bp}(h:x.length<=20)(hz:100<=bt):(zn++x).length<=bt:=by
 rw[strLen_append]
 have:Str.empty.length=0:=rfl
 omega
theorem Bv{x y:bp}(h:x.length<=20)(hz:y.length+20<=bt):((zn++x)++y).length<=bt:=by
 rw[strLen_append,strLen_append]
 have:Str.empty.length=0:=rfl
 omega
end GP
namespace L2
open PySem PySem.Spec PyProof.Rows
theorem vF{X:Cx}:SlR X (λx lo hi H Q=>∃y,x= .str y/\y.length<=bt/\Q (.str (Txt.slice y lo hi)) H):=by
 intro pins s σ H x v vl vu lo hi sl Q I rx hs pl pu h
 obtain⟨y,rfl,hz,q⟩:=h
 obtain⟨t,rfl⟩:=rx
 refine⟨"str",_,PySem.F.slot_str_getitem.lookup,typeIs_str _ _ _,?_⟩
 have fin:(Txt.slice y lo hi).length<=bt/\∀t' k,s.toks<=k->EP X pins σ Q (.str (Txt.slice y lo hi) t') { s with toks:=k }:=⟨bj (Txt.slice_le y _ _) hz,λt' k hk=>⟨.str (Txt.slice y lo hi),H,I.tok k hk,⟨_,rfl⟩,q⟩⟩
 refine TK.bP (a7 s.toks) ?_
 cases pl with
 |none =>
  cases pu with
  |none=>exact vi (l:=none) (u:=none) (st:=none) hs rfl (post_val_or_str fin)
  |int j u=>exact vi (l:=none) (u:=some (j,u)) (st:=none) hs rfl (post_val_or_str fin)
 |int i u =>
  cases pu with
  |none=>exact vi (l:=some (i,u)) (u:=none) (st:=none) hs rfl (post_val_or_str fin)
  |int j u'=>exact vi (l:=some (i,u)) (u:=some (j,u')) (st:=none) hs rfl (post_val_or_str fin)
theorem AR{x:bp}{lo hi:Option Int}{c:Nat}(h:c∈(Txt.slice x lo hi).cps.toList):c∈x.cps.toList:=by
 unfold Txt.slice at h
 split at h
 ·exact h
 ·have h':c∈(PySem.Builtin.Str.strSliceIndices lo hi 1 x.length).filterMap (x.cps[·]?):=by simpa using h
  obtain⟨i,_,e⟩:=vT.mp h'
  rw[←fg]at e
  exact cx e
end L2
namespace GP
open PySem L2 rW
theorem rZ{x y:bp}:(x++y).cps.toList=x.cps.toList++y.cps.toList:=by
 show(x.cps++y.cps).toList=_
 exact Array.toList_append ..
end GP
namespace L2
open PySem PySem.Spec PyProof.Rows
section
section
variable{prog:bn}{w:df}{A:eR}{E:a9->ba->Prop}{h:eJ}{gs:Array GenState}{dr:Drawn}{tk:Nat}{os:OsState}
variable{nm qn:bp}{C N:a5}{bs tl bmB bmN:List a9}{hdct:Bool}{sn:List bp}{sub:List a9}{ab:Bool}{col:Option Bool}{dd:Option a5}{k0 k1 k2 k3 k5:Option a9}{B Bn newId nid initId inN:String}
theorem ya{mN:bp->Option a9}{rest:List a9}{fI:a5}{oI:mi}{Q:Fin->ba->Prop}(Fn:y8 Bn newId inN bmN)(hBn:bmB.contains (.type Bn)=true)(FB:y8 B nid initId bmB)(T:OwnTail h bmB tl)
  (hob:h.get? C=some (excClassObj nm qn C N bs tl hdct sn sub ab col dd k0 k1 k2 k3 k5 newId)) (hns:h.Ns N mN) (Uc:mN "__init__" =some (.ref fI)) (hfo:h.get? fI=some oI) (hfc:oI.cls= .type "function")
  (hq:∀h' e,Heap.MadeExcOf h h' e (.ref C) rest->b_ (model prog w) A (call (.ref fI) (.ref e::rest)) (λr s'=>r= .none/\Q (.done (.ret (.ref e))) s') E ⟨h',gs,dr,tk,os⟩) (hz:rest.length<=bt) :
  b_ (model prog w) A (Builtin.«type.__call__» ⟨.ref C::rest,[]⟩) Q E ⟨h,gs,dr,tk,os⟩:=by
 repeat (first|with_reducible refine wx hob ?_|with_reducible refine wpAny_madeBy_exc hob ?_|wp_step)
 refine codeAny_call_builtin_code (Code.quiet_builtin _ Fn.quiet) (wpAny_check_new_subU Fn hBn T hob ?_)
 refine codeAny_exc_new_subU Fn hBn FB T hob ?_ hz
 show b_ _ _ _ _ _ _
 have kp:∀b o,h.get? b=some o->((h.push { cls:=.type "tuple",data:=.seq rest.toArray }).push { cls:=.ref C,data:=.fields #[.ref h.objs.size,.none,.none,.none,.bool false,.none] }).get? b=some o:=λb o e=>a8 _ (a8 _ e)
 have WJ:=kp _ _ hob
 have abz:=kp _ _ hfo
 have abp:=hns.keeps kp
 have T1:=T.keeps kp
 have Q0:((h.push { cls:=.type "tuple",data:=.seq rest.toArray }).push { cls:=.ref C,data:=.fields #[.ref h.objs.size,.none,.none,.none,.bool false,.none] }).get? (h.objs.size+1)=some { cls:=.ref C,data:=.fields #[.ref h.objs.size,.none,.none,.none,.bool false,.none] }:=by heap_get
 have hself:(Value.ref C::tl).contains (.ref C)=true:=by simp
 unfold isInstance
 repeat (first|with_reducible refine wx Q0 ?_|(with_reducible refine wpAny_isSubtype_exc WJ ?_;rw[hself])|wp_step)
 show b_ _ _ (typeLookup (.ref C) _) _ _ _
 refine wpAny_typeLookup_tail WJ abp T1 FB.mroIs FB.init.lookup ?_
 rw[Uc]
 refine iq (a0 ?_)
 unfold bindSpecial
 refine a0 (wpAny_typeOf (T:= "function") ⟨_,abz,hfc⟩ ?_)
 rw[if_pos (by decide)]
 have made:Heap.MadeExcOf h ((h.push { cls:=.type "tuple",data:=.seq rest.toArray }).push { cls:=.ref C,data:=.fields #[.ref h.objs.size,.none,.none,.none,.bool false,.none] }) (h.objs.size+1) (.ref C) rest :=
  ⟨kp,lL (g_ _),h.objs.size,Q0,lL (a7 _),a8 _ (Heap.get?_push_at rfl rfl)⟩
 refine bi (a0 (h_ (hq _ _ made) (λr s' hr=>?_) λ_ _ x=>x))
 obtain⟨rfl,hQ⟩:=hr
 wp_walk
 exact hQ
theorem KQ{mN:bp->Option a9}{rest:List a9}{fI:a5}{oI:mi}{Q:a9->ba->Prop}(Fn:y8 Bn newId inN bmN)(hBn:bmB.contains (.type Bn)=true)(FB:y8 B nid initId bmB)(T:OwnTail h bmB tl)
  (hob:h.get? C=some (excClassObj nm qn C N bs tl hdct sn sub ab col dd k0 k1 k2 k3 k5 newId)) (hns:h.Ns N mN) (Uc:mN "__init__" =some (.ref fI)) (hfo:h.get? fI=some oI) (hfc:oI.cls= .type "function")
  (hq:∀h' e,Heap.MadeExcOf h h' e (.ref C) rest->b_ (model prog w) (A.under (.builtin "type.__call__" ⟨.ref C::rest,[]⟩)) (call (.ref fI) (.ref e::rest)) (λr s'=>r= .none/\Q (.ref e) s') E ⟨h',gs,dr,tk,os⟩) (hz:rest.length<=bt) :
  b_ (model prog w) A (call (.ref C) rest) Q E ⟨h,gs,dr,tk,os⟩:=by
 have l1:=tc_lookup
 have l2:=tc_bind (.ref C)
 have hTy:(⟨h,gs,dr,tk,os⟩:ba).TypeIs (.ref C) "type" :=⟨_,hob,rfl⟩
 refine v0 (codeAny_of_tree ?_)
 show b_ _ _ (callAny (.ref C) _) _ _ _
 repeat (any_goals (first|assumption|with_reducible refine wx hob ?_|wp_step))
 refine⟨rfl,codeAny_call_builtin_at (Code.quiet_builtin _ (by decide +kernel)) entry_typeCall (wpAny_check_type_call_sub hob (ya Fn hBn FB T hob hns Uc hfo hfc (λh' e hm=>?_) hz))⟩
 exact hq h' e hm
end
end
section
noncomputable def newX(e C:a5)(od:Option a5):HO:=.ext λh=>∃vs sl,h.get? e=some ⟨.ref C,od,.fields vs,sl⟩/\vs[1]? =some .none/\vs[2]? =some .none/\4<vs.size
noncomputable def Dj(dx:a5)(fs:List (bp×V)):HO:=.ext λh=>∃mA,h.Ns1 dx mA/\(∀f,oG (fs.lookup f) (mA f))/\PySem.Within mA (fs.map (·.1))
section
variable{P:bn}{w:df}{H:Hp}{h:eJ}
theorem Cg{e C:a5}{od:Option a5}{vs:Array a9}{sl:Array (Option a9)}(he:h.get? e=some ⟨.ref C,od,.fields vs,sl⟩)(h1:vs[1]? =some .none/\vs[2]? =some .none/\4<vs.size):bM P w H h e (newX e C od) :=
 ⟨⟨vs,sl,he,h1⟩,⟨_,he⟩,λ_ _ ⟨v,s,e,z⟩ k=>⟨v,s,k _ e,z⟩⟩
theorem FO{dx:a5}{fs:List (bp×V)}{mA:bp->Option a9}(n:h.Ns1 dx mA)(r:∀f,oG (fs.lookup f) (mA f))(wi:PySem.Within mA (fs.map (·.1))):bM P w H h dx (Dj dx fs) :=
 ⟨⟨mA,n,r,wi⟩,(let ⟨o,_,_,e,_⟩:=n;⟨o,e⟩),λ_ _ ⟨m,n,r,wi⟩ k=>⟨m,n.at k,r,wi⟩⟩
end
noncomputable def del(H:Hp)(e:a5):Hp:=λb=>if b=e then none else H b
theorem rP{H:Hp}{e b:a5}(h:b≠e):del H e b=H b:=by unfold del;rw[if_neg h]
theorem EV{H:Hp}{e:a5}:del H e e=none:=by unfold del;rw[if_pos rfl]
theorem uV{H:Hp}{e b:a5}(h:H b=none):del H e b=none:=by unfold del;split<;>first|rfl|exact h
theorem Rk{H:Hp}{a:a5}{o:HO}(h:H a=some o):upd H a o=H:=by
 funext b
 unfold upd
 split
 ·rename_i z;rw[z,h]
 ·rfl
section
variable{X:Cx}{pins:List (a5×mi)}{σ:St}{H:Hp}{s:ba}
theorem Inv.drop{e:a5}{φ:eJ->Prop}(I:Inv X pins σ H s)(he:H e=some (.ext φ)):Inv X pins σ (del H e) s:=by
 have ne:∀{b:a5} {o:HO},H b=some o->(∀ ψ,o≠ .ext ψ)->b≠e:=λ{b o} hb n z=>by
  subst z
  rw[he]at hb
  exact n _ (dA hb).symm
 refine⟨I.ok,I.os,I.bare,⟨I.base.keep,I.base.slot,λb ob q n hx=>uV (I.base.free b ob q n hx),I.base.there,λb xs q=>?_,λb ob u q=>?_,λb ps q=>?_⟩,I.loc,I.cell,uV I.free,λx c q=>uV (I.j4 x c q),λp hp=>?_,λb u q=>?_,I.len,I.up⟩
 ·have q':=I.base.tups b xs q
  rw[rP (ne q' λψ z=>by cases z)];exact q'
 ·have q':=I.base.sQ b ob u q
  rw[rP (ne q' λψ z=>by cases z)];exact q'
 ·obtain⟨more,q'⟩:=I.base.tL b ps q
  exact⟨more,by rw[rP (ne q' λψ z=>by cases z)];exact q'⟩
 ·obtain⟨a,n,r⟩:=I.pin p hp
  exact⟨a,uV n,r⟩
 ·have hb:b≠e:=λz=>by rw[z,EV]at q;cases q
  rw[rP hb]at q
  exact(I.hok b u q).stay (λc v _ r=>r) (λc r=>by rw[rP (ne r λψ z=>by cases z)];exact r) λc xs r=>by rw[rP (ne r λψ z=>by cases z)];exact r
end
section
variable{M:Dx}{A:eR}{E:a9->ba->Prop}{env:Env}
variable{nm q:bp}{C N:a5}{bs bm:List a9}{hdct:Bool}{sn:List bp}{sub:List a9}{ab:Bool}{col:Option Bool}{dd:Option a5}{k0 k1 k2 k3 k5:Option a9}{newId:String}
theorem Gk {s:ba}{x:Sem a9}{Q:Flow->ba->Prop}(hbase:bm.contains (.type "BaseException")=true)(hh:A.handled=none)
  (h:b_ M A x (λv s₁=>∃e od vs sl,v= .ref e/\s₁.heap.get? C=some (excClassObj nm q C N bs bm hdct sn sub ab col dd k0 k1 k2 k3 k5 newId) ∧
   s₁.heap.get? e=some ⟨.ref C,od,.fields vs,sl⟩/\vs[1]? =some .none/\E (.ref e) s₁) E s):b_ M A (raiseStmt env (some x) none) Q E s:=by
 have hcB:(Value.ref C::bm).contains (.type "BaseException")=true:=by rw[List.contains_cons,hbase,Bool.or_true]
 unfold raiseStmt
 refine a0 (h_ h (λv s₁ h₁=>?_) λ_ _ x=>x)
 obtain⟨e,od,vs,sl,rfl,hC,he,hv,hE⟩:=h₁
 obtain⟨hp,g,d,tk,os⟩:=s₁
 repeat (first|with_reducible refine wx he ?_|with_reducible refine wx hC ?_|(with_reducible refine wpAny_isSubtype_exc hC ?_;rw[hcB])|wp_step)
 rw[hv]
 refine bi ?_
 rw[if_neg (by decide)]
 exact bi (wpAny_raiseNew_none hh hE)
end
noncomputable def Ln:List a9:=[.type "ValueError",.type "Exception",.type "BaseException",.type "object"]
structure Jg(K:PySem.W.Frag)(C fI:a5):Prop where
 obj:∀h:eJ,K.In h->∃d:XP,h.get? C=some (d.obj C "ValueError.__new__")/\h.Ns d.N d.mN/\d.mN "__init__" =some (.ref fI)/\OwnTail h Ln d.bm
noncomputable def Hg(K:PySem.W.Frag)(C fI:a5):Bool:=match K.lookup C with
 |some ⟨.type "type",_,.cls cd,sl⟩=>(match cd.mro,sl.toList with
  | .ref C'::bm,[_,_,_,_,some (.builtin n),_]=>C'==C&&n== "ValueError.__new__" && !cd.hasDel&&PySem.W.tailIn K Ln bm&&PySem.W.nsOkIn K cd.ns&&PySem.W.nsIn K cd.ns "__init__" ==some (some (.ref fI))
  |_,_=>false)
 |_=>false
theorem GG{K:PySem.W.Frag}{h:eJ}{N:a5}{mg:bp->Option a9}{n:bp}{v:a9}(X:K.In h)(G:h.Ns N mg)(e:PySem.W.nsIn K N n=some (some v)):mg n=some v:=by
 obtain⟨o,es,ep,ho,hd,_,hf⟩:=G
 unfold PySem.W.nsIn at e
 split at e
 ·rename_i c d es' n' sl q
  have:=X _ _ q
  rw[ho]at this
  cases this
  cases hd
  split at e
  ·rename_i he
   cases e
   rw[←hf]
   unfold nsFind findBy
   rw[←Array.find?_toList,he]
   rfl
  ·split at e
   ·cases e
   ·cases e
 ·cases e
theorem Dl{K:PySem.W.Frag}{C fI:a5}(q:Hg K C fI=true):Jg K C fI:=by
 refine⟨λh k=>?_⟩
 unfold Hg at q
 split at q
 ·rename_i dd cd sl hob
  split at q
  ·rename_i C' bm k0 k1 k2 k3 nn k5 hmr M8
   simp only[ll,beq_iff_eq,Bool.not_eq_true']at q
   obtain⟨⟨⟨⟨⟨e1,e2⟩,e3⟩,e4⟩,e5⟩,e6⟩:=q
   subst e1 e2
   obtain⟨nm,bs,mro,ns,qn,hd,sn,sub,ab,col,del⟩:=cd
   dsimp only at hmr e3 e5 e6
   subst hmr e3
   have hsl:sl= #[k0,k1,k2,k3,some (.builtin "ValueError.__new__"),k5]:=by
    obtain⟨l⟩:=sl
    simp only at M8
    rw[M8]
   subst hsl
   have G:h.Ns ns _:=.of_isNs (PySem.W.isNs_of_in k e5)
   exact⟨⟨nm,qn,ns,bs,bm,hd,sn,sub,ab,col,dd,k0,k1,k2,k3,k5,_⟩,k _ _ hob,G,GG k G e6,PySem.W.tail_of_in k e4⟩
  ·cases q
 ·cases q
structure XBase(K:PySem.W.Frag)(W:a5):Prop where
 ga:PySem.W.specialIn K (.ref W) "__getattribute__" =some (some (.builtin "type.__getattribute__"))
 rd:PySem.W.readsIn K W (.type "type")=true
 fd:PySem.W.findCls K (.ref W) (.type "type") "__init__" =some (.val (.builtin "ValueError.__init__"))
noncomputable def tM:List a9->Bool
 |[]=>false
 |v::r=>(v::r)==Ln||match v with| .ref _=>tM r|_=>false
structure Xn(K:PySem.W.Frag)(C:a5):Prop where
 hd:PySem.W.hasDictIn K C=true
 po:((PySem.W.clsIn K C).any λcd=>tM cd.mro)=true
 sa:PySem.W.findIn K (.ref C) "__setattr__" =some (some (.builtin "object.__setattr__"))
theorem AV(self:a9):∀{l:List a9},tM l=true->refuseLoop self "__setattr__" l=pure ()
 |[],e=>by cases e
 |v::r,e=>by
  unfold tM at e
  rcases Bool.or_eq_true_iff.mp e with q|q
  ·rw[beq_iff_eq.mp q];exact PySem.F.store_ValueError.passes self
  ·split at q
   ·rw[refuseLoop_ref];exact AV self q
   ·cases q
theorem Ll:∀{l:List a9},tM l=true->l.contains (.type "object")=true
 |[],e=>by cases e
 |v::r,e=>by
  unfold tM at e
  rcases Bool.or_eq_true_iff.mp e with q|q
  ·rw[beq_iff_eq.mp q];decide +kernel
  ·split at q
   ·rw[List.contains_cons,Ll q,Bool.or_true]
   ·cases q
end
section
noncomputable def Vj(K:PySem.W.Frag)(t:TA):TE:=λσ H Q=>t σ H λvs H1=>∃e C fI od y,vs=[.ref e,y]/\H1 e=some (newX e C od)/\Jg K C fI/\Q .ia H1
theorem OY {X:Cx}{x:bp}{W:a5}{np apos cpos:sx}{a b:Expr}{t:TA}{pl:Sem Bool}(hW:XBase X.K W)(hg:Gl X x)(hm:X.mg x=some (.ref W))(ha:PA X [a,b] t)(hdb:(x==("__debug__" :bp))=false:=by decide)
  (hev:eval (.Call (.Attribute (.Name x np) "__init__" apos) [a,b] [] cpos) X.env=(do
   let ov ←eval (.Name x np) X.env
   standAt apos.atName
   let (f,first) ←holding [ov] (getMethod ov "__init__" pl)
   callWith cpos f first (backTo cpos (eP [a,b] X.env)) (backToKw cpos (keywordEach [] X.env))):=by rfl)
  (hs:eP [a,b] X.env=(false,eval a X.env)::eP [b] X.env:=by rfl) (hpl:(backTo cpos (eP [b] X.env)).any (·.1)=false:=by rfl) :
  PE X (.Call (.Attribute (.Name x np) "__init__" apos) [a,b] [] cpos) (Vj X.K t):=by
 intro pins s σ H Q I h
 refine PySem.W.methodCall_KW (pl:=pl) (nM I hg hm ?_ hdb) hev
 refine PySem.W.method_cls I.qv hW.ga (PySem.W.cls_value I.qv hW.rd hW.fd (by decide +kernel) ?_)
 have hA:=ha cpos pins { s with toks:=s.toks+1 } σ H _ (I.tok _) h
 rw[hs]at hA ⊢
 refine v_ (by show(false||(backTo cpos (eP [b] X.env)).any (·.1))=false;rw[hpl]<;>rfl) (Calls.evalArgs_plain ?_)
 refine dG hA λus s2 ⟨vs,H2,I2,r2,e,C,fI,od,y,e1,hx,O,q⟩=>?_
 subst e1
 obtain⟨u1,u2,rfl,ru1,_⟩:=vals2 r2
 cases (show u1=Value.ref e from ru1)
 obtain⟨⟨vs,sl,he,h1⟩,_,_⟩:=(show bM X.prog X.w H2 s2.heap e (newX e C od) from I2.hok e _ hx)
 obtain⟨d,hC,hN,hni,T⟩:=O.obj s2.heap I2.qv
 have F:=PySem.F.excBase_ValueError
 have I2':=I2
 obtain⟨hh,gs,dr,tk,os⟩:=s2
 show b_ _ _ (call (.builtin "ValueError.__init__") [.ref e,u2]) _ _ _
 refine v0 (wE F.init.plain F.initEntry (wpAny_check_init_subU F T hC he rfl ?_))
 have hv:0<vs.size:=bv (d0 1) (wT.mp h1.1).1
 have hv0:vs[0]? =some vs[0]:=sK hv
 wp_walk
 rw[hv0]
 refine bi ?_
 have hg:(hh.push { cls:=.type "tuple",data:=.seq #[u2] }).get? e=some ⟨.ref C,od,.fields vs,sl⟩:=a8 _ he
 refine a0 (rg hg rfl hv ?_)
 have hu:=ka (wt (·.setIfInBounds 0 (Value.ref hh.objs.size))) hg rfl
 have fin:EP X pins σ Q Value.none ⟨(hh.push { cls:=.type "tuple",data:=.seq #[u2] }).update e (wt (·.setIfInBounds 0 (Value.ref hh.objs.size))),gs,dr,tk,os⟩:=by
  refine⟨.ia,H2,?_,rfl,q⟩
  have J1:=I2'.kept (h':=hh.push { cls:=.type "tuple",data:=.seq #[u2] }) (t':=tk) λb u z=>a8 _ z
  have J2:=J1.write (x:=e) (e:=e) (o:=newX e C od) (t':=tk) (by rw[hx];exact True.intro) (.inl rfl) (λb u hb z=>(ip _ _ (Ne.symm hb)).trans z) ⟨_,hu⟩ (Cg hu (by simp[h1]))
  rw[Rk hx]at J2
  exact J2
 cases hq:vs[0]with
 |ref t0=>exact o_ (bi fin)
 |_=>exact bi (bi fin)
end
section
section
variable{prog:bn}{w:df}{A:eR}{E:a9->ba->Prop}{s:ba}{K:PySem.W.Frag}{x dx C:a5}{name:bp}{v:a9}{R:Result->ba->Prop}
theorem Iw{ox:mi}{od:Option mi}{tk:Do}(X:K.In s.heap)(I:PySem.W.InstAt s.heap x ox C od)(S:Xn K C)(ht:PySem.W.takerIn K C name=some none)
  (h:∀b,b_ (model prog w) A.in1 (Builtin.ObjectAttr.storeInOwnDict (.ref x) (.ref C) (.str name tk) name v b)
   (λfin s'=>match fin with| .done f=>R (.ok f) s'| .again c'=>c'.quiet=true/\codeAny (model prog w) A c' R s') (λe s'=>R (.error e) s') s) :
  codeAny (model prog w) A (.call (.builtin "object.__setattr__") ⟨[.ref x,.str name tk,v],[]⟩) R s:=by
 have SF:=PySem.F.store_object
 obtain⟨cd,hc,ho⟩:=PySem.W.any_some S.po
 have ne:cd.mro.isEmpty=false:=by cases q:cd.mro with|nil=>rw[q]at ho;cases ho|cons _ _=>rfl
 have sub:PySem.W.Looks (model prog w) s.heap (isInstance (.ref x) (.type "object")) true:=I.type.andThen (PySem.W.looks_mroIn X (by unfold PySem.W.mroIn;rw[hc,AC,if_neg (by rw[ne];decide),Ll ho]))
 refine wE SF.slot.plain SF.entry (@PySem.W.check_slot (model prog w) _ _ s "object.__setattr__" "object" "__setattr__" (.ref x) [.str name tk,v] [] _ SF.kind SF.split sub (SF.args (.ref x) (.str name tk) v) ?_)
 obtain⟨attr,ha,hr⟩:=vk.mp ht
 have hm:PySem.W.Looks (model prog w) s.heap (mroOf (.ref C)) cd.mro:=(PySem.W.looks_clsIn X hc).andThen .now
 have L3:PySem.W.Looks (model prog w) s.heap (Builtin.ObjectAttr.storeTaker? attr) none:=by
  cases attr with
  |none=>cases hr;exact .now
  |some a =>
   obtain⟨b,hb,e⟩:=fw.mp hr
   refine(PySem.W.looks_takesIn X hb).andThen ?_
   cases b with
   |false=>exact .now
   |true=>cases e
 rw[PySem.W.osa_eq,refuse_eq]
 refine a0 (a0 (I.type.here (a0 (hm.here ?_))))
 rw[AV _ ho]
 refine bi (a0 (I.type.here (a0 ((PySem.W.looks_findIn X ha).here (a0 (L3.here ?_))))))
 exact h _
theorem F7{vs:Array a9}{sl:Array (Option a9)}{mA:bp->Option a9}{ns:List bp}{Q:Unit->ba->Prop}(X:K.In s.heap)(S:Xn K C)(ht:PySem.W.takerIn K C name=some none)
  (he:s.heap.get? x=some ⟨.ref C,some dx,.fields vs,sl⟩) (hn:s.heap.Ns1 dx mA) (hw:PySem.Within mA ns) (hsz:ns.length+1<=bt)
  (h:∀h',h'.Ns1 dx (λy=>if y=name then some v else mA y)->mM dx s.heap h'->Q () { s with heap:=h',toks:=s.toks+2 }):b_ (model prog w) A (setAttr (.ref x) name v) Q E s:=by
 obtain⟨od,ho,hl⟩:=vP hn
 have J:PySem.W.InstAt s.heap x ⟨.ref C,some dx,.fields vs,sl⟩ C (some od):=⟨he,rfl,rfl,ho⟩
 refine PySem.W.set_plain X J S.sa (Iw (s:={ s with toks:=s.toks+1 }) X J S ht λb=>?_)
 obtain⟨cd,hc,hd'⟩:=PySem.W.any_some S.hd
 refine a0 (bi (a0 (a0 (wpAny_loadPart he (a0 (PySem.W.Looks.here (s:={ s with toks:=s.toks+1 }) (PySem.W.looks_clsIn X hc) ?_))))))
 rw[hd']
 refine bi (a:=some dx) (a0 (bi (a0 ?_)))
 refine wpAny_nsSet1 (s:={ s with toks:=s.toks+1 }) hn λh' hn2 hs2=>?_
 obtain⟨oD,esD,epD,WK,WV,WW⟩:=hn2.count (PySem.Within.cons name v hw)
 refine a0 (wpAny_lookBehind WK (by rw[WV];exact pastItsLine_dict (bj WW (by rw[eM];omega))) ?_)
 exact bi (h _ hn2 hs2)
theorem F8{vs:Array a9}{sl:Array (Option a9)}{Q:Unit->ba->Prop}(X:K.In s.heap)(S:Xn K C)(ht:PySem.W.takerIn K C name=some none)
  (he:s.heap.get? x=some ⟨.ref C,none,.fields vs,sl⟩)
  (h:∀h',h'.Ns1 s.heap.objs.size (λy=>if y=name then some v else none)->mM s.heap.objs.size ((s.heap.push PySem.W.emptyDict).update x λo=>{ o with dict:=some s.heap.objs.size }) h'->Q () { s with heap:=h',toks:=s.toks+2 }):b_ (model prog w) A (setAttr (.ref x) name v) Q E s:=by
 have J:PySem.W.InstAt s.heap x ⟨.ref C,none,.fields vs,sl⟩ C none:=⟨he,rfl,rfl,trivial⟩
 refine PySem.W.set_plain X J S.sa (Iw (s:={ s with toks:=s.toks+1 }) X J S ht λb=>?_)
 obtain⟨cd,hc,hd'⟩:=PySem.W.any_some S.hd
 refine a0 (bi (a0 (a0 (wpAny_loadPart he (a0 (PySem.W.Looks.here (s:={ s with toks:=s.toks+1 }) (PySem.W.looks_clsIn X hc) ?_))))))
 rw[hd']
 rw[if_neg (by decide)]
 have hxs:x≠s.heap.objs.size:=eA (cm he)
 have Wz:(s.heap.push PySem.W.emptyDict).get? x=some ⟨.ref C,none,.fields vs,sl⟩:=a8 _ he
 show b_ (model prog w) A.in1 (alloc PySem.W.emptyDict >>= λd=>update x (λo=>{ o with dict:=some d }) >>= λ_=>dictMade (.ref C) x d) _ _ _
 refine a0 (wpAny_alloc (a0 (wpAny_update Wz ?_)))
 refine bi ?_
 have hgd:((s.heap.push PySem.W.emptyDict).update x λo=>{ o with dict:=some s.heap.objs.size }).get? s.heap.objs.size=some PySem.W.emptyDict :=
  (Heap.get?_update_ne _ _ _ _ hxs.symm).trans (bo _ rfl)
 have hnd:((s.heap.push PySem.W.emptyDict).update x λo=>{ o with dict:=some s.heap.objs.size }).Ns s.heap.objs.size (λ_=>none) :=
  ⟨_,#[],_,hgd,rfl,λe he=>absurd he (by simp),λ_=>rfl⟩
 show b_ _ _ (Builtin.ObjectAttr.storeInDict s.heap.objs.size (.str name s.toks) name v) _ _ _
 refine a0 (bi (a0 ?_))
 refine wpAny_nsSet1 (s:={ s with heap:=(s.heap.push PySem.W.emptyDict).update x λo=>{ o with dict:=some s.heap.objs.size },toks:=s.toks+1 }) (Heap.Ns1.of_empty hnd) λh' hn2 hs2=>?_
 obtain⟨oD,esD,epD,WK,WV,WW⟩:=hn2.count (PySem.Within.cons name v PySem.Within.nil)
 refine a0 (wpAny_lookBehind WK (by rw[WV];exact pastItsLine_dict (bj WW (by rw[eM,List.length_nil,B2];omega))) ?_)
 exact bi (h _ hn2 hs2)
end
end
section
theorem D6{fs:List (bp×V)}{mA:bp->Option a9}{f:bp}{y:V}{u:a9}(r:∀g,oG (fs.lookup g) (mA g))(ry:RelV y u):∀g,oG ((aG f y fs).lookup g) (if g=f then some u else mA g):=λg=>by
 rw[ay]
 by_cases q:g=f
 ·rw[if_pos q,if_pos q];exact ry
 ·rw[if_neg q,if_neg q];exact r g
theorem xW{fs:List (bp×V)}{mA:bp->Option a9}{f:bp}{y:V}{u:a9}(wi:PySem.Within mA (fs.map (·.1))):PySem.Within (λg=>if g=f then some u else mA g) ((aG f y fs).map (·.1)):=λg hg=>by
 by_cases q:g=f
 ·rw[q];exact(pR f y fs).1
 ·refine(pR f y fs).2 g (wi g λz=>hg ?_)
  show(if g=f then some u else mA g)=none
  rw[if_neg q];exact z
noncomputable def Vw(K:PySem.W.Frag)(ta tv:TE)(f:bp):TS:=λD σ H=>tv σ H λy H1=>ta σ H1 λx H2=>∃e C,x= .ref e/\Xn K C/\bO K C f ∧
 ((H2 e=some (newX e C none)/\∀dx,H2 dx=none->D.nx σ (upd (upd (upd H2 dx (Dj dx [])) e (newX e C (some dx))) dx (Dj dx (aG f y [])))) ∨
  ∃dx fs,H2 e=some (newX e C (some dx))/\H2 dx=some (Dj dx fs)/\fs.length<1000/\D.nx σ (upd H2 dx (Dj dx (aG f y fs))))
theorem Il{X:Cx}{o value:Expr}{f:bp}{pos pos':sx}{ta tv:TE}(ha:PE X o ta)(hv:PE X value tv)(hs:swapsWith value (some (.Attribute o f pos')) pos.line X.env=pure false):PS X (.Assign [.Attribute o f pos'] value pos) (Vw X.K ta tv f):=by
 intro pins s σ H D I h
 refine plainObj_wpAny_Assign_Attribute (dG (hv pins s σ H _ I h) λu s1 ⟨y,H1,I1,ry,q⟩=>dG (ha pins s1 σ H1 _ I1 q) λov s2 ⟨x,H2,I2,rx,e,C,ex,S,n,hk⟩=>?_) hs
 subst ex
 obtain rfl:ov=Value.ref e:=rx
 rcases hk with⟨hx,q2⟩|⟨dx,fs,hx,hd,hl,q2⟩
 ·obtain⟨⟨vs,sl,he,h1⟩,_,_⟩:=(show bM X.prog X.w H2 s2.heap e (newX e C none) from I2.hok e _ hx)
  refine F8 I2.qv S n.Lx he λh' hn' sb=>?_
  have ne:e≠s2.heap.objs.size:=eA (cm he)
  have e1:(s2.heap.push PySem.W.emptyDict).get? s2.heap.objs.size=some PySem.W.emptyDict:=bo _ rfl
  have n1:(s2.heap.push PySem.W.emptyDict).Ns1 s2.heap.objs.size (λ_=>none):=Heap.Ns1.of_empty ⟨_,#[],_,e1,rfl,(λe he=>absurd he (by simp)),λ_=>rfl⟩
  have Yp:(s2.heap.push PySem.W.emptyDict).get? e=some ⟨.ref C,none,.fields vs,sl⟩:=a8 _ he
  have he2:=ka (λo=>{ o with dict:=some s2.heap.objs.size }) Yp rfl
  have J1:=I2.laid (a:=s2.heap.objs.size) (o:=Dj s2.heap.objs.size []) (h':=s2.heap.push PySem.W.emptyDict) (t':=s2.toks) (λb u q=>a8 _ q) (a7 _) (FO n1 (λ_=>True.intro) (λy hy=>absurd rfl hy))
  have J2:=J1.write (x:=e) (e:=e) (o:=newX e C (some s2.heap.objs.size)) (t':=s2.toks) (by rw[au ne,hx];exact True.intro) (.inl rfl) (λb u hb q=>(ip _ _ (Ne.symm hb)).trans q) ⟨_,he2⟩ (Cg he2 h1)
  have J3:=J2.write (x:=s2.heap.objs.size) (e:=s2.heap.objs.size) (o:=Dj s2.heap.objs.size (aG f y [])) (h':=h') (t':=s2.toks+2) (by rw[au (Ne.symm ne),ah];exact True.intro) (.inl rfl) (λb u hb q=>(sb.2 b hb).trans q) (let ⟨o,_,_,e,_⟩:=hn';⟨o,e⟩)
   (FO hn' (D6 (mA:=λ_=>none) (λ_=>True.intro) ry) (xW (mA:=λ_=>none) λy hy=>absurd rfl hy)) (ht:=by show s2.toks<=s2.toks+2;omega)
  exact⟨σ,_,J3,q2 _ (I2.hok.fresh (a7 _))⟩
 ·obtain⟨⟨vs,sl,he,h1⟩,_,_⟩:=(show bM X.prog X.w H2 s2.heap e (newX e C (some dx)) from I2.hok e _ hx)
  obtain⟨⟨mA,nA,rA,wA⟩,_,_⟩:=(show bM X.prog X.w H2 s2.heap dx (Dj dx fs) from I2.hok dx _ hd)
  refine F7 I2.qv S n.Lx he nA wA (by rw[bc,B2];omega) λh' hn' sb=>?_
  have J3:=I2.write (x:=dx) (e:=dx) (o:=Dj dx (aG f y fs)) (h':=h') (t':=s2.toks+2) (by rw[hd];exact True.intro) (.inl rfl) (λb u hb q=>(sb.2 b hb).trans q) (let ⟨o,_,_,e,_⟩:=hn';⟨o,e⟩) (FO hn' (D6 rA ry) (xW wA))
  exact⟨σ,_,J3,q2⟩
structure XMk(K:PySem.W.Frag)(C f:a5):Prop where
 cls:Jg K C f
 fn:PySem.W.isFn K (.ref f)=true
 kp:PySem.W.keepIn K (.ref C)=true
noncomputable def OH(C:a5)(sp:Sp)(E:St->XK)(t:TA):TS:=λ_ σ H=>t σ H λvs H1=>vs.length<=bt/\∀e,H1 e=none →
 sp (.ref e::vs) (upd H1 e (newX e C none)) (λv H2=>v= .ia/\∃od,H2 e=some (newX e C od)/\E σ (.ref C) od (del H2 e)) (E σ)
theorem JD{X:Cx}{E:St->XK}{C f:a5}{x:bp}{np cpos pos:sx}{k:Nat}{fd:dv}{ps:List bp}{sp:Sp}{e:Expr}{es:List Expr}{t:TA}(L:Lets X E)(M:XMk X.K C f)
  (F:aE X.prog X.w X.K X.mg X.base (vt X.prog X.w) k f fd ps sp) (hr:jL (k+1) X.A) (hb:Binds X.K fd ps []) (hc:X.calm=true)
  (hg:Gl X x) (hm:X.mg x=some (.ref C)) (ha:PA X (e::es) t) (hdb:(x==("__debug__" :bp))=false:=by decide) (he:eP (e::es) X.env=(false,eval e X.env)::eP es X.env:=by rfl)
  (hpl:(backTo cpos (eP es X.env)).any (·.1)=false:=by rfl):PS X (.Raise (some (.Call (.Name x np) (e::es) [] cpos)) none pos) (OH C sp E t):=by
 intro pins s σ H D I h
 obtain⟨d,hC,hN,hni,T⟩:=M.cls.obj X.base I.ok.mod.QH
 rw[arm_exec_Raise]
 have FB:=PySem.F.excBase_ValueError
 simp only[evalOpt,Option.map]
 refine a0 (A_ (Gk (C:=C) (nm:=d.nm) (q:=d.q) (N:=d.N) (bs:=d.bs) (bm:=d.bm) (hdct:=d.hdct) (sn:=d.sn) (sub:=d.sub) (ab:=d.ab) (col:=d.col) (dd:=d.dd) (k0:=d.k0) (k1:=d.k1) (k2:=d.k2) (k3:=d.k3) (k5:=d.k5) (newId:= "ValueError.__new__") (T.hasType FB.hasBase) (I.ok.hd hc) ?_))
 refine a0 (dG (Q:=λv s₁=>∃e od vs sl,v= .ref e/\s₁.heap.get? C=some (d.obj C "ValueError.__new__")/\s₁.heap.get? e=some ⟨.ref C,od,.fields vs,sl⟩/\vs[1]? =some .none/\X.xe (.ref e) s₁) ?_ λv s2 h2=>a0 (A_ (bi h2)))
 refine mm (nM I hg hm ?_ hdb)
 refine PySem.W.callWith_K (h₀:=X.base) I.ok.mod.QH M.kp (dG (ha cpos pins s σ H _ I h) λus s1 ⟨vs,H1,I1,r,hl,q1⟩=>⟨I1.qv,?_⟩) he hpl
 have hfo:∃o,s1.heap.get? f=some o/\o.cls= .type "function" :=by
  obtain⟨o,ho,hc⟩:=fw.mp (beq_iff_eq.mp M.fn)
  exact⟨o,I1.qv _ _ ho,hc⟩
 obtain⟨oI,hfo,hfc⟩:=hfo
 have I1':=I1
 obtain⟨hh,gs,dr,tk,os⟩:=s1
 refine KQ (N:=d.N) (mN:=d.mN) FB FB.hasB FB (T.keeps I1.bk) (I1.bk _ _ hC) (hN.keeps I1.bk) hni hfo hfc (λh' ea made=>?_) (by show us.length<=bt;rw[←r.length];exact hl)
 obtain⟨t',ht,_,_⟩:=made.there
 have xo:=I1.XU made.new (I1.hok.none_of made.new)
 have J0:Inv X pins σ H1 ⟨h',gs,dr,tk,os⟩:=I1.kept (t':=tk) made.keeps
 have J1:Inv X pins σ (upd H1 ea (newX ea C none)) ⟨h',gs,dr,tk,os⟩:=J0.Lv xo (Cg ht ⟨rfl,rfl,by simp⟩)
 have hq:=q1 ea xo.1
 have r2:Vals (V.ref ea::vs) (Value.ref ea::us):=.cons rfl r
 have hlen:(Value.ref ea::us).length=ps.length:=by rw[←r2.length];exact F.len _ _ _ _ hq
 refine v0 (tz (F.run _ X.stack _ _ ⟨Value.ref ea::us,[]⟩ (Value.ref ea::us) _ _ (E σ) (hr.make C us []) (J1.P0.make C us []) (by have z:=hb _ (Value.ref ea::us) J1.qv (by rw[ib];exact hlen);rw[ib]at z;exact z) r2 hq) λrr s' hq'=>?_)
 cases rr with
 |error e=>exact L.pass J1 hq'
 |ok fl =>
  cases fl with
  |ret u =>
   obtain⟨v,H',I3,rv,ev,od,hx,qE⟩:=J1.after hq'
   subst ev
   obtain⟨⟨vs',K8,he',tD⟩,_,_⟩:=(show bM X.prog X.w H' s'.heap ea (newX ea C od) from I3.hok ea _ hx)
   refine⟨rv,ea,od,vs',K8,rfl,I3.bk _ _ hC,he',tD.1,?_⟩
   exact L pins σ (del H' ea) s' ea (.ref C) od (I3.drop hx) ⟨⟨EV,xo.2⟩,vs',K8,he',λ_=>tD.2.1,.inl tD.1⟩ qE
  |next=>exact kn hq'
  |brk=>exact kn hq'
  |cont=>exact kn hq'
end
section
section
variable{X:Cx}{a b c:Expr}{ta tb tc:TE}{pos:sx}{rest:List Expr}
end
end
section
theorem Hl{X:Cx}{elt tg iter test:Expr}{tt:TT}{scope:oP}{pos pos':sx}{wi:TI}{g:TG}{te:TE}{N:List bp}{pZ:St->St}(hc:X.calm=true)(hS:X.Ok->∃cl,c6 X scope cl N pZ)(hi:PI X tg iter wi)
  (hg:∀cl C s H ex pn E,PG (iW X scope cl C N s H ex pn E) tg g) (he:∀cl C s H ex pn E,PE (iW X scope cl C N s H ex pn E) elt te) (ht:∀cl C s H ex pn E,PT (iW X scope cl C N s H ex pn E) test tt) (hs:∀x,foldedSetIterable iter X.env x=pure x)
  {pins:List (a5×mi)} {s:ba} {σ:St} {H:Hp} {Q:VK} {use:Option (a9->Sem Unit)} {QQ:a9->ba->Prop} (I:Inv X pins σ H s) (h:yc wi g tt te pZ σ H Q)
  (Ng:∀(l C:a5) (mC:bp->Option a9) (H':Hp) (s':ba),Inv X pins σ H' s'->qR X pins H' C->s'.heap.Ns C mC->Q (.ref l) H'->compPost (model X.prog X.w) X.A X.xe use QQ (.ref l) C (.ok .next) s') :
  b_ (model X.prog X.w) X.A (comprehension (.ListComp elt [⟨tg,iter,[test],0⟩] scope pos) scope X.env pos' (newList []) false (eval iter X.env) use) QQ X.xe s :=
 y9 hc hS hi hg he (λcl C s H ex pn E pins s' σ H' Q I q=>wpAny_tests_one (ht cl C s H ex pn E pins s' σ H' Q I q)) hs I h Ng
theorem Ef{X:Cx}{elt tg iter test:Expr}{tt:TT}{scope:oP}{pos:sx}{wi:TI}{g:TG}{te:TE}{N:List bp}{pZ:St->St}(hc:X.calm=true)(hS:X.Ok->∃cl,c6 X scope cl N pZ)(hi:PI X tg iter wi)
  (hg:∀cl C s H ex pn E,PG (iW X scope cl C N s H ex pn E) tg g) (he:∀cl C s H ex pn E,PE (iW X scope cl C N s H ex pn E) elt te) (ht:∀cl C s H ex pn E,PT (iW X scope cl C N s H ex pn E) test tt)
  (hs:∀x,foldedSetIterable iter X.env x=pure x:=by intro _;rfl):PE X (.ListComp elt [⟨tg,iter,[test],0⟩] scope pos) (yc wi g tt te pZ):=by
 intro pins s σ H Q I h
 rw[eval_ListComp]
 refine Hl (use:=none) (QQ:=EP X pins σ Q) hc hS hi hg he ht hs I h ?_
 intro l C mC H' s' I' fp hn q
 exact⟨mC,hn,λh' sb=>⟨.ref l,H',I'.moved (ch:=[C]) (t':=s'.toks) (λb o hb e=>(sb.2 b (by simpa using hb)).trans e) (λb hb=>by rw[cq.mp hb];exact fp),rfl,q⟩⟩
end
end L2
namespace GP
open PySem L2 rW
theorem A7{n:Nat}(h:n<=100000):((n:Nat):Int).natAbs.log2<1920:=by
 rw[Int.natAbs_natCast]
 by_cases z:n=0
 ·subst z;decide
 ·rw[Nat.log2_lt z]
  exact bv h (dy (show 100000<2 ^ 20 by decide) (wP (by decide) (by decide)))
theorem Cv{a b:bp}{m n:Nat}(h1:a.length<=m)(h2:b.length<=n):(a++b).length<=m+n:=by rw[strLen_append];omega
theorem rQ{i j:Int}:decide (V.int i=V.int j)=decide (i=j):=by
 by_cases h:i=j
 ·subst h;simp
 ·rw[decide_eq_false h,decide_eq_false (λz=>h (V.int.inj z))]
theorem ite_str{i j:bp}{A B:Prop}(h1:i=j->A)(h2:¬i=j->B):if(decide (V.str i=V.str j))=true then A else B:=by
 by_cases h:i=j
 ·rw[if_pos (by rw[h];simp)];exact h1 h
 ·rw[if_neg (by rw[decide_eq_false (λz=>h (V.str.inj z))];exact cw)];exact h2 h
noncomputable def DP(C:a5):Sp:=λvs H Q _=>∃(e:a5) (i j:Nat),vs=[.ref e,.int i,.int j]/\H e=some (newX e C none)/\i<=100000/\j<=100000 ∧
 ∀dx H',(∀b u,H b=some u->b≠e->H' b=some u)->H dx=none->H' e=some (newX e C (some dx))->H' dx=some (Dj dx (aG "place" (.int j) (aG "row" (.int i) [])))->Q .ia H'
noncomputable def Pa:List V:=[.str (a_ "whole"),.str (a_ "within"),.str (a_ "over"),.str (a_ "stretch")]
noncomputable def wG(m:bp):Bool:=QK (.str m) Pa
noncomputable def qY(C:a5):Sp:=λvs H Q E=>∃m:bp,vs=[.str m]/\(wG m=true->Q .ia H)/\(wG m=false->(reprText m).length<=20/\E (.ref C) none H)
noncomputable def Cj(m:bp)(q:bT):Bool :=
 if m=a_ "whole" then decide (q.1=0)&&decide (q.2=0)else if m=a_ "within" then decide (q.1=0)else if m=a_ "over" then decide (q.2=0)else true
noncomputable def Ew(m f s:bp)(q:bT):Bool :=
 if m=a_ "whole" then decide (q.1=(f.cps.size:Int))&&decide (q.2=(s.cps.size:Int))else if m=a_ "stretch" then true else decide (q.1=(f.cps.size:Int))
noncomputable def LS(K:PySem.W.Frag):Sp:=λvs H Q _=>∃(m:bp) (a:a5) (q:bT),vs=[.str m,.ref a]/\jD K H a q/\Q (.bl (Cj m q)) H
noncomputable def LR(K:PySem.W.Frag):Sp:=λvs H Q _=>∃(m f s:bp) (a:a5) (q:bT),vs=[.str m,.str f,.str s,.ref a]/\jD K H a q/\f.cps.size<=1000/\s.cps.size<=1000/\Q (.bl (Ew m f s q)) H
end GP
namespace L2
open PySem PySem.Spec PyProof.Rows
theorem Nu{prog:bn}{w:df}{A:eR}{E:a9->ba->Prop}{s:ba}{K:PySem.W.Frag}{x C:a5}{ox:mi}{od:Option mi}{name:bp}{expr:Bool}{v:a9}{Q:a9->ba->Prop}(Z:XTy K C)(k:K.In s.heap)(I:PySem.W.InstAt s.heap x ox C od)
  (hf:PySem.W.findObj K C od name=some (.value v)) (hd:PySem.W.handedIn v=true) (h:Q v { s with toks:=s.toks+1 }):b_ (model prog w) A (getAttr (.ref x) name expr) Q E s:=by
 obtain⟨hh,g,d,t,os⟩:=s
 have L0:=I.type (M:=model prog w)
 have L1:=PySem.W.looks_findIn (M:=model prog w) k Z.ga
 have L2:=PySem.W.looks_findIn (M:=model prog w) k Z.gn
 have LB:=PySem.W.looks_mroIn (M:=model prog w) k Z.hb
 have LF:=PySem.W.looks_find (M:=model prog w) k I hf
 unfold getAttr getAttrBy
 refine a0 (wpAny_mkText (iq (a0 (L0.at (a0 (L1.at ?_))))))
 show b_ _ _ (getAttrByItsOwn _ _ _ _ _ _) _ _ _
 unfold getAttrByItsOwn hookBefore
 refine a0 (L2.at ?_)
 refine a0 (Bz (iq ?_))
 have e0:∀n:a9,callGetattribute (.ref x) n (.builtin "BaseException.__getattribute__") expr=boundAndCalled (.builtin "BaseException.__getattribute__") (.ref x) n:=λn=>by
  unfold callGetattribute
  cases expr<;>rfl
 rw[e0]
 unfold boundAndCalled
 refine a0 (Ch (PySem.F.attr_ValueError.ga.bind (.ref x)) ?_)
 show b_ _ _ (call (.builtin "BaseException.__getattribute__") [.ref x,.str name t]) _ _ _
 refine v0 (wE PySem.F.attr_ValueError.ga.plain PySem.F.entry_bexc_ga ?_)
 have c1:builtinKind "BaseException.__getattribute__" =some .slot:=by decide +kernel
 have c2:splitId "BaseException.__getattribute__" =some ("BaseException","__getattribute__"):=by decide +kernel
 have c3:=PySem.F.args_bexc_ga (.ref x) (.str name t)
 simp only[checkBuiltinCall,c1,c2]
 refine a0 (a0 (L0.at (LB.at ?_)))
 simp only[q_,gN,if_false]
 unfold argsOk at c3
 refine Ch c3 ?_
 unfold Builtin.«object.__getattribute__»
 refine a0 (bi (a0 (bi (a0 (L0.at (a0 (LF.at ?_)))))))
 refine bi ?_
 show b_ _ _ (handedOut v) _ _ _
 rw[PySem.W.handedOut_of hd]
 exact bi h
noncomputable def Qo(K:PySem.W.Frag)(ta:TE)(f:bp):TE:=λσ H Q=>ta σ H λx H1=>∃e C dx fs i,x= .ref e/\H1 e=some (UO e (.ref C) (some dx))/\H1 dx=some (Dj dx fs)/\XTy K C/\bO K C f/\fs.lookup f=some (.int i)/\Q (.int i) H1
theorem M4{P:bn}{w:df}{H:Hp}{h:eJ}{e C dx:a5}{fs:List (bp×V)}(hok:nZ P w H h)(he:H e=some (UO e (.ref C) (some dx)))(hd:H dx=some (Dj dx fs)):
  ∃ox od,∃mA:bp->Option a9,PySem.W.InstAt h e ox C (some od)/\(∀name,PySem.W.lookIn name od=some (mA name))/\∀f,oG (fs.lookup f) (mA f):=by
 obtain⟨⟨vs,sl,h1⟩,_,_⟩:=(show bM P w H h e (UO e (.ref C) (some dx)) from hok e _ he)
 obtain⟨⟨mA,nA,rA,wA⟩,_,_⟩:=(show bM P w H h dx (Dj dx fs) from hok dx _ hd)
 obtain⟨od,ho,hl⟩:=vP nA
 exact⟨_,od,mA,⟨h1,rfl,rfl,ho⟩,hl,rA⟩
theorem OW{X:Cx}{e:Expr}{f:bp}{pos:sx}{ta:TE}(he:PE X e ta)(hb:attributeBase e f X.env (eval e X.env)=eval e X.env):PE X (.Attribute e f pos) (Qo X.K ta f):=by
 intro pins s σ H Q I h
 refine Jd hb (dG (he pins s σ H _ I h) λu s1 ⟨x,H1,I1,rx,e,C,dx,fs,i,ex,hx,hd,Z,n,l,q⟩=>?_)
 subst ex
 obtain rfl:u=Value.ref e:=rx
 obtain⟨ox,od,mA,J,hl,rA⟩:=M4 I1.hok hx hd
 have r:=rA f
 rw[l]at r
 cases hm:mA f with
 |none=>rw[hm]at r;exact r.elim
 |some u =>
  rw[hm]at r
  obtain⟨t,rfl⟩:=(show ∃t,u=Value.int i t from r)
  refine Nu Z I1.qv J ?_ rfl ⟨.int i,H1,I1.tok _,⟨t,rfl⟩,q⟩
  obtain⟨cd,hc,Yq⟩:=PySem.W.any_some Z.hd
  have hn:PySem.W.findIn X.K (.ref C) f=some none:=n
  unfold PySem.W.findObj
  rw[hc,AC,hn,AC]
  simp only[AC,PySem.W.ownOf,Yq,if_true,hl,hm]
theorem LC{x y:bp}(h:x.cps=y.cps):x=y:=by
 cases x
 cases y
 exact congrArg Str.mk h
noncomputable def o9(x:bp)(n:Int):bp:=⟨(fi n.toNat x.cps).foldl (·++·) #[]⟩
theorem tR(a:Array Nat):∀(n:Nat) (b:Array Nat),((fi n a).foldl (·++·) b).toList=b.toList++(fi n a.toList).flatten
 | 0,b=>by simp
 |n+1,b=>by
  rw[List.replicate_succ,tf,tR a n,List.replicate_succ,ww,Array.toList_append,nz]
theorem Jz(x:bp)(n:Int):(o9 x n).cps.toList=(fi n.toNat x.cps.toList).flatten:=by
 unfold o9
 rw[tR]
 rfl
theorem D5(x:bp)(n:Int):(o9 x n).cps.size=n.toNat*x.cps.size:=by
 rw[←eD,Jz,List.length_flatten,List.map_replicate,List.sum_replicate_nat]
 rfl
theorem Iz{X:Cx}:uh X (binaryOp .Mult) (λx y H Q=>∃z n,x= .str z/\y= .int n/\ -1000000<=n/\n<=1000000/\z.cps.size<=1000000/\n.toNat*z.cps.size<=bt/\Q (.str (o9 z n)) H):=by
 intro pins s σ H x y v u Q I rx ry h
 obtain⟨z,n,rfl,rfl,h1,h2,h3,h4,q⟩:=h
 obtain⟨t,rfl⟩:=rx
 obtain⟨t',rfl⟩:=ry
 have hl:z.length=z.cps.size:=rfl
 refine TK.bP (a7 s.toks) (PySem.P.mul_str ?_ (λk1 _=>?_) (λ_ _=>?_) ?_)
 ·rw[decide_eq_false (by omega),decide_eq_false (by omega)];rfl
 ·have k2:1<=n:=by omega
  have:(2 ^ 63-1:Int) / n>=1000000:=by
   rw[ge_iff_le,Int.le_ediv_iff_mul_le (by omega)]
   calc 1000000*n<=1000000*1000000:=by omega
    _<=_:=by decide
  omega
 ·show decide (z.length*n.toNat>bt)=false
  rw[hl,Nat.mul_comm]
  exact decide_eq_false (Nat.not_lt.mpr h4)
 ·have fin:∀y:bp,y=o9 z n->∀t k,s.toks<=k->EP X pins σ Q (.str y t) { s with toks:=k }:=λy e t k hk=>⟨.str (o9 z n),H,I.tok k hk,⟨t,by rw[e]⟩,q⟩
  by_cases k1:n<1
  ·rw[if_pos k1]
   refine⟨d0 _,fin _ ?_ _ _⟩
   unfold o9
   rw[show n.toNat=0 by omega]
   rfl
  ·rw[if_neg k1]
   by_cases k2:(n==1||z.length==0)=true
   ·rw[if_pos k2]
    refine fin _ ?_ _ s.toks
    rcases Bool.or_eq_true_iff.mp k2 with k|k
    ·have e:n=1:=by simpa using k
     subst e
     show z=⟨#[]++z.cps⟩
     simp
    ·have e:z.cps.size=0:=(show z.length=0 from eq_of_beq k)
     have e1:=D5 z n
     rw[e,Nat.mul_zero]at e1
     have a1:z.cps= #[]:=Array.eq_empty_of_size_eq_zero e
     have a2:(o9 z n).cps= #[]:=Array.eq_empty_of_size_eq_zero e1
     have:z.cps=(o9 z n).cps:=a1.trans a2.symm
     exact LC this
   ·rw[if_neg k2]
    refine⟨?_,fin _ rfl _ _⟩
    show(o9 z n).cps.size<=bt
    rw[D5]
    exact h4
end L2
namespace GP
open PySem L2 rW
section
theorem yi{x:bp}{lo hi:Option Int}{a b:Nat}(e:PySem.Builtin.Str.strSliceIndices lo hi 1 x.length=PySem.Builtin.Str.strSliceIndices (some (a:Int)) (some (b:Int)) 1 x.length)(hab:a<=b)(hb:b<=x.cps.size):(Txt.slice x lo hi).cps.toList=(x.cps.toList.drop a).take (b-a):=by
 have hb':b<=x.length:=hb
 have f:=StrLaws.sliced_plain x hab hb'
 unfold Txt.slice
 rw[e]
 split
 ·next h =>
  have hl:(PySem.Builtin.Str.strSliceIndices (some (a:Int)) (some (b:Int)) 1 x.length).length=x.length:=by simpa using h
  rw[StrLaws.strSliceIndices_plain hab hb',bc,i_]at hl
  have hl':b-a=x.cps.size:=hl
  have ha:a=0:=by omega
  subst ha
  rw[List.drop_zero,fA (by rw[eD];omega)]
 ·exact f
theorem DX{x:bp}{k:Int}(h0:0<=k)(h1:k<=(x.cps.size:Int)):(Txt.slice x none (some k)).cps.toList=x.cps.toList.take k.toNat:=by
 obtain⟨n,rfl⟩:∃n:Nat,k=(n:Int):=⟨k.toNat,(io h0).symm⟩
 have e:=yi (x:=x) (lo:=none) (hi:=some (n:Int)) (a:=0) (b:=n) (by
  simp only[PySem.Builtin.Str.strSliceIndices]
  simp
  rw[show max (0:Int) (min 0 (x.length:Int))=0 by omega]) (d0 _) (by omega)
 rw[e,List.drop_zero]
 rfl
theorem DY{x:bp}{k:Int}(h0:0<=k)(h1:k<=(x.cps.size:Int)):(Txt.slice x (some k) none).cps.toList=x.cps.toList.drop k.toNat:=by
 obtain⟨n,rfl⟩:∃n:Nat,k=(n:Int):=⟨k.toNat,(io h0).symm⟩
 have e:=yi (x:=x) (lo:=some (n:Int)) (hi:=none) (a:=n) (b:=x.cps.size) (by
  have hl:x.length=x.cps.size:=rfl
  simp only[PySem.Builtin.Str.strSliceIndices,hl]
  simp
  rw[if_neg (show ¬(x.cps.size:Int)<0 by omega),show max (0:Int) (min (x.cps.size:Int) (x.cps.size:Int))=(x.cps.size:Int) by omega]) (by omega) (a7 _)
 rw[e,fA (by rw[vw,eD];omega)]
 rfl
noncomputable def xJ(sg a b:bp)(i j:Nat):Prop :=
 (i=0/\(∃c,a.cps[j]? =some c/\c∉sg.cps.toList)/\∀k c,k<j->a.cps[k]? =some c->c∈sg.cps.toList) ∨
 (i=1/\Of sg a/\(∃c,b.cps[j]? =some c/\c∉sg.cps.toList)/\∀k c,k<j->b.cps[k]? =some c->c∈sg.cps.toList)
theorem xJ.no{sg a b:bp}{i j:Nat}(h:xJ sg a b i j):¬(Of sg a/\Of sg b):=λo=>by
 rcases h with⟨_,⟨c,hc,hn⟩,_⟩|⟨_,_,⟨c,hc,hn⟩,_⟩
 ·exact hn (o.1 c (lC hc))
 ·exact hn (o.2 c (lC hc))
theorem yY{sg a:bp}{j j':Nat}(h:(∃c,a.cps[j]? =some c/\c∉sg.cps.toList)/\∀k c,k<j->a.cps[k]? =some c->c∈sg.cps.toList)
  (h':(∃c,a.cps[j']? =some c/\c∉sg.cps.toList)/\∀k c,k<j'->a.cps[k]? =some c->c∈sg.cps.toList):j=j':=by
 obtain⟨⟨c,hc,hn⟩,h2⟩:=h
 obtain⟨⟨d,hd,hm⟩,h3⟩:=h'
 rcases Nat.lt_trichotomy j j' with z|z|z
 ·exact absurd (h3 j c z hc) hn
 ·exact z
 ·exact absurd (h2 j' d z hd) hm
theorem xJ.uniq{sg a b:bp}{i j i' j':Nat}(h:xJ sg a b i j)(h':xJ sg a b i' j'):i=i'/\j=j':=by
 rcases h with⟨e,h1,h2⟩|⟨e,o,h1,h2⟩
 ·rcases h' with⟨e',k1,k2⟩|⟨e',o',k1,k2⟩
  ·exact⟨e.trans e'.symm,yY ⟨h1,h2⟩ ⟨k1,k2⟩⟩
  ·obtain⟨c,hc,hn⟩:=h1
   exact absurd (o' c (lC hc)) hn
 ·rcases h' with⟨e',k1,k2⟩|⟨e',o',k1,k2⟩
  ·obtain⟨c,hc,hn⟩:=k1
   exact absurd (o c (lC hc)) hn
  ·exact⟨e.trans e'.symm,yY ⟨h1,h2⟩ ⟨k1,k2⟩⟩
noncomputable def Cu(i j:Nat):List (bp×V):=aG "place" (.int j) (aG "row" (.int i) [])
theorem Nq{i j:Nat}:(Cu i j).lookup ("row" :bp)=some (.int i):=by
 unfold Cu
 rw[ay,if_neg (by decide +kernel),ay,if_pos rfl]
theorem Hf{i j:Nat}:(Cu i j).lookup ("place" :bp)=some (.int j):=by
 unfold Cu
 rw[ay,if_pos rfl]
noncomputable def DQ(C:a5):Sp:=λvs H Q E=>∃(sg:bp) (l:a5) (a b:bp),vs=[.str sg,.ref l]/\H l=some (.lst [.str a,.str b])/\a.cps.size<=1000/\b.cps.size<=1000/\(Of sg a->Of sg b->∀H',aj H H'->Q .ia H') ∧
 (∀i j,xJ sg a b i j->∀dx H',aj H H'->H' dx=some (Dj dx (Cu i j))->E (.ref C) (some dx) H')
noncomputable def xN(K:PySem.W.Frag)(C CE:a5):Sp:=λvs H Q E=>∃(x l:a5) (sg:bp) (rows:List (List bT)) (fo fm:bT) (a b:bp),vs=[.ref x,.ref l]/\nO K C H x sg rows fo fm/\H l=some (.lst [.str a,.str b])/\a.cps.size<=1000/\b.cps.size<=1000/\(Of sg a->Of sg b->∀H',aj H H'->Q .ia H') ∧
 (∀i j,xJ sg a b i j->∀dx H',aj H H'->H' dx=some (Dj dx (Cu i j))->E (.ref CE) (some dx) H')
theorem uM{K:PySem.W.Frag}:PySem.W.kitOne K (.type "str") (.type "list")=some false:=by kernel_rfl
theorem sZ{K:PySem.W.Frag}:PySem.W.kitOne K (.type "str") (.type "tuple")=some false:=by kernel_rfl
theorem A3{α:Type}[DecidableEq α]:∀{l m:List α},l.Nodup->(∀a∈l,a∈m)->l.length<=m.length
 |[],_,_,_=>d0 _
 |a::l,m,nd,h=>by
  have ha:=h a cr
  obtain⟨n1,n2⟩:=wb.mp nd
  have ih:=A3 (l:=l) (m:=m.erase a) n2 λb hb=>by
   have nb:b≠a:=λz=>n1 (z▸hb)
   exact(List.mem_erase_of_ne nb).mpr (h b (ce _ hb))
  rw[List.length_erase_of_mem ha]at ih
  have hp:0<m.length:=List.length_pos_of_mem ha
  rw[eM]
  omega
end
section
theorem Bt{sg f b:bp}{c:Nat}{k:Int}(h0:0<=k)(h1:k<=(f.cps.size:Int))(of:Of sg f)(hc:c∉sg.cps.toList):
  (∃d,((Txt.slice f none (some k)++(⟨#[c]⟩:bp))++Txt.slice f (some k) none).cps[k.toNat]? =some d/\d∉sg.cps.toList) ∧
  ∀j d,j<k.toNat->((Txt.slice f none (some k)++(⟨#[c]⟩:bp))++Txt.slice f (some k) none).cps[j]? =some d->d∈sg.cps.toList:=by
 have e:((Txt.slice f none (some k)++(⟨#[c]⟩:bp))++Txt.slice f (some k) none).cps.toList=f.cps.toList.take k.toNat++[c]++f.cps.toList.drop k.toNat:=by rw[rZ,rZ,DX h0 h1,DY h0 h1]
 have l:(f.cps.toList.take k.toNat).length=k.toNat:=by rw[lh,eD];omega
 refine⟨⟨c,?_,hc⟩,λj d hj hd=>?_⟩
 ·rw[←fg,e,ik (by rw[cn,l];exact k_ _),js (by rw[l];exact a7 _),l,xf]
  rfl
 ·rw[←fg,e,ik (by rw[cn,l];exact Nat.lt_succ_of_lt hj),ik (by rw[l];exact hj)]at hd
  exact of d (List.mem_of_mem_take (cx hd))
theorem II{f:bp}{c:Nat}{k:Int}(h0:0<=k)(h1:k<=(f.cps.size:Int)):((Txt.slice f none (some k)++(⟨#[c]⟩:bp))++Txt.slice f (some k) none).cps.size=f.cps.size+1:=by
 rw[←eD,rZ,rZ,DX h0 h1,DY h0 h1,cn,cn,lh,vw,eD]
 show min k.toNat f.cps.size+1+(f.cps.size-k.toNat)=_
 omega
end
end GP
namespace L2
open PySem PySem.Spec PyProof.Rows
section
section
variable{X:Cx}{o:Expr}{to:TE}{g:bp}{c j:Nat}{u:Do}{apos cpos p1 p2:sx}
end
end
section
noncomputable abbrev sg(c:Nat):V:=.str ⟨#[c]⟩
theorem xZ:∀{cs:List Nat} {us:List a9},Vals (cs.map sg) us->∃l:List (bp×Do),us=strValues l/\l.map (·.1)=cs.map λc=>(⟨#[c]⟩:bp)
 |[],_,.nil=>⟨[],rfl,rfl⟩
 |c::cs,_,.cons r rs=>by
  obtain⟨t,e⟩:=r
  obtain⟨l,e1,e2⟩:=xZ rs
  exact⟨(⟨#[c]⟩,t)::l,by rw[e,e1];rfl,by rw[g0,e2];rfl⟩
theorem Bd:∀(l:List Nat) (n:Nat),(l.map λc=>(⟨#[c]⟩:bp)).foldl (λa (x:bp)=>a+x.length+(⟨#[]⟩:bp).length) n=n+l.length
 |[],_=>rfl
 |c::l,n=>by
  rw[g0,tf,Bd l]
  show n+1+0+l.length=n+(l.length+1)
  omega
theorem MI{X:Cx}{K':PySem.W.Frag}(hK:X.K=K'):Xv X "str.join" (λx xs H Q=>∃(l:a5) (cs:List Nat),x= .str ⟨#[]⟩/\xs=[.ref l]/\cy K' H l (cs.map sg)/\cs.length<=100000/\Q (.str ⟨cs.toArray⟩) H):=by
 subst hK
 intro pins s σ H x xs v us Q I rx rs h
 obtain⟨l,cs,rfl,rfl,hl,hn,q⟩:=h
 obtain⟨t,rfl⟩:=rx
 cases rs with
 |cons r rr =>
  cases rr
  cases r
  obtain⟨its,r1,t1,_⟩:=I.list hl
  obtain⟨ls,e1,e2⟩:=xZ r1
  refine TK.bP (a7 s.toks) (SC.join (l:=ls) (by rw[←e1];exact t1.isList) e2 ?_ λt' k hk=>⟨.str ⟨cs.toArray⟩,H,I.tok k hk,⟨t',?_⟩,q⟩)
  ·unfold JoinOk
   rw[List.foldl_toArray,Bd]
   unfold Builtin.Str.tooLong
   rw[Bool.not_eq_true',decide_eq_false_iff_not,Nat.zero_add]
   exact Nat.not_lt.mpr (bj hn (by decide))
  ·have e:Txt.join ⟨#[]⟩ (cs.map λc=>(⟨#[c]⟩:bp))=⟨cs.toArray⟩:=by
    show Builtin.Str.glued _ _=_
    rw[StrLaws.glued_eq_join,join_ones]
   rw[e]
theorem IB{X:Cx}:Xv X "str.join" (λx xs H Q=>∃(l:a5) (cs:List Nat),x= .str ⟨#[]⟩/\xs=[.ref l]/\cy X.K H l (cs.map sg)/\cs.length<=100000/\Q (.str ⟨cs.toArray⟩) H):=MI rfl
end
section
noncomputable def nv(sp:Sp):Sp:=λvs H Q _=>sp vs H Q λ_ _ _=>False
theorem aE.nv{P:bn}{w:df}{K:PySem.W.Frag}{mg:bp->Option a9}{base:eJ}{k:Nat}{f:a5}{fd:dv}{ps:List bp}{sp:Sp}(F:aE P w K mg base (vt P w) k f fd ps sp):aE P w K mg base bS k f fd ps (nv sp) :=
 ⟨λvs H Q E q=>F.len vs H Q _ q,λA outer s H args us vs Q E hr he hb hv hs=>tz (F.run A outer s H args us vs Q _ hr he hb hv hs) λr s' h=>by
  cases r with
  |error e=>obtain⟨ea,cls,od,H',h⟩:=h;exact(h.2.2.2.2.2.2.2:False).elim
  |ok fl=>cases fl<;>exact h⟩
theorem Cy{J:It}{g:TG}{te:TE}{σ':St}{H1:Hp}{D:Hp->Prop}{l:a5}(n:Nat)(f:Nat->V)(hl:H1 l=none)(hn:n<bt)
  (go:∀i H,aj H1 H->i<n->J.go i H) (st:∀H,aj H1 H->J.stop n H)
  (el:∀i x H H3 (R:VK),aj H1 H->i<n->J.AE i H x H3->(∀H5,aj H H5->R (f i) H5)->g x σ' H3 λAD H4=>Kp σ' AD/\te AD H4 R)
  (fin:∀H',aj H1 H'->H' l=some (.lst ((fe n).map f))->D H') :
  ∃W:Nat->Nat->List V->Hp->Prop,(∃m,W 0 m [] (upd H1 l (.lst [])))/\∀i m ys H2,W i m ys H2->(J.stop i H2/\D H2) ∨
   (J.go i H2/\∀x H3,J.AE i H2 x H3->g x σ' H3 λAD H4=>Kp σ' AD/\te AD H4 λy H5=>H5 l=some (.lst ys)/\ys.length<bt/\∃m',m'<m/\W (i+1) m' (ys++[y]) (upd H5 l (.lst (ys++[y])))):=by
 refine⟨λi m ys H2=>m=n-i/\i<=n/\ys=(fe i).map f/\aj H1 H2/\H2 l=some (.lst ys),⟨n,rfl,d0 _,rfl,GP.aj.upd hl,ah⟩,?_⟩
 rintro i m ys H2 ⟨rfl,hi,rfl,s2,h2⟩
 by_cases hlt:i<n
 ·refine .inr ⟨go i H2 s2 hlt,λx H3 y=>el i x H2 H3 _ s2 hlt y λH5 s5=>?_⟩
  refine⟨s5 _ _ h2,by rw[bc,i_];omega,n-(i+1),by omega,rfl,hlt,?_,GP.aj.at (s2.trans s5) hl,ah⟩
  rw[wd,dC];rfl
 ·have e:i=n:=by omega
  subst e
  exact .inl ⟨st H2 s2,fin H2 s2 h2⟩
theorem I0{J:It}{g:TG}{tt:TT}{te:TE}{σ':St}{H1:Hp}{D:Hp->Prop}{l:a5}(n:Nat)(b:Nat->Bool)(f:Nat->V)(hl:H1 l=none)(hn:n<bt)
  (go:∀i H,aj H1 H->i<n->J.go i H) (st:∀H,aj H1 H->J.stop n H)
  (el:∀i x H H3 (R:VK) (S:Hp->Prop),aj H1 H->i<n->J.AE i H x H3->(b i=true->∀H5,aj H H5->R (f i) H5)->(b i=false->∀H5,aj H H5->S H5) →
   g x σ' H3 λAD H4=>Kp σ' AD/\tt AD H4 λb' H5=>if b'=true then te AD H5 R else S H5)
  (fin:∀H',aj H1 H'->H' l=some (.lst (((fe n).filter b).map f))->D H') :
  ∃W:Nat->Nat->List V->Hp->Prop,(∃m,W 0 m [] (upd H1 l (.lst [])))/\∀i m ys H2,W i m ys H2->(J.stop i H2/\D H2) ∨
   (J.go i H2/\∀x H3,J.AE i H2 x H3->g x σ' H3 λAD H4=>Kp σ' AD/\tt AD H4 λb H5 =>
    if b=true then te AD H5 (λy H6=>H6 l=some (.lst ys)/\ys.length<bt/\∃m',m'<m/\W (i+1) m' (ys++[y]) (upd H6 l (.lst (ys++[y]))))else ∃m',m'<m/\W (i+1) m' ys H5):=by
 refine⟨λi m ys H2=>m=n-i/\i<=n/\ys=((fe i).filter b).map f/\aj H1 H2/\H2 l=some (.lst ys),⟨n,rfl,d0 _,rfl,GP.aj.upd hl,ah⟩,?_⟩
 rintro i m ys H2 ⟨rfl,hi,rfl,s2,h2⟩
 by_cases hlt:i<n
 ·refine .inr ⟨go i H2 s2 hlt,λx H3 y=>el i x H2 H3 _ _ s2 hlt y (λhb H5 s5=>?_) λhb H5 s5=>?_⟩
  ·refine⟨s5 _ _ h2,?_,n-(i+1),by omega,rfl,hlt,?_,GP.aj.at (s2.trans s5) hl,ah⟩
   ·rw[bc]
    exact bv (bj (List.length_filter_le _ _) (by rw[i_];omega)) hn
   ·rw[wd,x5,dC,mB hb];rfl
  ·refine⟨n-(i+1),by omega,rfl,hlt,?_,s2.trans s5,s5 _ _ h2⟩
   rw[wd,x5,mI (by rw[hb];exact cw),List.filter_nil,ib]
 ·have e:i=n:=by omega
  subst e
  exact .inl ⟨st H2 s2,fin H2 s2 h2⟩
end
section
noncomputable def XF(K:PySem.W.Frag)(a:a5)(n:Nat):It :=
 ⟨λi H=>∃xs x,cy K H a xs/\i<n/\xs[n-1-i]? =some x,λi H x H'=>H'=H/\∀xs,cy K H a xs->xs[n-1-i]? =some x,λi _=>n<=i⟩
theorem Lu{P:bn}{w:df}{K:PySem.W.Frag}{tg:Expr}(a it:a5)(n:Nat):Turn P w K tg (XF K a n) [it] it (λi h=>i<=n/\h.IsRevIter it a ((n:Int)-1-(i:Int))) where
 mem:=by simp
 obj:=λi h st b hb=>by
  have e:b=it:=by simpa using hb
  subst e
  obtain⟨o,e,c,d⟩:=st.2
  exact⟨o,e,λv z=>by rw[d]at z;cases z⟩
 keep:=λi h h' st k=>⟨st.1,st.2.at λo e=>k it (by simp) o e⟩
 item:=by
  intro X hP hw hK hc i pins s σ H E I hf st hg
  subst hP hw hK
  obtain⟨xs,x,hq,hi,hx⟩:=hg
  obtain⟨its,rv,p,hz⟩:=I.list hq
  obtain⟨u,hu,ru⟩:=rv.get hx
  obtain⟨f0,f1,f2,f3,f4,f5⟩:=hf it (by simp)
  have st':s.heap.IsRevIter it a ((n-1-i:Nat):Int):=by
   rw[show((n-1-i:Nat):Int)=(n:Int)-1-(i:Int) by omega]
   exact st.2
  refine wpAny_pyNext_rev_item st' p.isList (x:=u) (by simpa using hu) λh' st' sb=>?_
  have I1:Inv X pins σ H { s with heap:=h' }:=I.turned (t':=s.toks) (λb o hb e=>(sb.2 b hb).trans e) f0 f1 f3 f4 f5
  obtain⟨o,e,c,d⟩:=id st'
  refine⟨u,rfl,Bc (s:={ s with heap:=h' }) e c d (by decide) ⟨x,H,I1,ru,⟨rfl,λys hy=>by rw[I.yO hy hq];exact hx⟩,⟨by omega,?_⟩,λb hb=>(hf b hb).1⟩⟩
  rw[show(n:Int)-1-((i+1:Nat):Int)=((n-1-i:Nat):Int)-1 by omega]
  exact st'
 done:=by
  intro X hP hw hK hc i pins s σ H E I hf st hg
  subst hP hw hK
  obtain⟨f0,f1,f2,f3,f4,f5⟩:=hf it (by simp)
  have hg':n<=i:=hg
  have st':s.heap.IsRevIter it a (-1):=by
   rw[show(-1:Int)=(n:Int)-1-(i:Int) by have:=st.1;omega]
   exact st.2
  exact wpAny_pyNext_rev_end (I.ok.hd hc) st' λh' eb=>⟨rfl,I.turned (t':=s.toks) (λb o hb e=>eb b o hb e) f0 f1 f3 f4 f5⟩
 self:=λ_ _ _ _ _ st h=>wpAny_pyIter_revIter st.2 h
noncomputable def aa5(K:PySem.W.Frag)(ta:TA):TI:=λσ H R=>ta σ H λvs H1=>∃a xs,vs=[.ref a]/\cy K H1 a xs/\R (XF K a xs.length) H1
theorem boot_reversed:bootBuiltins "reversed" =some (.type "reversed"):=by decide +kernel
theorem S3 {X:Cx}{tg a:Expr}{ta:TA}{p pos:sx}(hg:Gl X "reversed")(hm:X.mg "reversed" =none)(ha:PA X [a] ta)(hs:eP [a] X.env=[(false,eval a X.env)]:=by rfl):PI X tg (.Call (.Name "reversed" p) [a] [] pos) (aa5 X.K ta):=by
 intro pins s σ H R I h
 refine Call_ (pF I hg hm boot_reversed (lv (dG (ha pos pins s σ H _ I h) λus s1 ⟨vs,H1,I1,r1,q1⟩=>?_) hs rfl))
 obtain⟨l,xs,rfl,hq,q⟩:=q1
 obtain⟨u,rfl,ru⟩:=vals1 r1
 cases ru
 obtain⟨its,rv,pl,hz⟩:=I1.list hq
 have hl:s1.heap.IsList l its.toArray:=pl.isList
 have hlen:=rv.length
 refine call_reversed_list hl ?_
 have e0:({ s1 with heap:=s1.heap.push (revObj l ((its.toArray.size:Int)-1)) }:ba).heap.IsRevIter s1.heap.objs.size l ((xs.length:Int)-1-((0:Nat):Int)) :=
  ⟨_,bo _ rfl,rfl,by rw[show(xs.length:Int)-1-((0:Nat):Int)=(its.toArray.size:Int)-1 by rw[d_];omega];rfl⟩
 refine wpAny_pyIter_revIter e0 ?_
 refine⟨s1.heap.objs.size,[s1.heap.objs.size],_,_,H1,rfl,I1.kept (t':=s1.toks) λb o e=>a8 _ e,Lu l _ xs.length,⟨d0 _,e0⟩,λb hb=>?_,q⟩
 have e:b=s1.heap.objs.size:=by simpa using hb
 subst e
 exact I1.uU (a7 _) (I1.hok.fresh (a7 _))
end
section
theorem PX{K:PySem.W.Frag}{a:a5}{xs:List V}{g:TG}{tb:TS}{D:Ends}{σ:St}{H:Hp}(Pv:Nat->St->Hp->Prop)(h0:Pv 0 σ H)(hl:∀i σ H,i<xs.length->Pv i σ H->cy K H a xs)
  (hs:∀i x σ H,i<xs.length->xs[xs.length-1-i]? =some x->Pv i σ H->g x σ H λσ2 H2=>tb { D with nx:=Pv (i+1),ct:=Pv (i+1),bk:=D.nx } σ2 H2) (hd:∀ σ H,Pv xs.length σ H->D.nx σ H) :
  ∃W:Nat->Nat->St->Hp->Prop,(∃m,W 0 m σ H)/\∀i m σ H,W i m σ H →
   ((XF K a xs.length).stop i H/\D.nx σ H)\/((XF K a xs.length).go i H/\∃N:St->Hp->Prop,(∀ σ' H',N σ' H'->∃m',m'<m/\W (i+1) m' σ' H')/\∀x H',(XF K a xs.length).AE i H x H'->g x σ H' λσ2 H2=>tb { D with nx:=N,ct:=N,bk:=D.nx } σ2 H2):=by
 refine⟨λi m σ H=>m=xs.length-i/\i<=xs.length/\Pv i σ H,⟨xs.length,by simp,d0 _,h0⟩,?_⟩
 rintro i m σ H ⟨rfl,hi,p⟩
 by_cases hlt:i<xs.length
 ·have hx:xs[xs.length-1-i]? =some xs[xs.length-1-i]:=a6 (by omega)
  refine .inr ⟨⟨xs,_,hl i σ H hlt p,hlt,hx⟩,Pv (i+1),λσ' H' p'=>⟨xs.length-(i+1),by omega,rfl,hlt,p'⟩,λx H' y=>?_⟩
  obtain⟨e,y⟩:=y
  subst e
  exact hs i x σ _ hlt (y xs (hl i σ _ hlt p)) p
 ·have e:i=xs.length:=by omega
  subst e
  exact .inl ⟨a7 _,hd σ H p⟩
end
section
noncomputable abbrev NK:=Int×Int×bp
section
variable{P:bn}{w:df}{A:eR}{E:a9->ba->Prop}{s:ba}
noncomputable def qQ(P:bn)(w:df)(h:eJ)(k:NK)(a:a5):Prop:=∃o n p t,h.get? a=some o/\o.cls= .type "tuple" /\o.data= .seq #[.ref p,.str k.2.2 t] n/\IsTupleKey (bH P w) h [.inl k.1,.inl k.2.1] p
theorem qQ.typeIs{k:NK}{a:a5}(x:qQ P w s.heap k a):s.TypeIs (.ref a) "tuple" :=let ⟨o,_,_,_,ho,hc,_⟩:=x;⟨o,ho,hc⟩
theorem qQ.inj{h:eJ}{a:a5}{x y:NK}(hx:qQ P w h x a)(hy:qQ P w h y a):x=y:=by
 obtain⟨o,n,p,t,ho,_,hd,hi⟩:=hx
 obtain⟨o',n',p',t',ho',_,hd',hi'⟩:=hy
 obtain rfl:o=o':=dA (ho.symm.trans ho')
 rw[hd]at hd'
 injection hd' with h1 _
 have tD:=congrArg Array.toList h1
 simp only[List.cons.injEq,Value.ref.injEq,Value.str.injEq,and_true]at tD
 obtain⟨rfl,e,_⟩:=tD
 have:=hi.inj hi'
 simp only[List.cons.injEq,Sum.inl.injEq,and_true]at this
 obtain⟨x1,x2,x3⟩:=x
 obtain⟨y1,y2,y3⟩:=y
 simp only at e this
 obtain⟨rfl,rfl⟩:=this
 subst e
 rfl
theorem qQ.keeps{h h':eJ}{k:NK}{a d:a5}{o:mi}{es ep}(x:qQ P w h k a)(ho:h.get? d=some o)(hd:o.data= .dict es ep)(hs:mM d h h'):qQ P w h' k a:=by
 obtain⟨o',n,p,t,ho',hc,hd',hi⟩:=x
 have hne:a≠d:=by
  rintro rfl
  obtain rfl:o'=o:=dA (ho'.symm.trans ho)
  rw[hd]at hd';exact nomatch hd'
 exact⟨o',n,p,t,(hs.2 a hne).trans ho',hc,hd',hi.keeps ho hd hs⟩
noncomputable def GN(P:bn)(w:df)(k:NK):Int:=reduceHash (xk [tupleKeyHash (bH P w) [.inl k.1,.inl k.2.1],(bH P w).hash (.inr k.2.2)])
theorem JM{k:NK}{a:a5}{Q:Int->ba->Prop}(hu:A.units+1<cLine)(hk:qQ P w s.heap k a)(h:Q (GN P w k) { s with toks:=s.toks+5 }):
  b_ (model P w) A (pyHash (.ref a)) Q E s:=by
 have hT:=hk.typeIs
 obtain⟨o,n,p,t,ho,_,hd,hi⟩:=hk
 unfold pyHash
 first|unfold pyHashByItsType|skip
 first|refine a0 (wpAny_cRoomFor_or (.inr (Nat.lt_of_succ_lt hu)) ?_)|skip
 refine a0 (xI hT PySem.F.slot_tuple_hash.lookup ?_)
 show b_ _ _ (if(some (Value.builtin "tuple.__hash__")==some Value.none)=true then _ else _) Q E s
 rw[if_neg (by rw[beq_builtin_none];exact cw)]
 refine a0 (xI hT PySem.F.slot_tuple_hash.lookup ?_)
 show b_ _ _ (callSpecialIfBoundUnlessNone? (.ref a) "__hash__" _ >>= _) Q E s
 refine a0 (wpAny_callSpecialIfBoundUnlessNone?_slot hT PySem.F.slot_tuple_hash (my PySem.F.slot_tuple_hash hT PySem.F.entry_tuple_hash ?_ (PySem.F.args_tuple_hash_1 _)))
 show b_ _ _ (Builtin.Tuple.tupleItemsOf (.ref a) >>= _) _ _ s
 refine a0 (wpAny_tupleItemsOf ho hd ?_)
 refine a0 ?_
 rw[←Array.forIn_toList]
 refine AT _
  (λrest (b:Array Int) s'=>(rest=[.ref p,.str k.2.2 t]/\b= #[]/\s'=s)\/(rest=[.str k.2.2 t]/\b.toList=[tupleKeyHash (bH P w) [.inl k.1,.inl k.2.1]]/\s'={ s with toks:=s.toks+3 }) ∨
   (rest=[]/\b.toList=[tupleKeyHash (bH P w) [.inl k.1,.inl k.2.1],(bH P w).hash (.inr k.2.2)]/\s'={ s with toks:=s.toks+4 })) _ ?_ ?_ _ _ (.inl ⟨rfl,rfl,rfl⟩)
 ·rintro x rest b s' (⟨e,rfl,rfl⟩|⟨e,hb,rfl⟩|⟨e,_⟩)
  ·cases e
   refine a0 (wpAny_pyHash_tuple (knd:=bH P w) (ks:=[.inl k.1,.inl k.2.1]) hu hi ?_)
   first
    |exact bi (.inr (.inl ⟨rfl,rfl,rfl⟩))
    |exact a0 (bi (bi (.inr (.inl ⟨rfl,rfl,rfl⟩))))
  ·cases e
   refine a0 ((bH P w).pyHash (k:=.inr k.2.2) (v:=.str k.2.2 t) (by show decide _=true;simp) ?_)
   first
    |exact bi (.inr (.inr ⟨rfl,by simp[hb],rfl⟩))
    |exact a0 (bi (bi (.inr (.inr ⟨rfl,by simp[hb],rfl⟩))))
  ·cases e
 ·rintro b s' (⟨e,_⟩|⟨e,_⟩|⟨_,hb,rfl⟩)
  ·cases e
  ·cases e
  show b_ _ _ (retInt (xk b.toList)) _ _ _
  rw[hb]
  refine wpAny_ret_mkInt ?_
  unfold GN at h
  generalize xk [tupleKeyHash (bH P w) [.inl k.1,.inl k.2.1],(bH P w).hash (.inr k.2.2)]=T at *
  show b_ _ _ (if(decide (-(2:Int) ^ 63<=T)&&decide (T<2 ^ 63))=true then _ else _) Q E _
  unfold reduceHash at h
  by_cases hr:(decide (-(2:Int) ^ 63<=T)&&decide (T<2 ^ 63))=true
  ·rw[if_pos hr]
   rw[if_pos hr]at h
   exact bi h
  ·rw[if_neg hr]
   rw[if_neg hr]at h
   exact a0 (wpAny_rule (bi h))
theorem GL{x y:NK}{a b:a5}{Pq:PySem.Fin->ba->Prop}(hu:A.units<cLine)(hx:qQ P w s.heap x a)(hy:qQ P w s.heap y b)(h:Pq (.done (.ret (.bool (decide (x=y))))) s):
  b_ (model P w) A (Builtin.«tuple.__eq__» ⟨[.ref a,.ref b],[]⟩) Pq E s:=by
 have hTb:=hy.typeIs
 obtain⟨oa,na,p,t,hoa,_,hda,hia⟩:=hx
 obtain⟨ob,nb,q,u,hob,_,hdb,hib⟩:=hy
 obtain⟨x1,x2,x3⟩:=x
 obtain⟨y1,y2,y3⟩:=y
 simp only at hda hia hdb hib
 show b_ _ _ (isInstance (.ref b) (.type "tuple") >>= _) _ _ s
 refine a0 (ut hTb isSubtype_tuple_tuple ?_)
 simp only[q_,gN,if_false]
 refine a0 (wpAny_tupleItemsOf hoa hda ?_)
 refine a0 (wpAny_tupleItemsOf hob hdb ?_)
 refine a0 ?_
 refine AT _
  (λrest r s'=>r.1=none/\s'=s/\(rest=[(.ref p,.ref q),(.str x3 t,.str y3 u)]\/(rest=[(.str x3 t,.str y3 u)]/\x1=y1/\x2=y2)\/(rest=[]/\x1=y1/\x2=y2/\x3=y3))) _ ?_ ?_ _ _ ⟨rfl,rfl,.inl rfl⟩
 ·rintro⟨c,d⟩ rest r s' ⟨hr,rfl,e|⟨e,rfl,rfl⟩|⟨e,_⟩⟩
  ·cases e
   refine a0 (wpAny_eqBool_tuple (knd:=bH P w) (x:=[.inl x1,.inl x2]) (y:=[.inl y1,.inl y2]) hu hia hib ?_)
   by_cases hk:x1=y1/\x2=y2
   ·obtain⟨rfl,rfl⟩:=hk
    rw[decide_eq_true rfl]
    simp only[q_,gN,if_false]
    exact bi ⟨rfl,rfl,.inr (.inl (by simp))⟩
   ·have e1:¬([Sum.inl x1,Sum.inl x2]:List Key)=[.inl y1,.inl y2]:=λz=>hk (by simpa using z)
    rw[decide_eq_false e1]
    simp only[Bool.not_false,if_true]
    have hf:decide ((x1,x2,x3)=(y1,y2,y3))=false:=decide_eq_false λz=>hk (by simp only[BM]at z;exact⟨z.1,z.2.1⟩)
    rw[hf]at h
    exact a0 (bi (bi (bi h)))
  ·cases e
   refine a0 ((bH P w).eqBool (a:=.inr x3) (b:=.inr y3) (u:=.str x3 t) (v:=.str y3 u) (mV P w x3 t) (mV P w y3 u) ?_)
   by_cases hk:x3=y3
   ·subst hk
    rw[decide_eq_true rfl]
    simp only[q_,gN,if_false]
    exact bi ⟨rfl,rfl,.inr (.inr (by simp))⟩
   ·have e1:¬(Sum.inr x3:Key)= .inr y3:=λz=>hk (by simpa using z)
    rw[decide_eq_false e1]
    simp only[Bool.not_false,if_true]
    have hf:decide ((x1,x2,x3)=(x1,x2,y3))=false:=decide_eq_false λz=>hk (by simp only[BM]at z;exact z.2.2)
    rw[hf]at h
    exact a0 (bi (bi (bi h)))
  ·cases e
 ·rintro⟨r1,r2⟩ s' ⟨hr,rfl,e|⟨e,_⟩|⟨_,rfl,rfl,rfl⟩⟩
  ·cases e
  ·cases e
  simp only at hr
  subst hr
  refine bi ?_
  rw[decide_eq_true rfl]at h
  exact h
theorem JN{x y:NK}{a b:a5}{Q:Bool->ba->Prop}(hu:A.units+1<cLine)(hx:qQ P w s.heap x a)(hy:qQ P w s.heap y b)(h:Q (decide (x=y)) s):
  b_ (model P w) A (eqBool (.ref a) (.ref b)) Q E s:=by
 unfold eqBool
 try with_reducible refine iq ?_
 show b_ _ _ (if(Value.ref a==Value.ref b)=true then _ else _) Q E s
 by_cases hab:(Value.ref a==Value.ref b)=true
 ·rw[if_pos hab]
  have e:a=b:=by have:=eq_of_beq hab;injection this
  subst e
  obtain rfl:=hx.inj hy
  exact a0 (wpAny_rule (bi (by simpa using h)))
 ·rw[if_neg hab]
  exact a0 (wpAny_richCompare_same_room (op:=.Eq) hx.typeIs hy.typeIs PySem.F.slot_tuple_eq
   (my PySem.F.slot_tuple_eq hx.typeIs PySem.F.entry_tuple_eq (GL hu hx hy ⟨_,rfl,(λe=>nomatch e),kt h⟩) (PySem.F.args_tuple_eq_2 _ _)) (Nat.lt_of_succ_lt hu))
theorem D8(n:Nat){ks:List Key}{a:a5}{Q:Bool->ba->Prop}(hk:IsTupleKey (bH P w) s.heap ks a)(h:Q true s):b_ (model P w) A (eqIsQuiet (n+1) (.ref a)) Q E s:=by
 have hT:=hk.typeIs
 obtain⟨o,items,m,ho,_,hd,hi⟩:=hk
 unfold eqIsQuiet
 refine a0 (xI hT PySem.F.slot_tuple_eq.lookup ?_)
 show b_ _ _ (isInstance (.ref a) (.type "tuple") >>= _) _ _ s
 refine a0 (ut hT isSubtype_tuple_tuple ?_)
 simp only[q_,gN,if_false]
 refine a0 (j_ ho hd ?_)
 refine a0 ?_
 show b_ _ _ (forIn items _ _) _ _ s
 rw[←Array.forIn_toList]
 refine AT _ (λrest r s'=>r.1=none/\s'=s/\∀v∈rest,carriedByValue v=true) _ ?_ ?_ _ _ ⟨rfl,rfl,hi.byValue⟩
 ·rintro v rest r s' ⟨hr,rfl,hall⟩
  rw[eqIsQuiet_byValue _ (hall v cr)]
  refine a0 (bi ?_)
  simp only[q_,gN,if_false]
  exact bi ⟨rfl,rfl,λu hu'=>hall u (ce _ hu')⟩
 ·rintro⟨r1,r2⟩ s' ⟨hr,rfl,_⟩
  simp only at hr
  subst hr
  exact bi h
theorem MA{k:NK}{a:a5}{Q:Bool->ba->Prop}(hk:qQ P w s.heap k a)(h:Q true s):b_ (model P w) A (eqIsQuiet 8 (.ref a)) Q E s:=by
 have hT:=hk.typeIs
 obtain⟨o,m,p,t,ho,_,hd,hi⟩:=hk
 unfold eqIsQuiet
 refine a0 (xI hT PySem.F.slot_tuple_eq.lookup ?_)
 show b_ _ _ (isInstance (.ref a) (.type "tuple") >>= _) _ _ s
 refine a0 (ut hT isSubtype_tuple_tuple ?_)
 simp only[q_,gN,if_false]
 refine a0 (j_ ho hd ?_)
 refine a0 ?_
 show b_ _ _ (forIn #[Value.ref p,Value.str k.2.2 t] _ _) _ _ s
 rw[←Array.forIn_toList]
 refine AT _ (λrest r s'=>r.1=none/\s'=s/\∀v∈rest,v= .ref p\/carriedByValue v=true) _ ?_ ?_ _ _ ⟨rfl,rfl,λv hv=>?_⟩
 ·rintro v rest r s' ⟨hr,rfl,hall⟩
  have step:b_ (model P w) A (eqIsQuiet 7 v) (λb s2=>b=true/\s2=s') E s':=by
   rcases hall v cr with rfl|hv
   ·exact D8 6 hi ⟨rfl,rfl⟩
   ·rw[eqIsQuiet_byValue _ hv]
    exact bi ⟨rfl,rfl⟩
  refine a0 (h_ step (λb s2 z=>?_) λ_ _ z=>z)
  obtain⟨rfl,rfl⟩:=z
  simp only[q_,gN,if_false]
  exact bi ⟨rfl,rfl,λu hu'=>hall u (ce _ hu')⟩
 ·rintro⟨r1,r2⟩ s' ⟨hr,rfl,_⟩
  simp only at hr
  subst hr
  exact bi h
 ·simp only[c_,hZ,or_false]at hv
  rcases hv with rfl|rfl
  ·exact .inl rfl
  ·exact .inr rfl
end
noncomputable def mU(P:bn)(w:df):HeapKind P w NK where
 is:=qQ P w
 hash:=GN P w
 draws:=λ_=>5
 room:=λA=>A.units+1<cLine
 inj:=λhx hy=>hx.inj hy
 keeps:=λx ho hd hs=>x.keeps ho hd hs
 pyHash:=λhu hk h=>JM hu hk h
 eqBool:=λhu hx hy h=>JN hu hx hy h
 quiet:=λhk h=>MA hk h
end
section
open PySem.W
noncomputable def CN(d:a5)(es:Array DictEntry)(ep:Nat)(h:eJ):Prop:=∃o,h.get? d=some o/\o.ExactDict/\o.data= .dict es ep
section
variable{P:bn}{w:df}{A:eR}{E:a9->ba->Prop}{s:ba}{d:a5}{es:Array DictEntry}{ep:Nat}
theorem CN.ty(m:CN d es ep s.heap):s.TypeIs (.ref d) "dict" :=let ⟨o,ho,hc,_⟩:=m;⟨o,ho,hc.1⟩
theorem CN.mv{h h':eJ}(m:CN d es ep h)(e:∀o,h.get? d=some o->h'.get? d=some o):CN d es ep h':=let ⟨o,ho,r⟩:=m;⟨o,e _ ho,r⟩
theorem L7{Q:a9->ba->Prop}(hd:(d==sysModules)=false)(m:CN d es ep s.heap)
  (hQ:Q (.ref s.heap.objs.size) { s with heap:=s.heap.push { cls:=.type "dict_keyiterator",data:=.fields #[.ref d,.int 0 0,.int es.size 0,.int ep 0] } }):b_ (model P w) A (pyIter (.ref d)) Q E s:=by
 have hT:=m.ty
 obtain⟨o,ho,hc,hdat⟩:=m
 refine wpAny_pyIter_slot hT PySem.F.slot_dict_iter (my PySem.F.slot_dict_iter hT PySem.F.entry_dict_iter ?_ (PySem.F.args_dict_iter_1 _))
 unfold Builtin.«dict.__iter__»
 refine a0 ?_
 unfold Builtin.Dict.dictSlotNone
 refine a0 (wpAny_notOrdered_dict hT ?_)
 show b_ _ _ (pure (Value.ref d)) _ _ s
 refine bi ?_
 show b_ _ _ (Builtin.Dict.showsAll d >>= _) _ _ s
 unfold Builtin.Dict.showsAll
 rw[if_neg (by rw[hd];exact cw)]
 refine a0 (bi (a0 (wpAny_dictEntries ho hdat (a0 (wpAny_dictEpoch ho hdat ?_)))))
 refine a0 (pj (bi ⟨_,rfl,"dict_keyiterator",_,⟨_,bo _ rfl,rfl⟩,PySem.F.slot_dict_keyiterator_next.lookup,?_⟩))
 simpa[rawInt]using hQ
theorem D7{it:a5}{i:Nat}{Q:Option a9->ba->Prop}(hit:s.heap.IsKeyIter it d i es.size ep)(m:CN d es ep s.heap)
  (item:∀(hi:i<es.size) h',h'.IsKeyIter it d (i+1) es.size ep->mM it s.heap h'->Q (some es[i].key) { s with heap:=h' })
  (stop:es.size<=i->A.handled=none/\∀h',B_ it s.heap h'->Q none { s with heap:=h' }):b_ (model P w) A (pyNext (.ref it)) Q E s:=by
 obtain⟨o,ho,hc,hd⟩:=id hit
 obtain⟨od,hod,hcd,Yq⟩:=m
 unfold pyNext
 refine a0 (Bz (mx (name:=a_ "__next__") hit.typeIs PySem.F.slot_dict_keyiterator_next
  (my PySem.F.slot_dict_keyiterator_next hit.typeIs PySem.F.entry_dict_keyiterator_next ?_ (PySem.F.args_dict_keyiterator_next_1 _))))
 refine a0 (bi (a0 (a0 ?_)))
 first|refine a0 (vx hit.typeIs (bi ?_))|refine a0 (xt hit.typeIs (bi ?_))
 refine a0 (wpAny_fieldsOf ho hd ?_)
 have hown:Builtin.Dict_items.ownsTuple "dict_keyiterator" =false:=by decide
 simp only[hown,gN,if_false]
 show b_ _ _ (if(Value.ref d==Value.none)=true then _ else _) _ _ s
 rw[if_neg (show ¬((Value.ref d==Value.none)=true) from cw)]
 refine a0 (bi (a0 (wpAny_dictEntries hod Yq ?_)))
 rw[if_neg (by simp)]
 refine a0 (bi (a0 (wpAny_dictEpoch hod Yq ?_)))
 rw[if_neg (by simp)]
 refine bi ?_
 by_cases hlt:i<es.size
 ·simp only[show ¬((i:Int)<0) from by omega,if_false,kx,sK hlt]
  refine a0 ?_
  first|refine a0 (vx hit.typeIs (bi ?_))|refine a0 (xt hit.typeIs (bi ?_))
  refine a0 (wpAny_isOneOf_keyiter hit.typeIs ?_)
  show b_ _ _ (setField (.ref it) 1 (rawInt ((i:Int)+1)) >>= _) _ _ s
  refine a0 (rg ho hd (by simp) ?_)
  have Km:(s.heap.update it (wt (·.setIfInBounds 1 (rawInt ((i:Int)+1))))).IsKeyIter it d (i+1) es.size ep :=
   ⟨_,ka _ ho (sk (mr hd _)),(Obj.cls_mapFields ..).trans hc,by rw[mr hd];simp[rawInt]⟩
  refine a0 (iq (a0 (wpAny_isOneOf_keyiter (s:={ s with heap:=s.heap.update it (wt (·.setIfInBounds 1 (rawInt ((i:Int)+1)))) }) Km.typeIs ?_)))
  show b_ _ _ (pure es[i].key) _ _ _
  exact bi (bi ⟨_,rfl,bi (item hlt _ Km (gd ..))⟩)
 ·obtain⟨hh,hQ⟩:=stop (by omega)
  simp only[show ¬((i:Int)<0) from by omega,if_false,kx,Array.getElem?_eq_none (show es.size<=i by omega)]
  refine a0 ?_
  first|refine a0 (vx hit.typeIs (bi ?_))|refine a0 (xt hit.typeIs (bi ?_))
  show b_ _ _ (setField (.ref it) 0 .none >>= _) _ _ s
  refine a0 (rg ho hd (by simp) ?_)
  show b_ _ _ (newExc (.type "StopIteration") [] >>= _) _ _ _
  refine a0 ?_
  simp only[newExc,newTuple]
  refine a0 (pj ?_ (by size_fits))
  refine a0 (m:=firstArgMember _ _) (Ch (a:=Value.none) (by first|rfl|(simp only[firstArgMember];rfl)) ?_)
  refine pj ?_ (by size_fits)
  simp only[raiseNew]
  refine a0 (wpAny_handled ?_)
  rw[show A.in1.handled=none from hh]
  refine a0 (bi (wpAny_throw ?_))
  refine a0 (ut (T:= "StopIteration") (b:=true) ⟨_,bo _ rfl,rfl⟩ isSubtype_stop ?_)
  exact bi (hQ _ (((gd ..).extBut.push _).push _))
theorem JA(hh:A.handled=none)(I:a5)(ne:d≠I):
  Walks P w A I [I,d] [I] es.size (λi v=>∃h:i<es.size,v=es[i].key) (λi h=>h.IsKeyIter I d i es.size ep/\CN d es ep h) where
 sub:=λb hb=>by simp at hb;simp[hb]
 frame:=λ_ _ _ st hk=>⟨st.1.at λo e=>hk I (by simp) o e,st.2.mv λo e=>hk d (by simp) o e⟩
 item:=λi s Q E hi st hQ=>D7 st.1 st.2 (λhi h' Km hs'=>hQ _ h' s.toks ⟨hi,rfl⟩ ⟨Km,st.2.mv λo e=>hs'.extBut d o ne e⟩ λb o hb e=>hs'.extBut b o (λh=>hb (by simp[h])) e) λz=>absurd hi (by omega)
 done:=λs Q E st hQ=>D7 st.1 st.2 (λhi=>absurd hi (f8 _)) λ_=>⟨hh,λh' he'=>hQ h' s.toks λb o hb e=>he' b o (λh=>hb (by simp[h])) e⟩
 self:=λ_ _ _ _ st hQ=>wpAny_pyIter_keyiter st.1 hQ
theorem OO(lo:(d==sysModules)=false):KdlSrc P w "dict" d d es.size (λi v=>∃h:i<es.size,v=es[i].key) (CN d es ep) where
 type:=λ_ m=>m.ty
 there:=λ_ ⟨_,ho,_⟩=>⟨cm ho,cm ho⟩
 keep:=λ_ _ m hk=>m.mv λo e=>hk d (.inl rfl) o e
 notList:=by decide
 notTuple:=by decide
 hint:=λ_ _ _ _ m hq=>kdl_hint_dict m.ty hq
 iter:=λ_ s hh m=>⟨_,_,(λ_ _ hq=>L7 lo m hq),JA hh _ (let ⟨_,ho,_⟩:=m;eA (cm ho)),⟨⟨_,bo _ rfl,rfl,rfl⟩,m.mv λo e=>a8 _ e⟩⟩
end
end
section
open PySem.W
noncomputable abbrev NE:=NK×a5×V
noncomputable abbrev KN:List NE->List (NK×a5×a9)->Prop:=Paired λp q=>p.1=q.1/\p.2.1=q.2.1/\RelV p.2.2 q.2.2
noncomputable def lH(kvs:List NE)(k:NK):Option V:=(kvs.find? λx=>decide (x.1=k)).map (·.2.2)
noncomputable def uH(kvs:List NE)(k:NK)(q:a5)(v:V):List NE:=if(lH kvs k).isSome then kvs.map (λx=>if x.1=k then(x.1,x.2.1,v)else x)else kvs++[(k,q,v)]
theorem kZ{p:NE}{ps:List NE}{k:NK}(e:p.1=k):lH (p::ps) k=some p.2.2:=by simp[lH,ft,e]
theorem iT{p:NE}{ps:List NE}{k:NK}(e:¬p.1=k):lH (p::ps) k=lH ps k:=by simp[lH,ft,e]
theorem KN.val{kvs:List NE}{xs:List (NK×a5×a9)}(r:KN kvs xs)(k:NK):oG (lH kvs k) ((atKey xs k).map (·.2)):=by
 induction r with
 |nil=>exact True.intro
 | @cons p q ps qs h t ih =>
  obtain⟨h1,_,h2⟩:=h
  by_cases e:p.1=k
  ·have e':q.1=k:=h1.symm.trans e
   have b:atKey (q::qs) k=some q.2:=by simp[atKey,ft,e']
   rw[kZ e,b];exact h2
  ·have e':¬q.1=k:=λz=>e (h1.trans z)
   have b:atKey (q::qs) k=atKey qs k:=by simp[atKey,ft,e']
   rw[iT e,b];exact ih
theorem KN.put{kvs:List NE}{xs:List (NK×a5×a9)}(r:KN kvs xs)(k:NK){b:a5}{y:V}{u:a9}(ry:RelV y u):KN (uH kvs k b y) (storedH xs k b u):=by
 have e:(lH kvs k).isSome=(atKey xs k).isSome:=by rw[(r.val k).pS,Option.isSome_map]
 unfold uH storedH
 rw[e]
 by_cases q:(atKey xs k).isSome=true
 ·rw[if_pos q,if_pos q]
  clear e q
  induction r with
  |nil=>exact .nil
  | @cons p q ps qs h t ih =>
   rw[g0,g0]
   refine .cons ?_ ih
   obtain⟨h1,h2,h3⟩:=h
   unfold putAt
   by_cases e:p.1=k
   ·rw[if_pos e,if_pos (h1.symm.trans e)];exact⟨h1,h2,ry⟩
   ·rw[if_neg e,if_neg (λz=>e (h1.trans z))];exact⟨h1,h2,h3⟩
 ·rw[if_neg q,if_neg q];exact Paired.snoc r ⟨rfl,rfl,ry⟩
theorem Eo(kvs:List NE)(k:NK)(q:a5)(v:V):(uH kvs k q v).length<=kvs.length+1:=by
 unfold uH
 split
 ·rw[bc];omega
 ·rw[cn];exact a7 _
theorem My{kvs:List NE}{k:NK}(h:lH kvs k=none)(q:a5)(v:V):uH kvs k q v=kvs++[(k,q,v)]:=by unfold uH;rw[h];rfl
noncomputable def Uy(P:bn)(w:df)(a:a5)(kvs:List NE)(h:eJ):Prop:=kvs.length<=bt/\(a==sysModules)=false/\∃xs,KN kvs xs ∧
 ∃o es ep,h.get? a=some o/\o.ExactDict/\o.data= .dict es ep/\es.toList=xs.map (entryOfKey (mU P w))/\(xs.map (·.1)).Nodup
noncomputable def FF(P:bn)(w:df)(a:a5)(kvs:List NE):HO:=.ext (Uy P w a kvs)
theorem QA{P:bn}{w:df}{H:Hp}{h:eJ}{a:a5}{kvs:List NE}(e:Uy P w a kvs h):bM P w H h a (FF P w a kvs):=by
 obtain⟨z,lo,xs,r,o,es,ep,ho,c⟩:=e
 exact⟨⟨z,lo,xs,r,o,es,ep,ho,c⟩,⟨o,ho⟩,λh1 h2 ⟨z,lo,xs,r,o,es,ep,ho,c⟩ k=>⟨z,lo,xs,r,o,es,ep,k _ ho,c⟩⟩
noncomputable def mY(H:Hp)(q:a5)(k:NK):Prop:=∃p,H q=some (.tup [.ref p,.str k.2.2])/\H p=some (.tup [.int k.1,.int k.2.1])
structure ND(P:bn)(w:df)(H:Hp)(a:a5)(kvs:List NE):Prop where
 at_:H a=some (FF P w a kvs)
 keys:∀x∈kvs,mY H x.2.1 x.1
theorem k_of{P:bn}{w:df}{H:Hp}{h:eJ}{q:a5}{k:NK}(ok:nZ P w H h)(e:mY H q k):(mU P w).is h k q:=by
 obtain⟨p,h1,h2⟩:=e
 obtain⟨_,its,r,o,g1,g2,n,g3⟩:=(show bM P w H h q (.tup [.ref p,.str k.2.2]) from ok q _ h1)
 cases r with
 |cons r1 r =>
  cases r with
  |cons r2 r =>
   cases r
   cases r1
   obtain⟨t,rfl⟩:=(show ∃t,_=Value.str k.2.2 t from r2)
   exact⟨o,n,p,t,g1,g2,g3,vS (ks:=[.inl k.1,.inl k.2.1]) ok h2⟩
theorem ND.raw{P:bn}{w:df}{H:Hp}{h:eJ}{a:a5}{kvs:List NE}(d:ND P w H a kvs)(ok:nZ P w H h):kvs.length<=bt/\(a==sysModules)=false/\∃xs,KN kvs xs/\h.DictOfH (mU P w) a xs:=by
 obtain⟨z,lo,xs,r,o,es,ep,ho,h2,h3,h4,h5⟩:=(ok a _ d.at_).1
 refine⟨z,lo,xs,r,o,es,ep,ho,h2,h3,h4,λx hx=>?_,h5⟩
 have all:∀{l:List NE} {m:List (NK×a5×a9)},KN l m->(∀x∈l,mY H x.2.1 x.1)->∀x∈m,(mU P w).is h x.1 x.2.1:=by
  intro l m q
  induction q with
  |nil=>intro _ x hx;exact nomatch hx
  | @cons p q ps qs hq t ih =>
   intro hk x hx
   rcases c_.mp hx with e|hx
   ·subst e
    rw[←hq.1,←hq.2.1]
    exact k_of ok (hk p cr)
   ·exact ih (λy hy=>hk y (ce _ hy)) x hx
 exact all r d.keys x hx
section
variable{X:Cx}{pins:List (a5×mi)}{σ:St}{H:Hp}{s:ba}{a q:a5}{k:NK}{kvs:List NE}{v:V}{r:a9}{A:eR}{E:a9->ba->Prop}
theorem JP{Q:a9->ba->Prop}(hu:A.units+2<cLine)(I:Inv X pins σ H s)(d:ND X.prog X.w H a kvs)(hk:mY H q k)(l:lH kvs k=some v)(h:∀w' s',Inv X pins σ H s'->RelV v w'->Q w' s'):
  b_ (model X.prog X.w) A (getItem (.ref a) (.ref q)) Q E s:=by
 obtain⟨z,hd,xs,rel,dd⟩:=d.raw I.hok
 obtain⟨w',hw,rw'⟩:=oG.some_of (v:=v) (o:=(atKey xs k).map (·.2)) (by rw[←l];exact rel.val k)
 obtain⟨p,hp,hp2⟩:=fw.mp hw
 refine x4 (show A.in1.units+1<cLine from hu) (k_of I.hok hk) dd hp ?_
 rw[hp2]
 exact h w' _ (I.tok _) rw'
theorem JO{Q:Unit->ba->Prop}(hu:A.units+2<cLine)(I:Inv X pins σ H s)(d:ND X.prog X.w H a kvs)(hk:mY H q k)(hl:kvs.length<bt)(rv:RelV v r)(h:∀s',Inv X pins σ (upd H a (FF X.prog X.w a (uH kvs k q v))) s'->Q () s'):
  b_ (model X.prog X.w) A (setItem (.ref a) (.ref q) r) Q E s:=by
 obtain⟨z,hd,xs,rel,dd⟩:=d.raw I.hok
 have hz:xs.length<=bt:=by rw[←Paired.length rel];exact z
 have hl':(uH kvs k q v).length<=bt:=by have:=Eo kvs k q v;omega
 refine wpAny_setItem_heap (hsz:=hz) (show A.in1.units+1<cLine from hu) (k_of I.hok hk) dd λh' P1 hs=>h _ ?_
 obtain⟨o,es,ep,ho,h2,h3,h4,_,h5⟩:=P1
 exact uW I (by rw[d.at_];exact True.intro) hs ⟨o,ho⟩ (QA ⟨hl',hd,_,rel.put k rv,o,es,ep,ho,h2,h3,h4,h5⟩)
theorem MC(I:Inv X pins σ H s)(d:ND X.prog X.w H a kvs):s.TypeIs (.ref a) "dict" :=by
 obtain⟨_,_,_,_,dd⟩:=d.raw I.hok
 exact dd.typeIs
end
noncomputable def U8(P:bn)(w:df)(td ty:TE):TE:=λσ H Q=>td σ H λx H1=>ty σ H1 λy H2=>∃a kvs k q v,x= .ref a/\y= .ref q/\ND P w H2 a kvs/\mY H2 q k/\lH kvs k=some v/\Q v H2
noncomputable def Vv(P:bn)(w:df)(td ty tv:TE):TS:=λD σ H=>tv σ H λv H1=>td σ H1 λx H2=>ty σ H2 λy H3=>∃a kvs k q,x= .ref a/\y= .ref q/\ND P w H3 a kvs/\mY H3 q k/\kvs.length<bt/\D.nx σ (upd H3 a (FF P w a (uH kvs k q v)))
noncomputable def U7(P:bn)(w:df):TE:=λ_ H Q=>∀p,H p=none->Q (.ref p) (upd H p (FF P w p []))
section
variable{X:Cx}{o i e value:Expr}{pos pos' tpos:sx}{td ty tv:TE}{Pr:bn}{wo:df}
theorem uA(hu:X.A.units+2<cLine)(ho:PE X o td)(hi:PE X i ty)(hs:Qg i)(hP:X.prog=Pr)(hw:X.w=wo):PE X (.Subscript o i pos) (U8 Pr wo td ty):=by
 subst hP hw
 intro pins s σ H Q I h
 refine uo PySem.F.slot_dict_getitem.lookup hs (dG (ho pins s σ H _ I h) λu s1 ⟨x,H1,I1,rx,q1⟩=>dG (hi pins s1 σ H1 _ I1 q1) λiv s2 ⟨y,H2,I2,ry,a,kvs,k,q,v,ex,ey,d,hk,l,q2⟩=>?_)
 subst ex ey
 obtain rfl:u=Value.ref a:=rx
 obtain rfl:iv=Value.ref q:=ry
 exact⟨MC I2 d,JP hu I2 d hk l λw' s3 I3 rw'=>⟨v,H2,I3,rw',q2⟩⟩
theorem Ik(hu:X.A.units+2<cLine)(ho:PE X o td)(hi:PE X i ty)(hv:PE X value tv)(hs:swapsWith value (some (.Subscript o i pos')) pos.line X.env=pure false)(hP:X.prog=Pr)(hw:X.w=wo):
  PS X (.Assign [.Subscript o i pos'] value pos) (Vv Pr wo td ty tv):=by
 subst hP hw
 intro pins s σ H D I h
 refine wpAny_Assign_Subscript (dG (hv pins s σ H _ I h) λr s1 ⟨v,H1,I1,rv,q1⟩=>dG (ho pins s1 σ H1 _ I1 q1) λu s2 ⟨x,H2,I2,rx,q2⟩=>dG (hi pins s2 σ H2 _ I2 q2) λiv s3 ⟨y,H3,I3,ry,a,kvs,k,q,ex,ey,d,hk,hl,q3⟩=>?_) hs
 subst ex ey
 obtain rfl:u=Value.ref a:=rx
 obtain rfl:iv=Value.ref q:=ry
 exact JO hu I3 d hk hl rv λs4 I4=>⟨σ,_,I4,q3⟩
theorem Te{P:bn}{w:df}(h:eJ)(hb:sysModules<h.objs.size):Uy P w h.objs.size [] (h.push { cls:=.type "dict",data:=.dict #[] }) :=
 ⟨d0 _,beq_eq_false_iff_ne.mpr (Ne.symm (eA hb)),[],.nil,_,#[],0,bo _ rfl,⟨rfl,rfl,rfl⟩,rfl,rfl,re⟩
theorem Iq(hP:X.prog=Pr)(hw:X.w=wo):PE X (.Dict [] [] pos) (U7 Pr wo):=by
 subst hP hw
 exact λpins s σ H Q I h=>wpAny_Dict_empty ⟨.ref s.heap.objs.size,_,I.laid (a:=s.heap.objs.size) (o:=FF X.prog X.w s.heap.objs.size []) (t':=s.toks) (λ_ _ q=>a8 _ q) (a7 _) (QA (Te s.heap I.big)),rfl,h _ (I.hok.fresh (a7 _))⟩
theorem CB(EC:X.calm=true)(hP:X.prog=Pr)(hw:X.w=wo):pY X (.type "list") (λxs H Q=>∃a kvs,xs=[.ref a]/\ND Pr wo H a kvs/\∀l,H l=none->Q (.ref l) (upd H l (.lst (kvs.map λx=>.ref x.2.1)))):=by
 subst hP hw
 intro pins s σ H xs us Q I r h
 obtain⟨a,kvs,rfl,d,q⟩:=h
 obtain⟨u,rfl,rx⟩:=vals1 r
 cases rx
 obtain⟨z,lo,xs,rel,o,es,ep,h1,h2,h3,h4,_⟩:=d.raw I.hok
 have hes:es.size=xs.length:=size_of_entries h4
 have hlk:=Paired.length rel
 refine TK.bP (a7 _) (kdl_call (OO (es:=es) (ep:=ep) lo) (I.ok.hd EC) ⟨o,h1,h2,h3⟩ (by omega) λh' tk acc c kp hS hacc hup=>?_)
 refine⟨.ref s.heap.objs.size,_,I.laid (t':=tk) kp (a7 _) (show bM X.prog X.w _ h' _ (.lst (kvs.map λx=>.ref x.2.1)) from⟨by rw[bc];exact z,acc.toList,c,?_,by rw[Array.toArray_toList];exact hS⟩) hup,rfl,q _ (I.hok.fresh (a7 _))⟩
 have hz:acc.size=kvs.length:=by rw[hacc.1];omega
 refine GP.vI (by rw[bc];simp[hz]) λi x y hx hy=>?_
 rw[eC]at hx
 obtain⟨e,he,rfl⟩:=fw.mp hx
 rw[fg]at hy
 obtain⟨hi,rfl⟩:=hacc.2 i y hy
 obtain⟨x',hx',h5⟩:=GP.Paired.at rel he
 have:=entry_at h4 i
 rw[hx',sK hi]at this
 injection this with this
 rw[this]
 show Value.ref x'.2.1=Value.ref e.2.1
 rw[h5.2.1]
end
end
section
open PySem.W
section
variable{prog:bn}{w:df}{A:eR}{E:a9->ba->Prop}{s:ba}{q:a5}
noncomputable def C8(kf:Nat->Int)(n i:Nat):Prop:=∀j,j<n->kf i<=kf j/\(j<i->kf i<kf j)
theorem oE{h h':eJ}{l:a5}{its:Array a9}(k:∀b o,h.get? b=some o->h'.get? b=some o)(x:h.IsList l its):h'.IsList l its:=by
 obtain⟨o,e,r⟩:=x
 exact⟨o,k _ _ e,r⟩
variable{g:eJ}{l I S:a5}{vs:List a9}{R:Result->ba->Prop}
theorem ML(kf:Nat->Int)(hh:A.handled=none)(hl:g.IsList l vs.toArray)(hI:g.get? I=none)(hS:g.get? S=none)(hSI:S≠I)
  (turn:∀i v h tk (Q:a9->ba->Prop),vs[i]? =some v->(∀b o,g.get? b=some o->h.get? b=some o)->(∀h' tk' t,(∀b o,h.get? b=some o->h'.get? b=some o)->Q (.int (kf i) t) { s with heap:=h',toks:=tk' }) →
   b_ (model prog w) A.in1 (call (.ref q) [v]) Q (λ_ _=>False) { s with heap:=h,toks:=tk })
  (hR:∀i v h' tk',vs[i]? =some v->C8 kf vs.length i->(∀b o,g.get? b=some o->h'.get? b=some o)->R (.ok (.ret v)) { s with heap:=h',toks:=tk' }) :
  ∀(r j i:Nat) (h:eJ) (tk:Nat) (vb:a9) (tb:Do) (c:Nat),vs.length-(j+1)=r->j+1<=vs.length->(∀b o,g.get? b=some o->h.get? b=some o)->h.get? S=some (seqObj "list" #[vb,.int (kf i) tb] c) →
   h.IsListIter I l (j+1)->vs[i]? =some vb->i<=j->C8 kf (j+1) i →
   codeAny (model prog w) A (.builtin "min.loop" ⟨[.ref I,.ref q,.ref S],[]⟩) R { s with heap:=h,toks:=tk }:=by
 have nm:(toString "min" ++toString ".loop" :String)= "min.loop" :=by decide
 obtain⟨ol,Dk,rl⟩:=id hl
 have lI:l≠I:=λz=>by rw[z,hI]at Dk;cases Dk
 have W:=Walks.list (prog:=prog) (w:=w) (A:=A.in1) hh I l lI vs.toArray
 have sz:vs.toArray.size=vs.length:=by simp
 have nI:∀b o,g.get? b=some o->b∉[I]:=λb o e z=>by rw[cq.mp z,hI]at e;cases e
 have nS:∀b o,g.get? b=some o->b≠S:=λb o e z=>by rw[z,hS]at e;cases e
 intro r
 induction r with
 |zero =>
  intro j i h tk vb tb c hr hj kp gS hit TR hij hb
  have en:j+1=vs.length:=by omega
  refine oo PySem.F.entry_min_loop ?_
  rw[ma PySem.F.plain_min_loop _]
  show b_ _ A.in1 (seqItems? (.ref S) >>= _) _ _ _
  refine a0 (j_ gS rfl ?_)
  show b_ _ A.in1 (tryCatch (pyNext (.ref I)) _ >>= _) _ _ _
  refine a0 (kA (W.done _ _ _ ⟨by rw[sz,←en];exact hit,oE kp hl⟩ λh1 HN hk1=>?_))
  have Nl:=hk1 S _ (by simpa using hSI) gS
  show b_ _ A.in1 (updateSeq S (λ_=> #[]) >>= _) _ _ _
  refine a0 ?_
  refine wf Nl rfl (a0 (o_ (bi ?_)))
  refine hR i vb _ _ TR (by rw[←en];exact hb) λb o e=>?_
  rw[(gd h1 S _).2 b (nS b o e)]
  exact hk1 b o (nI b o e) (kp b o e)
 |succ r ih =>
  intro j i h tk vb tb c hr hj kp gS hit TR hij hb
  have lt:j+1<vs.length:=by omega
  refine oo PySem.F.entry_min_loop ?_
  rw[ma PySem.F.plain_min_loop _]
  show b_ _ A.in1 (seqItems? (.ref S) >>= _) _ _ _
  refine a0 (j_ gS rfl ?_)
  show b_ _ A.in1 (tryCatch (pyNext (.ref I)) _ >>= _) _ _ _
  refine a0 (kA (W.item (j+1) _ _ _ (by rw[sz];exact lt) ⟨hit,oE kp hl⟩ λv h1 HN hP hst hk1=>?_))
  have hv:vs[j+1]? =some v:=by simpa using hP
  have Ez:∀b o,g.get? b=some o->h1.get? b=some o:=λb o e=>hk1 b o (nI b o e) (kp b o e)
  have Nl:=hk1 S _ (by simpa using hSI) gS
  obtain⟨oI,PK,rI⟩:=id hst.1
  show b_ _ A.in1 (tryCatch (holding [v] (call (.ref q) [v])) _ >>= _) _ _ _
  refine a0 (kA (iq (h_ (turn (j+1) v h1 HN (λu s'=>∃h2 BF t2,u= .int (kf (j+1)) t2/\s'={ s with heap:=h2,toks:=BF }/\∀b o,h1.get? b=some o->h2.get? b=some o) hv Ez λh2 BF t2 k2=>⟨h2,BF,t2,rfl,rfl,k2⟩) (λu s' hu=>?_) λ_ _ z=>z.elim)))
  obtain⟨h2,BF,t2,rfl,rfl,k2⟩:=hu
  have Wj:∀b o,g.get? b=some o->h2.get? b=some o:=λb o e=>k2 b o (Ez b o e)
  have Ku:=k2 _ _ Nl
  have Ub:h2.IsListIter I l (j+1+1):=⟨oI,k2 _ _ PK,rI⟩
  show b_ _ A.in1 (tryCatch (holding [v,.int (kf (j+1)) t2] (richCompare .Lt (.int (kf (j+1)) t2) (.int (kf i) tb) >>= _)) _ >>= _) _ _ _
  refine a0 (kA (iq (a0 (CmpOf.ints_lt (prog:=prog) (w:=w) (A:=A.in1) (P:=λi v=>∃t,v= .int (kf i) t) kf (λi v h=>h) (j+1) i _ _ _ _ _ ⟨t2,rfl⟩ ⟨tb,rfl⟩ ?_))))
  refine a0 (iq (kt ?_))
  refine a0 (o_ (bi ?_))
  by_cases gt:kf (j+1)<kf i
  ·obtain⟨c2,hc2⟩:∃c2,(h2.update S (wy λ_=> #[v,.int (kf (j+1)) t2])).get? S=some (seqObj "list" #[v,.int (kf (j+1)) t2] c2):=⟨_,get?_update_seq Ku λ_=> #[v,.int (kf (j+1)) t2]⟩
   have gt':kf (j+1)<kf i:=gt
   simp only[gt',decide_true,if_true]
   refine a0 ?_
   refine wf Ku rfl (a0 (o_ ?_))
   rw[nm]
   refine bi ⟨qr PySem.F.plain_min_loop _,ih (j+1) (j+1) _ _ v t2 c2 (by omega) lt (λb o e=>?_) hc2 ?_ hv (a7 _) λj' hj'=>?_⟩
   ·rw[(gd h2 S _).2 b (nS b o e)]
    exact Wj b o e
   ·exact⟨oI,((gd h2 S _).2 I hSI.symm).trans (k2 _ _ PK),rI⟩
   ·by_cases e:j'=j+1
    ·subst e
     exact⟨by omega,λ_=>by omega⟩
    ·have b1:=hb j' (by omega)
     exact⟨by omega,λ_=>by omega⟩
  ·have gt':¬kf (j+1)<kf i:=gt
   simp only[gt',decide_false,gN,if_false]
   refine a0 (o_ ?_)
   rw[nm]
   refine bi ⟨qr PySem.F.plain_min_loop _,ih (j+1) i _ _ vb tb c (by omega) lt Wj Ku Ub TR (by omega) λj' hj'=>?_⟩
   by_cases e:j'=j+1
   ·subst e
    exact⟨by omega,λ_=>by omega⟩
   ·exact hb j' (by omega)
theorem KL{Q:a9->ba->Prop}(kf:Nat->Int)(hh:A.handled=none)(hl:s.heap.IsList l vs.toArray)
  (turn:∀i v h tk (Q:a9->ba->Prop),vs[i]? =some v->(∀b o,s.heap.get? b=some o->h.get? b=some o)->(∀h' tk' t,(∀b o,h.get? b=some o->h'.get? b=some o)->Q (.int (kf i) t) { s with heap:=h',toks:=tk' }) →
   b_ (model prog w) A.in1 (call (.ref q) [v]) Q (λ_ _=>False) { s with heap:=h,toks:=tk })
  (hne:0<vs.length)
  (h1:∀i v h' tk',vs[i]? =some v->C8 kf vs.length i->(∀b o,s.heap.get? b=some o->h'.get? b=some o)->Q v { s with heap:=h',toks:=tk' }) :
  b_ (model prog w) A (call (.builtin "min") [.ref l] [(a_ "key",.ref q)]) Q E s:=by
 have nm:(toString "min" ++toString ".loop" :String)= "min.loop" :=by decide
 obtain⟨ol,Dk,rl⟩:=id hl
 have lt:l<s.heap.objs.size:=cm Dk
 refine kmk_tree PySem.F.kind_min PySem.F.plain_min PySem.F.entry_min (kmk_min_key _ _) ?_
 show b_ _ A.in1 (p_ "min" ["key","default"] 0 ⟨[],[(a_ "key",.ref q)]⟩ >>= _) _ _ s
 refine a0 (Ch (show p_ "min" ["key","default"] 0 ⟨[],[(a_ "key",.ref q)]⟩=pure [some (.ref q),none] from rfl) ?_)
 refine a0 (bi ?_)
 refine a0 (pi hl ?_)
 refine a0 (wpAny_newList ?_ (d0 _))
 rw[nm]
 have sI:(s.heap.push { cls:=.type "list_iterator",data:=.fields #[.ref l,.int 0 0] }).objs.size=s.heap.objs.size+1:=size_push' ..
 have hI:s.heap.get? s.heap.objs.size=none:=lL (a7 _)
 have hS:s.heap.get? (s.heap.push { cls:=.type "list_iterator",data:=.fields #[.ref l,.int 0 0] }).objs.size=none:=by rw[sI];exact lL (g_ _)
 have hSI:(s.heap.push { cls:=.type "list_iterator",data:=.fields #[.ref l,.int 0 0] }).objs.size≠s.heap.objs.size:=by rw[sI];exact m_ (k_ _)
 refine bi ⟨qr PySem.F.plain_min_loop _,?_⟩
 have Tu:∀b o,s.heap.get? b=some o->((s.heap.push { cls:=.type "list_iterator",data:=.fields #[.ref l,.int 0 0] }).push (seqObj "list" #[] 0)).get? b=some o:=λb o e=>a8 _ (a8 _ e)
 have gI:((s.heap.push { cls:=.type "list_iterator",data:=.fields #[.ref l,.int 0 0] }).push (seqObj "list" #[] 0)).get? s.heap.objs.size=some { cls:=.type "list_iterator",data:=.fields #[.ref l,.int 0 0] } :=
  a8 _ (bo _ rfl)
 have gS:((s.heap.push { cls:=.type "list_iterator",data:=.fields #[.ref l,.int 0 0] }).push (seqObj "list" #[] 0)).get? (s.heap.push { cls:=.type "list_iterator",data:=.fields #[.ref l,.int 0 0] }).objs.size=some (seqObj "list" #[] 0):=bo _ rfl
 generalize (s.heap.push { cls:=.type "list_iterator",data:=.fields #[.ref l,.int 0 0] }).objs.size=S at hS hSI gS ⊢
 generalize hIe:s.heap.objs.size=I at hI hSI gI ⊢
 have lI:l≠I:=λz=>by rw[z,hI]at Dk;cases Dk
 have W:=Walks.list (prog:=prog) (w:=w) (A:=A.in1) hh I l lI vs.toArray
 have sz:vs.toArray.size=vs.length:=by simp
 have nI:∀b o,s.heap.get? b=some o->b∉[I]:=λb o e z=>by rw[cq.mp z,hI]at e;cases e
 have nS:∀b o,s.heap.get? b=some o->b≠S:=λb o e z=>by rw[z,hS]at e;cases e
 refine oo PySem.F.entry_min_loop ?_
 rw[ma PySem.F.plain_min_loop _]
 show b_ _ A.in1 (seqItems? (.ref _) >>= _) _ _ _
 refine a0 (j_ gS rfl ?_)
 show b_ _ A.in1 (tryCatch (pyNext (.ref I)) _ >>= _) _ _ _
 have ne:=hne
 refine a0 (kA (W.item 0 _ _ _ (by rw[sz];exact ne) ⟨⟨_,gI,rfl,rfl⟩,oE Tu hl⟩ λv tD HN hP hst hk1=>?_))
 have hv:vs[0]? =some v:=by simpa using hP
 have Ez:∀b o,s.heap.get? b=some o->tD.get? b=some o:=λb o e=>hk1 b o (nI b o e) (Tu b o e)
 have Nl:=hk1 S _ (by simpa using hSI) gS
 obtain⟨oI,PK,rI⟩:=id hst.1
 show b_ _ A.in1 (tryCatch (holding [v] (call (.ref q) [v])) _ >>= _) _ _ _
 refine a0 (kA (iq (h_ (turn 0 v tD HN (λu s'=>∃h2 BF t2,u= .int (kf 0) t2/\s'={ s with heap:=h2,toks:=BF }/\∀b o,tD.get? b=some o->h2.get? b=some o) hv Ez λh2 BF t2 k2=>⟨h2,BF,t2,rfl,rfl,k2⟩) (λu s' hu=>?_) λ_ _ z=>z.elim)))
 obtain⟨h2,BF,t2,rfl,rfl,k2⟩:=hu
 have Ku:=k2 _ _ Nl
 obtain⟨c2,hc2⟩:∃c2,(h2.update S (wy λ_=> #[v,.int (kf 0) t2])).get? S=some (seqObj "list" #[v,.int (kf 0) t2] c2):=⟨_,get?_update_seq Ku λ_=> #[v,.int (kf 0) t2]⟩
 show b_ _ A.in1 (updateSeq S (λ_=> #[v,.int (kf 0) t2]) >>= _) _ _ _
 refine a0 ?_
 refine wf Ku rfl ?_
 rw[nm]
 refine bi ⟨qr PySem.F.plain_min_loop _,ML kf hh hl hI hS hSI turn (λi v h' tk' a b c=>h1 i v h' tk' a b c) _ 0 0 _ _ v t2 c2 rfl ne (λb o e=>?_) hc2 ?_ hv (a7 _) λj' hj'=>?_⟩
 ·rw[(gd h2 S _).2 b (nS b o e)]
  exact k2 b o (Ez b o e)
 ·exact⟨oI,((gd h2 S _).2 I hSI.symm).trans (k2 _ _ PK),rI⟩
 ·have e:j'=0:=by omega
  subst e
  exact⟨by omega,λz=>absurd z (f8 _)⟩
end
noncomputable def zG(h:eJ)(q:a5)(qual:bp)(ps:w_)(body:Expr)(sc:oP)(cl:List (bp×a5)):Prop :=
 ∃pm c' ctv,h.get? q=some (kla_obj "<lambda>" qual ps body sc cl pm c' ctv)/\h.CodeRec (.ref c') qual
theorem sD{h h':eJ}{c:a5}{q:bp}(k:∀b o,h.get? b=some o->h'.get? b=some o)(x:h.CodeRec (.ref c) q):h'.CodeRec (.ref c) q:=by
 obtain⟨c₂,o,vs,t,e,e1,e2⟩:=x
 exact⟨c₂,o,vs,t,e,k _ _ e1,e2⟩
theorem zG.keep{h h':eJ}{q:a5}{qual:bp}{ps:w_}{body:Expr}{sc:oP}{cl:List (bp×a5)}(k:∀b o,h.get? b=some o->h'.get? b=some o)(x:zG h q qual ps body sc cl):zG h' q qual ps body sc cl:=by
 obtain⟨pm,c',ctv,e,r⟩:=x
 exact⟨pm,c',ctv,k _ _ e,sD k r⟩
structure Jh(ps:w_)(body:Expr)(sc:oP)(x r:bp):Prop where
 bind:∀(qual:bp) (cl:List (bp×a5)) (pm cdv ct v:a9),bindArgs (kla_fn "<lambda>" qual ps body sc cl pm cdv ct) ⟨[v],[]⟩=pure [(x,v)]
 loc:sc.names.lookup x=some .local
 free:sc.names.lookup r=some .free
 cell:∀x∈sc.names,x.2≠ .cell
 kind:sc.kind= .function
 co:sc.isCoroutine=false
 gen:sc.isGenerator=false
 dx:(x==("__debug__" :bp))=false
 dr:(r==("__debug__" :bp))=false
 dc:(r==("__classdict__" :bp))=false
structure Rh(P:bn)(w:df)(h:eJ)(A:eR)(env:Env)(x r:bp)(v rv:a9):Prop where
 x:∀(p:sx) (s:ba) (Q:a9->ba->Prop) (E:a9->ba->Prop),(∀b o,h.get? b=some o->s.heap.get? b=some o)->Q v s->b_ (model P w) A (eval (.Name x p) env) Q E s
 r:∀(p:sx) (s:ba) (Q:a9->ba->Prop) (E:a9->ba->Prop),(∀b o,h.get? b=some o->s.heap.get? b=some o)->Q rv s->b_ (model P w) A (eval (.Name r p) env) Q E s
section
variable{prog:bn}{w:df}{A:eR}{E:a9->ba->Prop}{s:ba}{q c:a5}{qual x r:bp}{ps:w_}{body:Expr}{sc:oP}
theorem JZ{v rv:a9}{Q:a9->ba->Prop}(hl:zG s.heap q qual ps body sc [(r,c)])(T:Jh ps body sc x r)(hc:s.heap.IsCell c (some rv))(hlim:s.heap.NoLimit)(hroom:A.depth<recursionLimit)
  (h:∀(env:Env) (A':eR) h1 HN (E':a9->ba->Prop),A'.units=A.units+3->(∀b o,s.heap.get? b=some o->h1.get? b=some o)->Rh prog w h1 A' env x r v rv->b_ (model prog w) A' (eval body env) Q E' { s with heap:=h1,toks:=HN }) :
  b_ (model prog w) A (call (.ref q) [v]) Q E s:=by
 obtain⟨pm,c',ctv,ho,hr⟩:=hl
 refine v0 (kla_callFunE hroom ho rfl T.co T.gen rfl hr ?_)
 rw[T.bind]
 refine bi (wpAny_newFunctionEnv T.cell (λy hy=>by rw[cq.mp hy];exact T.loc) (λh₁ hns QX=>⟨hlim.fresh _ QX,?_⟩) T.kind)
 have kp:∀b o,s.heap.get? b=some o->h₁.get? b=some o:=λb o e=>QX.extBut b o (eA (cm e)) (a8 _ e)
 refine kla_codeExpr (h _ _ h₁ _ _ rfl kp ⟨λp s1 Q1 E1 k1 hQ=>?_,λp s1 Q1 E1 k1 hQ=>?_⟩)
 ·refine wpAny_Name (wpAny_loadName_local T.kind T.loc (hns.keeps k1) (v:=v) ?_ hQ) T.dx
  show on x [(x,v)]=some v
  simp[on]
 ·obtain⟨o,g1,g2⟩:=hc
  refine wpAny_Name (wpAny_loadName_free T.kind T.free (c:=c) (v:=rv) ?_ ⟨o,k1 _ _ (kp _ _ g1),g2⟩ hQ T.dc) T.dr
  show on r [(r,c)]=some c
  simp[on]
end
end
section
open PySem.W
theorem qQ.ext{P:bn}{w:df}{h h':eJ}{k:NK}{a:a5}(e:∀b o,h.get? b=some o->h'.get? b=some o)(x:qQ P w h k a):qQ P w h' k a:=by
 obtain⟨o,n,p,t,ho,hc,hd,o2,its,n2,ho2,r⟩:=x
 exact⟨o,n,p,t,e _ _ ho,hc,hd,o2,its,n2,e _ _ ho2,r⟩
theorem EU{P:bn}{w:df}{h h':eJ}{d:a5}{xs:List (NK×a5×a9)}(e:∀b o,h.get? b=some o->h'.get? b=some o)(x:h.DictOfH (mU P w) d xs):h'.DictOfH (mU P w) d xs:=by
 obtain⟨o,es,ep,ho,h2,h3,h4,h5,h6⟩:=x
 exact⟨o,es,ep,e _ _ ho,h2,h3,h4,λy hy=>(h5 y hy).ext e,h6⟩
noncomputable def KV1(P:bn)(w:df)(H:Hp)(v rv:V)(k:Int):Prop:=∃p d kvs i j,v= .ref p/\H p=some (.tup [.int i,.int j])/\rv= .ref d/\ND P w H d kvs/\lH kvs (i,j,a_ "p")=some (.int k)
noncomputable def KV2(P:bn)(w:df)(H:Hp)(v rv:V)(k:Int):Prop:=∃p d q kvs ky c r,v= .ref p/\H p=some (.tup [.ref q,.int c])/\mY H q ky/\rv= .ref d/\ND P w H d kvs/\lH kvs ky=some (.int r)/\k=c+r
noncomputable def HB(ps:w_)(body:Expr)(sc:oP)(x r:bp)(KV:bn->df->Hp->V->V->Int->Prop):Prop :=
 Jh ps body sc x r/\∀(P:bn) (w:df) (H:Hp) (v rv:V) (k:Int) (u ru:a9) (s:ba) (h:eJ) (tk:Nat) (A:eR) (env:Env) (Q:a9->ba->Prop) (E:a9->ba->Prop),
  KV P w H v rv k->RelV v u->RelV rv ru->nZ P w H h->A.units+2<cLine->Rh P w h A env x r u ru →
  (∀h' tk' t,(∀b o,h.get? b=some o->h'.get? b=some o)->Q (.int k t) { s with heap:=h',toks:=tk' })->b_ (model P w) A (eval body env) Q E { s with heap:=h,toks:=tk }
theorem Ph {ps:w_}{sc:oP}{x r:bp}{p1 p2 p3 p4 p5:sx}{j k:Nat}(T:Jh ps (.Subscript (.Name r p1) (.Tuple [.Name x p2,.Constant (.str "p") j p3] k p4) p5) sc x r) :
  HB ps (.Subscript (.Name r p1) (.Tuple [.Name x p2,.Constant (.str "p") j p3] k p4) p5) sc x r KV1:=by
 refine⟨T,λP w H v rv ky u ru s h tk A env Q E kv rx rr ok hu L hQ=>?_⟩
 obtain⟨p,d,kvs,a,b,rfl,hp,rfl,nd,hv⟩:=kv
 cases rx
 cases rr
 obtain⟨_,_,xs,rel,dd⟩:=nd.raw ok
 obtain⟨w',hw,t',rfl⟩:=oG.some_of (v:=.int ky) (o:=(atKey xs (a,b,a_ "p")).map (·.2)) (by rw[←hv];exact rel.val _)
 obtain⟨y,hy,Wy⟩:=fw.mp hw
 refine uo PySem.F.slot_dict_getitem.lookup (λ_ _=>rfl) (L.r _ _ _ _ (λ_ _ e=>e) (wpAny_Tuple_spliced ?_))
 show b_ _ _ (spliced ((false,eval (.Name x p2) env)::backTo p4 (eP [.Constant (.str "p") j p3] env))) _ _ _
 refine Calls.spliced_cons (L.x _ _ _ _ (λ_ _ e=>e) ?_)
 show b_ _ _ (spliced ((false,eval (.Constant (.str "p") j p3) env)::backTo p4 (eP [] env))) _ _ _
 refine Calls.spliced_cons (Calls.Constant_str (Calls.spliced_nil ⟨aw,?_⟩))
 have ext:∀b o,h.get? b=some o->(h.push { cls:=.type "tuple",data:=.seq [Value.ref p,Value.str "p" tk].toArray }).get? b=some o:=λb o e=>a8 _ e
 refine⟨(EU ext dd).typeIs (s:={ s with heap:=_,toks:=_ }),?_⟩
 refine x4 (knd:=mU P w) (k:=(a,b,a_ "p")) (show A.in1.units+1<cLine from hu) ?_ (EU ext dd) hy ?_
 ·exact⟨_,_,p,_,bo _ rfl,rfl,rfl,(vS (ks:=[.inl a,.inl b]) (ok.kept ext) hp)⟩
 ·rw[Wy]
  exact hQ _ _ t' ext
theorem Pg{ps:w_}{sc:oP}{x r:bp}{p1 p2 p3 p4 p5 p6 p7 p8 p9:sx}{j1 j2:Nat}(T:Jh ps (.BinOp (.Subscript (.Name x p1) (.Constant (.int 1) j1 p2) p3) .Add (.Subscript (.Name r p4) (.Subscript (.Name x p5) (.Constant (.int 0) j2 p6) p7) p8) p9) sc x r):
  HB ps (.BinOp (.Subscript (.Name x p1) (.Constant (.int 1) j1 p2) p3) .Add (.Subscript (.Name r p4) (.Subscript (.Name x p5) (.Constant (.int 0) j2 p6) p7) p8) p9) sc x r KV2:=by
 refine⟨T,λP w H v rv ky u ru s h tk A env Q E kv rx rr ok hu L hQ=>?_⟩
 obtain⟨p,d,q,kvs,key,c,n,rfl,hp,hk,rfl,nd,hv,rfl⟩:=kv
 cases rx
 cases rr
 obtain⟨_,_,xs,rel,dd⟩:=nd.raw ok
 obtain⟨w',hw,t',rfl⟩:=oG.some_of (v:=.int n) (o:=(atKey xs key).map (·.2)) (by rw[←hv];exact rel.val _)
 obtain⟨y,hy,Wy⟩:=fw.mp hw
 obtain⟨_,its,rv,o,g1,g2,m,g3⟩:=(show bM P w H h p (.tup [.ref q,.int c]) from ok p _ hp)
 cases rv with
 |cons r1 rv =>
 cases rv with
 |cons r2 rv =>
 cases rv
 cases r1
 obtain⟨tc,rfl⟩:=(show ∃t,_=Value.int c t from r2)
 have hT:∀t,({ s with heap:=h,toks:=t }:ba).TypeIs (.ref p) "tuple" :=λt=>⟨o,g1,g2⟩
 refine wpAny_BinOp (Subscript_ (L.x _ _ _ _ (λ_ _ e=>e) (x0 ?_)))
 refine pE (T:= "tuple") (x:=.int c tc) (hT _) slot_tuple_getitem.lookup (getItem_tuple (j:=1) (items:= #[.ref q,.int c tc]) ⟨o,g1,g2,m,g3⟩ (by omega) (by omega) (by rfl) (by rfl) ⟨rfl,?_⟩) (by with_unfolding_all rfl)
 refine uo PySem.F.slot_dict_getitem.lookup (λ_ _=>rfl) (L.r _ _ _ _ (λ_ _ e=>e) (Subscript_ (L.x _ _ _ _ (λ_ _ e=>e) (x0 ?_))))
 refine pE (T:= "tuple") (x:=.ref q) (hT _) slot_tuple_getitem.lookup (getItem_tuple (j:=0) (items:= #[.ref q,.int c tc]) ⟨o,g1,g2,m,g3⟩ (by omega) (by omega) (by rfl) (by rfl) ⟨rfl,?_⟩) (by with_unfolding_all rfl)
 refine⟨dd.typeIs (s:={ s with heap:=h,toks:=_ }),x4 (knd:=mU P w) (k:=key) (show A.in1.units+1<cLine from hu) (k_of ok hk) dd hy ?_⟩
 rw[Wy]
 exact add_int (hQ _ _ _ λ_ _ e=>e)
end
section
noncomputable def o7(P:a5)(ps:Array a9):HO:=.ext λh=>h.get? P=some (PySem.W.tabObj ps)
noncomputable def Q8(c:a5)(q:bp):HO:=.ext λh=>h.CodeRec (.ref c) q
noncomputable def TabOk(H:Hp)(P:a5)(ln:sx)(q:bp):Prop:=H P=some (o7 P #[])\/∃c',H P=some (o7 P #[rawInt ln.line,rawInt ln.col,.ref c'])/\H c'=some (Q8 c' q)
noncomputable def Ri(base:eJ)(mg:bp->Option a9):Prop:=∃bm ob,mg "__builtins__" =some (.ref bm)/\bm≠builtinsNs/\base.get? bm=some ob/\ob.cls= .type "module" /\ob.dict=some builtinsNs/\ob.data= .plain
theorem HQ{Pr:bn}{w:df}{H:Hp}{h:eJ}{P:a5}{ps:Array a9}(e:h.get? P=some (PySem.W.tabObj ps)):bM Pr w H h P (o7 P ps):=⟨e,⟨_,e⟩,λ_ _ a k=>k _ a⟩
theorem Up{Pr:bn}{w:df}{H:Hp}{h:eJ}{c:a5}{q:bp}(e:h.CodeRec (.ref c) q):bM Pr w H h c (Q8 c q):=by
 refine⟨e,?_,λh1 h2 a k=>?_⟩
 ·obtain⟨c₂,o,vs,t,e0,e1,_⟩:=e
  cases e0
  exact⟨o,e1⟩
 ·obtain⟨c₂,o,vs,t,e0,e1,e2⟩:=a
  cases e0
  exact⟨c,o,vs,t,rfl,k _ e1,e2⟩
section
variable{X:Cx}{pins:List (a5×mi)}{σ:St}{H:Hp}{s:ba}
theorem Inv.tab(I:Inv X pins σ H s){P:a5}{ps:Array a9}(e:H P=some (o7 P ps)):s.heap.get? P=some (PySem.W.tabObj ps):=(I.hok P _ e).1
theorem Inv.cd(I:Inv X pins σ H s){c:a5}{q:bp}(e:H c=some (Q8 c q)):s.heap.CodeRec (.ref c) q:=(I.hok c _ e).1
theorem Inv.Sy(I:Inv X pins σ H s){P c:a5}{ps ps':Array a9}{q:bp}{h' h2:eJ}{t':Nat}(e:H P=some (o7 P ps))(hx:B_ P s.heap h')(hc:s.heap.objs.size<=c)(hr:h'.CodeRec (.ref c) q)(ht:h'.get? P=some (PySem.W.tabObj ps'))
  (k2:∀b o,h'.get? b=some o->h2.get? b=some o) (hup:s.toks<=t'):Inv X pins σ (upd (upd H P (o7 P ps')) c (Q8 c q)) { s with heap:=h2,toks:=t' }:=by
 have hn:H c=none:=I.hok.fresh hc
 have ncP:c≠P:=λz=>by rw[z,e]at hn;cases hn
 have lt:∀b o,s.heap.get? b=some o->b≠c:=λb o q=>eA (dy (cm q) hc)
 have neP:∀b,H b=none->b≠P:=λb q z=>by rw[z,e]at q;cases q
 have other:∀b u,(∀ φ,u≠HO.ext φ)->H b=some u->upd (upd H P (o7 P ps')) c (Q8 c q) b=some u:=λb u hu q=>by
  rw[au (λz=>by rw[z,hn]at q;cases q),au (λz=>by rw[z,e]at q;cases q;exact hu _ rfl)]
  exact q
 have kp:∀b o,b≠P->s.heap.get? b=some o->h2.get? b=some o:=λb o hb q=>k2 b o (hx b o hb q)
 refine I.un ⟨λb o q n _ _=>kp b o (neP b n) q,λb o q n _ _=>⟨o.slots,kp b o (neP b n) q⟩,λb o q n _=>?_,λb o q _=>?_,λb xs q=>other b _ (λ_ z=>by cases z) q,λb o u q=>other b _ (λ_ z=>by cases z) q,λb ps q=>⟨#[],by rw[other b _ (λ_ z=>by cases z) q];simp⟩⟩ (λb u q=>?_) hup
 ·rw[au (lt b o q),au (neP b n)]
  exact n
 ·by_cases z:b=P
  ·subst z;exact⟨_,k2 _ _ ht⟩
  ·exact⟨o,kp b o z q⟩
 ·by_cases z:b=c
  ·subst z
   rw[ah]at q
   cases q
   exact Up (sD k2 hr)
  ·rw[au z]at q
   by_cases z2:b=P
   ·subst z2
    rw[ah]at q
    cases q
    exact HQ (k2 _ _ ht)
   ·rw[au z2]at q
    refine(I.hok b u q).stay (λd v hd qd=>kp d v ?_ qd) (λd qd=>other d _ (λ_ z=>by cases z) qd) λd xs qd=>other d _ (λ_ z=>by cases z) qd
    rcases hd with hd|hd
    ·rw[hd];exact z2
    ·intro z3
     rw[z3,e]at hd
     cases hd
end
theorem SS{K:PySem.W.Frag}{H1 H2:Hp}{l:a5}{vs:List V}(k:∀b u,(∀ φ,u≠HO.ext φ)->H1 b=some u->H2 b=some u)(h:cy K H1 l vs):cy K H2 l vs:=by
 rcases h with(h|⟨o,h⟩)|h
 ·exact .inl (.inl (k _ _ (λ_ z=>by cases z) h))
 ·exact .inl (.inr ⟨o,k _ _ (λ_ z=>by cases z) h⟩)
 ·exact .inr h
theorem EY{sc:oP}{env:Env}{x r:bp}{c:a5}(hn:sc.names=[(x,.local),(r,.free)])(hc:env.cells.lookup r=some c):closureFor sc env=pure [(r,c)]:=by
 have z:=qD (env:=env) sc.names [] (λy hy hk=>by
  rw[hn]at hy
  simp only[c_,hZ,or_false]at hy
  rcases hy with rfl|rfl
  ·cases hk
  ·exact⟨c,hc⟩)
 unfold closureFor
 dsimp only
 rw[z,hn]
 have e:pW (λx=>env.cells.lookup x) [(x,NameKind.local),(r,gc)] []=[(r,c)]:=by
  unfold pW
  rw[if_neg (by decide)]
  unfold pW
  rw[if_pos (by decide)]
  show(match env.cells.lookup r with|some a=>pW _ [] ((r,a)::[])|none=>pW _ [] [])=_
  rw[hc]
  rfl
 rw[e]
 rfl
theorem MB{P:bn}{w:df}{H H':Hp}{h:eJ}{d Pt:a5}{kvs:List NE}{ps:Array a9}{φ:eJ->Prop}(nd:ND P w H d kvs)(ok:nZ P w H h)(ht:h.get? Pt=some (PySem.W.tabObj ps))(hP:H Pt=some (.ext φ))(off:∀b u,b≠Pt->H b=some u->H' b=some u):ND P w H' d kvs:=by
 have neT:∀{b:a5} {xs:List V},H b=some (.tup xs)->b≠Pt:=λ{b xs} e z=>by rw[z,hP]at e;cases e
 refine⟨off _ _ (λz=>?_) nd.at_,λx hx=>?_⟩
 ·obtain⟨_,_,xs,_,o,es,ep,ho,hc,_⟩:=(ok d _ nd.at_).1
  rw[z,ht]at ho
  cases ho
  exact absurd hc.1 (by intro q;cases q)
 ·obtain⟨p,h1,h2⟩:=nd.keys x hx
  exact⟨p,off _ _ (neT h1) h1,off _ _ (neT h2) h2⟩
noncomputable def N3(KV:bn->df->Hp->V->V->Int->Prop):Prop:=∀(P:bn) (w:df) (H H':Hp) (h:eJ) (v rv:V) (k:Int) (Pt:a5) (ps:Array a9) (φ:eJ->Prop),
 KV P w H v rv k->nZ P w H h->h.get? Pt=some (PySem.W.tabObj ps)->H Pt=some (.ext φ)->(∀b u,b≠Pt->H b=some u->H' b=some u)->KV P w H' v rv k
theorem Pw:N3 KV1:=λP w H H' h v rv k Pt ps φ kv ok ht hP off=>by
 obtain⟨p,d,kvs,i,j,rfl,hp,rfl,nd,hv⟩:=kv
 exact⟨p,d,kvs,i,j,rfl,off _ _ (λz=>by rw[z,hP]at hp;cases hp) hp,rfl,MB nd ok ht hP off,hv⟩
theorem Pu:N3 KV2:=λP w H H' h v rv k Pt ps φ kv ok ht hP off=>by
 obtain⟨p,d,q,kvs,ky,c,r,rfl,hp,⟨q2,k1,k2⟩,rfl,nd,hv,rfl⟩:=kv
 have neT:∀{b:a5} {xs:List V},H b=some (.tup xs)->b≠Pt:=λ{b xs} e z=>by rw[z,hP]at e;cases e
 exact⟨p,d,q,kvs,ky,c,r,rfl,off _ _ (neT hp) hp,⟨q2,off _ _ (neT k1) k1,off _ _ (neT k2) k2⟩,rfl,MB nd ok ht hP off,hv,rfl⟩
noncomputable def Apart(Pr:bn)(wo:df)(H:Hp)(P:a5):Prop:=(∀b q,H b=some (Q8 b q)->b≠P)/\∀d kvs,H d=some (FF Pr wo d kvs)->d≠P
theorem E6{P:bn}{w:df}{H:Hp}{h:eJ}{Pt:a5}{ps:Array a9}(ok:nZ P w H h)(ht:h.get? Pt=some (PySem.W.tabObj ps))(hp:∀q t,ps[1]? ≠some (.str q t)):Apart P w H Pt:=by
 refine⟨λb q e z=>?_,λd kvs e z=>?_⟩
 ·obtain⟨c₂,o,vs,t,e0,e1,e2,e3⟩:=(ok b _ e).1
  cases e0
  rw[z,ht]at e1
  cases e1
  cases e2
  exact hp _ _ e3
 ·obtain⟨_,_,xs,_,o,es,ep,ho,hc,_⟩:=(ok d _ e).1
  rw[z,ht]at ho
  cases ho
  exact absurd hc.1 (by intro q;cases q)
noncomputable def U9(Pr:bn)(wo:df)(K:PySem.W.Frag)(KV:bn->df->Hp->V->V->Int->Prop)(P:a5)(ln:sx)(lq:bp)(ir:Nat)(ta:TA):TE:=λσ H Q=>ta σ H λzs H1=>∃(l:a5) (vs:List V) (rv:V) (kf:Nat->Int),zs=[.ref l]/\σ[ir]? =some (some rv)/\cy K H1 l vs/\0<vs.length ∧
 (∀i v,vs[i]? =some v->KV Pr wo H1 v rv (kf i))/\TabOk H1 P ln lq/\∀H2,Apart Pr wo H1 P->(∀b u,b≠P->H1 b=some u->H2 b=some u)->TabOk H2 P ln lq->∀i v,vs[i]? =some v->C8 kf vs.length i->Q v H2
theorem Ir{X:Cx}{c P:a5}{e:Expr}{ta:TA}{p pos sO Ez:sx}{ps:w_}{body:Expr}{sc:oP}{x r:bp}{ir:Nat}{KV:bn->df->Hp->V->V->Int->Prop}{Pr:bn}{wo:df}{K':PySem.W.Frag}(LK:HB ps body sc x r KV)(KO:N3 KV)(hn:sc.names=[(x,.local),(r,.free)])
  (hcode:X.env.code= .ref c) (hC:PySem.W.codeHdIn X.K c P=true) (hbm:Ri X.base X.mg) (EC:X.calm=true) (hroom:X.A.depth<recursionLimit) (hu:X.A.units+16<cLine)
  (hg:Gl X "min") (hm:X.mg "min" =none) (hv:bootBuiltins "min" =some (.builtin "min")) (hN:X.N[ir]? =some r) (hcell:X.env.kindOf r=some .cell) (ha:PA X [e] ta) (hP:X.prog=Pr) (hw:X.w=wo) (hK:X.K=K') (hd0:defaultsOf ps X.env=([],[]):=by rfl)
  (he:backTo pos (eP [e] X.env)=(false,eval e X.env)::backTo pos (eP [] X.env):=by rfl) (hpl:(backTo pos (eP [e] X.env)).any (·.1)=false:=by rfl) :
  PE X (.Call (.Name "min" p) [e] [⟨some (a_ "key"),.Lambda ps body sc sO,Ez⟩] pos) (U9 Pr wo K' KV P sO (X.env.qual++ "<lambda>") ir ta):=by
 subst hP hw hK
 intro pins s σ H Q I h
 refine mm (pF I hg hm hv ?_)
 refine callWith_kw (dG (ha pos pins s σ H _ I h) λus s1 ⟨zs,H1,I1,r1,q1⟩=>?_) he hpl rfl rfl
 obtain⟨l,vs,rv,kf,rfl,hir,hq,hne,hkv,hT,k⟩:=q1
 obtain⟨u,rfl,rx⟩:=vals1 r1
 cases rx
 obtain⟨m,hns,hl⟩:=I1.loc
 obtain⟨ru,rru,lk⟩:=hl ir r rv hN hir (.inr (.inl hcell))
 obtain⟨cc,hcc,hic⟩:∃cc,X.env.cells.lookup r=some cc/\s1.heap.IsCell cc (some ru):=by
  rcases lk with⟨z,_⟩|⟨_,z⟩
  ·rw[hcell]at z;cases z
  ·exact z
 have hcl:=EY hn hcc
 refine kws_cons (PySem.W.kla_eval hd0 ?_)
 have hgs:s1.heap.Ns dk X.mg:=I1.mod.glob.keeps I1.bk
 obtain⟨bm,ob,b1,b2,b3,b4,b5,b6⟩:=hbm
 have UQ:=I1.bk _ _ b3
 have hCh:=PySem.W.codeHd_of_K I1.qv hC
 have ext:∃ φ,H1 P=some (.ext φ):=by
  rcases hT with hT|⟨_,hT,_⟩
  ·exact⟨_,hT⟩
  ·exact⟨_,hT⟩
 obtain⟨φ,hφ⟩:=ext
 have hAp:Apart X.prog X.w H1 P:=by
  rcases hT with hT|⟨_,hT,_⟩
  ·exact E6 I1.hok (I1.tab hT) (λq t z=>by cases z)
  ·exact E6 I1.hok (I1.tab hT) (λq t z=>by cases z)
 have after:∀(q:a5) (H2:Hp) (s2:ba),Inv X pins σ H2 s2->(∀b u,b≠P->H1 b=some u->H2 b=some u)->TabOk H2 P sO (X.env.qual++ "<lambda>")->cy X.K H2 l vs->zG s2.heap q (X.env.qual++ "<lambda>") ps body sc [(r,cc)]->s2.heap.IsCell cc (some ru)->(∀i v,vs[i]? =some v->KV X.prog X.w H2 v rv (kf i)) →
   b_ (model X.prog X.w) X.A (evalAll ((backToKw pos (keywordEach [] X.env)).map (·.2)))
    (λkvs s₂=>b_ (model X.prog X.w) X.A (call (.builtin "min") [.ref l] (((backToKw pos (keywordEach [⟨some (a_ "key"),.Lambda ps body sc sO,Ez⟩] X.env)).filterMap (·.1)).zip (.ref q::kvs))) (EP X pins σ Q) X.xe s₂) X.xe s2:=by
  intro q H2 s2 I2 Yw hT2 hq2 abN hc2 aby
  refine kws_nil ?_
  show b_ _ X.A (call (.builtin "min") [.ref l] [(a_ "key",.ref q)]) _ _ s2
  have k1:=k H2 hAp Yw hT2
  obtain⟨its,r',pl,hz⟩:=I2.list hq2
  have hlen:=r'.length
  refine TK.bP (a7 _) (KL (kf:=kf) (I2.ok.hd EC) pl.isList (λi v h tk Q' hv' kp hQ=>?_) (by omega) λi v h' tk' hv' hb kp hup=>?_)
  ·have hi:i<its.length:=(bd.mp hv').1
   have hi1:i<vs.length:=by omega
   obtain⟨u',eu,Qt⟩:=r'.get (a6 hi1)
   rw[hv']at eu
   cases eu
   obtain⟨oc,gc1,gc2⟩:=hc2
   refine JZ (s:={ s2 with heap:=h,toks:=tk }) (A:=X.A.in1) (rv:=ru) (abN.keep kp) LK.1 ⟨oc,kp _ _ gc1,gc2⟩ (I2.nolimit.keeps kp) hroom λenv A' h1 HN E' hA Ez L=>?_
   refine LK.2 X.prog X.w H2 vs[i] rv (kf i) v ru s2 h1 HN A' env _ _ (aby i _ (a6 hi1)) Qt rru (I2.hok.kept λb o z=>Ez b o (kp b o z)) (by rw[hA];show X.A.units+1+3+2<cLine;omega) L λh' tk' t k'=>?_
   exact hQ h' tk' t λb o z=>k' b o (Ez b o z)
  ·have hi:i<its.length:=(bd.mp hv').1
   have hi1:i<vs.length:=by omega
   obtain⟨u',eu,Qt⟩:=r'.get (a6 hi1)
   rw[hv']at eu
   cases eu
   refine⟨vs[i],H2,I2.kept kp hup,Qt,k1 i _ (a6 hi1) ?_⟩
   rw[show vs.length=its.length by omega]
   exact hb
 have off:∀b,H1 b=none->b≠P:=λb q z=>by rw[z,hφ]at q;cases q
 have VI:∀{ps':Array a9},H1 P=some (o7 P ps')->s1.heap.get? P=some (PySem.W.tabObj ps')->dk≠P/\bm≠P/\cc≠P:=λ{ps'} e e'=>by
  refine⟨λz=>?_,λz=>?_,λz=>?_⟩
  ·obtain⟨o,es,ep,eo,hd,_⟩:=hgs
   rw[z,e']at eo;cases eo;cases hd
  ·rw[z,e']at UQ;cases UQ;cases b4
  ·obtain⟨o,g1,g2⟩:=hic
   rw[z,e']at g1;cases g1;cases g2
 have bmG:bm≠dk:=λz=>by
  obtain⟨o,es,ep,eo,hd,_⟩:=hgs
  rw[z,eo]at UQ;cases UQ;rw[hd]at b6;cases b6
 rcases id hT with e0|⟨c',e0,ec⟩
 ·have tb:=I1.tab e0
  obtain⟨n1,n2,n3⟩:=VI e0 tb
  refine TK.bP (a7 _) (PySem.W.kla_makeFunction (mg:=X.mg) (ps:= #[]) hcl I1.ok.glob hgs hcode hCh tb trivial rfl n1 ⟨bm,ob,b1,b2,bmG,n2,UQ,b4,b5,b6⟩ λc' ctv h' tk hx hge hlt hrec htb hup=>?_)
  have hcn:H1 c'=none:=I1.hok.fresh hge
  have ncP:P≠c':=λz=>off c' hcn z.symm
  have htb':h'.get? P=some (PySem.W.tabObj #[rawInt sO.line,rawInt sO.col,.ref c']):=by
   have:=htb
   rwa [show(#[]:Array a9)++ #[rawInt sO.line,rawInt sO.col,Value.ref c']= #[rawInt sO.line,rawInt sO.col,Value.ref c'] from rfl]at this
  have hoff:∀b u,b≠P->H1 b=some u->upd (upd H1 P (o7 P #[rawInt sO.line,rawInt sO.col,.ref c'])) c' (Q8 c' (X.env.qual++ "<lambda>")) b=some u:=λb u hb q=>by
   rw[au (λz=>by rw[z,hcn]at q;cases q),au hb]
   exact q
  refine after _ (upd (upd H1 P (o7 P #[rawInt sO.line,rawInt sO.col,.ref c'])) c' (Q8 c' (X.env.qual++ "<lambda>"))) _ (I1.Sy e0 hx hge hrec htb' (λb o q=>a8 _ q) hup) hoff (.inr ⟨c',by rw[au ncP,ah],ah⟩) ?_ ⟨_,c',ctv,bo _ rfl,sD (λb o q=>a8 _ q) hrec⟩ ?_ λi v hi=>KO _ _ _ _ _ _ _ _ _ _ _ (hkv i v hi) I1.hok tb e0 hoff
  ·refine SS (λb u hu q=>?_) hq
   rw[au (λz=>by rw[z,hcn]at q;cases q),au (λz=>by rw[z,e0]at q;cases q;exact hu _ rfl)]
   exact q
  ·obtain⟨o,g1,g2⟩:=hic
   exact⟨o,a8 _ (hx _ _ n3 g1),g2⟩
 ·have tb:=I1.tab e0
  obtain⟨n1,n2,n3⟩:=VI e0 tb
  refine TK.bP (a7 _) (PySem.W.kla_makeFunctionHit (mg:=X.mg) (ps:= #[rawInt sO.line,rawInt sO.col,.ref c']) (cv:=.ref c') hcl I1.ok.glob hgs hcode hCh tb ?_ ?_ ⟨bm,ob,b1,b2,bmG,n2,UQ,b4,b5,b6⟩ λctv h' tk kp hsz hup=>?_)
  ·show TriplesOk [rawInt _,rawInt _,_]
   exact trivial
  ·exact codeAmong_snoc [] trivial rfl
  ·obtain⟨o,g1,g2⟩:=hic
   exact after _ H1 _ (I1.kept (λb o q=>a8 _ (kp b o q)) hup) (λb u _ q=>q) hT hq ⟨_,c',ctv,bo _ rfl,sD (λb o q=>a8 _ (kp b o q)) (I1.cd ec)⟩ ⟨o,a8 _ (kp _ _ g1),g2⟩ hkv
end
section
noncomputable def eW(K:PySem.W.Frag)(n:bp):a5:=match PySem.W.nsIn K dk n with
 |some (some (.ref f))=>(match K.lookup f with
  |some ⟨_,_,.func fd,_⟩=>(match fd.code with
   | .ref c=>(match K.lookup c with
    |some ⟨_,_,.fields vs,_⟩=>(match (vs[11]? :Option a9)with|some (.ref P)=>P|_=>0)
    |_=>0)
   |_=>0)
  |_=>0)
 |_=>0
noncomputable def qO(K:PySem.W.Frag)(n:bp):Bool:=match PySem.W.nsIn K dk n with
 |some (some (.ref f))=>(match K.lookup f with
  |some ⟨_,_,.func fd,_⟩=>(match fd.code with
   | .ref c=>PySem.W.codeHdIn K c (eW K n)&&(K.lookup (eW K n)).isNone
   |_=>false)
  |_=>false)
 |_=>false
theorem MZ{K:PySem.W.Frag}{n:bp}{f:a5}{oc:a9}{od:Option a5}{fd:dv}{osl:Array (Option a9)}(h:qO K n=true)(a:PySem.W.nsIn K dk n=some (some (.ref f)))(l:K.lookup f=some ⟨oc,od,.func fd,osl⟩):
  ∃c,fd.code= .ref c/\PySem.W.codeHdIn K c (eW K n)=true:=by
 unfold qO at h
 rw[a]at h
 simp only[l]at h
 split at h
 ·rename_i c hc
  exact⟨c,hc,(Bool.and_eq_true_iff.mp h).1⟩
 ·cases h
theorem Ey{K:PySem.W.Frag}{n:bp}(h:qO K n=true):(∃c,PySem.W.codeHdIn K c (eW K n)=true)/\K.lookup (eW K n)=none:=by
 unfold qO at h
 split at h
 ·split at h
  ·split at h
   ·obtain⟨h1,h2⟩:=Bool.and_eq_true_iff.mp h
    exact⟨⟨_,h1⟩,Option.isNone_iff_eq_none.mp h2⟩
   ·cases h
  ·cases h
 ·cases h
section
variable{P:bn}{w:df}{K:PySem.W.Frag}{mg:bp->Option a9}{base:eJ}
theorem FH.okL{x qual:bp}{st:hV}{f:a5}{fd:dv}{N ps:List bp}{k:Nat}{sp:Sp}(F:FH K x qual st f fd)(abw:qO K x=true)(hns:PySem.W.nsIn K dk x=some (some (.ref f)))(S:aC N ps (av st))(len:∀vs H Q E,sp vs H Q E->vs.length=ps.length)
  (hbody:∀(c:a5) (A:eR) (outer:List Env) (s:ba) (H:Hp) (vs:List V) (Q:VK) (E:XK),PySem.W.codeHdIn K c (eW K x)=true->jL k (A.deeper (envOfC qual (av st) s.heap.objs.size f (.ref c)))->sp vs H Q E →
   ∃t,zQ (sR bS P w K mg base N qual (av st) f (.ref c) A outer s H E).Qz (cV st) t/\t { nx:=λ_ H'=>Q .ia H',rt:=Q } (start N vs) H):aE P w K mg base bS (k+1) f fd ps sp:=by
 obtain⟨oc,od,dV,kV,doc,pm,an,cdv,ct,osl,rfl,lk,hcd⟩:=F.ex
 obtain⟨c,e1,e2⟩:=MZ abw hns lk
 have e1':cdv= .ref c:=e1
 subst e1'
 refine Np lk hcd S len λA outer s H vs Q E hr IL=>?_
 obtain⟨t,h,q⟩:=hbody c A outer s H vs Q E e2 hr IL
 exact⟨t,h.Qz,q⟩
end
set_option maxHeartbeats 1000000 in
theorem JY{P:bn}{w:df}{K:PySem.W.Frag}{mg mb:bp->Option a9}{CX:K7}{k:Nat}{fa a:a5}{ts:List a5}{fd:dv}{x:bp}{sp:Sp}{s₁:ba}{vs:List a9}{ns:List Int}
  (KX:K.In s₁.heap) (hns:s₁.heap.Ns dk mg) (hb:s₁.heap.Ns builtinsNs mb) (hbb:∀x:bp,x≠ "__name__" ->mb x=bootBuiltins x) (hlim:s₁.heap.NoLimit) (hg:s₁.gens= #[]) (htk:Hw mg s₁.toks) (hbm:Ri s₁.heap mg)
  (hT:∀P∈ts,s₁.heap.get? P=some (PySem.W.tabObj #[])) (hTk:∀P∈ts,K.lookup P=none) (hTc:∀P∈ts,∃c,PySem.W.codeHdIn K c P=true)
  (ha:s₁.heap.get? a=some { cls:=.type "list",data:=.seq vs.toArray }) (hi:IntsAre vs ns) (hl:ns.length<=bt) (hr:jL k callerA)
  (F:∀base:eJ,K.In base->base.Ns dk mg->Ri base mg->aE P w K mg base CX k fa fd [x] sp) (hbind:∀(s:ba) (u:a9),BindsTo s fd ⟨[u],[]⟩ [(x,u)])
  (IL:∀H:Hp,(∀P∈ts,H P=some (o7 P #[]))->cy K H a (ns.map V.int)->sp [.ref a] H (λv H'=>v= .bl true/\∀P∈ts,∃ps,H' P=some (o7 P ps)) λ_ _ _=>False)
  (hCX:∀H e s',CX [] H s₁ (λ_ _ _=>False) e s'->False) :
  codeAny (model P w) callerA (.call (.ref fa) ⟨[.ref a],[]⟩) (λr s'=>r= .ok (.ret (.bool true))/\OldK s₁.heap s'.heap/\s'.os=s₁.os/\C_ s'.gens) s₁:=by
 have rv:=AH hi
 have aaV:=hi.length
 have nPa:a∉ts:=λz=>by have:=hT a z;rw[ha]at this;cases this
 have core:∀H:Hp,(∀b,H b=none\/b∈ts\/∃o xs,H b=some (.uR o (.lst xs)))->(∀P∈ts,H P=some (o7 P #[]))->cy K H a (ns.map V.int)->nZ P w H s₁.heap->(∀b,H b≠none->b=a\/b∈ts)->(H a≠none->K.lookup a=none) →
   codeAny (model P w) callerA (.call (.ref fa) ⟨[.ref a],[]⟩) (λr s'=>r= .ok (.ret (.bool true))/\OldK s₁.heap s'.heap/\s'.os=s₁.os/\C_ s'.gens) s₁:=by
  intro H hO hPt hS hok hA hK
  have baseOf:∀{b:a5} {o:mi},s₁.heap.get? b=some o->H b=none->(Ag s₁.heap H).get? b=some o:=λe n=>Nf e n
  have free:∀{b:a5} {o:mi},s₁.heap.get? b=some o->o≠{ cls:=.type "list",data:=.seq vs.toArray }->o≠PySem.W.tabObj #[]->H b=none:=λ{b o} e d1 d2=>by
   cases q:H b with
   |none=>rfl
   |some u =>
    rcases hA b (by rw[q];simp)with e'|e'
    ·subst e';rw[ha]at e;cases e;exact absurd rfl d1
    ·rw[hT b e']at e;cases e;exact absurd rfl d2
  have X6:∀{b:a5} {m:bp->Option a9},s₁.heap.Ns b m->(Ag s₁.heap H).Ns b m:=λ{b m} ⟨o,es,ep,e,d,r⟩=>⟨o,es,ep,baseOf e (free e (λz=>by rw[z]at d;cases d) (λz=>by rw[z]at d;cases d)),d,r⟩
  have hKb:K.In (Ag s₁.heap H):=λb o e=>baseOf (KX b o e) (by
   cases q:H b with
   |none=>rfl
   |some u =>
    rcases hA b (by rw[q];simp)with e'|e'
    ·subst e';rw[hK (by rw[q];simp)]at e;cases e
    ·rw[hTk b e']at e;cases e)
  have hBb:Ri (Ag s₁.heap H) mg:=by
   obtain⟨bm,ob,b1,b2,b3,b4,b5,b6⟩:=hbm
   exact⟨bm,ob,b1,b2,baseOf b3 (free b3 (λz=>by rw[z]at b6;cases b6) (λz=>by rw[z]at b6;cases b6)),b4,b5,b6⟩
  have hM:Mod K mg (Ag s₁.heap H):=⟨hKb,X6 hns,⟨mb,X6 hb,hbb⟩,let ⟨mc,h1,h2⟩:=hlim;⟨mc,X6 h1,h2⟩⟩
  have e0:HG P w K mg (Ag s₁.heap H) callerA [] s₁ H:=⟨rfl,hM,λb o e=>O2 e,Nat.le_of_eq (Kn _ _),trivial,λb hb=>absurd (show b∈([]:List a5) from hb) (by simp),hok,.of_eq hg,htk⟩
  refine tz ((F _ hKb (X6 hns) hBb).run callerA [] s₁ H ⟨[.ref a],[]⟩ [.ref a] [.ref a] _ _ hr e0 (hbind s₁ (.ref a)) (.cons rfl .nil) (IL H hPt hS)) λr s' h=>?_
  cases r with
  |error e=>exact(hCX H e s' h).elim
  |ok fl =>
   cases fl with
   |next=>exact kn h
   |brk=>exact kn h
   |cont=>exact kn h
   |ret u =>
    obtain⟨v,H',os,bare,un,WI,r',_,q,qT⟩:=h
    have q':v= .bl true:=q
    subst q'
    obtain rfl:u=Value.bool true:=r'
    have tb:∀P∈ts,∃ps',s'.heap.get? P=some (PySem.W.tabObj ps'):=λP hP=>by obtain⟨ps',z⟩:=qT P hP;exact⟨ps',(WI P _ z).1⟩
    have kp:∀b o,b∉ts->s₁.heap.get? b=some o->s'.heap.get? b=some o:=λb o Oj e=>by
     cases q:H b with
     |none=>exact un.keep b o e q (by intro z;exact absurd (show b∈([]:List a5) from z) (by simp)) (by simp)
     |some u =>
      rcases hO b with z|z|⟨ob,xs,z⟩
      ·rw[q]at z;cases z
      ·exact absurd z Oj
      ·have z2:=un.sQ b ob _ z
       obtain⟨e1,_⟩:=hok b _ z
       obtain⟨e2,_⟩:=WI b _ z2
       rw[e]at e1;cases e1
       exact e2
    refine⟨rfl,⟨λb o e=>?_,λb o e=>?_⟩,os,bare⟩
    ·by_cases Oj:b∈ts
     ·rw[hT b Oj]at e
      cases e
      obtain⟨c,hc⟩:=hTc b Oj
      obtain⟨ps',e1⟩:=tb b Oj
      have hcd:=PySem.W.codeHd_of_K KX hc
      exact .inr (.inl ⟨(hcd.tab (hT b Oj)).isCodeTable,rfl,#[],ps',rfl,by rw[e1];simp[PySem.W.tabObj]⟩)
     ·exact .inl (kp b o Oj e)
    ·by_cases Oj:b∈ts
     ·obtain⟨ps',e1⟩:=tb b Oj
      exact⟨_,e1⟩
     ·exact⟨o,kp b o Oj e⟩
 have okT:∀(H:Hp) (b:a5),b∈ts->bM P w H s₁.heap b (o7 b #[]):=λH b hb=>HQ (hT b hb)
 cases hk:K.lookup a with
 |some o =>
  have e:=KX a o hk
  rw[ha]at e
  cases e
  refine core (λb=>if b∈ts then some (o7 b #[])else none) (λb=>?_) (λb hb=>if_pos hb) (.inr ⟨_,vs.toArray,_,hk,rfl,rfl,rfl,by rw[d_,aaV];exact hl,by simpa using rv⟩) (λb u z=>?_) (λb z=>?_) λz=>absurd (if_neg nPa) z
  ·by_cases hb:b∈ts
   ·exact .inr (.inl hb)
   ·exact .inl (if_neg hb)
  ·by_cases hb:b∈ts
   ·have z':=(if_pos hb).symm.trans z
    cases z'
    exact okT _ b hb
   ·have z':=(if_neg hb).symm.trans z
    cases z'
  ·by_cases hb:b∈ts
   ·exact .inr hb
   ·exact absurd (if_neg hb) z
 |none =>
  refine core (λb=>if b=a then some (.uR { cls:=.type "list",data:=.seq vs.toArray } (.lst (ns.map V.int)))else if b∈ts then some (o7 b #[])else none) (λb=>?_) (λb hb=>?_) (.inl (.inr ⟨{ cls:=.type "list",data:=.seq vs.toArray },if_pos rfl⟩)) (λb u z=>?_) (λb z=>?_) λ_=>hk
  ·by_cases hb:b=a
   ·exact .inr (.inr ⟨_,_,if_pos hb⟩)
   ·by_cases hb2:b∈ts
    ·exact .inr (.inl hb2)
    ·exact .inl ((if_neg hb).trans (if_neg hb2))
  ·exact(if_neg (λz:b=a=>nPa (z▸hb))).trans (if_pos hb)
  ·by_cases hb:b=a
   ·have z':=(if_pos hb).symm.trans z
    cases z'
    subst hb
    exact⟨ha,by rw[bc];exact hl,vs,_,rv,ha⟩
   ·by_cases hb2:b∈ts
    ·have z':=((if_neg hb).trans (if_pos hb2)).symm.trans z
     cases z'
     exact okT _ b hb2
    ·have z':=((if_neg hb).trans (if_neg hb2)).symm.trans z
     cases z'
  ·by_cases hb:b=a
   ·exact .inl hb
   ·by_cases hb2:b∈ts
    ·exact .inr hb2
    ·exact absurd ((if_neg hb).trans (if_neg hb2)) z
theorem Lk{l:PySem.W.OpenLaw}{n k:Nat}{q:bn}{loose:List bp}{XP:(bp->Option a9)->eJ->Prop}{YP:df->eJ->Prop}{d:DefRec}{K:Params->PySem.W.Frag}{CX:df->K7}{sp:df->Sp}{x:bp}{nms:List bp}
  (hn:l.most=some n) (hn2:n<=bt) (hdf:d.params.defaults=[]) (hr:jL k callerA)
  (hY:∀(w:df) (h:eJ),YP w h->(K w.params).In h) (hYT:∀(w:df) (h:eJ),YP w h->∀nm∈nms,h.get? (eW (K w.params) nm)=some (PySem.W.tabObj #[])) (hL:∀w:df,∀nm∈nms,qO (K w.params) nm=true)
  (hG:∀w:df,PySem.W.nsIn (K w.params) dk "GAP" =some none)
  (F:∀(w:df) (mg:bp->Option a9) (fa:a5) (h:eJ),(K w.params).In h->h.Ns dk mg->mg d.name=some (.ref fa) →
   ∃fd:dv,(∀(s:ba) (u:a9),BindsTo s fd ⟨[u],[]⟩ [(x,u)]) ∧
    ∀base:eJ,(K w.params).In base->base.Ns dk mg->Ri base mg->aE l.prog w (K w.params) mg base (CX w) k fa fd [x] (sp w))
  (IL:∀(w:df) (H:Hp) (a:a5) (ns:List Int),ns.length<=n->(∀nm∈nms,H (eW (K w.params) nm)=some (o7 (eW (K w.params) nm) #[]))->cy (K w.params) H a (ns.map V.int)->sp w [.ref a] H (λv H'=>v= .bl true/\∀nm∈nms,∃ps,H' (eW (K w.params) nm)=some (o7 (eW (K w.params) nm) ps)) λ_ _ _=>False)
  (hCX:∀(w:df) (H:Hp) (s:ba) (e:a9) (s':ba),CX w [] H s (λ_ _ _=>False) e s'->False) :
  PySem.W.WalkO q loose XP YP l.row.toRowW d [] (λf vs=>PySem.call f vs):=by
 refine Att.E3 hn hdf λw s₀ s₁ mg mb fa o pm cd doc a vs ns G Y ho hd hcd hmg hobj hints hlen hg=>?_
 have KX:=hY w _ Y
 obtain⟨fd,hb,hF⟩:=F w mg fa _ KX G.T.g hmg
 have gap:=PySem.W.mg_none_of KX G.T.g (hG w)
 exact JY (ts:=nms.map (eW (K w.params))) KX G.T.g G.T.b G.T.builtins G.T.nolimit hg (λv u e=>by rw[gap]at e;cases e) G.T.bmain
  (λP hP=>by obtain⟨nm,hm,rfl⟩:=gL.mp hP;exact hYT w _ Y nm hm) (λP hP=>by obtain⟨nm,hm,rfl⟩:=gL.mp hP;exact(Ey (hL w nm hm)).2) (λP hP=>by obtain⟨nm,hm,rfl⟩:=gL.mp hP;exact(Ey (hL w nm hm)).1)
  hobj hints (bj hlen hn2) hr hF hb (λH hO hS=>by
   have z:=IL w H a ns hlen (λnm hm=>hO _ (gL.mpr ⟨nm,hm,rfl⟩)) hS
   have e:(λ(v:V) (H':Hp)=>v= .bl true/\∀P∈nms.map (eW (K w.params)),∃ps,H' P=some (o7 P ps))=λv H'=>v= .bl true/\∀nm∈nms,∃ps,H' (eW (K w.params) nm)=some (o7 (eW (K w.params) nm) ps):=by
    funext v H'
    simp
   rw[e]
   exact z) λH e s'=>hCX w H s₁ e s'
end
end L2
namespace GP
open PySem L2 rW
noncomputable def xj:List Int->Int
 |[]=>0
 |x::xs=>xs.foldl min x
theorem ua:∀(l:List Int) (x:Int),l.foldl min x<=x/\∀y∈l,l.foldl min x<=y
 |[],x=>⟨Int.le_refl _,λy hy=>(nomatch hy)⟩
 |a::l,x=>by
  obtain⟨h1,h2⟩:=ua l (min x a)
  rw[tf]
  refine⟨by omega,λy hy=>?_⟩
  rcases c_.mp hy with rfl|hy
  ·omega
  ·exact h2 y hy
theorem wK:∀(l:List Int) (x:Int),l.foldl min x=x\/l.foldl min x∈l
 |[],x=>.inl rfl
 |a::l,x=>by
  rw[tf]
  rcases wK l (min x a)with h|h
  ·rw[h]
   by_cases e:x<=a
   ·exact .inl (by omega)
   ·rw[show min x a=a by omega]
    exact .inr cr
  ·exact .inr (ce _ h)
theorem Ci{l:List Int}{x:Int}(h:x∈l):xj l<=x:=by
 cases l with
 |nil=>exact nomatch h
 |cons a l =>
  rcases c_.mp h with rfl|h
  ·exact(ua l _).1
  ·exact(ua l a).2 x h
theorem Es{l:List Int}(h:l≠[]):xj l∈l:=by
 cases l with
 |nil=>exact absurd rfl h
 |cons a l =>
  rcases wK l a with h|h
  ·exact c_.mpr (.inl h)
  ·exact ce _ h
theorem O8{l:List Int}{x:Int}(h:x∈l)(h2:∀y∈l,x<=y):xj l=x:=Int.le_antisymm (Ci h) (h2 _ (Es (wa h)))
noncomputable def fmin{α:Type}(f:α->Int):List α->Option α
 |[]=>none
 |x::xs=>match fmin f xs with
  |none=>some x
  |some y=>if f y<f x then some y else some x
theorem mW{α:Type}{f:α->Int}:∀{l:List α} {x:α},fmin f l=some x->x∈l
 |[],x,h=>by cases h
 |a::l,x,h=>by
  unfold fmin at h
  split at h
  ·cases h;exact cr
  ·next y e =>
   split at h
   ·cases h;exact ce _ (mW e)
   ·cases h;exact cr
theorem xR{α:Type}{f:α->Int}:∀{l:List α} {k:Nat} {x:α},l[k]? =some x->(∀j y,l[j]? =some y->f x<=f y/\(j<k->f x<f y))->fmin f l=some x
 |[],k,x,h,_=>by simp at h
 |a::l,0,x,h,hx=>by
  obtain rfl:a=x:=by simpa using h
  unfold fmin
  split
  ·rfl
  ·next y e =>
   obtain⟨j,hj,ey⟩:=n_ (mW e)
   have:=(hx (j+1) y (by simpa using(bd.mpr ⟨hj,ey⟩))).1
   rw[if_neg (by omega)]
 |a::l,k+1,x,h,hx=>by
  have e:fmin f l=some x:=xR (k:=k) (by simpa using h) λj y hy=>by
   have:=hx (j+1) y (by simpa using hy)
   exact⟨this.1,λz=>this.2 (by omega)⟩
  unfold fmin
  rw[e]
  have:=(hx 0 a rfl).2 (by omega)
  simp[this]
theorem sH{α:Type}{f:α->Int}{l:List α}(h:l≠[]):∃x,fmin f l=some x:=by
 cases l with
 |nil=>exact absurd rfl h
 |cons a l =>
  unfold fmin
  split
  ·exact⟨_,rfl⟩
  ·split<;>exact⟨_,rfl⟩
theorem xS{α:Type}{f:α->Int}:∀{l:List α} {x y:α},fmin f l=some x->y∈l->f x<=f y
 |[],x,y,h,_=>by cases h
 |a::l,x,y,h,hy=>by
  unfold fmin at h
  split at h
  ·next e =>
   cases h
   rcases c_.mp hy with rfl|hy
   ·exact Int.le_refl _
   ·obtain⟨z,ez⟩:=sH (f:=f) (wa hy)
    rw[e]at ez;cases ez
  ·next z e =>
   have k:=λhy=>xS (y:=y) e hy
   split at h
   ·cases h
    rcases c_.mp hy with rfl|hy
    ·omega
    ·exact k hy
   ·cases h
    rcases c_.mp hy with rfl|hy
    ·exact Int.le_refl _
    ·have:=k hy;omega
noncomputable abbrev bu:=Nat×Nat×Nat
structure Gd where
 n:Nat
 m:Nat
 pc:Nat->Nat->Int
 op:Int
 mo:Int
 en:Nat->Nat->Bool
noncomputable def Gd.ac(g:Gd)(v c:Nat):Int:=if v=c then g.mo else g.op+g.mo
noncomputable def Gd.steps(g:Gd)(s:bu):List (bu×Int) :=
 (if s.1<g.n/\s.2.1<g.m then [((s.1+1,s.2.1+1,112),g.pc s.1 s.2.1)]else [])++((if s.1<g.n then [((s.1+1,s.2.1,97),g.ac 97 s.2.2)]else [])++(if s.2.1<g.m then [((s.1,s.2.1+1,98),g.ac 98 s.2.2)]else []))
noncomputable def Gd.costs(g:Gd)(R:bu->Int)(s:bu):List Int:=(g.steps s).map (λt=>t.2+R t.1)++if g.en s.1 s.2.1 then [0]else []
noncomputable def Gd.Qu(g:Gd):Nat->bu->Int
 | 0,_=>0
 |d+1,s=>xj (g.costs (g.Qu d) s)
noncomputable def Gd.ht(g:Gd)(s:bu):Nat:=g.n-s.1+(g.m-s.2.1)
noncomputable def Gd.rest(g:Gd)(s:bu):Int:=g.Qu (g.ht s+1) s
noncomputable def Gd.In(g:Gd)(s:bu):Prop:=s.1<=g.n/\s.2.1<=g.m/\(s.2.2=112\/s.2.2=97\/s.2.2=98)
theorem Gd.fq{g:Gd}{s:bu}{t:bu×Int}:t∈g.steps s↔(s.1<g.n/\s.2.1<g.m/\t=((s.1+1,s.2.1+1,112),g.pc s.1 s.2.1))\/(s.1<g.n/\t=((s.1+1,s.2.1,97),g.ac 97 s.2.2))\/(s.2.1<g.m/\t=((s.1,s.2.1+1,98),g.ac 98 s.2.2)):=by
 unfold Gd.steps
 simp only[e_]
 by_cases h1:s.1<g.n<;>by_cases h2:s.2.1<g.m<;>simp[h1,h2]
theorem Gd.mq{g:Gd}{s:bu}{t:bu×Int}(h:t∈g.steps s)(hs:g.In s):g.In t.1:=by
 obtain⟨h1,h2,_⟩:=hs
 rcases Gd.fq.mp h with⟨a,b,rfl⟩|⟨a,rfl⟩|⟨a,rfl⟩
 ·exact⟨a,b,.inl rfl⟩
 ·exact⟨a,h2,.inr (.inl rfl)⟩
 ·exact⟨h1,a,.inr (.inr rfl)⟩
theorem Gd.fK{g:Gd}{s:bu}{t:bu×Int}(h:t∈g.steps s):g.ht t.1<g.ht s:=by
 unfold Gd.ht
 rcases Gd.fq.mp h with⟨a,b,rfl⟩|⟨a,rfl⟩|⟨a,rfl⟩<;>simp only<;>omega
theorem Gd.rR{g:Gd}{R R':bu->Int}{s:bu}(h:∀t∈g.steps s,R t.1=R' t.1):g.costs R s=g.costs R' s:=by
 unfold Gd.costs
 rw[List.map_congr_left λt ht=>by rw[h t ht]]
theorem Gd.yp{g:Gd}:∀(d:Nat) (s:bu),g.ht s<d->g.Qu d s=g.rest s
 | 0,_,h=>by omega
 |d+1,s,h=>by
  have e1:∀t∈g.steps s,g.Qu d t.1=g.rest t.1:=λt ht=>Gd.yp d t.1 (by have:=Gd.fK ht;omega)
  by_cases hd:d=g.ht s
  ·subst hd;rfl
  ·have e2:∀t∈g.steps s,g.Qu (g.ht s) t.1=g.rest t.1:=λt ht=>by
    have:=Gd.fK ht
    have hlt:g.ht s<d:=by omega
    exact Gd.yp (g.ht s) t.1 this
   show xj (g.costs (g.Qu d) s)=xj (g.costs (g.Qu (g.ht s)) s)
   rw[Gd.rR e1,Gd.rR e2]
 termination_by d=>d
theorem Gd.rest_eq(g:Gd)(s:bu):g.rest s=xj (g.costs g.rest s):=by
 show xj (g.costs (g.Qu (g.ht s)) s)=_
 rw[Gd.rR λt ht=>Gd.yp _ t.1 (Gd.fK ht)]
noncomputable def Gd.Ok(g:Gd):Prop:=g.en g.n g.m=true
theorem Gd.EX{g:Gd}(ok:g.Ok){R:bu->Int}{s:bu}(hs:g.In s):g.costs R s≠[]:=by
 unfold Gd.costs Gd.steps
 obtain⟨h1,h2,_⟩:=hs
 by_cases a:s.1<g.n
 ·simp[a]
 ·by_cases b:s.2.1<g.m
  ·simp[b]
  ·have e1:s.1=g.n:=by omega
   have e2:s.2.1=g.m:=by omega
   have ok':g.en g.n g.m=true:=ok
   rw[e1,e2,ok']
   simp
noncomputable def Gd.stop(g:Gd)(s:bu):Bool:=g.en s.1 s.2.1&&decide (g.rest s=0)
noncomputable def Gd.key(g:Gd)(t:bu×Int):Int:=t.2+g.rest t.1
noncomputable def Gd.Lb(g:Gd)(s:bu):bu:=((fmin g.key (g.steps s)).map (·.1)).getD s
theorem Gd.go{g:Gd}(ok:g.Ok){s:bu}(hs:g.In s)(h:g.stop s=false):∃t,fmin g.key (g.steps s)=some t/\t∈g.steps s/\g.Lb s=t.1/\g.key t=g.rest s/\∀u∈g.steps s,g.key t<=g.key u:=by
 have hm:=Es (Gd.EX ok (R:=g.rest) hs)
 rw[←g.rest_eq]at hm
 have hx:g.rest s∈(g.steps s).map g.key:=by
  rcases e_.mp hm with hm|hm
  ·exact hm
  ·exfalso
   unfold Gd.stop at h
   by_cases e:g.en s.1 s.2.1=true
   ·rw[if_pos e]at hm
    have:g.rest s=0:=by simpa using hm
    rw[e,this]at h
    simp at h
   ·rw[if_neg e]at hm
    exact nomatch hm
 obtain⟨u,hu,eu⟩:=gL.mp hx
 obtain⟨t,ht⟩:=sH (f:=g.key) (wa hu)
 refine⟨t,ht,mW ht,by unfold Gd.Lb;rw[ht];rfl,?_,λv hv=>xS ht hv⟩
 have h1:=xS ht hu
 have h2:g.rest s<=g.key t:=by
  rw[g.rest_eq]
  exact Ci (hJ _ (gL.mpr ⟨t,mW ht,rfl⟩))
 omega
noncomputable def Gd.way(g:Gd):Nat->bu->List Nat
 | 0,_=>[]
 |d+1,s=>if g.stop s then []else(g.Lb s).2.2::g.way d (g.Lb s)
noncomputable def Gd.moves(g:Gd)(s:bu):List Nat:=g.way (g.ht s) s
theorem Gd.xX{g:Gd}(ok:g.Ok):∀(d:Nat) (s:bu),g.In s->g.ht s<=d->g.way d s=g.moves s
 | 0,s,_,h=>by unfold Gd.moves;rw[Nat.le_zero.mp h]
 |d+1,s,hs,h=>by
  by_cases e:g.stop s=true
  ·unfold Gd.moves
   cases k:g.ht s with
   |zero=>simp[Gd.way,e]
   |succ k=>simp[Gd.way,e]
  ·have e':g.stop s=false:=by simpa using e
   obtain⟨t,_,ht,en,_⟩:=g.go ok hs e'
   have h1:=Gd.fK ht
   have h2:=Gd.mq ht hs
   obtain⟨k,ek⟩:∃k,g.ht s=k+1:=⟨g.ht s-1,by omega⟩
   unfold Gd.moves
   rw[ek]
   show(if g.stop s then []else(g.Lb s).2.2::g.way d (g.Lb s))=(if g.stop s then []else(g.Lb s).2.2::g.way k (g.Lb s))
   rw[en,Gd.xX ok d t.1 h2 (by omega),Gd.xX ok k t.1 h2 (by omega)]
 termination_by d=>d
theorem Gd.qt{g:Gd}{s:bu}(h:g.stop s=true):g.moves s=[]:=by
 unfold Gd.moves
 cases g.ht s with
 |zero=>rfl
 |succ k=>simp[Gd.way,h]
theorem Gd.uK{g:Gd}(ok:g.Ok){s:bu}(hs:g.In s)(h:g.stop s=false):g.moves s=(g.Lb s).2.2::g.moves (g.Lb s):=by
 obtain⟨t,_,ht,en,_⟩:=g.go ok hs h
 have h1:=Gd.fK ht
 have h2:=Gd.mq ht hs
 have e:g.moves s=g.way (g.ht s-1+1) s:=by unfold Gd.moves;rw[show g.ht s-1+1=g.ht s by omega]
 rw[e]
 show(if g.stop s then []else(g.Lb s).2.2::g.way (g.ht s-1) (g.Lb s))=_
 rw[h,en,Gd.xX ok _ t.1 h2 (by omega)]
 rfl
theorem Gd.A5{g:Gd}(s:bu):(g.moves s).length<=g.ht s:=by
 have:∀(d:Nat) (s:bu),(g.way d s).length<=d:=λd=>by
  induction d with
  |zero=>intro s;exact a7 _
  |succ d ih =>
   intro s
   unfold Gd.way
   split
   ·exact d0 _
   ·rw[eM];exact i5 (ih _)
 exact this _ s
noncomputable def Gd.walk(g:Gd):bu->List Nat->Option (Int×bu)
 |s,[]=>some (0,s)
 |s,v::vs=>match (g.steps s).find? (λt=>t.1.2.2==v)with
  |none=>none
  |some t=>(g.walk t.1 vs).map λr=>(t.2+r.1,r.2)
theorem Gd.Jp{g:Gd}{s:bu}{t:bu×Int}(h:t∈g.steps s):(g.steps s).find? (λu=>u.1.2.2==t.1.2.2)=some t:=by
 unfold Gd.steps at h ⊢
 by_cases h1:s.1<g.n<;>by_cases h2:s.2.1<g.m<;>simp[h1,h2]at h ⊢
 ·rcases h with rfl|rfl|rfl<;>simp[ft]
 ·subst h;simp
 ·subst h;simp
theorem Gd.qa{g:Gd}(ok:g.Ok):∀(d:Nat) (s:bu),g.In s->g.ht s<=d->∃e,g.walk s (g.moves s)=some (g.rest s,e)/\g.In e/\g.en e.1 e.2.1=true
 |d,s,hs,hd=>by
  by_cases e:g.stop s=true
  ·rw[Gd.qt e]
   unfold Gd.stop at e
   rw[ll]at e
   refine⟨s,?_,hs,e.1⟩
   rw[of_decide_eq_true e.2]
   rfl
  ·have e':g.stop s=false:=by simpa using e
   obtain⟨t,_,ht,en,ek,_⟩:=g.go ok hs e'
   have h1:=Gd.fK ht
   have h2:=Gd.mq ht hs
   cases d with
   |zero=>omega
   |succ d =>
    obtain⟨f,hf,hfi,hfe⟩:=Gd.qa ok d t.1 h2 (by omega)
    refine⟨f,?_,hfi,hfe⟩
    rw[Gd.uK ok hs e',en]
    unfold Gd.walk
    rw[Gd.Jp ht]
    show(g.walk t.1 (g.moves t.1)).map _=_
    rw[hf]
    show some (t.2+g.rest t.1,f)=_
    rw[show t.2+g.rest t.1=g.rest s from ek]
 termination_by d=>d
noncomputable def placesOf(n m:Nat):List (Nat×Nat):=(fe (n+1)).flatMap λi=>(fe (m+1)).map λj=>(i,j)
noncomputable def three(p:Nat×Nat):List bu:=[(p.1,p.2,112),(p.1,p.2,97),(p.1,p.2,98)]
noncomputable def c8(ps:List (Nat×Nat)):List bu:=ps.flatMap three
theorem lQ{n m:Nat}{p:Nat×Nat}:p∈placesOf n m↔p.1<=n/\p.2<=m:=by
 unfold placesOf
 simp only[List.mem_flatMap,o0,gL]
 constructor
 ·rintro⟨i,hi,j,hj,rfl⟩
  exact⟨by show i<=n;omega,by show j<=m;omega⟩
 ·rintro⟨h1,h2⟩
  exact⟨p.1,by omega,p.2,by omega,rfl⟩
theorem nP{p:Nat×Nat}{s:bu}:s∈three p↔s.1=p.1/\s.2.1=p.2/\(s.2.2=112\/s.2.2=97\/s.2.2=98):=by
 obtain⟨a,b,c⟩:=s
 simp only[three,c_,hZ,or_false,BM]
 constructor
 ·rintro(⟨h1,h2,h3⟩|⟨h1,h2,h3⟩|⟨h1,h2,h3⟩)
  ·exact⟨h1,h2,.inl h3⟩
  ·exact⟨h1,h2,.inr (.inl h3)⟩
  ·exact⟨h1,h2,.inr (.inr h3)⟩
 ·rintro⟨h1,h2,h3|h3|h3⟩
  ·exact .inl ⟨h1,h2,h3⟩
  ·exact .inr (.inl ⟨h1,h2,h3⟩)
  ·exact .inr (.inr ⟨h1,h2,h3⟩)
theorem gW{ps:List (Nat×Nat)}{s:bu}:s∈c8 ps↔(s.1,s.2.1)∈ps/\(s.2.2=112\/s.2.2=97\/s.2.2=98):=by
 unfold c8
 rw[List.mem_flatMap]
 constructor
 ·rintro⟨p,hp,h⟩
  obtain⟨h1,h2,h3⟩:=nP.mp h
  rw[h1,h2]
  exact⟨hp,h3⟩
 ·rintro⟨hp,h⟩
  exact⟨_,hp,nP.mpr ⟨rfl,rfl,h⟩⟩
noncomputable def Gd.states(g:Gd):List bu:=c8 (placesOf g.n g.m)
theorem Gd.gW{g:Gd}{s:bu}:s∈g.states↔g.In s:=by
 unfold Gd.states Gd.In
 rw[GP.gW,lQ]
 exact⟨λ⟨⟨a,b⟩,c⟩=>⟨a,b,c⟩,λ⟨a,b,c⟩=>⟨⟨a,b⟩,c⟩⟩
theorem places_len(n m:Nat):(placesOf n m).length=(n+1)*(m+1):=by
 unfold placesOf
 have:∀l:List Nat,(l.flatMap λi=>(fe (m+1)).map λj=>(i,j)).length=l.length*(m+1):=λl=>by
  induction l with
  |nil=>simp
  |cons a l ih=>rw[List.flatMap_cons,cn,ih,bc,i_,eM,Nat.succ_mul,Nat.add_comm]
 rw[this,i_]
theorem ye(ps:List (Nat×Nat)):(c8 ps).length=3*ps.length:=by
 induction ps with
 |nil=>rfl
 |cons a l ih =>
  show(three a++c8 l).length=_
  rw[cn,ih,eM]
  show 3+_=_
  omega
noncomputable def Qw(a b:Nat×Nat):Prop:=a.1<b.1\/(a.1=b.1/\a.2<b.2)
theorem AW(n m:Nat):(placesOf n m).Pairwise Qw:=by
 unfold placesOf
 refine List.pairwise_flatMap.mpr ⟨λi _=>?_,?_⟩
 ·rw[List.pairwise_map]
  exact(List.pairwise_lt_range).imp λh=>.inr ⟨rfl,h⟩
 ·refine(List.pairwise_lt_range).imp λ{a b} h=>?_
  intro x hx y hy
  obtain⟨_,_,rfl⟩:=gL.mp hx
  obtain⟨_,_,rfl⟩:=gL.mp hy
  exact .inl h
theorem Gp{a:Nat×Nat}:¬Qw a a:=λh=>by rcases h with h|h<;>omega
theorem Jq{ps:List (Nat×Nat)}(h:ps.Pairwise Qw):(c8 ps).Pairwise λa b=>¬Qw (b.1,b.2.1) (a.1,a.2.1):=by
 unfold c8
 refine List.pairwise_flatMap.mpr ⟨λp _=>?_,h.imp λ{a b} hab=>?_⟩
 ·refine List.pairwise_of_forall_mem_list λa ha b hb z=>?_
  obtain⟨a1,a2,_⟩:=nP.mp ha
  obtain⟨b1,b2,_⟩:=nP.mp hb
  rw[a1,a2,b1,b2]at z
  exact Gp z
 ·intro x hx y hy z
  obtain⟨a1,a2,_⟩:=nP.mp hx
  obtain⟨b1,b2,_⟩:=nP.mp hy
  rw[a1,a2,b1,b2]at z
  unfold Qw at hab z
  simp only at z
  omega
theorem Gd.DH{g:Gd}{s:bu}{t:bu×Int}(h:t∈g.steps s):Qw (s.1,s.2.1) (t.1.1,t.1.2.1):=by
 unfold Qw
 rcases Gd.fq.mp h with⟨a,b,rfl⟩|⟨a,rfl⟩|⟨a,rfl⟩
 ·exact .inl (k_ _)
 ·exact .inl (k_ _)
 ·exact .inr ⟨rfl,k_ _⟩
theorem Gd.DJ{g:Gd}{k:Nat}{s:bu}{t:bu×Int}(hk:g.states[k]? =some s)(h:t∈g.steps s):t.1∈g.states.drop (k+1):=by
 have hs:=Gd.gW.mp (cx hk)
 have ht:=Gd.gW.mpr (Gd.mq h hs)
 have WR:=(bd.mp hk).1
 have pw:=Jq (AW g.n g.m)
 have e:c8 (placesOf g.n g.m)=g.states.take (k+1)++g.states.drop (k+1):=(oy _ _).symm
 have ht':t.1∈g.states.take (k+1)++g.states.drop (k+1):=by rw[←e];exact ht
 rcases e_.mp ht' with z|z
 ·exfalso
  rw[take_snoc hk]at z
  rcases e_.mp z with z|z
  ·have e2:c8 (placesOf g.n g.m)=g.states.take k++g.states.drop k:=(oy _ _).symm
   rw[e2]at pw
   have hsd:s∈g.states.drop k:=by
    rw[ot WR]
    have:=(bd.mp hk).2
    rw[this]
    exact cr
   exact(List.pairwise_append.mp pw).2.2 _ z _ hsd (Gd.DH h)
  ·have z1:=Gd.DH h
   rw[cq.mp z]at z1
   exact Gp z1
 ·exact z
end GP
namespace L2
open PySem PySem.Spec PyProof.Rows PySem.W
theorem wN(f:Nat->Int):∀k,argBest (λi j=>decide (f i<f j)) k<=k/\∀j,j<=k->f (argBest (λi j=>decide (f i<f j)) k)<=f j
 | 0=>⟨a7 _,λj hj=>by rw[Nat.le_zero.mp hj];exact Int.le_refl _⟩
 |k+1=>by
  obtain⟨h1,h2⟩:=wN f k
  unfold argBest
  by_cases c:f (k+1)<f (argBest (λi j=>decide (f i<f j)) k)
  ·rw[if_pos (decide_eq_true c)]
   refine⟨a7 _,λj hj=>?_⟩
   by_cases e:j=k+1
   ·rw[e];exact Int.le_refl _
   ·have:=h2 j (by omega);omega
  ·rw[if_neg (by rw[decide_eq_false c];exact cw)]
   refine⟨by omega,λj hj=>?_⟩
   by_cases e:j=k+1
   ·rw[e];omega
   ·exact h2 j (by omega)
theorem IG:∀{ns:List Int} {us:List a9},Vals (ns.map V.int) us->∀(i:Nat) (v:a9),us[i]? =some v->∃n t,ns[i]? =some n/\v= .int n t
 |[],_,r=>λi v e=>by cases r;simp at e
 |n::ns,_,r=>by
  cases r with
  |cons r1 r2 =>
   intro i v e
   cases i with
   |zero =>
    simp at e
    subst e
    obtain⟨t,z⟩:=r1
    exact⟨n,t,rfl,z⟩
   |succ i=>exact IG r2 i v e
theorem KJ{X:Cx}(hc:X.calm=true):pY X (.builtin "min") (λxs H Q=>∃(l:a5) (ns:List Int),xs=[.ref l]/\cy X.K H l (ns.map V.int)/\ns≠[]/\Q (.int (GP.xj ns)) H):=by
 intro pins s σ H xs us Q I r h
 obtain⟨l,ns,rfl,hl,hne,q⟩:=h
 obtain⟨u,rfl,ru⟩:=vals1 r
 cases ru
 obtain⟨its,rv,p,hz⟩:=I.list hl
 have pl:s.heap.IsList l its.toArray:=p.isList
 have hlt:l<s.heap.objs.size:=by obtain⟨_,e,_⟩:=pl;exact cm e
 have hlen:ns.length=its.length:=by rw[←rv.length,bc]
 have hpos:0<ns.length:=xl.mpr hne
 refine TK.bP (a7 s.toks) ?_
 refine call_min_walk (pi pl ?_)
 have hval:∀(i:Nat) (v:a9),its.toArray[i]? =some v->∃t,v= .int ((ns[i]?).getD 0) t:=λi v hP=>by
  obtain⟨n,t,e,rfl⟩:=IG rv i v (by simpa using hP)
  exact⟨t,by rw[e];rfl⟩
 refine⟨s.heap.objs.size,[s.heap.objs.size,l],[s.heap.objs.size],its.toArray.size,_,_,_,rfl,Walks.list (A:=X.A.in1) (I.ok.hd hc) _ l (eA hlt) its.toArray,
  ⟨⟨_,bo _ rfl,rfl,rfl⟩,pl.push _⟩,λb hb=>?_,by rw[d_];omega,CmpOf.ints_lt (λi=>(ns[i]?).getD 0) hval,λv h' tk hP hk hup=>?_⟩
 ·show b<(s.heap.push _).objs.size
  rw[l_]
  rcases c_.mp hb with rfl|z
  ·exact k_ _
  ·rw[cq.mp z]
   exact Nat.lt_succ_of_lt hlt
 ·obtain⟨t,rfl⟩:=hval _ v hP
  obtain⟨b1,b2⟩:=wN (λi=>(ns[i]?).getD 0) (its.toArray.size-1)
  have hsz:its.toArray.size=ns.length:=by rw[d_,hlen]
  rw[hsz]at b1 b2 ⊢
  have hb:argBest (λi j=>decide ((ns[i]?).getD 0<(ns[j]?).getD 0)) (ns.length-1)<ns.length:=by omega
  have e:GP.xj ns=(ns[argBest (λi j=>decide ((ns[i]?).getD 0<(ns[j]?).getD 0)) (ns.length-1)]?).getD 0:=by
   refine GP.O8 ?_ λy hy=>?_
   ·rw[a6 hb]
    exact kb hb
   ·obtain⟨j,hj,ej⟩:=n_ hy
    have z:=b2 j (by omega)
    rw[a6 hj,ej]at z
    exact z
  refine⟨.int (GP.xj ns),H,I.kept (t':=tk) (λb x e=>hk b x (λhm=>?_) (a8 _ e)),⟨t,by rw[e]⟩,q⟩
  rw[cq.mp hm]at e
  exact f8 _ (cm e)
theorem tY{A:eR}{k:Nat}(hr:jL k A):A.units+2<cLine:=bv (Nat.add_le_add_left (by decide:2<=64) _) hr.units
theorem IK{A:eR}{k:Nat}(hr:jL k A):A.units+16<cLine:=bv (Nat.add_le_add_left (by decide:16<=64) _) hr.units
theorem BS{k:Nat}{A:eR}(h:jL k A):A.depth<recursionLimit:=by have:=h.dp;omega
theorem Mx(kvs:List NE)(k j:NK)(q:a5)(v:V):lH (uH kvs k q v) j=if j=k then some v else lH kvs j:=by
 have ap:∀l:List NE,lH (l++[(k,q,v)]) j=(lH l j).or (if k=j then some v else none):=λl=>by
  induction l with
  |nil =>
   by_cases e:k=j
   ·rw[if_pos e];exact kZ (p:=(k,q,v)) (ps:=[]) e
   ·rw[if_neg e];exact iT (p:=(k,q,v)) (ps:=[]) e
  |cons x l ih =>
   by_cases e:x.1=j
   ·rw[xa,kZ e,kZ e];rfl
   ·rw[xa,iT e,iT e,ih]
 have mp:∀l:List NE,lH (l.map λx=>if x.1=k then(x.1,x.2.1,v)else x) j=if j=k then(lH l k).map λ_=>v else lH l j:=λl=>by
  induction l with
  |nil=>by_cases e:j=k<;>simp[e,lH]
  |cons x l ih =>
   rw[g0]
   by_cases e:x.1=k
   ·rw[if_pos e]
    by_cases ej:x.1=j
    ·rw[kZ (p:=(x.1,x.2.1,v)) ej,if_pos (ej.symm.trans e),kZ e];rfl
    ·rw[iT (p:=(x.1,x.2.1,v)) ej,ih,if_neg (λz=>ej (e.trans z.symm)),if_neg (λz=>ej (e.trans z.symm)),iT ej]
   ·rw[if_neg e]
    by_cases ej:x.1=j
    ·have nj:¬j=k:=λz=>e (ej.trans z)
     rw[kZ ej,if_neg nj,kZ ej]
    ·rw[iT ej,ih,iT ej,iT e]
 unfold uH
 by_cases h:(lH kvs k).isSome=true
 ·rw[if_pos h,mp]
  by_cases e:j=k
  ·rw[if_pos e,if_pos e]
   obtain⟨u,hu⟩:=tJ.mp h
   rw[hu];rfl
  ·rw[if_neg e,if_neg e]
 ·rw[if_neg h,ap]
  have hn:lH kvs k=none:=by simpa using h
  by_cases e:j=k
  ·rw[if_pos e.symm,if_pos e,e,hn];rfl
  ·rw[if_neg (Ne.symm e),if_neg e]
   cases lH kvs j<;>rfl
theorem JL{H:Hp}{kvs:List NE}{k:NK}{q:a5}{v:V}(h:∀x∈kvs,mY H x.2.1 x.1)(hk:mY H q k):∀x∈uH kvs k q v,mY H x.2.1 x.1:=by
 unfold uH
 intro x hx
 split at hx
 ·obtain⟨y,hy,e⟩:=gL.mp hx
  have z:=h y hy
  split at e
  ·rw[←e];exact z
  ·rw[←e];exact z
 ·rcases e_.mp hx with hx|hx
  ·exact h x hx
  ·rw[cq.mp hx];exact hk
end L2
namespace GP
open PySem L2 rW
section
structure Da(K:PySem.W.Frag)(mg:bp->Option a9)(x y:bp)(st:hV)(ps:List bp)(f:a5)(fd:dv):Prop where
 fn:FH K y y st f fd
 b:Binds K fd ps []
 m:mg x=some (.ref f)
noncomputable def Nt(H:Hp):Hp:=λb=>match H b with|some (.ext _)=>none|r=>r
theorem Nt.sub{H:Hp}:aj (Nt H) H:=λb u h=>by
 unfold Nt at h
 split at h
 ·cases h
 ·exact h
theorem Nt.no{H:Hp}{b:a5}{u:HO}(h:Nt H b=some u)(φ:eJ->Prop):u≠ .ext φ:=λz=>by
 unfold Nt at h
 split at h
 ·cases h
 ·next n=>rw[z]at h;exact n φ h
theorem Nt.in{H:Hp}{b:a5}{u:HO}(n:∀ φ,u≠ .ext φ)(h:H b=some u):Nt H b=some u:=by
 unfold Nt
 rw[h]
 split
 ·next φ e=>exact absurd (dA e) (n φ)
 ·rfl
theorem Nt.tup{H:Hp}{b:a5}{xs:List V}(h:H b=some (.tup xs)):Nt H b=some (.tup xs):=Nt.in (λ_ z=>by cases z) h
theorem Nt.lst{H:Hp}{b:a5}{xs:List V}(h:H b=some (.lst xs)):Nt H b=some (.lst xs):=Nt.in (λ_ z=>by cases z) h
theorem Nt.seq{K:PySem.W.Frag}{H:Hp}{a:a5}{xs:List V}(h:cy K H a xs):cy K (Nt H) a xs:=by
 rcases h with(h|⟨o,h⟩)|h
 ·exact .inl (.inl (Nt.lst h))
 ·exact .inl (.inr ⟨o,Nt.in (λ_ z=>by cases z) h⟩)
 ·exact .inr h
theorem Nt.Vo{K:PySem.W.Frag}{H:Hp}{a:a5}{xs:List V}(h:cE K H a xs):cE K (Nt H) a xs:=by
 rcases h with(h|⟨o,h⟩)|h
 ·exact .inl (.inl (Nt.tup h))
 ·exact .inl (.inr ⟨o,Nt.in (λ_ z=>by cases z) h⟩)
 ·exact .inr h
theorem Nt.row{K:PySem.W.Frag}{H:Hp}{q:a5}{r:List bT}(h:lE K H (.tup q) r):lE K (Nt H) (.tup q) r:=by
 obtain⟨ps,a,b⟩:=h
 exact⟨ps,Nt.Vo a,Paired.g8 b λ_ _ z=>Nt.Vo z⟩
theorem nO.nt{K:PySem.W.Frag}{C:a5}{H:Hp}{x:a5}{sg:bp}{rows:List (List bT)}{fo fm:bT}(h:nO K C H x sg rows fo fm):nO K C (Nt H) x sg rows fo fm:=by
 obtain⟨a,b,c,d,f,g,i,dx,P,o,m,dd,kvs,h1,⟨qs,q1,q2⟩,h3,h4,h5,h6,fs,h7,h8,h9⟩:=h
 exact⟨a,b,c,d,f,g,i,dx,P,o,m,dd,kvs,Nt.in (λ_ z=>by cases z) h1,⟨qs,Nt.Vo q1,Paired.g8 q2 λ_ _ z=>Nt.row z⟩,Nt.Vo h3,Nt.Vo h4,Nt.in (λ_ z=>by cases z) h5,h6,fs,h7,h8,Nt.lst h9⟩
noncomputable def um(H:Hp):Hp:=λb=>match H b with|some (.tup xs)=>some (.tup xs)|some (.lst xs)=>some (.lst xs)|_=>none
theorem um.tup{H:Hp}{b:a5}{xs:List V}(h:H b=some (.tup xs)):um H b=some (.tup xs):=by unfold um;rw[h]
theorem um.lst{H:Hp}{b:a5}{xs:List V}(h:H b=some (.lst xs)):um H b=some (.lst xs):=by unfold um;rw[h]
theorem um.of{H H':Hp}(h:∀b u,(∀ φ,u≠ .ext φ)->(∀C dx fs,u≠ .ins C dx fs)->H b=some u->H' b=some u):aj (um H) H':=λb u q=>by
 unfold um at q
 split at q
 ·next e=>cases q;exact h b _ (λ_ z=>by cases z) (λ_ _ _ z=>by cases z) e
 ·next e=>cases q;exact h b _ (λ_ z=>by cases z) (λ_ _ _ z=>by cases z) e
 ·cases q
theorem um.dat{H H':Hp}(e:Dat H H'):aj (um H) H':=um.of λb u _ n q=>e b u n q
theorem mY.da{H:Hp}{q:a5}{k:NK}(h:mY H q k):mY (um H) q k:=by
 obtain⟨p,h1,h2⟩:=h
 exact⟨p,um.tup h1,um.tup h2⟩
theorem mY.same{H H':Hp}{q:a5}{k:NK}(h:mY H q k)(e:aj H H'):mY H' q k:=by
 obtain⟨p,h1,h2⟩:=h
 exact⟨p,e _ _ h1,e _ _ h2⟩
theorem ND.same{P:bn}{w:df}{H H':Hp}{d:a5}{kvs:List NE}(h:ND P w H d kvs)(e:aj H H'):ND P w H' d kvs:=⟨e _ _ h.at_,λx hx=>mY.same (h.keys x hx) e⟩
structure Lm where
 P:a5
 l:sx
 q:bp
 P2:a5
 l2:sx
 q2:bp
structure LT(L:Lm)(H:Hp):Prop where
 a:TabOk H L.P L.l L.q
 b:TabOk H L.P2 L.l2 L.q2
 ne:L.P≠L.P2
theorem Dw{H H':Hp}{P:a5}{ln:sx}{lq:bp}(h:TabOk H P ln lq)(e:aj H H'):TabOk H' P ln lq:=by
 rcases h with h|⟨c,h,h2⟩
 ·exact .inl (e _ _ h)
 ·exact .inr ⟨c,e _ _ h,e _ _ h2⟩
theorem LT.same{L:Lm}{H H':Hp}(h:LT L H)(e:aj H H'):LT L H':=⟨Dw h.a e,Dw h.b e,h.ne⟩
theorem xK{H:Hp}{P:a5}{ln:sx}{lq:bp}(h:TabOk H P ln lq):∃ φ,H P=some (.ext φ):=by
 rcases h with h|⟨_,h,_⟩<;>exact⟨_,h⟩
theorem Dv{H:Hp}{P:a5}{ln:sx}{lq:bp}(h:TabOk H P ln lq):∃ps,H P=some (o7 P ps):=by
 rcases h with h|⟨_,h,_⟩<;>exact⟨_,h⟩
theorem BE{α:Type}{a b:α}{F:α->Prop}(h1:F a)(h2:F b):∀x∈[a,b],F x:=λx hx=>by
 rcases c_.mp hx with rfl|hx
 ·exact h1
 ·rw[cq.mp hx];exact h2
structure Lo(P:bn)(w:df)(L:Lm)(H H':Hp):Prop where
 nx:aj (Nt H) H'
 nd:∀d kvs,H d=some (FF P w d kvs)->H' d=some (FF P w d kvs)
 lt:LT L H'
 dom:∀b,H' b=none->H b=none
section
variable{P:bn}{w:df}{L:Lm}{H H1 H2:Hp}
theorem Lo.of(h:LT L H)(e:aj H H1):Lo P w L H H1:=⟨λb u q=>e b u (Nt.sub b u q),λd kvs q=>e _ _ q,h.same e,λb q=>aj.free e q⟩
theorem Lo.trans(a:Lo P w L H H1)(b:Lo P w L H1 H2):Lo P w L H H2:=⟨λc u q=>b.nx c u (Nt.in (Nt.no q) (a.nx c u q)),λd kvs q=>b.nd d kvs (a.nd d kvs q),b.lt,λc q=>a.dom c (b.dom c q)⟩
theorem Lo.then(a:Lo P w L H H1)(e:aj H1 H2):Lo P w L H H2:=a.trans (.of a.lt e)
theorem aj.lo(e:aj H H1)(h:LT L H)(b:Lo P w L H1 H2):Lo P w L H H2:=(Lo.of h e).trans b
theorem Lo.one{H':Hp}(h:LT L H)(ap:Apart P w H L.P)(e:∀b u,b≠L.P->H b=some u->H' b=some u)(t:TabOk H' L.P L.l L.q):Lo P w L H H':=by
 obtain⟨φ,hφ⟩:=xK h.a
 have hne:=h.ne
 refine⟨λb u q=>e b u (λz=>?_) (Nt.sub b u q),λd kvs q=>e _ _ (ap.2 d kvs q) q,⟨t,?_,h.ne⟩,λb q=>?_⟩
 ·have q':=Nt.sub b u q
  rw[z,hφ]at q'
  exact Nt.no q φ (dA q').symm
 ·rcases h.b with h|⟨c,h,h2⟩
  ·exact .inl (e _ _ (Ne.symm hne) h)
  ·exact .inr ⟨c,e _ _ (Ne.symm hne) h,e _ _ (ap.1 c _ h2) h2⟩
 ·cases z:H b with
  |none=>rfl
  |some u =>
   by_cases zb:b=L.P
   ·obtain⟨ψ,hψ⟩:=xK t
    rw[zb,hψ]at q;cases q
   ·rw[e b u zb z]at q;cases q
theorem Lo.two{H':Hp}(h:LT L H)(ap:Apart P w H L.P2)(e:∀b u,b≠L.P2->H b=some u->H' b=some u)(t:TabOk H' L.P2 L.l2 L.q2):Lo P w L H H':=by
 obtain⟨φ,hφ⟩:=xK h.b
 have hne:=h.ne
 refine⟨λb u q=>e b u (λz=>?_) (Nt.sub b u q),λd kvs q=>e _ _ (ap.2 d kvs q) q,⟨?_,t,h.ne⟩,λb q=>?_⟩
 ·have q':=Nt.sub b u q
  rw[z,hφ]at q'
  exact Nt.no q φ (dA q').symm
 ·rcases h.a with h|⟨c,h,h2⟩
  ·exact .inl (e _ _ hne h)
  ·exact .inr ⟨c,e _ _ hne h,e _ _ (ap.1 c _ h2) h2⟩
 ·cases z:H b with
  |none=>rfl
  |some u =>
   by_cases zb:b=L.P2
   ·obtain⟨ψ,hψ⟩:=xK t
    rw[zb,hψ]at q;cases q
   ·rw[e b u zb z]at q;cases q
theorem Lo.da(a:Lo P w L H H1):aj (um H) H1:=um.of λb u n _ q=>a.nx b u (Nt.in n q)
theorem Lo.tup(a:Lo P w L H H1){b:a5}{xs:List V}(h:H b=some (.tup xs)):H1 b=some (.tup xs):=a.nx _ _ (Nt.tup h)
theorem Lo.kat(a:Lo P w L H H1){q:a5}{k:NK}(h:mY H q k):mY H1 q k:=mY.same (mY.da h) a.da
theorem Lo.nk(a:Lo P w L H H1){d:a5}{kvs:List NE}(h:ND P w H d kvs):ND P w H1 d kvs:=⟨a.nd _ _ h.at_,λx hx=>a.kat (h.keys x hx)⟩
theorem Lo.seq{K:PySem.W.Frag}{x:a5}{xs:List V}(a:Lo P w L H H1)(h:cy K H x xs):cy K H1 x xs:=aj.seq a.nx (Nt.seq h)
end
noncomputable abbrev PT:=bp×List (List bT)×bT×bT
noncomputable def uT(T:PT):Int:=aX T.2.2.1.2 T.2.2.2.2 T.2.1
noncomputable def zB(K:PySem.W.Frag)(C:a5)(H:Hp)(x:a5)(T:PT):Prop:=nO K C H x T.1 T.2.1 T.2.2.1 T.2.2.2
theorem zB.same{K:PySem.W.Frag}{C:a5}{H H':Hp}{x:a5}{T:PT}(h:zB K C H x T)(e:aj H H'):zB K C H' x T:=nO.same e h
theorem Lo.pr{P:bn}{w:df}{L:Lm}{H H1:Hp}{K:PySem.W.Frag}{C x:a5}{T:PT}(a:Lo P w L H H1)(h:zB K C H x T):zB K C H1 x T:=nO.same a.nx (nO.nt h)
noncomputable def cW(T:PT)(m f s:bp):Gd:=⟨f.cps.size,s.cps.size,λi j=>La T.1 T.2.1 (uT T) (f.cps.toList.getD i 0) (s.cps.toList.getD j 0),cX (uT T) T.2.2.1,cX (uT T) T.2.2.2,λi j=>Ew m f s (i,j)⟩
noncomputable def HA(H:Hp)(p:a5)(q:Nat×Nat):Prop:=H p=some (.tup [.int q.1,.int q.2])
noncomputable def Lf(H:Hp)(l:a5)(qs:List (Nat×Nat)):Prop:=∃ps:List a5,H l=some (.lst (ps.map V.ref))/\Paired (HA H) ps qs
noncomputable def kY(s:bu):NK:=(s.1,s.2.1,⟨#[s.2.2]⟩)
theorem yo{s t:bu}(h:kY s=kY t):s=t:=by
 obtain⟨a,b,c⟩:=s
 obtain⟨d,e,f⟩:=t
 unfold kY at h
 simp only[BM,Str.mk.injEq]at h
 obtain⟨h1,h2,h3⟩:=h
 have h4:c=f:=by simpa using h3
 rw[show a=d by omega,show b=e by omega,h4]
noncomputable def Qe(H:Hp)(p:a5)(t:bu×Int):Prop:=∃q,H p=some (.tup [.ref q,.int t.2])/\mY H q (kY t.1)
noncomputable def Qd(H:Hp)(l:a5)(ts:List (bu×Int)):Prop:=∃ps:List a5,H l=some (.lst (ps.map V.ref))/\Paired (Qe H) ps ts
noncomputable def KS(H:Hp)(g:Gd)(kvs:List NE)(ss:List bu):Prop:=Paired (λe s=>e.1=kY s/\∃l,e.2.2= .ref l/\Qd H l (g.steps s)) kvs ss
theorem Lf.same{H H':Hp}{l:a5}{qs:List (Nat×Nat)}(h:Lf H l qs)(e:aj H H'):Lf H' l qs:=by
 obtain⟨ps,a,b⟩:=h
 exact⟨ps,e _ _ a,Paired.g8 b λ_ _ z=>e _ _ z⟩
theorem Qe.same{H H':Hp}{p:a5}{t:bu×Int}(h:Qe H p t)(e:aj H H'):Qe H' p t:=by
 obtain⟨q,a,b⟩:=h
 exact⟨q,e _ _ a,mY.same b e⟩
theorem Qd.same{H H':Hp}{l:a5}{ts:List (bu×Int)}(h:Qd H l ts)(e:aj H H'):Qd H' l ts:=by
 obtain⟨ps,a,b⟩:=h
 exact⟨ps,e _ _ a,Paired.g8 b λ_ _ z=>z.same e⟩
theorem KS.same{H H':Hp}{g:Gd}{kvs:List NE}{ss:List bu}(h:KS H g kvs ss)(e:aj H H'):KS H' g kvs ss:=Paired.g8 h λ_ _ ⟨a,l,b,c⟩=>⟨a,l,b,c.same e⟩
theorem Qd.da{H:Hp}{l:a5}{ts:List (bu×Int)}(h:Qd H l ts):Qd (um H) l ts:=by
 obtain⟨ps,a,b⟩:=h
 exact⟨ps,um.lst a,Paired.g8 b λ_ _ ⟨q,a,b⟩=>⟨q,um.tup a,mY.da b⟩⟩
theorem KS.da{H:Hp}{g:Gd}{kvs:List NE}{ss:List bu}(h:KS H g kvs ss):KS (um H) g kvs ss:=Paired.g8 h λ_ _ ⟨a,l,b,c⟩=>⟨a,l,b,c.da⟩
theorem Lf.da{H:Hp}{l:a5}{qs:List (Nat×Nat)}(h:Lf H l qs):Lf (um H) l qs:=by
 obtain⟨ps,a,b⟩:=h
 exact⟨ps,um.lst a,Paired.g8 b λ_ _ z=>um.tup z⟩
theorem ND.dat{P:bn}{w:df}{H H':Hp}{d:a5}{kvs:List NE}(h:ND P w H d kvs)(e:Dat H H'):ND P w H' d kvs:=⟨e _ _ (λ_ _ _ z=>by cases z) h.at_,λx hx=>mY.same (mY.da (h.keys x hx)) (um.dat e)⟩
theorem BI{H:Hp}{g:Gd}{s:bu}:∀{kvs:List NE} {ss:List bu},KS H g kvs ss->s∈ss->∃l,lH kvs (kY s)=some (.ref l)/\Qd H l (g.steps s)
 |_,_,.nil,h=>nomatch h
 |_,_,.cons (a:=e) (b:=t) ⟨h1,l,h2,h3⟩ r,h=>by
  by_cases z:e.1=kY s
  ·have z2:=yo (h1.symm.trans z)
   subst z2
   exact⟨l,by rw[kZ z,h2],h3⟩
  ·rw[iT z]
   rcases c_.mp h with q|q
   ·exact absurd (by rw[q];exact h1) z
   ·exact BI r q
noncomputable def Uh(dS lB dE:a5):List (bp×V):=aG "ends" (.ref dE) (aG "begins" (.ref lB) (aG "steps" (.ref dS) []))
theorem vV{dS lB dE:a5}:(Uh dS lB dE).lookup ("steps" :bp)=some (.ref dS):=by
 unfold Uh
 rw[ay,if_neg (by decide +kernel),ay,if_neg (by decide +kernel),ay,if_pos rfl]
theorem G1{dS lB dE:a5}:(Uh dS lB dE).lookup ("begins" :bp)=some (.ref lB):=by
 unfold Uh
 rw[ay,if_neg (by decide +kernel),ay,if_pos rfl]
theorem EE{dS lB dE:a5}:(Uh dS lB dE).lookup ("ends" :bp)=some (.ref dE):=by
 unfold Uh
 rw[ay,if_pos rfl]
noncomputable def XM(kE:List (List Key×V))(g:Gd):Prop:=∀i j,i<=g.n->j<=g.m->iO kE [.inl (i:Int),.inl (j:Int)]=some (.bl (g.en i j))
noncomputable def Rc(kvs:List NE)(g:Gd):Prop:=∀s,g.In s->lH kvs (kY s)=some (.int (g.rest s))
noncomputable def Fq(P:bn)(w:df)(C:a5)(H:Hp)(x:a5)(g:Gd)(bs:List (Nat×Nat)):Prop:=∃dx dS lB dE kS kE,H x=some (.ins C dx (Uh dS lB dE))/\ND P w H dS kS/\KS H g kS g.states/\Lf H lB bs/\H dE=some (.dT kE)/\XM kE g
theorem Fq.same{P:bn}{w:df}{C:a5}{H H':Hp}{x:a5}{g:Gd}{bs:List (Nat×Nat)}(h:Fq P w C H x g bs)(e:aj H H'):Fq P w C H' x g bs:=by
 obtain⟨dx,dS,lB,dE,kS,kE,h1,h2,h3,h4,h5,h6⟩:=h
 exact⟨dx,dS,lB,dE,kS,kE,e _ _ h1,ND.same h2 e,h3.same e,h4.same e,e _ _ h5,h6⟩
theorem Lo.gr{P:bn}{w:df}{L:Lm}{C:a5}{H H':Hp}{x:a5}{g:Gd}{bs:List (Nat×Nat)}(e:Lo P w L H H')(h:Fq P w C H x g bs):Fq P w C H' x g bs:=by
 obtain⟨dx,dS,lB,dE,kS,kE,h1,h2,h3,h4,h5,h6⟩:=h
 exact⟨dx,dS,lB,dE,kS,kE,e.nx _ _ (Nt.in (λ_ z=>by cases z) h1),e.nk h2,h3.da.same e.da,h4.da.same e.da,e.nx _ _ (Nt.in (λ_ z=>by cases z) h5),h6⟩
noncomputable def KR(m:bp)(n k:Nat):List (Nat×Nat):=(placesOf n k).filter λq=>Cj m (q.1,q.2)
noncomputable def Gd.Hs(g:Gd)(b:Nat×Nat):Int:=g.rest (b.1,b.2,112)
noncomputable def Qq:Sp:=λvs H Q _=>∃f s:bp,vs=[.str f,.str s]/\f.cps.size<=12/\s.cps.size<=12/\∀l H',aj H H'->H l=none->Lf H' l (placesOf f.cps.size s.cps.size)->Q (.ref l) H'
noncomputable def HX(K:PySem.W.Frag)(C:a5):Sp:=λvs H Q _=>∃(x p:a5) (T:PT) (f s:bp) (i j c:Nat),vs=[.ref x,.str f,.str s,.ref p,.str ⟨#[c]⟩]/\zB K C H x T/\Of T.1 f/\Of T.1 s/\f.cps.size<=12/\s.cps.size<=12/\HA H p (i,j) ∧
 ∀l H',aj H H'->H l=none->(∀m,Qd H' l ((cW T m f s).steps (i,j,c)))->Q (.ref l) H'
noncomputable def L4(P:bn)(w:df)(K:PySem.W.Frag)(C:a5):Sp:=λvs H Q _=>∃(x lp:a5) (T:PT) (f s:bp),vs=[.ref x,.str f,.str s,.ref lp]/\zB K C H x T/\Of T.1 f/\Of T.1 s/\f.cps.size<=12/\s.cps.size<=12/\Lf H lp (placesOf f.cps.size s.cps.size) ∧
 ∀d kvs H',aj H H'->H d=none->ND P w H' d kvs->(∀m,KS H' (cW T m f s) kvs (c8 (placesOf f.cps.size s.cps.size)))->Q (.ref d) H'
noncomputable def Ia:Sp:=λvs H Q _=>∃(lp:a5) (f s m:bp),vs=[.str f,.str s,.ref lp,.str m]/\f.cps.size<=12/\s.cps.size<=12/\Lf H lp (placesOf f.cps.size s.cps.size) ∧
 ∀d kvs H',aj H H'->H d=none->H' d=some (.dT kvs)->(∀T,XM kvs (cW T m f s))->Q (.ref d) H'
noncomputable def DS(P:bn)(w:df)(K:PySem.W.Frag)(C CG CS CM:a5):Sp:=λvs H Q E=>∃(x dx pr:a5) (T:PT) (f s m:bp),vs=[.ref x,.ref pr,.str f,.str s,.str m]/\H x=some (.ins CG dx [])/\zB K C H pr T/\f.cps.size<=20/\s.cps.size<=20 ∧
 (Of T.1 f->Of T.1 s->wG m=true->f.cps.size<=12/\s.cps.size<=12/\∀H',(∀b u,b≠x->H b=some u->H' b=some u)->Fq P w CG H' x (cW T m f s) (KR m f.cps.size s.cps.size)->Q .ia H') ∧
 (∀i j,xJ T.1 f s i j->∀dx H',aj H H'->H' dx=some (Dj dx (Cu i j))->E (.ref CS) (some dx) H')/\(Of T.1 f->Of T.1 s->wG m=false->(reprText m).length<=20/\∀H',aj H H'->E (.ref CM) none H')
noncomputable def LN(P:bn)(w:df)(CG:a5):Sp:=λvs H Q _=>∃(x:a5) (g:Gd) (bs:List (Nat×Nat)),vs=[.ref x]/\Fq P w CG H x g bs/\g.Ok/\g.n<=12/\g.m<=12/\∀d kvs H',aj H H'->H d=none->ND P w H' d kvs->Rc kvs g->Q (.ref d) H'
noncomputable def GR(P:bn)(w:df)(CG:a5)(H:Hp)(x d:a5)(g:Gd)(bs:List (Nat×Nat))(kvs:List NE):Prop:=Fq P w CG H x g bs/\ND P w H d kvs/\Rc kvs g
theorem Lo.gR{P:bn}{w:df}{L:Lm}{C:a5}{H H':Hp}{x d:a5}{g:Gd}{bs:List (Nat×Nat)}{kvs:List NE}(e:Lo P w L H H')(h:GR P w C H x d g bs kvs):GR P w C H' x d g bs kvs:=⟨e.gr h.1,e.nk h.2.1,h.2.2⟩
theorem GR.same{P:bn}{w:df}{C:a5}{H H':Hp}{x d:a5}{g:Gd}{bs:List (Nat×Nat)}{kvs:List NE}(h:GR P w C H x d g bs kvs)(e:aj H H'):GR P w C H' x d g bs kvs:=⟨h.1.same e,ND.same h.2.1 e,h.2.2⟩
noncomputable def HU(P:bn)(w:df)(CG:a5):Sp:=λvs H Q _=>∃(x d q:a5) (g:Gd) (bs:List (Nat×Nat)) (kvs:List NE) (s:bu),vs=[.ref x,.ref d,.ref q]/\GR P w CG H x d g bs kvs/\mY H q (kY s)/\g.In s/\Q (.bl (g.stop s)) H
noncomputable def DT(P:bn)(w:df)(CG:a5)(L:Lm):Sp:=λvs H Q _=>∃(x d:a5) (g:Gd) (bs:List (Nat×Nat)) (kvs:List NE),vs=[.ref x,.ref d]/\GR P w CG H x d g bs kvs/\LT L H/\bs≠[]/\(∀b∈bs,b.1<=g.n/\b.2<=g.m) ∧
 ∀p b H',Lo P w L H H'->fmin g.Hs bs=some b->HA H' p b->Q (.ref p) H'
noncomputable def LZ(P:bn)(w:df)(CG:a5)(L:Lm):Sp:=λvs H Q _=>∃(x d q:a5) (g:Gd) (bs:List (Nat×Nat)) (kvs:List NE) (s:bu),vs=[.ref x,.ref d,.ref q]/\GR P w CG H x d g bs kvs/\mY H q (kY s)/\g.In s/\g.steps s≠[]/\LT L H ∧
 ∀q' t H',Lo P w L H H'->fmin g.key (g.steps s)=some t->mY H' q' (kY t.1)->Q (.ref q') H'
noncomputable def LP(P:bn)(w:df)(CG:a5)(L:Lm):Sp:=λvs H Q _=>∃(x d p:a5) (g:Gd) (bs:List (Nat×Nat)) (kvs:List NE) (b:Nat×Nat),vs=[.ref x,.ref d,.ref p]/\GR P w CG H x d g bs kvs/\HA H p b/\g.In (b.1,b.2,112)/\g.Ok/\g.n<=12/\g.m<=12/\LT L H ∧
 ∀H',Lo P w L H H'->Q (.str ⟨(g.moves (b.1,b.2,112)).toArray⟩) H'
noncomputable def XO(H:Hp)(r:a5)(T:PT)(m f s:bp):Prop:=∃b c p,fmin (cW T m f s).Hs (KR m f.cps.size s.cps.size)=some b/\H r=some (.tup [.ref c,.ref p,.str ⟨((cW T m f s).moves (b.1,b.2,112)).toArray⟩])/\TupAt H c (k9 ((cW T m f s).Hs b,uT T))/\HA H p b
noncomputable def Ic(P:bn)(w:df)(K:PySem.W.Frag)(C CS CM:a5)(L:Lm):Sp:=λvs H Q E=>∃(pr:a5) (T:PT) (f s m:bp),vs=[.ref pr,.str f,.str s,.str m]/\zB K C H pr T/\LT L H/\f.cps.size<=20/\s.cps.size<=20 ∧
 (Of T.1 f->Of T.1 s->wG m=true->f.cps.size<=12/\s.cps.size<=12/\∀r H',Lo P w L H H'->H r=none->XO H' r T m f s->Q (.ref r) H') ∧
 (∀i j,xJ T.1 f s i j->∀dx H',aj H H'->H' dx=some (Dj dx (Cu i j))->E (.ref CS) (some dx) H')/\(Of T.1 f->Of T.1 s->wG m=false->(reprText m).length<=20/\∀H',aj H H'->E (.ref CM) none H')
end
section
theorem Rj{H:Hp}{l p:a5}{o y:HO}(hp:H p=none):aj (Wo l H) (Wo l (L2.upd (L2.upd H p o) l y)):=λb u h=>by
 have n:=Wo.ne h
 have h':=Wo.sub b u h
 refine Wo.in n ?_
 rw[au n,au (aN h' hp)]
 exact h'
theorem uy{H H2:Hp}{l p:a5}{o y:HO}(e:aj H H2)(hl:H l=none)(hp:H2 p=none):aj H (L2.upd (L2.upd H2 p o) l y):=aj.at (e.trans (aj.upd hp)) hl
theorem Li{H:Hp}{l p:a5}{o y:HO}(n:p≠l):Wo l (L2.upd (L2.upd H p o) l y) p=some o:=Wo.in n (by rw[au n,ah])
theorem HA.same{H H':Hp}{p:a5}{q:Nat×Nat}(h:HA H p q)(e:aj H H'):HA H' p q:=e _ _ h
theorem S2{H:Hp}{l:a5}{ps:List a5}{qs:List (Nat×Nat)}(h1:H l=some (.lst (ps.map V.ref)))(h2:Paired (HA (Wo l H)) ps qs):Lf H l qs:=⟨ps,h1,Paired.g8 h2 λ_ _ z=>z.same Wo.sub⟩
noncomputable def rws(m i:Nat):List (Nat×Nat):=(fe i).flatMap λi=>(fe (m+1)).map λj=>(i,j)
theorem D0(m i:Nat):rws m (i+1)=rws m i++(fe (m+1)).map λj=>(i,j):=by
 unfold rws
 rw[wd (n:=i),List.flatMap_append]
 simp
theorem ON(m i:Nat):(rws m i).length=i*(m+1):=by
 induction i with
 |zero=>simp[rws]
 |succ i ih=>rw[D0,cn,ih,Nat.succ_mul,bc,i_]
theorem MY{a b n:Nat}(ha:a<=12)(hb:b<=12)(h:n<=3*((a+1)*(b+1))):n<bt:=by
 have:(a+1)*(b+1)<=13*13:=va (by omega) (by omega)
 exact bv (show n<=507 by omega) (by decide)
theorem sP:a_ "p" =⟨#[112]⟩:=by kernel_rfl
theorem sA:a_ "a" =⟨#[97]⟩:=by kernel_rfl
theorem sB:a_ "b" =⟨#[98]⟩:=by kernel_rfl
theorem NT{T:PT}{m f s a:bp}{v c:Nat}(h:a=⟨#[v]⟩):V.int (if a=⟨#[c]⟩then cX (aX T.2.2.1.2 T.2.2.2.2 T.2.1) T.2.2.2 else cX (aX T.2.2.1.2 T.2.2.2.2 T.2.1) T.2.2.1+cX (aX T.2.2.1.2 T.2.2.2.2 T.2.1) T.2.2.2)=V.int ((cW T m f s).ac v c):=by
 subst h
 unfold Gd.ac
 by_cases e:v=c
 ·subst e
  rw[if_pos rfl,if_pos rfl]
  rfl
 ·rw[if_neg (λz=>e (by simpa using congrArg Str.cps z)),if_neg e]
  rfl
theorem F9{H3 H5:Hp}{l p q r:a5}{xs:List V}{t:bu×Int}{a b d:V}{c:bp}{y:HO}(hl:H3 l=some (.lst xs))(hp:H3 p=none)(hq:L2.upd H3 p (.tup [a,b]) q=none)(e:aj (L2.upd (L2.upd H3 p (.tup [a,b])) q (.tup [.ref p,.str c])) H5)(hr:H5 r=none)
  (ea:a= .int (t.1.1:Int)) (eb:b= .int (t.1.2.1:Int)) (ec:c=⟨#[t.1.2.2]⟩) (ed:d= .int t.2) :
  H5 l=some (.lst xs)/\r≠l/\aj (Wo l H3) (Wo l (L2.upd (L2.upd H5 r (.tup [.ref q,d])) l y))/\Qe (Wo l (L2.upd (L2.upd H5 r (.tup [.ref q,d])) l y)) r t:=by
 subst ea eb ec ed
 have s1:=aj.upd (o:=.tup [.int (t.1.1:Int),.int (t.1.2.1:Int)]) hp
 have s2:=s1.trans (aj.upd (o:=.tup [.ref p,.str ⟨#[t.1.2.2]⟩]) hq)
 have h5:=e _ _ (s2 _ _ hl)
 have nr:r≠l:=λz=>by rw[z,h5]at hr;cases hr
 have np:p≠l:=λz=>by rw[z,hl]at hp;cases hp
 have nq:q≠l:=λz=>by rw[z,s1 _ _ hl]at hq;cases hq
 have nqp:p≠q:=λz=>by rw[←z,ah]at hq;cases hq
 have keep:∀{b o},b≠l->H5 b=some o->Wo l (L2.upd (L2.upd H5 r (.tup [.ref q,.int t.2])) l y) b=some o:=λ{b o} n h=>Wo.in n (by rw[au n,au (aN h hr)];exact h)
 exact⟨h5,nr,λb u h=>keep (Wo.ne h) (e _ _ (s2 _ _ (Wo.sub b u h))),q,Li nr,p,keep nq (e _ _ ah),keep np (e _ _ (by rw[au nqp,ah];rfl))⟩
theorem GH{α:Type}{R:α->α->Prop}{l:List α}{k:Nat}{x:α}(h:l.Pairwise R)(ir:∀a,¬R a a)(hk:l[k]? =some x):x∉l.take k:=λhm=>by
 have e:l=l.take k++l.drop k:=(oy k l).symm
 rw[e]at h
 have WR:=(bd.mp hk).1
 have hd:x∈l.drop k:=by
  rw[ot WR,(bd.mp hk).2]
  exact cr
 exact ir x ((List.pairwise_append.mp h).2.2 x hm x hd)
noncomputable def vZ:List Nat:=[112,97,98]
noncomputable def st3(q:Nat×Nat)(b:Nat):List bu:=(vZ.take b).map λc=>(q.1,q.2,c)
theorem Ur {b:Nat}{x:V}(h:[V.str (a_ "p"),V.str (a_ "a"),V.str (a_ "b")][b]? =some x):∃c,vZ[b]? =some c/\x= .str ⟨#[c]⟩:=by
 rw[sP,sA,sB]at h
 match b,h with
 | 0,h=>exact⟨112,rfl,(dA h).symm⟩
 | 1,h=>exact⟨97,rfl,(dA h).symm⟩
 | 2,h=>exact⟨98,rfl,(dA h).symm⟩
 |b+3,h=>simp at h
theorem SQ{ps:List (Nat×Nat)}(pw:ps.Pairwise Qw){a b c:Nat}{q:Nat×Nat}(ha:ps[a]? =some q)(hb:vZ[b]? =some c):(q.1,q.2,c)∉c8 (ps.take a)++st3 q b:=λz=>by
 rcases e_.mp z with z|z
 ·exact GH pw (λ_=>Gp) ha (gW.mp z).1
 ·obtain⟨c',hc',e⟩:=gL.mp z
  have e':c'=c:=(Prod.mk.inj (Prod.mk.inj e).2).2
  subst e'
  match b,hb with
  | 0,hb=>exact nomatch hc'
  | 1,hb=>exact absurd hc' (by rw[←dA hb];decide)
  | 2,hb=>exact absurd hc' (by rw[←dA hb];decide)
  |b+3,hb=>simp[vZ]at hb
theorem Qp{H:Hp}{g:Gd}{s:bu}:∀{kvs:List NE} {ss:List bu},KS H g kvs ss->s∉ss->lH kvs (kY s)=none
 |_,_,.nil,_=>rfl
 |_,_,.cons ⟨h1,_⟩ r,h=>by
  rw[iT (λz=>h (by rw[yo (h1.symm.trans z)];exact cr))]
  exact Qp r λz=>h (ce _ z)
theorem LG{q:Nat×Nat}{b c:Nat}(h:vZ[b]? =some c):st3 q (b+1)=st3 q b++[(q.1,q.2,c)]:=by
 unfold st3
 rw[take_snoc h,dC]
 rfl
theorem SR{ps:List (Nat×Nat)}{q:Nat×Nat}{a b:Nat}(ha:a<ps.length):(c8 (ps.take a)++st3 q b).length<=3*ps.length:=by
 rw[cn,ye,lh]
 have:(st3 q b).length<=3:=by unfold st3;rw[bc,lh];exact Nat.min_le_right _ _
 omega
theorem DK{ps:List (Nat×Nat)}{q:Nat×Nat}{a:Nat}(h:ps[a]? =some q):c8 (ps.take (a+1))=c8 (ps.take a)++st3 q 3:=by
 unfold c8
 rw[take_snoc h,List.flatMap_append]
 simp[three,st3,vZ]
theorem IS{α:Type}(l:List α)(d:α)(c:α->Bool):((fe l.length).filter λi=>c (l.getD i d)).map (λi=>l.getD i d)=l.filter c:=by
 have e:(fe l.length).map (λi=>l.getD i d)=l:=by
  refine List.ext_getElem (by simp) λi h1 h2=>?_
  simp[cf,h2]
 rw[show l.filter c=((fe l.length).map λi=>l.getD i d).filter c by rw[e],List.filter_map]
 rfl
theorem wz{α β γ:Type}{F:β->γ->Prop}{f:α->β}{g:α->γ}:∀{l:List α},(∀i∈l,F (f i) (g i))->Paired F (l.map f) (l.map g)
 |[],_=>.nil
 |_::_,h=>.cons (h _ cr) (wz λi hi=>h i (ce _ hi))
theorem Kp2{r:L2.St}{a b:Option V}:Kp (none::none::r) (a::b::r):=λi v e=>by
 match i with
 | 0=>cases e
 | 1=>cases e
 |i+2=>exact e
theorem HP{H:Hp}{P l:a5}{ln:sx}{lq:bp}{xs:List V}{o:HO}(h:TabOk H P ln lq)(hl:H l=some (.lst xs)):TabOk (L2.upd H l o) P ln lq:=by
 have n:∀{b φ},H b=some (.ext φ)->b≠l:=λ{b φ} e z=>by rw[z,hl]at e;cases e
 rcases h with h|⟨c,h,h2⟩
 ·exact .inl (by rw[au (n h)];exact h)
 ·exact .inr ⟨c,by rw[au (n h)];exact h,by rw[au (n h2)];exact h2⟩
theorem LT.put{L:Lm}{H:Hp}{l:a5}{xs:List V}{o:HO}(h:LT L H)(hl:H l=some (.lst xs)):LT L (L2.upd H l o):=⟨HP h.a hl,HP h.b hl,h.ne⟩
theorem Lo.put{P:bn}{w:df}{L:Lm}{H H1:Hp}{l:a5}{xs:List V}{o:HO}(a:Lo P w L H H1)(hn:H l=none)(hl:H1 l=some (.lst xs)):Lo P w L H (L2.upd H1 l o):=by
 refine⟨λb u q=>?_,λd kvs q=>?_,a.lt.put hl,λb q=>?_⟩
 ·rw[au (aN (Nt.sub b u q) hn)];exact a.nx b u q
 ·rw[au (aN q hn)];exact a.nd d kvs q
 ·by_cases z:b=l
  ·rw[z];exact hn
  ·rw[au z]at q;exact a.dom b q
theorem Px{H:Hp}{l q:a5}{k:NK}{xs:List V}{o:HO}(h:mY H q k)(hl:H l=some (.lst xs)):mY (L2.upd H l o) q k:=by
 have n:∀{b ys},H b=some (.tup ys)->b≠l:=λ{b ys} e z=>by rw[z,hl]at e;cases e
 obtain⟨p,h1,h2⟩:=h
 exact⟨p,by rw[au (n h1)];exact h1,by rw[au (n h2)];exact h2⟩
theorem rL(T:PT)(m f s:bp):(cW T m f s).Ok:=by
 show Ew m f s ((f.cps.size:Int),(s.cps.size:Int))=true
 unfold Ew
 split
 ·simp
 ·split<;>simp
theorem Jc(m:bp)(n k:Nat):KR m n k≠[]:=by
 have h:((0:Nat),(0:Nat))∈KR m n k:=by
  refine kd.mpr ⟨lQ.mpr ⟨d0 _,d0 _⟩,?_⟩
  show Cj m (((0:Nat):Int),((0:Nat):Int))=true
  unfold Cj
  split
  ·simp
  ·split
   ·simp
   ·split<;>simp
 exact wa h
end
section
theorem Vq{c:Int}(h1: -(10 ^ 39)-4<=c)(h2:c<=10 ^ 39):Sm c:=zj (by omega) (by omega)
noncomputable def HY(K:PySem.W.Frag):Sp:=λvs H Q _=>∃(s t:a5) (ns:List Int) (k:Int),vs=[.ref s,.ref t]/\xU K H s t ns k/\k<=100000/\∀c:Int,-(10 ^ 39)<=c->c<=10 ^ 39->Q (.int c) (L2.upd H t (.lst [.int (k+1)]))
noncomputable def DM(K:PySem.W.Frag):Sp:=λvs H Q _=>∃(s t:a5) (ns:List Int) (k:Int) (n:Nat),vs=[.ref s,.ref t,.int n]/\xU K H s t ns k/\k<=100000/\1<=n/\n<=6 ∧
 ∀x H',Bw x->x.cps.size=n->aj (L2.upd H t (.lst [.int (k+1)])) H'->Q (.str x) H'
noncomputable def Ux(f:bT):Prop:=1<=f.2/\f.2<=999/\ -(10 ^ 39)<=f.1/\f.1<=10 ^ 39
theorem Ux.l{f:bT}(h:Ux f):Ol f:=⟨h.1,h.2.1,Vq (by have:=h.2.2.1;omega) h.2.2.2⟩
noncomputable def DN(K:PySem.W.Frag):Sp:=λvs H Q _=>∃(s t:a5) (ns:List Int) (k c:Int),vs=[.ref s,.ref t,.int c]/\xU K H s t ns k/\k<=90000 ∧
 ∀(f:bT) (q:a5) (H':Hp) (k':Int),Ux f->aj (Wo t H) (Wo t H')->H' t=some (.lst [.int k'])->k<=k'->k'<=k+2->H q=none->H' q=some (.tup [.int f.1,.int f.2])->Q (.ref q) H'
noncomputable def HV(K:PySem.W.Frag):Sp:=λvs H Q _=>∃(s t:a5) (ns:List Int) (k:Int) (n:Nat),vs=[.ref s,.ref t,.int n]/\xU K H s t ns k/\k<=80000/\1<=n/\n<=6 ∧
 ∀(r l o m:a5) (rs:List a5) (rows:List (List bT)) (fo fm:bT) (sg:bp) (H':Hp) (k':Int),Bw sg->sg.cps.size=n->H' r=some (.tup [.str sg,.ref l,.ref o,.ref m])->vg K (Wo t H') l rs rows->NZ n rows->(∀r∈rows,∀f∈r,Ol f)->TupAt (Wo t H') o fo->Ol fo->TupAt (Wo t H') m fm->Ol fm →
  aj (Wo t H) (Wo t H')->H' t=some (.lst [.int k'])->k<=k'->k'<=k+200->Q (.ref r) H'
noncomputable def AM(K:PySem.W.Frag)(C:a5):Sp:=λvs H Q _=>∃(s t:a5) (ns:List Int) (k:Int),vs=[.ref s,.ref t]/\xU K H s t ns k/\k<=70000 ∧
 ∀x H' k' T,zB K C (Wo t H') x T->T.1.cps.size<=4->H x=none->aj (Wo t H) (Wo t H')->H' t=some (.lst [.int k'])->k<=k'->k'<=k+300->Q (.ref x) H'
noncomputable def LJ(K:PySem.W.Frag):Sp:=λvs H Q _=>∃(s t:a5) (ns:List Int) (k:Int) (n:Nat) (sg:bp),vs=[.ref s,.ref t,.str sg,.int n]/\xU K H s t ns k/\k<=80000/\n<=12/\0<sg.cps.size/\sg.cps.size<=100 ∧
 ∀f H' k',Of sg f->f.cps.size<=n->aj (Wo t H) (Wo t H')->H' t=some (.lst [.int k'])->k<=k'->k'<=k+20->Q (.str f) H'
noncomputable def N6(v u:V):Prop:=(∃s,v= .str s/\u= .str s)\/∃n,v= .int n/\u= .int n
noncomputable def BC(K:PySem.W.Frag)(H:Hp):Nat->V->V->Prop
 | 0,v,u=>N6 v u
 |d+1,v,u=>N6 v u\/∃p q xs ys,v= .ref p/\u= .ref q/\cE K H p xs/\cE K H q ys/\xs.length=ys.length/\xs.length<=100/\∀(i:Nat) x y,xs[i]? =some x->ys[i]? =some y->BC K H d x y
theorem BC.same{K:PySem.W.Frag}{H H':Hp}(e:aj H H'):∀{d:Nat} {v u:V},BC K H d v u->BC K H' d v u
 | 0,_,_,h=>h
 |d+1,_,_,h=>h.imp id λ⟨p,q,xs,ys,h1,h2,h3,h4,h5,h6,h7⟩=>⟨p,q,xs,ys,h1,h2,aj.tup e h3,aj.tup e h4,h5,h6,λi x y hx hy=>BC.same e (h7 i x y hx hy)⟩
theorem BC.flat{K:PySem.W.Frag}{H:Hp}{d:Nat}{v u:V}(h:N6 v u):BC K H d v u:=by
 cases d with
 |zero=>exact h
 |succ d=>exact .inl h
theorem BC.int{K:PySem.W.Frag}{H:Hp}{d:Nat}{n:Int}:BC K H d (.int n) (.int n):=.flat (.inr ⟨_,rfl,rfl⟩)
theorem BC.str{K:PySem.W.Frag}{H:Hp}{d:Nat}{n:bp}:BC K H d (.str n) (.str n):=.flat (.inl ⟨_,rfl,rfl⟩)
theorem BC.of{K:PySem.W.Frag}{H:Hp}{p q:a5}{xs ys:List V}{d:Nat}(hp:cE K H p xs)(hq:cE K H q ys)(hl:xs.length<=100)(h:Paired (BC K H d) xs ys):BC K H (d+1) (.ref p) (.ref q) :=
 .inr ⟨p,q,xs,ys,rfl,rfl,hp,hq,Paired.len h,hl,λi x y hx hy=>by
  obtain⟨y',hy',z⟩:=GP.Paired.at h hx
  rw[hy]at hy'
  cases hy'
  exact z⟩
noncomputable def xM(K:PySem.W.Frag)(d:Nat):Sp:=λvs H Q _=>∃v u:V,vs=[v,u]/\BC K H d v u/\∀H',aj H H'->Q (.bl true) H'
theorem o5{α:Type}{l:List α}{i:Nat}{d x:α}(h:l[i]? =some x):l.getD i d=x:=by
 rw[cf,h];rfl
theorem OA{a tv:Int}{i j:Nat}(ht:tv=1\/tv=3\/tv=5\/tv=7\/tv=9\/tv=11)(hij:i<j)(hj:j<6):((a+(i:Int)*tv) % 92).toNat≠((a+(j:Int)*tv) % 92).toNat:=by
 intro z
 have n1:=jp (a+(i:Int)*tv) (show(92:Int)≠0 by decide)
 have n2:=jp (a+(j:Int)*tv) (show(92:Int)≠0 by decide)
 have z':(a+(j:Int)*tv) % 92=(a+(i:Int)*tv) % 92:=by rw[←io n1,←io n2,z]
 have d:=Int.emod_eq_emod_iff_emod_sub_eq_zero.mp z'
 have tb:0<tv/\tv<=11:=by rcases ht with q|q|q|q|q|q<;>rw[q]<;>decide
 have p0:(0:Int)<((j-i:Nat):Int):=y_.mpr (Nat.sub_pos_of_lt hij)
 have p5:((j-i:Nat):Int)<=5:=xi.mpr (bj (Nat.sub_le j i) (Nat.le_of_lt_succ hj))
 rw[Int.add_sub_add_left,←Int.sub_mul,←Int.natCast_sub (kz hij)]at d
 have m0:=Int.mul_pos p0 tb.1
 have m1:=Int.mul_le_mul p5 tb.2 (md tb.1) (show(0:Int)<=5 by decide)
 rw[Int.emod_eq_of_lt (md m0) (Int.lt_of_le_of_lt m1 (by decide))]at d
 rw[d]at m0
 exact absurd m0 (by decide)
theorem E4(cs:List Int)(m:Int)(h:0<cs.length):∃c∈cs,E5 (cs.map V.int) (m % (cs.length:Int))=some (.int c):=by
 have hn:(0:Int)<(cs.length:Int):=y_.mpr h
 obtain⟨n,e⟩:=Int.eq_ofNat_of_zero_le (jp m (Int.ne_of_gt hn))
 have hl:=ii m hn
 rw[e]at hl ⊢
 have hl':n<cs.length:=y_.mp hl
 exact⟨cs[n],kb hl',dX (by rw[eC,a6 hl'];rfl)⟩
theorem GJ{L:List Nat}{p:Nat->Nat}(hL:L.Nodup)(n:Nat)(hp:∀i,i<n->p i<L.length)(hne:∀i j,i<j->j<n->p i≠p j):((fe n).map λi=>L.getD (p i) 0).Nodup:=by
 rw[List.Nodup,List.pairwise_map]
 refine List.Pairwise.imp_of_mem ?_ (List.pairwise_lt_range (n:=n))
 intro i j hi hj hij z
 have h1:=hp i (o0.mp hi)
 have h2:=hp j (o0.mp hj)
 rw[o5 (a6 h1),o5 (a6 h2)]at z
 exact hne i j hij (o0.mp hj) ((List.getElem_inj hL).mp z)
noncomputable def M5:List Nat->Bool
 |a::b::r=>decide (a<b)&&M5 (b::r)
 |_=>true
theorem Co:∀{a:Nat} {l:List Nat},M5 (a::l)=true->(∀c∈l,a<c)/\M5 l=true
 |a,[],_=>⟨λc hc=>(nomatch hc),rfl⟩
 |a,b::r,h=>by
  have h':(decide (a<b)&&M5 (b::r))=true:=h
  rw[ll]at h'
  have h1:=of_decide_eq_true h'.1
  refine⟨λc hc=>?_,h'.2⟩
  rcases c_.mp hc with rfl|hc
  ·exact h1
  ·exact yB h1 ((Co h'.2).1 c hc)
theorem yR:∀{l:List Nat},M5 l=true->l.Nodup
 |[],_=>re
 |a::l,h=>wb.mpr ⟨λz=>f8 _ ((Co h).1 a z),yR (Co h).2⟩
noncomputable def N7(rows:List (List bT))(k:Nat):Prop:=∀a b f,Oo rows a b f->Ol f/\(a=b->k<=a->Ux f)
theorem Je{rows:List (List bT)}{a c i j:Nat}{row:List bT}{f g:bT}(hr:rows[a]? =some row)(h:Oo (rows.set a (row.set c f)) i j g):(i=a/\j=c/\g=f)\/Oo rows i j g:=by
 obtain⟨r,h1,h2⟩:=h
 rw[y4]at h1
 by_cases e:a=i
 ·subst e
  rw[if_pos rfl,if_pos (bd.mp hr).1]at h1
  cases h1
  rw[y4]at h2
  by_cases e2:c=j
  ·subst e2
   rw[if_pos rfl]at h2
   split at h2
   ·exact .inl ⟨rfl,rfl,(dA h2).symm⟩
   ·cases h2
  ·rw[if_neg e2]at h2
   exact .inr ⟨row,hr,h2⟩
 ·rw[if_neg e]at h1
  exact .inr ⟨r,h1,h2⟩
noncomputable def zC(K:PySem.W.Frag)(H:Hp)(t l:a5)(n j:Nat)(k:Int)(H2:Hp):Prop:=∃rs rows,vg K (Wo t H2) l rs rows/\NZ n rows/\N7 rows j/\(∀r∈rs,H r=none)/\aj (Wo t H) (Wo t H2)/\H2 t=some (.lst [.int k])
theorem NB{rows:List (List bT)}{k:Nat}(h:N7 rows k):∀r∈rows,∀f∈r,Ol f:=λr hr f hf=>by
 obtain⟨i,hi,e⟩:=n_ hr
 obtain⟨j,hj,e'⟩:=n_ hf
 exact(h i j f ⟨r,bd.mpr ⟨hi,e⟩,bd.mpr ⟨hj,e'⟩⟩).1
theorem M0{xs:List V}{j:Nat}(h:j<xs.length):M1 xs.length (j:Int)=some j:=by
 unfold M1
 rw[if_pos (by omega),if_pos (by omega)]
 simp
theorem Gd.vv(g:Gd)(s:bu)(v:Nat)(vs:List Nat):g.walk s (v::vs)=((g.steps s).find? λt=>t.1.2.2==v).bind λt=>(g.walk t.1 vs).map λr=>(t.2+r.1,r.2):=by
 rw[Gd.walk]
 cases (g.steps s).find? λt=>t.1.2.2==v<;>rfl
theorem Gd.xY{g:Gd}:∀(a b:List Nat) (s:bu),g.walk s (a++b)=(g.walk s a).bind λr=>(g.walk r.2 b).map λq=>(r.1+q.1,q.2)
 |[],b,s=>by
  show g.walk s b=(g.walk s b).map _
  cases g.walk s b with
  |none=>rfl
  |some r=>simp
 |v::a,b,s=>by
  rw[xa,Gd.vv,Gd.vv]
  cases (g.steps s).find? (λt=>t.1.2.2==v)with
  |none=>rfl
  |some t =>
   show(g.walk t.1 (a++b)).map _=((g.walk t.1 a).map _).bind _
   rw[Gd.xY a b t.1]
   cases g.walk t.1 a with
   |none=>rfl
   |some r =>
    show((g.walk r.2 b).map _).map _=(g.walk r.2 b).map _
    cases g.walk r.2 b with
    |none=>rfl
    |some q=>simp[Int.add_assoc]
end
end GP
namespace L2
open PySem PySem.Spec PyProof.Rows
theorem Ec{X:Cx}{K':PySem.W.Frag}{e:Expr}{f:bp}{pos:sx}{ta:TE}(hK:X.K=K')(he:PE X e ta)(hb:attributeBase e f X.env (eval e X.env)=eval e X.env):PE X (.Attribute e f pos) (Qo K' ta f):=by subst hK;exact OW he hb
theorem OV{X:Cx}{K':PySem.W.Frag}{e:Expr}{f:bp}{pos:sx}{ta:TE}(hK:X.K=K')(he:PE X e ta)(hb:attributeBase e f X.env (eval e X.env)=eval e X.env):PE X (.Attribute e f pos) (Vd K' ta f):=by subst hK;exact dP he hb
end L2
namespace GP
open PySem L2 rW
noncomputable def vN:List Nat:=[113,120,81,88,48,55,43,126,32]
theorem O3:(a_ "qxQX07+~ ").cps.toList=vN:=by kernel_rfl
noncomputable def wC(sg:bp):List Nat:=vN.filter λc=>!decide (c∈sg.cps.toList)
theorem O4{sg:bp}(h:sg.cps.size<=4):5<=(wC sg).length:=by
 have nd:(vN.filter λc=>decide (c∈sg.cps.toList)).Nodup:=List.Pairwise.filter _ (show vN.Nodup by decide)
 have z:=A3 nd λc hc=>of_decide_eq_true (kd.mp hc).2
 have e:=List.length_eq_countP_add_countP (λc=>decide (c∈sg.cps.toList)) (l:=vN)
 rw[List.countP_eq_length_filter,List.countP_eq_length_filter]at e
 have e9:vN.length=9:=rfl
 have z2:sg.cps.toList.length<=4:=by rw[eD];exact h
 have e2:(wC sg).length=(vN.filter λa=>decide (¬decide (a∈sg.cps.toList)=true)).length:=by
  unfold wC
  congr 1
  refine List.filter_congr λc _=>?_
  by_cases q:c∈sg.cps.toList<;>simp[q]
 omega
theorem S8{sg:bp}{c:Nat}(h:c∈wC sg):c∉sg.cps.toList:=by
 have:=(kd.mp h).2
 simpa using this
noncomputable def BJ(K:PySem.W.Frag)(L:Lm):Sp:=λvs H Q _=>∃(a:a5) (ns:List Int),vs=[.ref a]/\cy K H a (ns.map V.int)/\ns.length<=63/\LT L H/\∀H',LT L H'->Q (.bl true) H'
theorem Lo.wo{P:bn}{w:df}{L:Lm}{H H':Hp}{t:a5}{xs:List V}(a:Lo P w L (Wo t H) H')(ht:H' t=some (.lst xs)):Lo P w L (Wo t H) (Wo t H'):=by
 have nt:∀{b u},Wo t H b=some u->b≠t:=λ{b u} h=>Wo.ne h
 have tb:∀{Q ln lq},TabOk H' Q ln lq->TabOk (Wo t H') Q ln lq:=λ{Q ln lq} h=>by
  have n:∀{b φ},H' b=some (.ext φ)->b≠t:=λ{b φ} e z=>by rw[z,ht]at e;cases e
  rcases h with h|⟨c,h,h2⟩
  ·exact .inl (Wo.in (n h) h)
  ·exact .inr ⟨c,Wo.in (n h) h,Wo.in (n h2) h2⟩
 refine⟨λb u q=>Wo.in (nt (Nt.sub b u q)) (a.nx b u q),λd kvs q=>Wo.in (nt q) (a.nd d kvs q),⟨tb a.lt.a,tb a.lt.b,a.lt.ne⟩,λb q=>?_⟩
 by_cases z:b=t
 ·rw[z];unfold Wo;rw[if_pos rfl]
 ·refine a.dom b ?_
  unfold Wo at q
  rw[if_neg z]at q
  exact q
theorem LT.wo{L:Lm}{H:Hp}{t:a5}{xs:List V}(h:LT L H)(ht:H t=some (.lst xs)):LT L (Wo t H):=by
 have n:∀{b φ},H b=some (.ext φ)->b≠t:=λ{b φ} e z=>by rw[z,ht]at e;cases e
 have tb:∀{Q ln lq},TabOk H Q ln lq->TabOk (Wo t H) Q ln lq:=λ{Q ln lq} h=>by
  rcases h with h|⟨c,h,h2⟩
  ·exact .inl (Wo.in (n h) h)
  ·exact .inr ⟨c,Wo.in (n h) h,Wo.in (n h2) h2⟩
 exact⟨tb h.a,tb h.b,h.ne⟩
theorem Lo.ctr{P:bn}{w:df}{L:Lm}{K:PySem.W.Frag}{H H':Hp}{s t:a5}{ns:List Int}{k k':Int}(a:Lo P w L (Wo t H) H')(c:xU K H s t ns k)(ht:H' t=some (.lst [.int k']))(h0:0<=k'):xU K H' s t ns k':=⟨(a.wo ht).seq c.sq,c.len,ht,h0⟩
theorem Lo.cut{P:bn}{w:df}{L:Lm}{H H1:Hp}{t:a5}{xs:List V}(a:Lo P w L H H1)(h:LT L H)(ht:H t=some (.lst xs)):Lo P w L (Wo t H) H1:=(Lo.of (h.wo ht) Wo.sub).trans a
theorem LT.step{L:Lm}{H H':Hp}{t:a5}{xs:List V}(h:LT L H)(ht:H t=some (.lst xs))(e:aj (Wo t H) (Wo t H')):LT L H':=((h.wo ht).same e).same Wo.sub
end GP
namespace L2
open PySem PySem.Spec PyProof.Rows PySem.W
section
section
variable{X:Cx}{pins:List (a5×mi)}{σ:St}{H:Hp}{s:ba}{a q:a5}{k:NK}{kvs:List NE}{v:V}{r:a9}{A:eR}{E:a9->ba->Prop}
end
section
variable{X:Cx}{o e f i:Expr}{apos cpos pos:sx}{td ty tx:TE}{Pr:bn}{wo:df}
end
end
section
theorem Inv.Z7{X:Cx}{pins:List (a5×mi)}{σ:St}{H:Hp}{s:ba}{a:a5}{o:mi}{u:HO}(I:Inv X pins σ H s)(h:H a=some (.uR o u))(h0:∀o u,X.H₀ a≠some (.uR o u)):Inv X pins σ (upd H a u) s:=by
 have nn:∀{b},H b=none->upd H a u b=none:=λ{b} e=>by rw[au (Ne.symm (aN h e))];exact e
 have keep:∀{b v},(∀o u,v≠ .uR o u)->H b=some v->upd H a u b=some v:=λ{b v} n e=>by rw[au (λz=>by rw[z,h]at e;exact n o u (dA e).symm)];exact e
 refine⟨I.ok,I.os,I.bare,⟨I.base.keep,I.base.slot,λb o e n hx=>nn (I.base.free b o e n hx),I.base.there,λb xs e=>keep (λ_ _ z=>by cases z) (I.base.tups b xs e),λb o' u' e=>?_,λb ps e=>?_⟩,I.loc,I.cell,nn I.free,λx c e=>nn (I.j4 x c e),λp hp=>?_,λb v e=>?_,I.len,I.up⟩
 ·by_cases z:b=a
  ·rw[z]at e;exact absurd e (h0 _ _)
  ·rw[au z];exact I.base.sQ b o' u' e
 ·obtain⟨m,e2⟩:=I.base.tL b ps e
  exact⟨m,keep (λ_ _ z=>by cases z) e2⟩
 ·obtain⟨p1,p2,p3⟩:=I.pin p hp
  exact⟨p1,nn p2,p3⟩
 ·have st:∀{c v},bM X.prog X.w H s.heap c v->bM X.prog X.w (upd H a u) s.heap c v:=λ{c v} q=>q.stay (λ_ _ _ r=>r) (λb r=>keep (λ_ _ z=>by cases z) r) λb xs r=>keep (λ_ _ z=>by cases z) r
  by_cases z:b=a
  ·subst z
   rw[ah]at e
   cases e
   exact st (I.hok b _ h).2
  ·rw[au z]at e
   exact st (I.hok b v e)
end
end L2
namespace GP
open PySem L2 rW
section
theorem Gd.Jy{g:Gd}{s:bu}{t:bu×Int}(h:t∈g.steps s):g.rest s<=t.2+g.rest t.1:=by
 rw[g.rest_eq]
 exact Ci (hJ _ (gL.mpr ⟨t,h,rfl⟩))
theorem Gd.qU{g:Gd}{s e:bu}{v:Nat}{vs:List Nat}{c:Int}(h:g.walk s (v::vs)=some (c,e)):∃t c',t∈g.steps s/\t.1.2.2=v/\g.walk t.1 vs=some (c',e)/\c=t.2+c':=by
 rw[Gd.vv]at h
 obtain⟨t,ht,h⟩:=vk.mp h
 obtain⟨⟨c',e'⟩,hr,h⟩:=fw.mp h
 cases h
 exact⟨t,c',List.mem_of_find?_eq_some ht,by simpa using List.find?_some ht,hr,rfl⟩
end
section
end
section
end
section
end
section
noncomputable def Pz(f:bp)(k:Int)(c:Nat):bp:=(Txt.slice f none (some k)++(⟨#[c]⟩:bp))++Txt.slice f (some k) none
end
section
end
end GP
namespace L2
open PySem PySem.Spec PyProof.Rows PySem.W
section
theorem MM(a v d:a9):argsOk "min" ⟨[a],[(a_ "key",v),(a_ "default",d)]⟩:=by unfold argsOk;kernel_rfl
section
variable{prog:bn}{w:df}{A:eR}{E:a9->ba->Prop}{s:ba}{q:a5}
variable{g:eJ}{l I S:a5}{vs:List a9}{R:Result->ba->Prop}
theorem JT{kw:List (bp×a9)}(kf:Nat->Int)(hh:A.handled=none)(hl:g.IsList l vs.toArray)(hI:g.get? I=none)(hS:g.get? S=none)(hSI:S≠I)
  (turn:∀i v h tk (Q:a9->ba->Prop),vs[i]? =some v->(∀b o,g.get? b=some o->h.get? b=some o)->(∀h' tk' t,(∀b o,h.get? b=some o->h'.get? b=some o)->Q (.int (kf i) t) { s with heap:=h',toks:=tk' }) →
   b_ (model prog w) A.in1 (call (.ref q) [v]) Q (λ_ _=>False) { s with heap:=h,toks:=tk })
  (hR:∀i v h' tk',vs[i]? =some v->C8 kf vs.length i->(∀b o,g.get? b=some o->h'.get? b=some o)->R (.ok (.ret v)) { s with heap:=h',toks:=tk' }) :
  ∀(r j i:Nat) (h:eJ) (tk:Nat) (vb:a9) (tb:Do) (c:Nat),vs.length-(j+1)=r->j+1<=vs.length->(∀b o,g.get? b=some o->h.get? b=some o)->h.get? S=some (seqObj "list" #[vb,.int (kf i) tb] c) →
   h.IsListIter I l (j+1)->vs[i]? =some vb->i<=j->C8 kf (j+1) i →
   codeAny (model prog w) A (.builtin "min.loop" ⟨[.ref I,.ref q,.ref S],kw⟩) R { s with heap:=h,toks:=tk }:=by
 have nm:(toString "min" ++toString ".loop" :String)= "min.loop" :=by decide
 obtain⟨ol,Dk,rl⟩:=id hl
 have lI:l≠I:=λz=>by rw[z,hI]at Dk;cases Dk
 have W:=Walks.list (prog:=prog) (w:=w) (A:=A.in1) hh I l lI vs.toArray
 have sz:vs.toArray.size=vs.length:=by simp
 have nI:∀b o,g.get? b=some o->b∉[I]:=λb o e z=>by rw[cq.mp z,hI]at e;cases e
 have nS:∀b o,g.get? b=some o->b≠S:=λb o e z=>by rw[z,hS]at e;cases e
 intro r
 induction r with
 |zero =>
  intro j i h tk vb tb c hr hj kp gS hit TR hij hb
  have en:j+1=vs.length:=by omega
  refine oo PySem.F.entry_min_loop ?_
  rw[ma PySem.F.plain_min_loop _]
  show b_ _ A.in1 (seqItems? (.ref S) >>= _) _ _ _
  refine a0 (j_ gS rfl ?_)
  show b_ _ A.in1 (tryCatch (pyNext (.ref I)) _ >>= _) _ _ _
  refine a0 (kA (W.done _ _ _ ⟨by rw[sz,←en];exact hit,oE kp hl⟩ λh1 HN hk1=>?_))
  have Nl:=hk1 S _ (by simpa using hSI) gS
  show b_ _ A.in1 (updateSeq S (λ_=> #[]) >>= _) _ _ _
  refine a0 ?_
  refine wf Nl rfl (a0 (o_ (bi ?_)))
  refine hR i vb _ _ TR (by rw[←en];exact hb) λb o e=>?_
  rw[(gd h1 S _).2 b (nS b o e)]
  exact hk1 b o (nI b o e) (kp b o e)
 |succ r ih =>
  intro j i h tk vb tb c hr hj kp gS hit TR hij hb
  have lt:j+1<vs.length:=by omega
  refine oo PySem.F.entry_min_loop ?_
  rw[ma PySem.F.plain_min_loop _]
  show b_ _ A.in1 (seqItems? (.ref S) >>= _) _ _ _
  refine a0 (j_ gS rfl ?_)
  show b_ _ A.in1 (tryCatch (pyNext (.ref I)) _ >>= _) _ _ _
  refine a0 (kA (W.item (j+1) _ _ _ (by rw[sz];exact lt) ⟨hit,oE kp hl⟩ λv h1 HN hP hst hk1=>?_))
  have hv:vs[j+1]? =some v:=by simpa using hP
  have Ez:∀b o,g.get? b=some o->h1.get? b=some o:=λb o e=>hk1 b o (nI b o e) (kp b o e)
  have Nl:=hk1 S _ (by simpa using hSI) gS
  obtain⟨oI,PK,rI⟩:=id hst.1
  show b_ _ A.in1 (tryCatch (holding [v] (call (.ref q) [v])) _ >>= _) _ _ _
  refine a0 (kA (iq (h_ (turn (j+1) v h1 HN (λu s'=>∃h2 BF t2,u= .int (kf (j+1)) t2/\s'={ s with heap:=h2,toks:=BF }/\∀b o,h1.get? b=some o->h2.get? b=some o) hv Ez λh2 BF t2 k2=>⟨h2,BF,t2,rfl,rfl,k2⟩) (λu s' hu=>?_) λ_ _ z=>z.elim)))
  obtain⟨h2,BF,t2,rfl,rfl,k2⟩:=hu
  have Wj:∀b o,g.get? b=some o->h2.get? b=some o:=λb o e=>k2 b o (Ez b o e)
  have Ku:=k2 _ _ Nl
  have Ub:h2.IsListIter I l (j+1+1):=⟨oI,k2 _ _ PK,rI⟩
  show b_ _ A.in1 (tryCatch (holding [v,.int (kf (j+1)) t2] (richCompare .Lt (.int (kf (j+1)) t2) (.int (kf i) tb) >>= _)) _ >>= _) _ _ _
  refine a0 (kA (iq (a0 (CmpOf.ints_lt (prog:=prog) (w:=w) (A:=A.in1) (P:=λi v=>∃t,v= .int (kf i) t) kf (λi v h=>h) (j+1) i _ _ _ _ _ ⟨t2,rfl⟩ ⟨tb,rfl⟩ ?_))))
  refine a0 (iq (kt ?_))
  refine a0 (o_ (bi ?_))
  by_cases gt:kf (j+1)<kf i
  ·obtain⟨c2,hc2⟩:∃c2,(h2.update S (wy λ_=> #[v,.int (kf (j+1)) t2])).get? S=some (seqObj "list" #[v,.int (kf (j+1)) t2] c2):=⟨_,get?_update_seq Ku λ_=> #[v,.int (kf (j+1)) t2]⟩
   have gt':kf (j+1)<kf i:=gt
   simp only[gt',decide_true,if_true]
   refine a0 ?_
   refine wf Ku rfl (a0 (o_ ?_))
   rw[nm]
   refine bi ⟨qr PySem.F.plain_min_loop _,ih (j+1) (j+1) _ _ v t2 c2 (by omega) lt (λb o e=>?_) hc2 ?_ hv (a7 _) λj' hj'=>?_⟩
   ·rw[(gd h2 S _).2 b (nS b o e)]
    exact Wj b o e
   ·exact⟨oI,((gd h2 S _).2 I hSI.symm).trans (k2 _ _ PK),rI⟩
   ·by_cases e:j'=j+1
    ·subst e
     exact⟨by omega,λ_=>by omega⟩
    ·have b1:=hb j' (by omega)
     exact⟨by omega,λ_=>by omega⟩
  ·have gt':¬kf (j+1)<kf i:=gt
   simp only[gt',decide_false,gN,if_false]
   refine a0 (o_ ?_)
   rw[nm]
   refine bi ⟨qr PySem.F.plain_min_loop _,ih (j+1) i _ _ vb tb c (by omega) lt Wj Ku Ub TR (by omega) λj' hj'=>?_⟩
   by_cases e:j'=j+1
   ·subst e
    exact⟨by omega,λ_=>by omega⟩
   ·exact hb j' (by omega)
theorem KP{d:a9}{Q:a9->ba->Prop}(kf:Nat->Int)(hh:A.handled=none)(hl:s.heap.IsList l vs.toArray)
  (turn:∀i v h tk (Q:a9->ba->Prop),vs[i]? =some v->(∀b o,s.heap.get? b=some o->h.get? b=some o)->(∀h' tk' t,(∀b o,h.get? b=some o->h'.get? b=some o)->Q (.int (kf i) t) { s with heap:=h',toks:=tk' }) →
   b_ (model prog w) A.in1 (call (.ref q) [v]) Q (λ_ _=>False) { s with heap:=h,toks:=tk })
  (h0:vs=[]->∀h' tk',(∀b o,s.heap.get? b=some o->h'.get? b=some o)->Q d { s with heap:=h',toks:=tk' })
  (h1:∀i v h' tk',vs[i]? =some v->C8 kf vs.length i->(∀b o,s.heap.get? b=some o->h'.get? b=some o)->Q v { s with heap:=h',toks:=tk' }) :
  b_ (model prog w) A (call (.builtin "min") [.ref l] [(a_ "key",.ref q),(a_ "default",d)]) Q E s:=by
 have nm:(toString "min" ++toString ".loop" :String)= "min.loop" :=by decide
 obtain⟨ol,Dk,rl⟩:=id hl
 have lt:l<s.heap.objs.size:=cm Dk
 refine kmk_tree PySem.F.kind_min PySem.F.plain_min PySem.F.entry_min (MM _ _ _) ?_
 show b_ _ A.in1 (p_ "min" ["key","default"] 0 ⟨[],[(a_ "key",.ref q),(a_ "default",d)]⟩ >>= _) _ _ s
 refine a0 (Ch (show p_ "min" ["key","default"] 0 ⟨[],[(a_ "key",.ref q),(a_ "default",d)]⟩=pure [some (.ref q),some d] from rfl) ?_)
 refine a0 (bi ?_)
 refine a0 (pi hl ?_)
 refine a0 (wpAny_newList ?_ (d0 _))
 rw[nm]
 have sI:(s.heap.push { cls:=.type "list_iterator",data:=.fields #[.ref l,.int 0 0] }).objs.size=s.heap.objs.size+1:=size_push' ..
 have hI:s.heap.get? s.heap.objs.size=none:=lL (a7 _)
 have hS:s.heap.get? (s.heap.push { cls:=.type "list_iterator",data:=.fields #[.ref l,.int 0 0] }).objs.size=none:=by rw[sI];exact lL (g_ _)
 have hSI:(s.heap.push { cls:=.type "list_iterator",data:=.fields #[.ref l,.int 0 0] }).objs.size≠s.heap.objs.size:=by rw[sI];exact m_ (k_ _)
 refine bi ⟨qr PySem.F.plain_min_loop _,?_⟩
 have Tu:∀b o,s.heap.get? b=some o->((s.heap.push { cls:=.type "list_iterator",data:=.fields #[.ref l,.int 0 0] }).push (seqObj "list" #[] 0)).get? b=some o:=λb o e=>a8 _ (a8 _ e)
 have gI:((s.heap.push { cls:=.type "list_iterator",data:=.fields #[.ref l,.int 0 0] }).push (seqObj "list" #[] 0)).get? s.heap.objs.size=some { cls:=.type "list_iterator",data:=.fields #[.ref l,.int 0 0] } :=
  a8 _ (bo _ rfl)
 have gS:((s.heap.push { cls:=.type "list_iterator",data:=.fields #[.ref l,.int 0 0] }).push (seqObj "list" #[] 0)).get? (s.heap.push { cls:=.type "list_iterator",data:=.fields #[.ref l,.int 0 0] }).objs.size=some (seqObj "list" #[] 0):=bo _ rfl
 generalize (s.heap.push { cls:=.type "list_iterator",data:=.fields #[.ref l,.int 0 0] }).objs.size=S at hS hSI gS ⊢
 generalize hIe:s.heap.objs.size=I at hI hSI gI ⊢
 have lI:l≠I:=λz=>by rw[z,hI]at Dk;cases Dk
 have W:=Walks.list (prog:=prog) (w:=w) (A:=A.in1) hh I l lI vs.toArray
 have sz:vs.toArray.size=vs.length:=by simp
 have nI:∀b o,s.heap.get? b=some o->b∉[I]:=λb o e z=>by rw[cq.mp z,hI]at e;cases e
 have nS:∀b o,s.heap.get? b=some o->b≠S:=λb o e z=>by rw[z,hS]at e;cases e
 refine oo PySem.F.entry_min_loop ?_
 rw[ma PySem.F.plain_min_loop _]
 show b_ _ A.in1 (seqItems? (.ref _) >>= _) _ _ _
 refine a0 (j_ gS rfl ?_)
 show b_ _ A.in1 (tryCatch (pyNext (.ref I)) _ >>= _) _ _ _
 by_cases hv0:vs=[]
 ·subst hv0
  refine a0 (kA (W.done _ _ _ ⟨⟨_,gI,rfl,rfl⟩,oE Tu hl⟩ λtD HN hk1=>?_))
  exact a0 (wpAny_rule (bi (h0 rfl _ _ λb o e=>hk1 b o (nI b o e) (Tu b o e))))
 have ne:0<vs.length:=xl.mpr hv0
 refine a0 (kA (W.item 0 _ _ _ (by rw[sz];exact ne) ⟨⟨_,gI,rfl,rfl⟩,oE Tu hl⟩ λv tD HN hP hst hk1=>?_))
 have hv:vs[0]? =some v:=by simpa using hP
 have Ez:∀b o,s.heap.get? b=some o->tD.get? b=some o:=λb o e=>hk1 b o (nI b o e) (Tu b o e)
 have Nl:=hk1 S _ (by simpa using hSI) gS
 obtain⟨oI,PK,rI⟩:=id hst.1
 show b_ _ A.in1 (tryCatch (holding [v] (call (.ref q) [v])) _ >>= _) _ _ _
 refine a0 (kA (iq (h_ (turn 0 v tD HN (λu s'=>∃h2 BF t2,u= .int (kf 0) t2/\s'={ s with heap:=h2,toks:=BF }/\∀b o,tD.get? b=some o->h2.get? b=some o) hv Ez λh2 BF t2 k2=>⟨h2,BF,t2,rfl,rfl,k2⟩) (λu s' hu=>?_) λ_ _ z=>z.elim)))
 obtain⟨h2,BF,t2,rfl,rfl,k2⟩:=hu
 have Ku:=k2 _ _ Nl
 obtain⟨c2,hc2⟩:∃c2,(h2.update S (wy λ_=> #[v,.int (kf 0) t2])).get? S=some (seqObj "list" #[v,.int (kf 0) t2] c2):=⟨_,get?_update_seq Ku λ_=> #[v,.int (kf 0) t2]⟩
 show b_ _ A.in1 (updateSeq S (λ_=> #[v,.int (kf 0) t2]) >>= _) _ _ _
 refine a0 ?_
 refine wf Ku rfl ?_
 rw[nm]
 refine bi ⟨qr PySem.F.plain_min_loop _,JT kf hh hl hI hS hSI turn (λi v h' tk' a b c=>h1 i v h' tk' a b c) _ 0 0 _ _ v t2 c2 rfl ne (λb o e=>?_) hc2 ?_ hv (a7 _) λj' hj'=>?_⟩
 ·rw[(gd h2 S _).2 b (nS b o e)]
  exact k2 b o (Ez b o e)
 ·exact⟨oI,((gd h2 S _).2 I hSI.symm).trans (k2 _ _ PK),rI⟩
 ·have e:j'=0:=by omega
  subst e
  exact⟨by omega,λz=>absurd z (f8 _)⟩
end
structure N8(st:hV)(x:bp):Prop where
 body:∃p1 p2 p3 pos j,cV st=[.Return (some (.Subscript (.Name x p1) (.Constant (.int 0) j p2) p3)) pos]
 loc:(av st).names.lookup x=some .local
 cell:∀y∈(av st).names,y.2≠ .cell
 kind:(av st).kind= .function
 co:(av st).isCoroutine=false
 gen:(av st).isGenerator=false
 dx:(x==("__debug__" :bp))=false
theorem KA{K:PySem.W.Frag}{P:bn}{w:df}{A:eR}{E:a9->ba->Prop}{Q:a9->ba->Prop}{s:ba}{n x qual:bp}{st:hV}{f a:a5}{fd:dv}{v:a9}{its:List a9}(F:FH K n qual st f fd)(T:N8 st x)(hb:Binds K fd [x] [])(KX:K.In s.heap)(lim:s.heap.NoLimit)(hroom:A.depth<recursionLimit)
  (hT:s.heap.IsTuple a (v::its).toArray) (hQ:∀h' tk',(∀b o,s.heap.get? b=some o->h'.get? b=some o)->Q v { s with heap:=h',toks:=tk' }):b_ (model P w) A (call (.ref f) [.ref a]) Q E s:=by
 obtain⟨oc,od,dV,kV,doc,pm,an,cdv,ct,osl,rfl,lk,hcd⟩:=F.ex
 obtain⟨p1,p2,p3,pos,j,eb⟩:=T.body
 refine v0 (codeAny_call_function hroom (KX _ _ lk) rfl T.co T.gen rfl (PySem.W.codeRec_of KX hcd) (hb s [.ref a] KX rfl _ _ _ _ ?_))
 refine wpAny_newFunctionEnv T.cell (λy hy=>by rw[cq.mp hy];exact T.loc) (λh₁ hns QX=>⟨lim.fresh _ QX,codeAny_func ?_⟩) T.kind
 have kp:∀b o,s.heap.get? b=some o->h₁.get? b=some o:=λb o e=>QX.extBut b o (eA (cm e)) (a8 _ e)
 obtain⟨o,g1,g2,m,g3⟩:=hT
 rw[eb]
 refine zi (wpAny_Return_some (Subscript_ (wpAny_Name (wpAny_loadName_local T.kind T.loc hns (v:=.ref a) (by show on x [(x,Value.ref a)]=some (Value.ref a);simp[on]) (x0 ?_)) T.dx)))
 refine pE (T:= "tuple") (x:=v) ⟨o,kp _ _ g1,g2⟩ slot_tuple_getitem.lookup (getItem_tuple (j:=0) (items:=(v::its).toArray) ⟨o,kp _ _ g1,g2,m,g3⟩ (by omega) (by omega) (by simp[seqIndex?]) (by rfl) ⟨rfl,?_⟩) (by with_unfolding_all rfl)
 exact hQ _ _ kp
noncomputable def Va(K:PySem.W.Frag)(ta:TA):TE:=λσ H Q=>ta σ H λzs H1=>∃(l:a5) (vs:List V) (kf:Nat->Int),zs=[.ref l]/\cy K H1 l vs/\(∀i v,vs[i]? =some v->∃p xs,v= .ref p/\cE K H1 p (.int (kf i)::xs))/\(vs=[]->Q .ia H1)/\∀i v,vs[i]? =some v->C8 kf vs.length i->Q v H1
theorem OS{X:Cx}{e:Expr}{ta:TA}{p pos p1 p2 k1 k2:sx}{j:Nat}{fn n qual x:bp}{st:hV}{f:a5}{fd:dv}{K':PySem.W.Frag}(F:FH X.K n qual st f fd)(T:N8 st x)(hb:Binds X.K fd [x] [])(hfg:Gl X fn)(hfm:X.mg fn=some (.ref f))(EC:X.calm=true)(hroom:X.A.depth<recursionLimit)
  (hg:Gl X "min") (hm:X.mg "min" =none) (hv:bootBuiltins "min" =some (.builtin "min")) (ha:PA X [e] ta) (hK:X.K=K') (hdb:(fn==("__debug__" :bp))=false:=by decide)
  (he:backTo pos (eP [e] X.env)=(false,eval e X.env)::backTo pos (eP [] X.env):=by rfl) (hpl:(backTo pos (eP [e] X.env)).any (·.1)=false:=by rfl) :
  PE X (.Call (.Name "min" p) [e] [⟨some (a_ "key"),.Name fn p1,k1⟩,⟨some (a_ "default"),.Constant .none j p2,k2⟩] pos) (Va K' ta):=by
 subst hK
 intro pins s σ H Q I h
 refine mm (pF I hg hm hv ?_)
 refine callWith_kw (dG (ha pos pins s σ H _ I h) λus s1 ⟨zs,H1,I1,r1,q1⟩=>?_) he hpl rfl rfl
 obtain⟨l,vs,kf,rfl,hq,hk,hz,k⟩:=q1
 obtain⟨u,rfl,rx⟩:=vals1 r1
 cases rx
 refine kws_cons (nM I1 hfg hfm (kws_cons (wpAny_Constant_none (kws_nil ?_))) hdb)
 show b_ _ X.A (call (.builtin "min") [.ref l] [(a_ "key",.ref f),(a_ "default",.none)]) _ _ s1
 obtain⟨its,r',pl,hlz⟩:=I1.list hq
 have hlen:=r'.length
 refine TK.bP (a7 _) (KP (kf:=kf) (I1.ok.hd EC) pl.isList (λi v h tk Q' hv' kp hQ=>?_) (λhn h' tk' kp hup=>?_) λi v h' tk' hv' hb kp hup=>?_)
 ·have hi:i<its.length:=(bd.mp hv').1
  have hi1:i<vs.length:=by omega
  obtain⟨u',eu,Qt⟩:=r'.get (a6 hi1)
  rw[hv']at eu
  cases eu
  obtain⟨pp,xs,ev,hpx⟩:=hk i _ (a6 hi1)
  rw[ev]at Qt
  cases Qt
  obtain⟨ys,ry,ty,_⟩:=I1.tuple hpx
  cases ry with
  |cons ra rb =>
  obtain⟨t,rfl⟩:=(show ∃t,_=Value.int (kf i) t from ra)
  obtain⟨o,g1,g2⟩:=ty
  exact KA (s:={ s1 with heap:=h,toks:=tk }) F T hb (I1.qv.keeps kp) (I1.nolimit.keeps kp) hroom ⟨o,kp _ _ g1,g2⟩ λh' tk' k'=>hQ h' tk' t k'
 ·have:vs=[]:=vy (by rw[hlen,hn];rfl)
  exact⟨.ia,H1,I1.kept kp hup,rfl,hz this⟩
 ·have hi:i<its.length:=(bd.mp hv').1
  have hi1:i<vs.length:=by omega
  obtain⟨u',eu,Qt⟩:=r'.get (a6 hi1)
  rw[hv']at eu
  cases eu
  refine⟨vs[i],H1,I1.kept kp hup,Qt,k i _ (a6 hi1) ?_⟩
  rw[show vs.length=its.length by omega]
  exact hb
end
section
theorem Wk{k:Key}{u:a9}(h:yP k u=true):RelV (kV k) u:=by
 rcases dY h with⟨i,t,rfl,rfl⟩|⟨x,t,rfl,rfl⟩
 ·exact⟨t,rfl⟩
 ·exact⟨t,rfl⟩
noncomputable def XG(a:a5)(o:mi)(kvs:List (Key×V)):It :=
 ⟨λi H=>H a=some (.uR o (.dK kvs))/\i<kvs.length,λi H v H'=>∃p k x,v= .ref p/\H p=none/\H'=upd H p (.tup [kV k,x])/\kvs[i]? =some (k,x),λi H=>H a=some (.uR o (.dK kvs))/\kvs.length<=i⟩
theorem EH{P:bn}{w:df}{H:Hp}{h:eJ}{a:a5}{o:mi}{es:Array DictEntry}{ep:Nat}{kvs:List (Key×V)}(ok:nZ P w H h)(e:H a=some (.uR o (.dK kvs)))(hd:o.data= .dict es ep):∃vs,KV kvs vs/\h.DictAt (bH P w) a vs ep:=by
 obtain⟨h1,h2⟩:=(show bM P w H h a (.uR o (.dK kvs)) from ok a _ e)
 obtain⟨z,hs,vs,r,o',es',Yz,ho,hc,hd',h4⟩:=h2
 rw[h1]at ho
 cases ho
 rw[hd]at hd'
 cases hd'
 exact⟨vs,r,o,es,h1,hc,hd,h4⟩
theorem F1{P:bn}{w:df}{K:PySem.W.Frag}{elts:List Expr}{k:Nat}{pos:sx}{kvs:List (Key×V)}{o:mi}{es:Array DictEntry}{ep:Nat}(a it:a5)(hd:o.data= .dict es ep):
  Turn P w K (.Tuple elts k pos) (XG a o kvs) [it] it (λi h=>∃ok ov,IsItemIter h it a i kvs.length ep ok ov) where
 mem:=by simp
 obj:=λi h Z b hb=>by
  obtain⟨ok,ov,he⟩:=Z
  have e:b=it:=by simpa using hb
  subst e
  exact⟨_,he,λv q=>by cases q⟩
 keep:=λi h h' Z kp=>by
  obtain⟨ok,ov,he⟩:=Z
  exact⟨ok,ov,kp it (by simp) _ he⟩
 item:=by
  intro X hP hw hK hc i pins s σ H E I hf Z hg
  subst hP hw hK
  obtain⟨hH,hi⟩:=hg
  obtain⟨ok,ov,he⟩:=id Z
  obtain⟨vs,kv,da⟩:=EH I.hok hH hd
  have hlen:=Paired.length kv
  have hiv:i<vs.length:=by omega
  obtain⟨q,hq,h1,h2⟩:=GP.Paired.at kv (a6 hi)
  have he':IsItemIter s.heap it a i vs.length ep ok ov:=by rw[←hlen];exact he
  refine wpAny_pyNext_items_item he' da hq λkey h' hk ho hT hsz kk=>⟨_,rfl,?_⟩
  refine wpAny_letOwnedTupleGo_items ho λh'' Ud sb=>?_
  have hne:s.heap.objs.size≠it:=m_ (cm he)
  have k2:∀b o,b∉[it]->s.heap.get? b=some o->h''.get? b=some o:=λb o hb q=>by
   simp only[c_,hZ,or_false]at hb
   exact sb.extBut _ _ hb (kk b o hb q)
  have I1:Inv X pins σ H { s with heap:=h'' }:=I.moved (t':=s.toks) k2 hf
  have hn:H s.heap.objs.size=none:=I.fresh
  have Xa:qR X pins H s.heap.objs.size:=I.uU (a7 _) hn
  have hp2:h''.get? s.heap.objs.size=some { cls:=.type "tuple",data:=.seq #[key,q.2] }:=sb.extBut _ _ hne hT
  have I2:Inv X pins σ (upd H s.heap.objs.size (.tup [kV kvs[i].1,kvs[i].2])) { s with heap:=h'' } :=
   I1.Lw Xa ⟨aw,[key,q.2],.cons (by rw[h1];exact Wk hk) (.cons h2 .nil),⟨_,hp2,rfl,_,rfl⟩⟩
  refine⟨.ref s.heap.objs.size,_,I2,rfl,⟨_,kvs[i].1,kvs[i].2,rfl,hn,rfl,a6 hi⟩,⟨_,_,by rw[hlen];exact Ud⟩,λb hb=>?_⟩
  have e:b=it:=by simpa using hb
  subst e
  rw[au (eA (cm he))]
  exact(hf b hb).1
 done:=by
  intro X hP hw hK hc i pins s σ H E I hf Z hg
  subst hP hw hK
  obtain⟨hH,hi⟩:=hg
  obtain⟨ok,ov,he⟩:=id Z
  obtain⟨vs,kv,da⟩:=EH I.hok hH hd
  have hlen:=Paired.length kv
  have he':IsItemIter s.heap it a i vs.length ep ok ov:=by rw[←hlen];exact he
  refine wpAny_pyNext_items_end (I.ok.hd hc) he' da (so (by omega)) λh' eb=>⟨rfl,I.moved (t':=s.toks) (ch:=[it]) (λb o hb q=>eb b o ?_ q) hf⟩
  simpa using hb
 self:=λ_ _ _ _ _ Z h=>by
  obtain⟨ok,ov,he⟩:=Z
  exact PySem.W.kcp_self he h
noncomputable def TN(to:TE):TI:=λσ H R=>to σ H λx H1=>∃a kvs,x= .ref a/\H1 a=some (.dK kvs)/\∀o,R (XG a o kvs) (upd H1 a (.uR o (.dK kvs)))
theorem Mn{X:Cx}{o:Expr}{to:TE}{apos cpos tpos:sx}{elts:List Expr}{k:Nat}(ho:PE X o to)
  (hbase:attributeBase o "items" X.env (eval o X.env)=eval o X.env:=by rfl) (hline:(apos.endLine==cpos.line)=true:=by rfl):PI X (.Tuple elts k tpos) (.Call (.Attribute o "items" apos) [] [] cpos) (TN to):=by
 intro pins s σ H R I h
 refine wpAny_Call_method0_late hbase hline (dG (ho pins s σ H _ I h) λv s1 ⟨x,H1,I1,r1,a,kvs,ex,hd,q⟩=>?_)
 subst ex
 obtain rfl:v=Value.ref a:=r1
 obtain⟨z,hs,vs,kv,o',es,ep,ho',hc,hdat,h4⟩:=(show bM X.prog X.w H1 s1.heap a (.dK kvs) from I1.hok a _ hd)
 have dd:s1.heap.DictOf (bH X.prog X.w) a vs:=⟨o',es,ep,ho',hc,hdat,h4⟩
 refine⟨"dict","dict.items",PySem.F.plainAttrs_dict,PySem.F.slot_dict_items,PySem.F.type_dict_items,dd.typeIs,(λb e=>by cases e;exact⟨o',ho',hc.2.1⟩),?_⟩
 refine v_ rfl (PySem.evalArgs_none (call_meetsIn PySem.F.slot_dict_items dd.typeIs PySem.F.entry_dict_items (PySem.F.args_dict_items_1 _) (meets_dict_items (bH X.prog X.w) a hs) ⟨⟨vs,dd⟩,?_⟩))
 have I2:Inv X pins σ (upd H1 a (.uR o' (.dK kvs))) s1:=uW (h':=s1.heap) (t':=s1.toks) I1 (by rw[hd];exact True.intro) ⟨rfl,λ_ _=>rfl⟩ ⟨o',ho'⟩ ⟨ho',z,hs,vs,kv,o',es,ep,ho',hc,hdat,h4⟩
 have I3:Inv X pins σ (upd H1 a (.uR o' (.dK kvs))) { s1 with heap:=s1.heap.push { cls:=.type "dict_items",data:=.fields #[.ref a] } }:=I2.kept (t':=s1.toks) λb o e=>a8 _ e
 refine wpAny_pyIter_items (knd:=bH X.prog X.w) (d:=a) (kvs:=vs) (ep:=ep) ⟨_,bo _ rfl,rfl,rfl⟩ ⟨o',es,a8 _ ho',hc,hdat,h4⟩ ?_
 refine⟨_,[(s1.heap.push { cls:=.type "dict_items",data:=.fields #[.ref a] }).objs.size],_,_,_,rfl,I3.kept (t':=s1.toks) λb o e=>a8 _ e,F1 a _ hdat,⟨_,_,by rw[Paired.length kv];exact bo _ rfl⟩,λb hb=>?_,q o'⟩
 have e:b=(s1.heap.push { cls:=.type "dict_items",data:=.fields #[.ref a] }).objs.size:=by simpa using hb
 subst e
 exact I3.uU (a7 _) (I3.hok.fresh (a7 _))
theorem Kv{a:a5}{o:mi}{kvs:List (Key×V)}{g:TG}{tb:TS}{D:Ends}{σ:St}{H:Hp}(Pv:Nat->St->Hp->Prop)(h0:Pv 0 σ H)(hl:∀i σ H,i<=kvs.length->Pv i σ H->H a=some (.uR o (.dK kvs)))
  (hs:∀i k x p σ H,kvs[i]? =some (k,x)->H p=none->Pv i σ H->g (.ref p) σ (upd H p (.tup [kV k,x])) λσ2 H2=>tb { D with nx:=Pv (i+1),ct:=Pv (i+1),bk:=D.nx } σ2 H2) (hd:∀ σ H,Pv kvs.length σ H->D.nx σ H) :
  ∃W:Nat->Nat->St->Hp->Prop,(∃m,W 0 m σ H)/\∀i m σ H,W i m σ H →
   ((XG a o kvs).stop i H/\D.nx σ H)\/((XG a o kvs).go i H/\∃N:St->Hp->Prop,(∀ σ' H',N σ' H'->∃m',m'<m/\W (i+1) m' σ' H')/\∀x H',(XG a o kvs).AE i H x H'->g x σ H' λσ2 H2=>tb { D with nx:=N,ct:=N,bk:=D.nx } σ2 H2):=by
 refine⟨λi m σ H=>m=kvs.length-i/\i<=kvs.length/\Pv i σ H,⟨kvs.length,by simp,d0 _,h0⟩,?_⟩
 rintro i m σ H ⟨rfl,hi,p⟩
 by_cases hlt:i<kvs.length
 ·refine .inr ⟨⟨hl i σ H hi p,hlt⟩,Pv (i+1),λσ' H' p'=>⟨kvs.length-(i+1),by omega,rfl,hlt,p'⟩,λx H' y=>?_⟩
  obtain⟨q,k,x,rfl,hq,rfl,e⟩:=y
  exact hs i k x q σ _ e hq p
 ·have e:i=kvs.length:=by omega
  subst e
  exact .inl ⟨⟨hl _ σ H hi p,a7 _⟩,hd σ H p⟩
noncomputable def SA(H0:Hp)(t:TS):TS:=λD σ H=>t { D with nx:=λσ' H'=>∃a o u,H' a=some (.uR o u)/\(∀o u,H0 a≠some (.uR o u))/\D.nx σ' (upd H' a u) } σ H
theorem Mi{X:Cx}{st:hV}{t:TS}{H0:Hp}(h:PS X st t)(h0:X.H₀=H0):PS X st (SA H0 t):=by
 subst h0
 intro pins s σ H D I q
 refine dG (h pins s σ H _ I q) λf s' z=>?_
 cases f with
 |next =>
  obtain⟨σ',H',I',a,o,u,e,n,d⟩:=z
  exact⟨σ',_,I'.Z7 e n,d⟩
 |brk=>exact z
 |cont=>exact z
 |ret u=>exact z
noncomputable def UT(lo:Int)(n:Nat):It:=⟨λi _=>i<n,λi H x H'=>H'=H/\x= .int (lo-i),λi _=>n<=i⟩
theorem Du{P:bn}{w:df}{K:PySem.W.Frag}{tg:Expr}(it:a5)(lo:Int)(n:Nat):Turn P w K tg (UT lo n) [it] it (λi h=>IsRangeIter h it (lo+(i:Nat)*(-1)) ((n:Int)-(i:Nat)) (-1)) where
 mem:=by simp
 obj:=λi h st b hb=>by
  have e:b=it:=by simpa using hb
  subst e
  exact⟨_,st,λv z=>by
   have z':Data.fields _=Data.cell v:=z
   cases z'⟩
 keep:=λi h h' st k=>k it (by simp) _ st
 item:=by
  intro X hP hw hK hc i pins s σ H E I hf st hg
  subst hP hw hK
  obtain⟨f0,f1,f2,f3,f4,f5⟩:=hf it (by simp)
  have W:=Walks.range (prog:=X.prog) (w:=X.w) (I.ok.hd hc) it lo (-1) n
  refine TK.bP (a7 s.toks) (W.item i s _ _ hg st λv h' tk hv st' kk hup=>?_)
  obtain⟨t,rfl⟩:=hv
  have I1:Inv X pins σ H { s with heap:=h',toks:=tk }:=I.turned (λb o hb e=>kk b o (by simpa using hb) e) f0 f1 f3 f4 f5
  refine⟨_,rfl,Bc (s:={ s with heap:=h',toks:=tk }) (n:= "range_iterator") st' rfl rfl (by decide) ⟨.int (lo-i),H,I1,⟨t,?_⟩,⟨rfl,rfl⟩,st',λb hb=>(hf b hb).1⟩⟩
  rw[Int.mul_neg,Int.mul_one,Int.sub_eq_add_neg]
 done:=by
  intro X hP hw hK hc i pins s σ H E I hf st hg
  subst hP hw hK
  obtain⟨f0,f1,f2,f3,f4,f5⟩:=hf it (by simp)
  exact wpAny_pyNext_range_end (I.ok.hd hc) st (by have:n<=i:=hg;omega) λh' eb=>⟨rfl,I.turned (t':=s.toks) (λb o hb e=>eb b o hb e) f0 f1 f3 f4 f5⟩
 self:=λ_ _ _ _ _ st h=>wpAny_pyIter_rangeiter st h
theorem AS(lo hi:Int):ui lo hi (-1)=(((lo-hi).toNat:Nat):Int):=by
 unfold ui
 rw[if_neg (by decide)]
 split
 ·rw[show(-(-1:Int))=1 from rfl,Int.ediv_one];omega
 ·omega
theorem small_down{a b:Int}(ha: -(2 ^ 62)<=a)(ha':a<2 ^ 62)(hb: -(2 ^ 62)<=b)(hb':b<2 ^ 62):Builtin.Range.small a b (-1)=true:=by
 unfold Builtin.Range.small
 rw[AS]
 simp only[Builtin.Range.rangeFitsLong,ll,Bool.or_eq_true,decide_eq_true_eq,beq_iff_eq,show ¬(-1:Int)>0 by decide,if_false]
 omega
section
variable{X:Cx}{tg:Expr}
theorem JB{pins:List (a5×mi)}{σ:St}{H:Hp}{s:ba}{R:It->Hp->Prop}{E:a9->ba->Prop}{lo hi:Int}{t u v:Do}{tk:Nat}(I:Inv X pins σ H s)(h1: -(2 ^ 62)<=lo)(h2:lo<2 ^ 62)(h3: -(2 ^ 62)<=hi)(h4:hi<2 ^ 62)
  (q:R (UT lo (lo-hi).toNat) H) (htk:s.toks<=tk:=by first|exact a7 _|exact g_ _|assumption|omega):b_ (model X.prog X.w) X.A (pyIter (.ref s.heap.objs.size)) (PIE X pins σ tg R) E { s with heap:=s.heap.push { cls:=.type "range",data:=.fields #[.int lo t,.int hi u,.int (-1) v] },toks:=tk }:=by
 refine wpAny_pyIter_range (IsRange.new ..) (small_down h1 h2 h3 h4) ?_
 have I1:Inv X pins σ H { s with heap:=s.heap.push { cls:=.type "range",data:=.fields #[.int lo t,.int hi u,.int (-1) v] },toks:=tk }:=I.kept λb o e=>a8 _ e
 refine⟨(s.heap.push { cls:=.type "range",data:=.fields #[.int lo t,.int hi u,.int (-1) v] }).objs.size,[(s.heap.push { cls:=.type "range",data:=.fields #[.int lo t,.int hi u,.int (-1) v] }).objs.size],_,_,H,rfl,
  I1.kept (t':=tk) λb o e=>a8 _ e,Du _ lo (lo-hi).toNat,?_,λb hb=>?_,q⟩
 ·have e1:lo+((0:Nat):Int)*(-1)=lo:=by simp
  have e2:(((lo-hi).toNat:Nat):Int)-((0:Nat):Int)=ui lo hi (-1):=by rw[AS];omega
  show IsRangeIter _ _ (lo+((0:Nat):Int)*(-1)) ((((lo-hi).toNat:Nat):Int)-((0:Nat):Int)) (-1)
  rw[e1,e2]
  exact bo _ rfl
 ·have e:b=(s.heap.push { cls:=.type "range",data:=.fields #[.int lo t,.int hi u,.int (-1) v] }).objs.size:=by simpa using hb
  subst e
  exact I1.uU (a7 _) (I1.hok.fresh (a7 _))
noncomputable def Ws(ta:TA):TI:=λσ H R=>ta σ H λvs H1=>∃i j:Int,vs=[.int i,.int j,.int (-1)]/\(-(2 ^ 62)<=i/\i<2 ^ 62/\ -(2 ^ 62)<=j/\j<2 ^ 62)/\R (UT i (i-j).toNat) H1
theorem AX {a b c:Expr}{ta:TA}{p pos:sx}(hg:Gl X "range")(hm:X.mg "range" =none)(ha:PA X [a,b,c] ta)(hs:eP [a,b,c] X.env=[(false,eval a X.env),(false,eval b X.env),(false,eval c X.env)]:=by rfl)(hs2:eP [b,c] X.env=[(false,eval b X.env),(false,eval c X.env)]:=by rfl) :
  PI X tg (.Call (.Name "range" p) [a,b,c] [] pos) (Ws ta):=by
 intro pins s σ H R I h
 refine Call_ (pF I hg hm boot_range (lv (dG (ha pos pins s σ H _ I h) λus s1 ⟨vs,H1,I1,r1,q1⟩=>?_) (by rw[hs,hs2]) (by rw[hs2];rfl)))
 obtain⟨i,j,e,⟨q1,q2,q3,q4⟩,q⟩:=q1
 subst e
 cases r1 with
 |cons r rr =>
  cases rr with
  |cons r' rr =>
   cases rr with
   |cons r'' rr =>
    cases rr
    obtain⟨t,rfl⟩:=r
    obtain⟨t',rfl⟩:=r'
    obtain⟨t'',rfl⟩:=r''
    exact call_range_3 (by decide) (JB I1 q1 q2 q3 q4 q) (.inl (PyProof.noPylong_small (by decide)))
end
theorem EJ{lo:Int}{n:Nat}{g:TG}{tb:TS}{D:Ends}{σ:St}{H:Hp}(Pv:Nat->St->Hp->Prop)(h0:Pv 0 σ H)
  (hs:∀i σ H,i<n->Pv i σ H->g (.int (lo-i)) σ H λσ2 H2=>tb { D with nx:=Pv (i+1),ct:=Pv (i+1),bk:=D.nx } σ2 H2) (hd:∀ σ H,Pv n σ H->D.nx σ H) :
  ∃W:Nat->Nat->St->Hp->Prop,(∃m,W 0 m σ H)/\∀i m σ H,W i m σ H →
   ((UT lo n).stop i H/\D.nx σ H)\/((UT lo n).go i H/\∃N:St->Hp->Prop,(∀ σ' H',N σ' H'->∃m',m'<m/\W (i+1) m' σ' H')/\∀x H',(UT lo n).AE i H x H'->g x σ H' λσ2 H2=>tb { D with nx:=N,ct:=N,bk:=D.nx } σ2 H2):=by
 refine⟨λi m σ H=>m=n-i/\i<=n/\Pv i σ H,⟨n,by simp,d0 _,h0⟩,?_⟩
 rintro i m σ H ⟨rfl,hi,p⟩
 by_cases hlt:i<n
 ·refine .inr ⟨hlt,Pv (i+1),λσ' H' p'=>⟨n-(i+1),by omega,rfl,hlt,p'⟩,λx H' y=>?_⟩
  obtain⟨e,y⟩:=y
  subst e y
  exact hs i σ _ hlt p
 ·have e:i=n:=by omega
  subst e
  exact .inl ⟨a7 _,hd σ H p⟩
end
end L2
namespace GP
open PySem L2 rW
section
noncomputable abbrev zo:=Option (Nat×Nat)
noncomputable def Gd.bw(g:Gd)(E:bu->Bool):Nat->bu->Option (Int×List bu)
 | 0,s=>if E s then some (0,[])else none
 |d+1,s=>if E s then some (0,[])else fmin (·.1) ((g.steps s).filterMap λt=>(g.bw E d t.1).map λw=>(t.2+w.1,t.1::w.2))
noncomputable def Gd.qP(g:Gd)(E:bu->Bool)(s:bu):Option (Int×List bu):=g.bw E (g.ht s) s
theorem gj{α β:Type}{l:List α}{f h:α->Option β}(e:∀a∈l,f a=h a):l.filterMap f=l.filterMap h:=by
 induction l with
 |nil=>rfl
 |cons a l ih=>rw[im,im,e a cr,ih λb hb=>e b (ce _ hb)]
theorem Gd.vD{g:Gd}{s:bu}(h:g.ht s=0):g.steps s=[]:=by
 rw[List.eq_nil_iff_forall_not_mem]
 intro t ht
 have:=Gd.fK ht
 omega
theorem Gd.xT{g:Gd}{E:bu->Bool}:∀(d:Nat) (s:bu),g.ht s<=d->g.bw E d s=g.qP E s
 | 0,s,h=>by unfold Gd.qP;rw[Nat.le_zero.mp h]
 |d+1,s,h=>by
  have e1:∀t∈g.steps s,g.bw E d t.1=g.qP E t.1:=λt ht=>Gd.xT d t.1 (by have:=Gd.fK ht;omega)
  unfold Gd.qP
  cases hk:g.ht s with
  |zero =>
   show(if E s then _ else fmin _ (pf _ (g.steps s)))=(if E s then _ else none)
   rw[Gd.vD hk]
   rfl
  |succ k =>
   have e2:∀t∈g.steps s,g.bw E k t.1=g.qP E t.1:=λt ht=>Gd.xT k t.1 (by have:=Gd.fK ht;omega)
   show(if E s then _ else fmin _ (pf _ (g.steps s)))=(if E s then _ else fmin _ (pf _ (g.steps s)))
   rw[gj λt ht=>by rw[e1 t ht,←e2 t ht]]
 termination_by d=>d
theorem Gd.qH{g:Gd}{E:bu->Bool}{s:bu}(h:E s=true):g.qP E s=some (0,[]):=by
 unfold Gd.qP
 cases g.ht s with
 |zero=>show(if E s then _ else _)=_;rw[if_pos h]
 |succ k=>show(if E s then _ else _)=_;rw[if_pos h]
theorem Gd.qG{g:Gd}{E:bu->Bool}{s:bu}(h:E s=false):g.qP E s=fmin (·.1) ((g.steps s).filterMap λt=>(g.qP E t.1).map λw=>(t.2+w.1,t.1::w.2)):=by
 rw[←Gd.xT (g.ht s+1) s (g_ _)]
 show(if E s then _ else _)=_
 rw[if_neg (by rw[h];exact cw)]
 rw[gj λt ht=>by rw[Gd.xT (g.ht s) t.1 (kz (Gd.fK ht))]]
theorem rN{α β:Type}{f:β->Int}{h:α->β}:∀l:List α,fmin f (l.map h)=(fmin (λa=>f (h a)) l).map h
 |[]=>rfl
 |a::l=>by
  rw[g0]
  unfold fmin
  rw[rN l]
  cases fmin (λa=>f (h a)) l with
  |none=>rfl
  |some b =>
   show(if f (h b)<f (h a)then some (h b)else some (h a))=Option.map h (if f (h b)<f (h a)then some b else some a)
   split<;>rfl
theorem oB{α β γ:Type}(f:α->Option β)(h:β->γ)(l:List α):(l.filterMap f).map h=l.filterMap λa=>(f a).map h:=by
 rw[List.map_filterMap]
noncomputable def n8(u:Nat)(s:bu)(path:List bu):zo:=if u<s.1 then none else((s::path).find? λt=>t.1==u).map λt=>(t.2.1,t.2.2)
noncomputable def Gd.sv(g:Gd)(E:bu->Bool)(u:Nat)(s:bu):Option (Int×zo):=(g.qP E s).map λw=>(w.1,n8 u s w.2)
noncomputable def Gd.cands(g:Gd)(x:bu->Option (Int×zo))(s:bu):List (Int×zo):=(g.steps s).filterMap λt=>(x t.1).map λw=>(t.2+w.1,w.2)
theorem Gd.DG{g:Gd}{s:bu}{t:bu×Int}(h:t∈g.steps s):s.1<=t.1.1/\t.1.1<=s.1+1:=by
 rcases Gd.fq.mp h with⟨_,_,rfl⟩|⟨_,rfl⟩|⟨_,rfl⟩<;>simp
theorem LD{u:Nat}{s t:bu}{path:List bu}(h1:s.1<=t.1)(h2:t.1<=s.1+1)(n:s.1≠u):n8 u s (t::path)=n8 u t path:=by
 unfold n8
 by_cases h:u<s.1
 ·rw[if_pos h,if_pos (by omega)]
 ·rw[if_neg h,if_neg (by omega),ft,beq_false_of_ne n]
theorem Gd.zd{g:Gd}{E:bu->Bool}{u:Nat}{s:bu}{x:bu->Option (Int×zo)}(hE:E s=false)(h1:∀t∈g.steps s,(x t.1).map (·.1)=(g.qP E t.1).map (·.1))(h2:s.1≠u->∀t∈g.steps s,x t.1=g.sv E u t.1):
  (fmin (·.1) (g.cands x s)).map (·.1)=(g.qP E s).map (·.1)/\(s.1≠u->fmin (·.1) (g.cands x s)=g.sv E u s):=by
 have low:∀{α:Type} (l:List (Int×α)),(fmin (·.1) l).map (·.1)=fmin id (l.map (·.1)):=λl=>(rN (f:=id) (h:=λ(w:Int×_)=>w.1) l).symm
 constructor
 ·rw[Gd.qG hE,low,low]
  unfold Gd.cands
  rw[oB,oB]
  congr 1
  refine gj λt ht=>?_
  have e:=h1 t ht
  cases hx:x t.1 with
  |none =>
   rw[hx]at e
   have e':g.qP E t.1=none:=by
    cases hb:g.qP E t.1 with
    |none=>rfl
    |some b=>rw[hb]at e;cases e
   rw[e']
   rfl
  |some w =>
   rw[hx]at e
   cases hb:g.qP E t.1 with
   |none=>rw[hb]at e;cases e
   |some b =>
    rw[hb]at e
    have e':w.1=b.1:=dA e
    show some (t.2+w.1)=some (t.2+b.1)
    rw[e']
 ·intro n
  unfold Gd.sv
  rw[Gd.qG hE]
  unfold Gd.cands
  have e:=rN (f:=λ(w:Int×zo)=>w.1) (h:=λ(w:Int×List bu)=>(w.1,n8 u s w.2)) ((g.steps s).filterMap λt=>(g.qP E t.1).map λw=>(t.2+w.1,t.1::w.2))
  rw[←e,oB]
  congr 1
  refine gj λt ht=>?_
  rw[h2 n t ht]
  unfold Gd.sv
  cases g.qP E t.1 with
  |none=>rfl
  |some w =>
   obtain⟨r1,r2⟩:=Gd.DG ht
   show some (t.2+w.1,n8 u t.1 w.2)=some (t.2+w.1,n8 u s (t.1::w.2))
   rw[LD r1 r2 n]
theorem Gd.Vm{g:Gd}{E:bu->Bool}{u:Nat}{s:bu}(h:s.1=u):g.sv E u s=((g.qP E s).map (·.1)).map λr=>(r,some (s.2.1,s.2.2)):=by
 unfold Gd.sv
 cases g.qP E s with
 |none=>rfl
 |some w =>
  show some (w.1,n8 u s w.2)=some (w.1,some (s.2.1,s.2.2))
  unfold n8
  rw[if_neg (by omega),ft,h,beq_self_eq_true]
  rfl
theorem Gd.SN{g:Gd}{E:bu->Bool}{u:Nat}{s:bu}(h:E s=true)(n:s.1≠u):g.sv E u s=some (0,none):=by
 unfold Gd.sv
 rw[Gd.qH h]
 show some ((0:Int),n8 u s [])=_
 unfold n8
 split
 ·rfl
 ·rw[ft,beq_false_of_ne n]
  rfl
noncomputable def fh(s:bu)(v:Nat):bu:=(if v=98 then s.1 else s.1+1,if v=97 then s.2.1 else s.2.1+1,v)
noncomputable def iN:bu->List Nat->List bu
 |_,[]=>[]
 |s,v::vs=>fh s v::iN (fh s v) vs
theorem Gd.ur{g:Gd}{s:bu}{t:bu×Int}(h:t∈g.steps s):t.1=fh s t.1.2.2:=by
 rcases Gd.fq.mp h with⟨_,_,rfl⟩|⟨_,rfl⟩|⟨_,rfl⟩<;>rfl
structure Gd.NX(g:Gd):Prop where
 en:∀i j,g.en i j=decide (i=g.n/\j=g.m)
noncomputable def Gd.last(g:Gd)(s:bu):Bool:=decide (s.1=g.n/\s.2.1=g.m)
theorem Gd.Bm{g:Gd}{E:bu->Bool}(W:g.NX)(hE:∀s,g.In s->E s=g.last s):∀(d:Nat) (s:bu),g.In s->g.ht s<=d->g.qP E s=some (g.rest s,iN s (g.moves s))
 |d,s,hs,hd=>by
  have ok:g.Ok:=by show g.en g.n g.m=true;rw[W.en];simp
  by_cases e:s.1=g.n/\s.2.1=g.m
  ·have hl:E s=true:=by rw[hE s hs];exact decide_eq_true e
   have st:g.steps s=[]:=Gd.vD (by unfold Gd.ht;omega)
   have r0:g.rest s=0:=by
    rw[g.rest_eq]
    unfold Gd.costs
    rw[st,W.en,e.1,e.2]
    simp[xj]
   have hst:g.stop s=true:=by
    unfold Gd.stop
    rw[W.en,r0,decide_eq_true e]
    rfl
   rw[Gd.qH hl,r0,Gd.qt hst]
   rfl
  ·have hl:E s=false:=by rw[hE s hs];exact decide_eq_false e
   have hst:g.stop s=false:=by
    unfold Gd.stop
    rw[W.en,decide_eq_false e]
    rfl
   obtain⟨t,ht,QT,en,ek,_⟩:=g.go ok hs hst
   have h1:=Gd.fK QT
   have key:∀u∈g.steps s,g.qP E u.1=some (g.rest u.1,iN u.1 (g.moves u.1)):=λu hu=>by
    have h2:=Gd.fK hu
    cases d with
    |zero=>omega
    |succ d=>exact Gd.Bm W hE d u.1 (Gd.mq hu hs) (by omega)
   rw[Gd.qG hl,gj λu hu=>by rw[key u hu]]
   show fmin (·.1) ((g.steps s).filterMap λu=>some (u.2+g.rest u.1,u.1::iN u.1 (g.moves u.1)))=_
   rw[show((g.steps s).filterMap λu=>some (u.2+g.rest u.1,u.1::iN u.1 (g.moves u.1)))=(g.steps s).map (λu=>(u.2+g.rest u.1,u.1::iN u.1 (g.moves u.1))) from List.filterMap_eq_map (f:=λ(u:bu×Int)=>(u.2+g.rest u.1,u.1::iN u.1 (g.moves u.1)))▸rfl,rN]
   rw[show fmin (λ(a:bu×Int)=>a.2+g.rest a.1) (g.steps s)=some t from ht]
   show some (t.2+g.rest t.1,t.1::iN t.1 (g.moves t.1))=_
   rw[show t.2+g.rest t.1=g.rest s from ek,Gd.uK ok hs hst,en]
   show _=some (g.rest s,fh s t.1.2.2::iN (fh s t.1.2.2) (g.moves t.1))
   rw[←Gd.ur QT]
 termination_by d=>d
noncomputable def downs(s:bu)(mv:List Nat):List bu:=(iN s mv).filter λt=>t.2.2 != 98
theorem nR:∀(mv:List Nat) (s:bu) (k:Nat),(s::iN s mv).find? (λt=>t.1==s.1+k)=(s::downs s mv)[k]?
 |mv,s,0=>by
  rw[ft,Nat.add_zero,beq_self_eq_true]
  rfl
 |[],s,k+1=>by
  rw[ft,beq_false_of_ne (by omega)]
  rfl
 |v::vs,s,k+1=>by
  rw[ft,beq_false_of_ne (by omega)]
  show(fh s v::iN (fh s v) vs).find? (λt=>t.1==s.1+(k+1))=(downs s (v::vs))[k]?
  by_cases e:v=98
  ·have r:(fh s v).1=s.1:=by unfold fh;rw[if_pos e]
   rw[←r,nR vs (fh s v) (k+1)]
   show(downs (fh s v) vs)[k]? =_
   unfold downs
   rw[show iN s (v::vs)=fh s v::iN (fh s v) vs from rfl,mI (by show ¬(v != 98)=true;rw[e];decide)]
  ·have r:(fh s v).1=s.1+1:=by unfold fh;rw[if_neg e]
   rw[show s.1+(k+1)=(fh s v).1+k by omega,nR vs (fh s v) k]
   unfold downs
   rw[show iN s (v::vs)=fh s v::iN (fh s v) vs from rfl,mB (by show(v != 98)=true;rw[bne_iff_ne];exact e)]
theorem Gd.Bk{g:Gd}:∀{mv:List Nat} {s e:bu} {c:Int},g.walk s mv=some (c,e)->e.1=s.1+(downs s mv).length
 |[],s,e,c,h=>by cases h;rfl
 |v::vs,s,e,c,h=>by
  obtain⟨t,c',ht,rfl,hw,_⟩:=Gd.qU h
  have ih:=Gd.Bk hw
  have em:=Gd.ur ht
  rw[em]at ih
  unfold downs at ih ⊢
  rw[show iN s (t.1.2.2::vs)=fh s t.1.2.2::iN (fh s t.1.2.2) vs from rfl]
  by_cases q:t.1.2.2=98
  ·rw[mI (by show ¬(t.1.2.2 != 98)=true;rw[q];decide),ih]
   unfold fh
   rw[if_pos q]
  ·rw[mB (by show(t.1.2.2 != 98)=true;rw[bne_iff_ne];exact q),ih,eM]
   unfold fh
   rw[if_neg q]
   simp only
   omega
theorem Gd.Lz{g:Gd}{E:bu->Bool}(W:g.NX)(hE:∀s,g.In s->E s=g.last s){s:bu}(hs:g.In s)(k:Nat):g.sv E (s.1+k) s=some (g.rest s,((s::downs s (g.moves s))[k]?).map λt=>(t.2.1,t.2.2)):=by
 unfold Gd.sv
 rw[Gd.Bm W hE _ s hs (a7 _)]
 show some (g.rest s,n8 (s.1+k) s (iN s (g.moves s)))=_
 unfold n8
 rw[if_neg (by omega),nR]
end
section
noncomputable def NV(T:PT)(v c:Nat):Int:=if v=c then cX (uT T) T.2.2.2 else cX (uT T) T.2.2.1+cX (uT T) T.2.2.2
noncomputable abbrev CF:=Nat->Option (Int×zo)
noncomputable def iX:CF:=λ_=>none
noncomputable def pJ(T:PT)(c:Nat)(pr:Int)(fa fu fb:CF):List (Int×zo):=((fa 112).map λw=>(pr+w.1,w.2)).toList++(((fu 97).map λw=>(NV T 97 c+w.1,w.2)).toList++((fb 98).map λw=>(NV T 98 c+w.1,w.2)).toList)
noncomputable def lK(T:PT)(pr:Int)(fa fu fb:CF):CF:=λc=>if c∈vZ then fmin (·.1) (pJ T c pr fa fu fb)else none
noncomputable def jA(T:PT)(L:List Nat):Nat->CF
 | 0=>λc=>if c∈L then some (0,none)else none
 |k+1=>lK T 0 iX iX (jA T L k)
noncomputable def c9(T:PT)(pc:Nat->Int)(U:Nat->CF)(m:Nat):Nat->CF
 | 0=>lK T 0 iX (U m) iX
 |k+1=>lK T (pc (m-(k+1))) (U (m-(k+1)+1)) (U (m-(k+1))) (c9 T pc U m k)
noncomputable def uq(R:Nat->CF):Nat->CF:=λj c=>(R j c).map λw=>(w.1,some (j,c))
noncomputable def rO(n m:Nat)(L:List Nat):bu->Bool:=λs=>decide (s.1=n/\s.2.1=m/\s.2.2∈L)
noncomputable def xy(g:Gd)(E:bu->Bool)(u i:Nat)(R:Nat->CF)(j:Nat):Prop:=∀c∈vZ,(R j c).map (·.1)=(g.qP E (i,j,c)).map (·.1)/\(i≠u->R j c=g.sv E u (i,j,c))
noncomputable def E8(g:Gd)(E:bu->Bool)(u i:Nat)(S:Nat->CF):Prop:=∀j,j<=g.m->∀c∈vZ,S j c=g.sv E u (i,j,c)
theorem E8.val{g:Gd}{E:bu->Bool}{u i j c:Nat}{S:Nat->CF}(h:E8 g E u i S)(hj:j<=g.m)(hc:c∈vZ):(S j c).map (·.1)=(g.qP E (i,j,c)).map (·.1):=by
 rw[h j hj c hc]
 unfold Gd.sv
 cases g.qP E (i,j,c)<;>rfl
theorem xy.s{g:Gd}{E:bu->Bool}{u i:Nat}{R:Nat->CF}(h:∀j,j<=g.m->xy g E u i R j)(n:i≠u):E8 g E u i R:=λj hj c hc=>(h j hj c hc).2 n
theorem xy.stops{g:Gd}{E:bu->Bool}{u:Nat}{R:Nat->CF}(h:∀j,j<=g.m->xy g E u u R j):E8 g E u u (uq R):=λj hj c hc=>by
 rw[Gd.Vm (s:=(u,j,c)) rfl,←(h j hj c hc).1]
 unfold uq
 cases R j c<;>rfl
theorem NI:112∈vZ:=by decide
theorem I8:97∈vZ:=by decide
theorem Q9:98∈vZ:=by decide
section
variable{T:PT}{mn f s:bp}{L:List Nat}{u:Nat}
theorem A9(hL:∀c∈L,c∈vZ):∀k,k<=s.cps.size->xy (cW T mn f s) (rO f.cps.size s.cps.size L) u f.cps.size (λj=>jA T L (s.cps.size-j)) (s.cps.size-k)
 | 0,_=>λc hc=>by
  rw[Nat.sub_zero]
  show((jA T L (s.cps.size-s.cps.size) c).map (·.1)=_)/\(_->jA T L (s.cps.size-s.cps.size) c=_)
  rw[xf]
  show((if c∈L then some ((0:Int),(none:zo))else none).map (·.1)=_)/\(_->(if c∈L then some ((0:Int),(none:zo))else none)=_)
  by_cases e:c∈L
  ·have hE:rO f.cps.size s.cps.size L (f.cps.size,s.cps.size,c)=true:=decide_eq_true ⟨rfl,rfl,e⟩
   rw[if_pos e,Gd.qH hE]
   exact⟨rfl,λn=>(Gd.SN hE n).symm⟩
  ·have hE:rO f.cps.size s.cps.size L (f.cps.size,s.cps.size,c)=false:=decide_eq_false λz=>e z.2.2
   have st:(cW T mn f s).steps (f.cps.size,s.cps.size,c)=[]:=Gd.vD (by show f.cps.size-f.cps.size+(s.cps.size-s.cps.size)=0;omega)
   rw[if_neg e]
   unfold Gd.sv
   rw[Gd.qG hE,st]
   exact⟨rfl,λ_=>rfl⟩
 |k+1,hk=>λc hc=>by
  have ih:=A9 hL k (by omega)
  have hE:rO f.cps.size s.cps.size L (f.cps.size,s.cps.size-(k+1),c)=false:=decide_eq_false λz=>by have:=z.2.1;simp only at this;omega
  have hc1:=Gd.zd (g:=cW T mn f s) (u:=u) (s:=(f.cps.size,s.cps.size-(k+1),c)) (x:=λt=>jA T L (s.cps.size-t.2.1) t.2.2) hE (λt ht=>?_) λn t ht=>?_
  ·have e2:(cW T mn f s).cands (λt=>jA T L (s.cps.size-t.2.1) t.2.2) (f.cps.size,s.cps.size-(k+1),c)=pJ T c 0 iX iX (jA T L k):=by
    unfold Gd.cands Gd.steps pJ iX
    show pf _ ((if f.cps.size<f.cps.size/\s.cps.size-(k+1)<s.cps.size then _ else _)++((if f.cps.size<f.cps.size then _ else _)++(if s.cps.size-(k+1)<s.cps.size then _ else _)))=_
    rw[if_neg (c:=f.cps.size<f.cps.size/\s.cps.size-(k+1)<s.cps.size) (λz=>absurd z.1 (f8 _)),if_neg (c:=f.cps.size<f.cps.size) (f8 _),if_pos (c:=s.cps.size-(k+1)<s.cps.size) (by omega)]
    show pf _ [((f.cps.size,s.cps.size-(k+1)+1,98),(cW T mn f s).ac 98 c)]=_
    rw[im,x_]
    simp only[show s.cps.size-(s.cps.size-(k+1)+1)=k by omega,wl,si,List.nil_append]
    show _=((jA T L k 98).map λw=>((cW T mn f s).ac 98 c+w.1,w.2)).toList
    cases jA T L k 98<;>rfl
   rw[e2]at hc1
   show((jA T L (s.cps.size-(s.cps.size-(k+1))) c).map (·.1)=_)/\(_->jA T L (s.cps.size-(s.cps.size-(k+1))) c=_)
   rw[show s.cps.size-(s.cps.size-(k+1))=k+1 by omega]
   show((lK T 0 iX iX (jA T L k) c).map (·.1)=_)/\(_->lK T 0 iX iX (jA T L k) c=_)
   unfold lK
   rw[if_pos hc]
   exact hc1
  all_goals
   rcases Gd.fq.mp ht with⟨z,_⟩|⟨z,_⟩|⟨_,rfl⟩
   ·exact absurd z (f8 _)
   ·exact absurd z (f8 _)
   ·have:=ih 98 Q9
    rw[show s.cps.size-k=s.cps.size-(k+1)+1 by omega]at this
    first|exact this.1|exact this.2 n
theorem Hv{i:Nat}{U:Nat->CF}(hi:i<f.cps.size)(hU:E8 (cW T mn f s) (rO f.cps.size s.cps.size L) u (i+1) U):∀k,k<=s.cps.size->xy (cW T mn f s) (rO f.cps.size s.cps.size L) u i (λj=>c9 T ((cW T mn f s).pc i) U s.cps.size (s.cps.size-j)) (s.cps.size-k):=by
 have hE:∀j c,rO f.cps.size s.cps.size L (i,j,c)=false:=λj c=>decide_eq_false λz=>by have:=z.1;simp only at this;omega
 have xp:∀(j c:Nat),(λt:bu=>if t.1=i then c9 T ((cW T mn f s).pc i) U s.cps.size (s.cps.size-t.2.1) t.2.2 else U t.2.1 t.2.2) (i+1,j,c)=U j c:=λj c=>if_neg (by simp)
 have xb:∀(j c:Nat),(λt:bu=>if t.1=i then c9 T ((cW T mn f s).pc i) U s.cps.size (s.cps.size-t.2.1) t.2.2 else U t.2.1 t.2.2) (i,j,c)=c9 T ((cW T mn f s).pc i) U s.cps.size (s.cps.size-j) c:=λj c=>if_pos rfl
 intro k
 induction k with
 |zero =>
  intro _ c hc
  have hc1:=Gd.zd (g:=cW T mn f s) (u:=u) (s:=(i,s.cps.size,c)) (x:=λt=>if t.1=i then c9 T ((cW T mn f s).pc i) U s.cps.size (s.cps.size-t.2.1) t.2.2 else U t.2.1 t.2.2) (hE _ _) (λt ht=>?_) λn t ht=>?_
  ·have e2:(cW T mn f s).cands (λt=>if t.1=i then c9 T ((cW T mn f s).pc i) U s.cps.size (s.cps.size-t.2.1) t.2.2 else U t.2.1 t.2.2) (i,s.cps.size,c)=pJ T c 0 iX (U s.cps.size) iX:=by
    unfold Gd.cands Gd.steps pJ
    show pf _ ((if i<f.cps.size/\s.cps.size<s.cps.size then _ else _)++((if i<f.cps.size then _ else _)++(if s.cps.size<s.cps.size then _ else _)))=_
    rw[if_neg (c:=i<f.cps.size/\s.cps.size<s.cps.size) (λz=>absurd z.2 (f8 _)),if_pos (c:=i<f.cps.size) hi,if_neg (c:=s.cps.size<s.cps.size) (f8 _)]
    show pf _ [((i+1,s.cps.size,97),(cW T mn f s).ac 97 c)]=_
    rw[im,x_]
    simp only[xp]
    simp only[iX,wl,si,List.nil_append,ib]
    show _=((U s.cps.size 97).map λw=>((cW T mn f s).ac 97 c+w.1,w.2)).toList
    cases U s.cps.size 97<;>rfl
   rw[e2]at hc1
   show((c9 T ((cW T mn f s).pc i) U s.cps.size (s.cps.size-(s.cps.size-0)) c).map (·.1)=_)/\(_->c9 T ((cW T mn f s).pc i) U s.cps.size (s.cps.size-(s.cps.size-0)) c=_)
   rw[show s.cps.size-(s.cps.size-0)=0 by omega,Nat.sub_zero]
   show((lK T 0 iX (U s.cps.size) iX c).map (·.1)=_)/\(_->lK T 0 iX (U s.cps.size) iX c=_)
   unfold lK
   rw[if_pos hc]
   exact hc1
  all_goals
   rcases Gd.fq.mp ht with⟨_,z,_⟩|⟨_,rfl⟩|⟨z,_⟩
   ·exact absurd z (f8 _)
   ·have z1:=hU.val (j:=s.cps.size) (a7 _) I8
    have z2:=hU s.cps.size (a7 _) 97 I8
    simp only[xp]
    first|exact z1|exact z2
   ·exact absurd z (f8 _)
 |succ k ihk =>
  intro hk c hc
  have ih:=ihk (by omega)
  have hj:s.cps.size-(k+1)+1=s.cps.size-k:=by omega
  have hc1:=Gd.zd (g:=cW T mn f s) (u:=u) (s:=(i,s.cps.size-(k+1),c)) (x:=λt=>if t.1=i then c9 T ((cW T mn f s).pc i) U s.cps.size (s.cps.size-t.2.1) t.2.2 else U t.2.1 t.2.2) (hE _ _) (λt ht=>?_) λn t ht=>?_
  ·have e2:(cW T mn f s).cands (λt=>if t.1=i then c9 T ((cW T mn f s).pc i) U s.cps.size (s.cps.size-t.2.1) t.2.2 else U t.2.1 t.2.2) (i,s.cps.size-(k+1),c)=pJ T c ((cW T mn f s).pc i (s.cps.size-(k+1))) (U (s.cps.size-(k+1)+1)) (U (s.cps.size-(k+1))) (c9 T ((cW T mn f s).pc i) U s.cps.size k):=by
    unfold Gd.cands Gd.steps pJ
    show pf _ ((if i<f.cps.size/\s.cps.size-(k+1)<s.cps.size then _ else _)++((if i<f.cps.size then _ else _)++(if s.cps.size-(k+1)<s.cps.size then _ else _)))=_
    rw[if_pos (c:=i<f.cps.size/\s.cps.size-(k+1)<s.cps.size) ⟨hi,by omega⟩,if_pos (c:=i<f.cps.size) hi,if_pos (c:=s.cps.size-(k+1)<s.cps.size) (by omega)]
    show pf _ [((i+1,s.cps.size-(k+1)+1,112),(cW T mn f s).pc i (s.cps.size-(k+1))),((i+1,s.cps.size-(k+1),97),(cW T mn f s).ac 97 c),((i,s.cps.size-(k+1)+1,98),(cW T mn f s).ac 98 c)]=_
    simp only[im,x_,xp,xb]
    rw[show s.cps.size-(s.cps.size-(k+1)+1)=k by omega]
    show _=((U (s.cps.size-(k+1)+1) 112).map _).toList++(((U (s.cps.size-(k+1)) 97).map λw=>((cW T mn f s).ac 97 c+w.1,w.2)).toList++((c9 T ((cW T mn f s).pc i) U s.cps.size k 98).map λw=>((cW T mn f s).ac 98 c+w.1,w.2)).toList)
    cases U (s.cps.size-(k+1)+1) 112<;>cases U (s.cps.size-(k+1)) 97<;>cases c9 T ((cW T mn f s).pc i) U s.cps.size k 98<;>rfl
   rw[e2]at hc1
   show((c9 T ((cW T mn f s).pc i) U s.cps.size (s.cps.size-(s.cps.size-(k+1))) c).map (·.1)=_)/\(_->c9 T ((cW T mn f s).pc i) U s.cps.size (s.cps.size-(s.cps.size-(k+1))) c=_)
   rw[show s.cps.size-(s.cps.size-(k+1))=k+1 by omega]
   show((lK T ((cW T mn f s).pc i (s.cps.size-(k+1))) (U (s.cps.size-(k+1)+1)) (U (s.cps.size-(k+1))) (c9 T ((cW T mn f s).pc i) U s.cps.size k) c).map (·.1)=_)/\(_->lK T ((cW T mn f s).pc i (s.cps.size-(k+1))) (U (s.cps.size-(k+1)+1)) (U (s.cps.size-(k+1))) (c9 T ((cW T mn f s).pc i) U s.cps.size k) c=_)
   unfold lK
   rw[if_pos hc]
   exact hc1
  all_goals
   rcases Gd.fq.mp ht with⟨_,_,rfl⟩|⟨_,rfl⟩|⟨_,rfl⟩
   ·have z1:=hU.val (j:=s.cps.size-(k+1)+1) (by show _<=s.cps.size;omega) NI
    have z2:=hU (s.cps.size-(k+1)+1) (by show _<=s.cps.size;omega) 112 NI
    simp only[xp]
    first|exact z1|exact z2
   ·have z1:=hU.val (j:=s.cps.size-(k+1)) (by show _<=s.cps.size;omega) I8
    have z2:=hU (s.cps.size-(k+1)) (by show _<=s.cps.size;omega) 97 I8
    simp only[xp]
    first|exact z1|exact z2
   ·have z:=ih 98 Q9
    simp only at z
    simp only[xb]
    rw[hj]
    first|exact z.1|exact z.2 n
end
end
end GP
namespace L2
open PySem PySem.Spec PyProof.Rows PySem.W
theorem B3{X:Cx}(hu:X.A.units+1<cLine):uh X (compareOp .In) (λx y H Q=>∃a o,y= .ref a/\pI H a x o/\Q (.bl o.isSome) H):=by
 intro pins s σ H x y u v Q I rx ry h
 obtain⟨a,o,rfl,g,q⟩:=h
 cases (show v=Value.ref a from ry)
 exact ace hu I g rx λs' I'=>⟨.bl o.isSome,H,I',rfl,q⟩
end L2
namespace GP
open PySem L2 rW
section
noncomputable def kS(c:Nat):Key:=.inr ⟨#[c]⟩
theorem TL{a b:Nat}(h:kS a=kS b):a=b:=by
 unfold kS at h
 simpa using h
noncomputable def UR(H:Hp):zo->V->Prop
 |none,v=>v= .ia
 |some q,v=>∃p,v= .ref p/\H p=some (.tup [.int (q.1:Int),.str ⟨#[q.2]⟩])
noncomputable def uf(H:Hp)(w:Int×zo)(v:V):Prop:=∃p x,v= .ref p/\H p=some (.tup [.int w.1,x])/\UR H w.2 x
noncomputable def WyO(H:Hp):Option (Int×zo)->V->Prop
 |none,v=>v= .ia
 |some w,v=>uf H w v
noncomputable def NY(H H':Hp):Prop:=∀p xs,H p=some (.tup xs)->H' p=some (.tup xs)
theorem m6{H H':Hp}(e:aj H H'):NY H H':=λp xs q=>e _ _ q
theorem UR.tps{H H':Hp}{s:zo}{v:V}(h:UR H s v)(e:NY H H'):UR H' s v:=by
 cases s with
 |none=>exact h
 |some q=>obtain⟨p,a,b⟩:=h;exact⟨p,a,e _ _ b⟩
theorem uf.tps{H H':Hp}{w:Int×zo}{v:V}(h:uf H w v)(e:NY H H'):uf H' w v:=by
 obtain⟨p,x,a,b,c⟩:=h
 exact⟨p,x,a,e _ _ b,c.tps e⟩
theorem kH{H:Hp}{d:a5}{o u:HO}(h:H d=some u)(n:∀xs,u≠ .tup xs):NY H (L2.upd H d o):=λp xs e=>by
 rw[au (λz=>by rw[z,h]at e;exact n xs (dA e))]
 exact e
theorem OC{H:Hp}{d:a5}{o:HO}(h:H d=none):NY H (L2.upd H d o):=m6 (aj.upd h)
theorem NY.trans{H H' N4:Hp}(a:NY H H')(b:NY H' N4):NY H N4:=λp xs e=>b p xs (a p xs e)
noncomputable def K6(H:Hp)(f:CF)(kvs:List (Key×V))(cs:List Nat):Prop:=cs.Nodup/\Paired (λe c=>e.1=kS c/\∃w,f c=some w/\uf H w e.2) kvs cs
theorem K6.tps{H H':Hp}{f:CF}{kvs:List (Key×V)}{cs:List Nat}(h:K6 H f kvs cs)(e:NY H H'):K6 H' f kvs cs:=⟨h.1,Paired.g8 h.2 λ_ _ ⟨a,w,b,c⟩=>⟨a,w,b,c.tps e⟩⟩
noncomputable def jY(H:Hp)(d:a5)(f:CF):Prop:=∃kvs cs,H d=some (.dK kvs)/\K6 H f kvs cs/\(∀c,(f c).isSome=true->c∈cs)/\cs.length<=3
theorem jY.same{H H':Hp}{d:a5}{f:CF}(h:jY H d f)(e:aj H H'):jY H' d f:=by
 obtain⟨kvs,cs,a,b,c⟩:=h
 exact⟨kvs,cs,e _ _ a,b.tps (m6 e),c⟩
theorem Cz{H:Hp}{f:CF}(c:Nat):∀{kvs:List (Key×V)} {cs:List Nat},Paired (λ(e:Key×V) c=>e.1=kS c/\∃w,f c=some w/\uf H w e.2) kvs cs->(c∈cs->∃v w,iO kvs (kS c)=some v/\f c=some w/\uf H w v)/\(c∉cs->iO kvs (kS c)=none)
 |_,_,.nil=>⟨λh=>(nomatch h),λ_=>rfl⟩
 |_,_,.cons (a:=e) (b:=b) ⟨h1,w,h2,h3⟩ r=>by
  obtain⟨i1,i2⟩:=Cz c r
  by_cases z:b=c
  ·subst z
   exact⟨λ_=>⟨e.2,w,eT h1,h2,h3⟩,λn=>absurd cr n⟩
  ·have n:¬e.1=kS c:=λq=>z (TL (h1.symm.trans q))
   rw[eV n]
   refine⟨λh=>i1 ?_,λh=>i2 λq=>h (ce _ q)⟩
   rcases c_.mp h with h|h
   ·exact absurd h.symm z
   ·exact h
theorem jY.val{H:Hp}{d:a5}{f:CF}(h:jY H d f)(c:Nat):(f c=none/\pI H d (.str ⟨#[c]⟩) none)\/∃w v,f c=some w/\pI H d (.str ⟨#[c]⟩) (some v)/\uf H w v:=by
 obtain⟨kvs,cs,h1,h2,h3,_⟩:=h
 obtain⟨i1,i2⟩:=Cz c h2.2
 have g:=pI.k (k:=kS c) h1
 by_cases z:c∈cs
 ·obtain⟨v,w,a,b,e⟩:=i1 z
  rw[a]at g
  exact .inr ⟨w,v,b,g,e⟩
 ·rw[i2 z]at g
  refine .inl ⟨?_,g⟩
  cases hf:f c with
  |none=>rfl
  |some w=>exact absurd (h3 c (by rw[hf];rfl)) z
theorem K6.put{H:Hp}{f:CF}{kvs:List (Key×V)}{cs:List Nat}{c:Nat}{w:Int×zo}{v:V}(h:K6 H f kvs cs)(n:c∉cs)(hf:f c=some w)(hw:uf H w v):K6 H f (putK kvs (kS c) v) (cs++[c]):=by
 rw[Mh _ ((Cz c h.2).2 n)]
 refine⟨y7.mpr ⟨h.1,by simp,λa ha b hb z=>?_⟩,Paired.snoc h.2 ⟨rfl,w,hf,hw⟩⟩
 rw[cq.mp hb]at z
 exact n (by rw[←z];exact ha)
noncomputable def kF(H:Hp)(l:a5)(F:Nat->CF)(m:Nat):Prop:=∃ds:List a5,H l=some (.lst (ds.map V.ref))/\ds.length=m+1/\∀j d,ds[j]? =some d->jY H d (F j)
theorem kF.same{H H':Hp}{l:a5}{F:Nat->CF}{m:Nat}(h:kF H l F m)(e:aj H H'):kF H' l F m:=by
 obtain⟨ds,a,b,c⟩:=h
 exact⟨ds,e _ _ a,b,λj d hd=>(c j d hd).same e⟩
theorem kF.get{H:Hp}{l:a5}{F:Nat->CF}{m j:Nat}(h:kF H l F m)(hj:j<=m):∃(ds:List a5) (d:a5),H l=some (.lst (ds.map V.ref))/\E5 (ds.map V.ref) (j:Int)=some (.ref d)/\ds.length=m+1/\jY H d (F j):=by
 obtain⟨ds,a,b,c⟩:=h
 have hl:j<ds.length:=by omega
 exact⟨ds,ds[j],a,dX (by rw[eC,a6 hl];rfl),b,c j _ (a6 hl)⟩
noncomputable def CK(H:Hp)(l:a5)(ws:List (Int×zo)):Prop:=∃ps:List a5,H l=some (.lst (ps.map V.ref))/\Paired (λp w=>uf H w (.ref p)) ps ws
theorem CK.put{H H5:Hp}{l q:a5}{ws:List (Int×zo)}{w:Int×zo}{x:V}{ps:List a5}(h1:H l=some (.lst (ps.map V.ref)))(h2:Paired (λp w=>uf H w (.ref p)) ps ws)(e:aj H H5)(hq:H5 q=none)(hx:UR H5 w.2 x):CK (L2.upd (L2.upd H5 q (.tup [.int w.1,x])) l (.lst (ps.map V.ref++[.ref q]))) l (ws++[w]):=by
 have hl:=(aj.upd (o:=.tup [.int w.1,x]) hq) _ _ (e _ _ h1)
 have t1:=OC (o:=.tup [.int w.1,x]) hq
 have t2:=kH (o:=.lst (ps.map V.ref++[.ref q])) hl (λ_ z=>by cases z)
 refine⟨ps++[q],by rw[ah,dC];rfl,Paired.snoc (Paired.g8 h2 λ_ _ z=>z.tps ((m6 e).trans (t1.trans t2))) ⟨q,x,rfl,t2 _ _ ah,hx.tps (t1.trans t2)⟩⟩
theorem NU{T:PT}{a:bp}{v c:Nat}(h:a=⟨#[v]⟩):(if a=⟨#[c]⟩then cX (aX T.2.2.1.2 T.2.2.2.2 T.2.1) T.2.2.2 else cX (aX T.2.2.1.2 T.2.2.2.2 T.2.1) T.2.2.1+cX (aX T.2.2.1.2 T.2.2.2.2 T.2.1) T.2.2.2)=NV T v c:=V.int.inj (NT (m:=a) (f:=a) (s:=a) h)
theorem Ou{H:Hp}{ws:List (Int×zo)}{ps:List a5}{i:Nat}{v:V}(pp:Paired (λp w=>uf H w (.ref p)) ps ws)(hv:(ps.map V.ref)[i]? =some v)(hL:C8 (λi=>(ws.getD i (0,none)).1) (ps.map V.ref).length i):WyO H (fmin (·.1) ws) v:=by
 obtain⟨p,hp,rfl⟩:=iU hv
 obtain⟨w,hw,hwy⟩:=GP.Paired.at pp hp
 have e:fmin (·.1) ws=some w:=xR hw λj y hj=>by
  have lt:j<(ps.map V.ref).length:=by rw[bc,Paired.len pp];exact(bd.mp hj).1
  have z:=hL j lt
  simp only[show ws.getD i (0,none)=w from o5 hw,show ws.getD j (0,none)=y from o5 hj]at z
  exact z
 rw[e]
 exact hwy
noncomputable def Vp:Sp:=λvs H Q _=>∃(p:a5) (n:Int) (xs:List V),vs=[.ref p]/\H p=some (.tup (.int n::xs))/\Q (.int n) H
noncomputable def LY(K:PySem.W.Frag)(C:a5):Sp:=λvs H Q _=>∃(pr A U B:a5) (T:PT) (c:Nat) (pair:Int) (fa fu fb:CF),vs=[.ref pr,.str ⟨#[c]⟩,.int pair,.ref A,.ref U,.ref B]/\zB K C H pr T/\jY H A fa/\jY H U fu/\jY H B fb/\∀v H',aj H H'->WyO H' (fmin (·.1) (pJ T c pair fa fu fb)) v->Q v H'
noncomputable def BK(K:PySem.W.Frag)(C:a5):Sp:=λvs H Q _=>∃(pr A U B:a5) (T:PT) (pair:Int) (fa fu fb:CF),vs=[.ref pr,.int pair,.ref A,.ref U,.ref B]/\zB K C H pr T/\jY H A fa/\jY H U fu/\jY H B fb/\∀d H',aj H H'->H d=none->jY H' d (lK T pair fa fu fb)->Q (.ref d) H'
noncomputable def Xw(K:PySem.W.Frag)(H:Hp)(v:V)(L:List Nat):Prop:=∃c:Cp,v=c.val/\c.at K H (L.map λa=>V.str ⟨#[a]⟩)/\L.Nodup/\L.length<=3
noncomputable def LV(K:PySem.W.Frag)(C:a5):Sp:=λvs H Q _=>∃(pr:a5) (v:V) (T:PT) (s:bp) (L:List Nat),vs=[.ref pr,.str s,v]/\zB K C H pr T/\s.cps.size<=12/\Xw K H v L/\∀l H',aj H H'->H l=none->kF H' l (λj=>jA T L (s.cps.size-j)) s.cps.size->Q (.ref l) H'
noncomputable def Ig(K:PySem.W.Frag)(C:a5):Sp:=λvs H Q _=>∃(pr lu:a5) (T:PT) (mn f s:bp) (i a:Nat) (U:Nat->CF),vs=[.ref pr,.str ⟨#[a]⟩,.str s,.ref lu]/\zB K C H pr T/\f.cps[i]? =some a/\Of T.1 f/\Of T.1 s/\s.cps.size<=12/\kF H lu U s.cps.size/\∀l H',aj H H'->H l=none->kF H' l (λj=>c9 T ((cW T mn f s).pc i) U s.cps.size (s.cps.size-j)) s.cps.size->Q (.ref l) H'
noncomputable def LI:Sp:=λvs H Q _=>∃(l:a5) (F:Nat->CF) (m:Nat),vs=[.ref l]/\kF H l F m/\m<=12/\∀l' H',aj H H'->H l'=none->kF H' l' (uq F) m->Q (.ref l') H'
noncomputable def yf(K:PySem.W.Frag)(C:a5):Sp:=λvs H Q _=>∃(pr:a5) (v:V) (T:PT) (mn f s:bp) (c u:Nat) (L:List Nat) (w:Int×zo),vs=[.ref pr,.str f,.str s,.str ⟨#[c]⟩,v,.int (u:Int)]/\zB K C H pr T/\Of T.1 f/\Of T.1 s/\f.cps.size<=12/\s.cps.size<=12/\u<=f.cps.size/\c∈vZ/\(∀a∈L,a∈vZ)/\Xw K H v L/\(cW T mn f s).sv (rO f.cps.size s.cps.size L) u (0,0,c)=some w/\∀x H',aj H H'->UR H' w.2 x->Q x H'
theorem IY{K:PySem.W.Frag}{H H':Hp}{c:Cp}{xs:List V}(h:c.at K H xs)(e:aj H H'):c.at K H' xs:=by
 cases c with
 |lst a=>exact aj.seq e h
 |tup a=>exact aj.tup e h
 |txt x=>exact h
theorem jY.off{H:Hp}{d l:a5}{f:CF}{xs:List V}{o:HO}(h:jY H d f)(hl:H l=some (.lst xs)):jY (L2.upd H l o) d f:=by
 obtain⟨kvs,cs,a,b,c⟩:=h
 exact⟨kvs,cs,by rw[au (λz=>by rw[z,hl]at a;cases a)];exact a,b.tps (kH hl (λ_ z=>by cases z)),c⟩
theorem jY.empty{H:Hp}{d:a5}(h:H d=some (.dK [])):jY H d iX:=⟨[],[],h,⟨re,.nil⟩,(λc z=>by cases z),by decide⟩
theorem kF.grow{H H5:Hp}{l d:a5}{F:Nat->CF}{k:Nat}{ds:List a5}(h1:H l=some (.lst (ds.map V.ref)))(h2:ds.length=k)(h3:∀j d,ds[j]? =some d->jY H d (F j))(e:aj H H5)(hd:jY H5 d (F k)):kF (L2.upd H5 l (.lst (ds.map V.ref++[.ref d]))) l F k:=by
 refine⟨ds++[d],by rw[ah,dC];rfl,by rw[cn,h2];rfl,λj q hq=>?_⟩
 by_cases hj:j<ds.length
 ·rw[ik hj]at hq
  exact((h3 j q hq).same e).off (e _ _ h1)
 ·rw[js (by omega)]at hq
  have:j-ds.length<1:=(bd.mp hq).1
  have ej:j=k:=by omega
  subst ej
  rw[h2,xf]at hq
  cases hq
  exact hd.off (e _ _ h1)
theorem kF.rev{H:Hp}{l:a5}{F:Nat->CF}{m:Nat}{ds:List a5}(h1:H l=some (.lst (ds.map V.ref)))(h2:ds.length=m+1)(h3:∀j d,ds[j]? =some d->jY H d (F j)):kF (L2.upd H l (.lst (ds.map V.ref).reverse)) l (λj=>F (m-j)) m:=by
 refine⟨ds.reverse,by rw[ah,List.map_reverse],by rw[List.length_reverse,h2],λj q hq=>?_⟩
 have hj:j<ds.length:=by
  have:=(bd.mp hq).1
  rw[List.length_reverse]at this
  exact this
 rw[List.getElem?_reverse hj,h2]at hq
 exact(h3 (m-j) q (by rw[←hq];congr 1)).off h1
theorem kF.last{H:Hp}{l:a5}{F:Nat->CF}{m:Nat}(h:kF H l F m):∃(ds:List a5) (d:a5),H l=some (.lst (ds.map V.ref))/\E5 (ds.map V.ref) (-1)=some (.ref d)/\jY H d (F m):=by
 obtain⟨ds,h1,h2,h3⟩:=h
 have hl:m<ds.length:=by omega
 have e:ds=ds.take m++[ds[m]]:=by
  have z:=take_snoc (a6 hl)
  rw[←z,fA (by omega)]
 refine⟨ds,ds[m],h1,?_,h3 m _ (a6 hl)⟩
 have e2:ds.map V.ref=(ds.take m).map V.ref++[V.ref ds[m]]:=by
  rw[←List.map_singleton (f:=V.ref),←dC,←e]
 rw[e2]
 exact NR _ _
noncomputable abbrev sW:bp:=a_ "whole"
noncomputable abbrev jB:bu:=(0,0,112)
theorem BD(T:PT)(f s:bp):(cW T sW f s).NX:=⟨λi j=>by
 show Ew sW f s ((i:Int),(j:Int))=decide (i=f.cps.size/\j=s.cps.size)
 unfold Ew
 rw[if_pos rfl]
 by_cases h1:i=f.cps.size<;>by_cases h2:j=s.cps.size<;>simp[h1,h2]<;>omega⟩
theorem Kz{g:Gd}{s:bu}(h:g.In s):rO g.n g.m vZ s=g.last s:=by
 unfold rO Gd.last
 refine decide_eq_decide.mpr ⟨λz=>⟨z.1,z.2.1⟩,λz=>⟨z.1,z.2,?_⟩⟩
 unfold vZ
 rcases h.2.2 with q|q|q<;>rw[q]<;>simp
noncomputable def gi(T:PT)(f s:bp):List bu:=jB::downs jB ((cW T sW f s).moves jB)
theorem EB(T:PT)(m f s:bp):(cW T m f s).In jB:=⟨d0 _,d0 _,.inl rfl⟩
theorem xQ(T:PT)(f s:bp):(gi T f s).length=f.cps.size+1:=by
 obtain⟨e,hw,he,hen⟩:=Gd.qa (rL T sW f s) _ jB (EB T sW f s) (a7 _)
 have h1:=Gd.Bk hw
 rw[(BD T f s).en]at hen
 have h2:=of_decide_eq_true hen
 have h3:e.1=f.cps.size:=h2.1
 have h4:(jB:bu).1=0:=rfl
 unfold gi
 rw[eM]
 omega
theorem SM(T:PT)(f s:bp)(u:Nat):(cW T sW f s).sv (rO f.cps.size s.cps.size vZ) u jB=some ((cW T sW f s).rest jB,((gi T f s)[u]?).map λt=>(t.2.1,t.2.2)):=by
 have z:=Gd.Lz (E:=rO f.cps.size s.cps.size vZ) (BD T f s) (λs hs=>Kz (g:=cW T sW f _) hs) (EB T sW f s) u
 rw[show(jB:bu).1+u=u from Nat.zero_add u]at z
 exact z
noncomputable def HS(K:PySem.W.Frag)(C:a5):Sp:=λvs H Q _=>∃(pr:a5) (T:PT) (f s:bp) (u:Nat) (t:bu),vs=[.ref pr,.str f,.str s,.int (u:Int)]/\zB K C H pr T/\Of T.1 f/\Of T.1 s/\f.cps.size<=12/\s.cps.size<=12/\u<=f.cps.size/\(gi T f s)[u]? =some t/\∀q H',aj H H'->H' q=some (.tup [.int (t.2.1:Int),.str ⟨#[t.2.2]⟩])->Q (.ref q) H'
theorem Um{c v:Nat}{a:bp}(h:a=⟨#[v]⟩):decide (V.str ⟨#[c]⟩=V.str a)=decide (c=v):=decide_eq_decide.mpr ⟨λz=>by rw[h]at z;simpa using z,λz=>by rw[h,z]⟩
theorem IP{T:PT}{f s:bp}{i:Nat}{st:bu}(h:(gi T f s)[i]? =some st):st.1=i:=by
 have z:=nR ((cW T sW f s).moves jB) jB i
 rw[show(jB::downs jB ((cW T sW f s).moves jB))[i]? =some st from h]at z
 have q:=List.find?_some z
 have q':st.1=0+i:=by simpa using q
 omega
end
section
structure Sub(g g':Gd)(a b:Nat):Prop where
 n:g'.n+a<=g.n
 m:g'.m+b<=g.m
 pc:∀i j,i<g'.n->j<g'.m->g'.pc i j=g.pc (i+a) (j+b)
 op:g'.op=g.op
 mo:g'.mo=g.mo
noncomputable def uw(a b:Nat)(t:bu):bu:=(t.1+a,t.2.1+b,t.2.2)
noncomputable def Kg(e:bu):bu->Bool:=λs=>decide (s=e)
noncomputable def ER(n m c:Nat):bu->Bool:=λs=>decide (s.1=n/\s.2.1=m/\s.2.2∈[c])
theorem Gd.DI{g:Gd}{s:bu}{t:bu×Int}(h:t∈g.steps s):s.2.1<=t.1.2.1:=by
 rcases Gd.fq.mp h with⟨_,_,rfl⟩|⟨_,rfl⟩|⟨_,rfl⟩<;>simp
theorem Ja{g:Gd}{e:bu}:∀(d:Nat) (s:bu),g.ht s<=d->(e.1<s.1\/e.2.1<s.2.1)->g.qP (Kg e) s=none
 |d,s,hd,h=>by
  have hE:Kg e s=false:=decide_eq_false λz=>by rw[z]at h;omega
  rw[Gd.qG hE,gj (h:=λ_=>none) λt ht=>?_]
  ·rw[List.filterMap_eq_nil_iff.mpr λ_ _=>rfl]
   rfl
  ·have h1:=Gd.DG ht
   have h2:=Gd.DI ht
   have h3:=Gd.fK ht
   cases d with
   |zero=>omega
   |succ d=>rw[Ja d t.1 (by omega) (by omega)];rfl
 termination_by d=>d
theorem EM{β:Type}(g:Gd)(F:bu×Int->Option β)(s:bu):(g.steps s).filterMap F=(if s.1<g.n/\s.2.1<g.m then(F ((s.1+1,s.2.1+1,112),g.pc s.1 s.2.1)).toList else [])++((if s.1<g.n then(F ((s.1+1,s.2.1,97),g.ac 97 s.2.2)).toList else [])++(if s.2.1<g.m then(F ((s.1,s.2.1+1,98),g.ac 98 s.2.2)).toList else [])):=by
 have one:∀x,[x].filterMap F=(F x).toList:=λx=>by rw[im,x_];cases F x<;>rfl
 unfold Gd.steps
 rw[List.filterMap_append,List.filterMap_append]
 congr 1
 ·split
  ·exact one _
  ·rfl
 ·congr 1
  ·split
   ·exact one _
   ·rfl
  ·split
   ·exact one _
   ·rfl
theorem Sub.qP{g g':Gd}{a b:Nat}(S:Sub g g' a b)(c:Nat):∀(d:Nat) (s:bu),g'.ht s<=d->s.1<=g'.n->s.2.1<=g'.m->g.qP (Kg (g'.n+a,g'.m+b,c)) (uw a b s)=(g'.qP (ER g'.n g'.m c) s).map λw=>(w.1,w.2.map (uw a b))
 |d,s,hd,h1,h2=>by
  by_cases e:s.1=g'.n/\s.2.1=g'.m/\s.2.2=c
  ·have hE':ER g'.n g'.m c s=true:=decide_eq_true ⟨e.1,e.2.1,by rw[e.2.2];exact cq.mpr rfl⟩
   have hE:Kg (g'.n+a,g'.m+b,c) (uw a b s)=true:=decide_eq_true (by unfold uw;rw[e.1,e.2.1,e.2.2])
   rw[Gd.qH hE,Gd.qH hE']
   rfl
  ·have hE':ER g'.n g'.m c s=false:=decide_eq_false λz=>e ⟨z.1,z.2.1,cq.mp z.2.2⟩
   have hE:Kg (g'.n+a,g'.m+b,c) (uw a b s)=false:=decide_eq_false λz=>e (by
    unfold uw at z
    simp only[BM]at z
    exact⟨by omega,by omega,z.2.2⟩)
   have fm:=rN (f:=λ(w:Int×List bu)=>w.1) (h:=λ(w:Int×List bu)=>(w.1,w.2.map (uw a b))) ((g'.steps s).filterMap λt=>(g'.qP (ER g'.n g'.m c) t.1).map λw=>(t.2+w.1,t.1::w.2))
   rw[Gd.qG hE,Gd.qG hE',←fm,EM,EM,dC,dC]
   have ac:∀v k,g.ac v k=g'.ac v k:=λv k=>by unfold Gd.ac;rw[S.op,S.mo]
   have part:∀(P P':Prop) [Decidable P] [Decidable P'] (t':bu) (k:Int) (k':Int),(P'->P/\k=k'/\g'.ht t'<g'.ht s/\t'.1<=g'.n/\t'.2.1<=g'.m)->(¬P'->P->g'.n+a<(uw a b t').1\/g'.m+b<(uw a b t').2.1) →
     (if P then((g.qP (Kg (g'.n+a,g'.m+b,c)) (uw a b t')).map λw=>(k+w.1,uw a b t'::w.2)).toList else [])=(if P' then((g'.qP (ER g'.n g'.m c) t').map λw=>(k'+w.1,t'::w.2)).toList else []).map (λ(w:Int×List bu)=>(w.1,w.2.map (uw a b))):=λP P' _ _ t' k k' hp hn=>by
    by_cases Q3:P'
    ·obtain⟨hP,hk,hh,hi,hj⟩:=hp Q3
     have ih:g.qP (Kg (g'.n+a,g'.m+b,c)) (uw a b t')=(g'.qP (ER g'.n g'.m c) t').map λw=>(w.1,w.2.map (uw a b)):=by
      cases d with
      |zero=>omega
      |succ d=>exact Sub.qP S c d t' (by omega) hi hj
     rw[if_pos hP,if_pos Q3,ih,hk]
     cases g'.qP (ER g'.n g'.m c) t'<;>rfl
    ·rw[if_neg Q3]
     by_cases hP:P
     ·rw[if_pos hP,Ja _ _ (a7 _) (hn Q3 hP)]
      rfl
     ·rw[if_neg hP]
      rfl
   have sn:=S.n
   have sm:=S.m
   have e1:uw a b (s.1+1,s.2.1+1,112)=((uw a b s).1+1,(uw a b s).2.1+1,112):=by
    show((s.1+1+a,s.2.1+1+b,112):bu)=(s.1+a+1,s.2.1+b+1,112)
    rw[yn s.1 1 a,yn s.2.1 1 b]
   have e2:uw a b (s.1+1,s.2.1,97)=((uw a b s).1+1,(uw a b s).2.1,97):=by
    show((s.1+1+a,s.2.1+b,97):bu)=(s.1+a+1,s.2.1+b,97)
    rw[yn s.1 1 a]
   have e3:uw a b (s.1,s.2.1+1,98)=((uw a b s).1,(uw a b s).2.1+1,98):=by
    show((s.1+a,s.2.1+1+b,98):bu)=(s.1+a,s.2.1+b+1,98)
    rw[yn s.2.1 1 b]
   have p1:=part (s.1+a<g.n/\s.2.1+b<g.m) (s.1<g'.n/\s.2.1<g'.m) (s.1+1,s.2.1+1,112) (g.pc (s.1+a) (s.2.1+b)) (g'.pc s.1 s.2.1) (λz=>⟨by omega,(S.pc s.1 s.2.1 z.1 z.2).symm,by show g'.n-(s.1+1)+(g'.m-(s.2.1+1))<g'.n-s.1+(g'.m-s.2.1);omega,z.1,z.2⟩) (λz q=>by show g'.n+a<s.1+1+a\/g'.m+b<s.2.1+1+b;omega)
   have p2:=part (s.1+a<g.n) (s.1<g'.n) (s.1+1,s.2.1,97) (g.ac 97 s.2.2) (g'.ac 97 s.2.2) (λz=>⟨by omega,ac 97 s.2.2,by show g'.n-(s.1+1)+(g'.m-s.2.1)<g'.n-s.1+(g'.m-s.2.1);omega,z,h2⟩) (λz q=>by show g'.n+a<s.1+1+a\/g'.m+b<s.2.1+b;omega)
   have p3:=part (s.2.1+b<g.m) (s.2.1<g'.m) (s.1,s.2.1+1,98) (g.ac 98 s.2.2) (g'.ac 98 s.2.2) (λz=>⟨by omega,ac 98 s.2.2,by show g'.n-s.1+(g'.m-(s.2.1+1))<g'.n-s.1+(g'.m-s.2.1);omega,h1,z⟩) (λz q=>by show g'.n+a<s.1+a\/g'.m+b<s.2.1+1+b;omega)
   rw[e1]at p1
   rw[e2]at p2
   rw[e3]at p3
   rw[←p1,←p2,←p3]
   rfl
 termination_by d=>d
theorem yU{α β:Type}{f:α->Int}{F:α->Option β}{h:β->Int}{R:Int}:∀{l:List α} {t:α} {w:β},fmin f l=some t->F t=some w->h w+R=f t->(∀u∈l,∀v,F u=some v->f u<=h v+R)->fmin h (l.filterMap F)=some w
 |[],_,_,ht,_,_,_=>by cases ht
 |x::xs,t,w,ht,hw,heq,hle=>by
  unfold fmin at ht
  have hle':=λu hu=>hle u (ce _ hu)
  cases hx:fmin f xs with
  |none =>
   rw[hx]at ht
   cases ht
   have e:xs=[]:=by
    cases xs with
    |nil=>rfl
    |cons y ys=>obtain⟨z,hz⟩:=sH (f:=f) (l:=y::ys) (by simp);rw[hz]at hx;cases hx
   subst e
   rw[im,hw]
   rfl
  |some y =>
   rw[hx]at ht
   simp only at ht
   split at ht
   ·next lt =>
    cases ht
    have ih:=yU hx hw heq hle'
    rw[im]
    cases hF:F x with
    |none=>exact ih
    |some v =>
     have z:=hle x cr v hF
     simp only
     unfold fmin
     rw[ih]
     simp only
     rw[if_pos (by omega)]
   ·next Td =>
    cases ht
    rw[im,hw]
    simp only
    unfold fmin
    cases hq:fmin h (xs.filterMap F)with
    |none=>rfl
    |some v =>
     obtain⟨u,hu,hv⟩:=vT.mp (mW hq)
     have z1:=hle u (ce _ hu) v hv
     have z2:=xS hx hu
     simp only
     rw[if_neg (by omega)]
theorem E2{g:Gd}{e:bu}:∀(d:Nat) (s:bu) (w:Int×List bu),g.ht s<=d->g.qP (Kg e) s=some w->g.rest s<=w.1+g.rest e
 |d,s,w,hd,h=>by
  by_cases z:s=e
  ·have hE:Kg e s=true:=decide_eq_true z
   rw[Gd.qH hE]at h
   cases h
   rw[z]
   simp
  ·have hE:Kg e s=false:=decide_eq_false z
   rw[Gd.qG hE]at h
   obtain⟨t,ht,hv⟩:=vT.mp (mW h)
   obtain⟨w',QS,rfl⟩:=fw.mp hv
   have h1:=Gd.Jy ht
   have h2:=Gd.fK ht
   cases d with
   |zero=>omega
   |succ d =>
    have h3:=E2 d t.1 w' (by omega) QS
    show g.rest s<=t.2+w'.1+g.rest e
    omega
 termination_by d=>d
theorem Gd.L6{g:Gd}(ok:g.Ok){s:bu}(hs:g.In s)(h:g.stop s=false):∃t,fmin g.key (g.steps s)=some t/\t∈g.steps s/\g.key t=g.rest s/\g.moves s=t.1.2.2::g.moves t.1/\iN s (g.moves s)=t.1::iN t.1 (g.moves t.1):=by
 obtain⟨t,ht,QT,en,ek,_⟩:=g.go ok hs h
 have em:g.moves s=t.1.2.2::g.moves t.1:=by rw[Gd.uK ok hs h,en]
 refine⟨t,ht,QT,ek,em,?_⟩
 rw[em]
 show fh s t.1.2.2::iN (fh s t.1.2.2) (g.moves t.1)=_
 rw[←Gd.ur QT]
theorem Gd.D3{g:Gd}{s:bu}(h:g.stop s=true):iN s (g.moves s)=[]:=by rw[Gd.qt h];rfl
theorem Im{g:Gd}(ok:g.Ok){e:bu}:∀(d:Nat) (s:bu),g.In s->g.ht s<=d->e∈s::iN s (g.moves s)->∃r pre Ob,g.qP (Kg e) s=some (r,pre)/\g.rest s=r+g.rest e/\iN s (g.moves s)=pre++Ob/\(s::pre).getLast?=some e
 |d,s,hs,hd,he=>by
  by_cases z:s=e
  ·have hE:Kg e s=true:=decide_eq_true z
   exact⟨0,[],iN s (g.moves s),Gd.qH hE,by rw[z];simp,rfl,by rw[z];rfl⟩
  ·have hE:Kg e s=false:=decide_eq_false z
   have he':e∈iN s (g.moves s):=by
    rcases c_.mp he with q|q
    ·exact absurd q.symm z
    ·exact q
   have hst:g.stop s=false:=by
    cases q:g.stop s with
    |false=>rfl
    |true=>rw[Gd.D3 q]at he';exact nomatch he'
   obtain⟨t,ht,QT,ek,em,er⟩:=Gd.L6 ok hs hst
   rw[er]at he'
   have h1:=Gd.fK QT
   cases d with
   |zero=>omega
   |succ d =>
    obtain⟨r,pre,Ob,hb,hr,hp,hl⟩:=Im ok d t.1 (Gd.mq QT hs) (by omega) he'
    have ek':t.2+g.rest t.1=g.rest s:=ek
    refine⟨t.2+r,t.1::pre,Ob,?_,by omega,by rw[er,hp];rfl,?_⟩
    ·rw[Gd.qG hE]
     refine yU (f:=g.key) (R:=g.rest e) ht (by rw[hb];rfl) (by show t.2+r+g.rest e=t.2+g.rest t.1;omega) λu hu v hv=>?_
     obtain⟨w',QS,rfl⟩:=fw.mp hv
     have z1:=E2 _ u.1 w' (a7 _) QS
     show u.2+g.rest u.1<=u.2+w'.1+g.rest e
     omega
    ·rw[List.getLast?_cons_cons]
     exact hl
 termination_by d=>d
theorem yH(s:bu)(v:Nat):s.1<=(fh s v).1/\(fh s v).1<=s.1+1/\s.2.1<=(fh s v).2.1:=by
 unfold fh
 simp only
 split<;>split<;>omega
theorem BR:∀{mv:List Nat} {s t:bu},t∈iN s mv->s.1<=t.1/\s.2.1<=t.2.1
 |[],s,t,h=>nomatch h
 |v::vs,s,t,h=>by
  have z:=yH s v
  rcases c_.mp h with rfl|h
  ·omega
  ·have:=BR h
   omega
theorem Ii{u:Nat}{e:bu}:∀{mv:List Nat} {s:bu} {pre Ob:List bu},iN s mv=pre++Ob->(s::pre).getLast?=some e->s.1<=u->u<=e.1->∃t,(s::pre).find? (λt=>t.1==u)=some t
 |mv,s,[],Ob,h,hl,h1,h2=>by
  have es:s=e:=by simpa using hl
  have eu:s.1=u:=by rw[es]at h1;rw[es];omega
  exact⟨s,by rw[ft,eu,beq_self_eq_true]⟩
 |[],s,x::pre,Ob,h,_,_,_=>by simp[iN]at h
 |v::vs,s,x::pre,Ob,h,hl,h1,h2=>by
  have h':fh s v::iN (fh s v) vs=x::(pre++Ob):=h
  obtain⟨e0,h3⟩:=wq h'
  subst e0
  by_cases eu:s.1=u
  ·exact⟨s,by rw[ft,eu,beq_self_eq_true]⟩
  ·have z:=yH s v
   obtain⟨t,ht⟩:=Ii h3 (by rw[List.getLast?_cons_cons]at hl;exact hl) (by omega) h2
   exact⟨t,by rw[ft,beq_false_of_ne eu];exact ht⟩
noncomputable def Gd.xu(g:Gd)(s:bu):List bu:=s::downs s (g.moves s)
theorem Gd.uQ{g:Gd}(ok:g.Ok):∀(d:Nat) (s:bu) (k:Nat) (t:bu),g.In s->g.ht s<=d->(g.xu s)[k]? =some t->g.In t/\∀j,(g.xu t)[j]? =(g.xu s)[k+j]?
 |d,s,0,t,hs,hd,h=>by
  cases h
  exact⟨hs,λj=>by rw[Nat.zero_add]⟩
 |d,s,k+1,t,hs,hd,h=>by
  have h':(downs s (g.moves s))[k]? =some t:=h
  have hst:g.stop s=false:=by
   cases q:g.stop s with
   |false=>rfl
   |true=>unfold downs at h';rw[Gd.D3 q]at h';simp at h'
  obtain⟨u,_,hum,_,em,er⟩:=Gd.L6 ok hs hst
  have h1:=Gd.fK hum
  have hu:=Gd.mq hum hs
  have ed:downs s (g.moves s)=if u.1.2.2=98 then downs u.1 (g.moves u.1)else g.xu u.1:=by
   unfold downs Gd.xu
   rw[er]
   by_cases q:u.1.2.2=98
   ·rw[if_pos q,mI (by rw[q];decide)]
   ·rw[if_neg q,mB (by rw[bne_iff_ne];exact q)]
    rfl
  cases d with
  |zero=>omega
  |succ d =>
   rw[ed]at h'
   by_cases q:u.1.2.2=98
   ·rw[if_pos q]at h' ed
    obtain⟨i1,i2⟩:=Gd.uQ ok d u.1 (k+1) t hu (by omega) h'
    refine⟨i1,λj=>?_⟩
    rw[i2 j,show k+1+j=k+j+1 by omega]
    show(downs u.1 (g.moves u.1))[k+j]? =(downs s (g.moves s))[k+j]?
    rw[ed]
   ·rw[if_neg q]at h' ed
    obtain⟨i1,i2⟩:=Gd.uQ ok d u.1 k t hu (by omega) h'
    refine⟨i1,λj=>?_⟩
    rw[i2 j,show k+1+j=k+j+1 by omega]
    show(g.xu u.1)[k+j]? =(downs s (g.moves s))[k+j]?
    rw[ed]
 termination_by d=>d
theorem LA{g g':Gd}(ok:g.Ok){s e t:bu}{k q:Nat}(hs:g.In s)(he:(g.xu s)[q]? =some e)(ht:(g.xu s)[k]? =some t)(hk:k<=q)(S:Sub g g' s.1 s.2.1)(hn:g'.n+s.1=e.1)(hm:g'.m+s.2.1=e.2.1):
  ∃r,g'.sv (ER g'.n g'.m e.2.2) k (0,0,s.2.2)=some (r,some (t.2.1-s.2.1,t.2.2))/\s.2.1<=t.2.1:=by
 have inr:∀{x:bu} {i:Nat},(g.xu s)[i]? =some x->x∈s::iN s (g.moves s)/\x.1=s.1+i:=λ{x i} hx=>by
  have z:=nR (g.moves s) s i
  rw[show(s::downs s (g.moves s))[i]? =some x from hx]at z
  exact⟨List.mem_of_find?_eq_some z,by simpa using List.find?_some z⟩
 obtain⟨r,pre,Ob,hb,_,hp,hl⟩:=Im ok _ s hs (a7 _) (inr he).1
 have hc:s.2.1<=t.2.1:=by
  rcases c_.mp (inr ht).1 with z|z
  ·rw[z];exact a7 _
  ·exact(BR z).2
 obtain⟨x,hx⟩:=Ii (u:=s.1+k) hp hl (by omega) (by rw[(inr he).2];omega)
 have hx2:x=t:=by
  have z:=nR (g.moves s) s k
  rw[show(s::downs s (g.moves s))[k]? =some t from ht,hp,←xa,List.find?_append,hx]at z
  exact dA z
 subst hx2
 have Ys:=S.qP e.2.2 _ (0,0,s.2.2) (a7 _) (d0 _) (d0 _)
 have e0:uw s.1 s.2.1 (0,0,s.2.2)=s:=by unfold uw;simp
 rw[e0,show((g'.n+s.1,g'.m+s.2.1,e.2.2):bu)=e by rw[hn,hm],hb]at Ys
 obtain⟨w',QS,hw⟩:=fw.mp Ys.symm
 have hw1:w'.2.map (uw s.1 s.2.1)=pre:=(Prod.mk.inj hw).2
 refine⟨w'.1,?_,hc⟩
 unfold Gd.sv
 rw[QS]
 show some (w'.1,n8 k (0,0,s.2.2) w'.2)=_
 unfold n8
 rw[if_neg (Nat.not_lt_zero _)]
 have fm:((0,0,s.2.2)::w'.2:List bu).map (uw s.1 s.2.1)=s::pre:=by rw[g0,hw1,e0]
 rw[←fm,List.find?_map]at hx
 obtain⟨y,hy,hxy⟩:=fw.mp hx
 have hp2:((λ(t:bu)=>t.1==s.1+k) ∘ uw s.1 s.2.1)=λt=>t.1==k:=by
  funext t
  show(t.1+s.1==s.1+k)=(t.1==k)
  by_cases z:t.1=k
  ·rw[z,beq_self_eq_true,Nat.add_comm,beq_self_eq_true]
  ·rw[beq_false_of_ne z,beq_false_of_ne (by omega)]
 rw[hp2]at hy
 rw[hy]
 show some (w'.1,some (y.2.1,y.2.2))=_
 rw[←hxy]
 unfold uw
 simp
end
section
theorem Vn{x y:bp}(h:x.cps.toList=y.cps.toList):x=y:=LC (Array.toList_inj.mp h)
theorem AQ(x:bp){a b:Nat}(hab:a<=b):(Txt.slice x (some (a:Int)) (some (b:Int))).cps.toList=(x.cps.toList.drop a).take (b-a):=by
 have hl:x.cps.toList.length=x.cps.size:=eD
 have e:=yi (x:=x) (lo:=some (a:Int)) (hi:=some (b:Int)) (a:=min a x.cps.size) (b:=min b x.cps.size) (by
  have hl:x.length=x.cps.size:=rfl
  simp only[PySem.Builtin.Str.strSliceIndices,hl]
  simp
  rw[if_neg (by omega),if_neg (by omega),if_neg (by omega),if_neg (by omega)]
  congr 2<;>omega) (by omega) (by omega)
 rw[e]
 by_cases h1:b<=x.cps.size
 ·rw[Nat.min_eq_left h1,Nat.min_eq_left (by omega)]
 ·rw[Nat.min_eq_right (by omega)]
  by_cases h2:a<=x.cps.size
  ·rw[Nat.min_eq_left h2,fA (by rw[vw,hl];omega),fA (by rw[vw,hl];omega)]
  ·rw[Nat.min_eq_right (by omega),List.drop_of_length_le (by omega),List.drop_of_length_le (by omega)]
   simp
noncomputable def MG(j0:Nat):List bu->Nat->List Nat
 |[],mE=>fi (mE-j0) 98
 |t::ds,mE=>(fi (t.2.1-j0-if t.2.2=112 then 1 else 0) 98++[t.2.2])++MG t.2.1 ds mE
theorem D4:∀{mv:List Nat} {s t:bu},t∈iN s mv->(s.2.1+if t.2.2=112 then 1 else 0)<=t.2.1
 |[],s,t,h=>nomatch h
 |v::vs,s,t,h=>by
  rcases c_.mp h with rfl|h
  ·show(s.2.1+if v=112 then 1 else 0)<=if v=97 then s.2.1 else s.2.1+1
   split
   ·next z=>rw[if_neg (by omega)];exact a7 _
   ·split<;>omega
  ·have z:=D4 h
   have z2:=(yH s v).2.2
   omega
theorem Gd.Dq{g:Gd}:∀{mv:List Nat} {s e:bu} {c:Int},g.walk s mv=some (c,e)->s.2.1<=e.2.1
 |[],s,e,c,h=>by cases h;exact a7 _
 |v::vs,s,e,c,h=>by
  obtain⟨t,c',ht,_,hw,_⟩:=Gd.qU h
  have z1:=Gd.DI ht
  have z2:=Gd.Dq hw
  omega
theorem Gd.QD{g:Gd}:∀{mv:List Nat} {s e:bu} {c:Int},g.walk s mv=some (c,e)->mv=MG s.2.1 (downs s mv) e.2.1
 |[],s,e,c,h=>by
  cases h
  show []=fi (s.2.1-s.2.1) 98
  rw[xf]
  rfl
 |v::vs,s,e,c,h=>by
  obtain⟨t,c',ht,hv,hw,_⟩:=Gd.qU h
  have ih:=Gd.QD hw
  have em:=Gd.ur ht
  rw[hv]at em
  rw[em]at ih hw
  have abG:=Gd.Dq hw
  have ed:downs s (v::vs)=if v=98 then downs (fh s v) vs else fh s v::downs (fh s v) vs:=by
   unfold downs
   rw[show iN s (v::vs)=fh s v::iN (fh s v) vs from rfl]
   by_cases q:v=98
   ·rw[if_pos q,mI (by show ¬(v != 98)=true;rw[q];decide)]
   ·rw[if_neg q,mB (by show(v != 98)=true;rw[bne_iff_ne];exact q)]
  rw[ed]
  by_cases q:v=98
  ·rw[if_pos q]
   have ej:(fh s v).2.1=s.2.1+1:=by rw[q];rfl
   rw[ej]at ih abG
   cases hd:downs (fh s v) vs with
   |nil =>
    rw[hd]at ih
    rw[ih,q]
    show 98::fi (e.2.1-(s.2.1+1)) 98=fi (e.2.1-s.2.1) 98
    rw[show e.2.1-s.2.1=e.2.1-(s.2.1+1)+1 by omega]
    rfl
   |cons x ds =>
    have hx:x∈iN (fh s v) vs:=(kd.mp (show x∈downs (fh s v) vs by rw[hd];exact cr)).1
    have z:=D4 hx
    rw[ej]at z
    rw[hd]at ih
    rw[ih,q]
    show 98::((fi (x.2.1-(s.2.1+1)-if x.2.2=112 then 1 else 0) 98++[x.2.2])++_)=(fi (x.2.1-s.2.1-if x.2.2=112 then 1 else 0) 98++[x.2.2])++_
    rw[show x.2.1-s.2.1-(if x.2.2=112 then 1 else 0)=x.2.1-(s.2.1+1)-(if x.2.2=112 then 1 else 0)+1 by omega]
    rfl
  ·rw[if_neg q]
   show v::vs=(fi ((fh s v).2.1-s.2.1-if v=112 then 1 else 0) 98++[v])++MG (fh s v).2.1 (downs (fh s v) vs) e.2.1
   rw[←ih]
   have hc:v=112\/v=97:=by
    rcases Gd.fq.mp ht with⟨_,_,z⟩|⟨_,z⟩|⟨_,z⟩
    ·left;rw[←hv,z]
    ·right;rw[←hv,z]
    ·exact absurd (by rw[←hv,z]) q
   have e0:(fh s v).2.1-s.2.1-(if v=112 then 1 else 0)=0:=by
    rcases hc with z|z
    ·rw[z];show s.2.1+1-s.2.1-1=0;omega
    ·rw[z];show s.2.1-s.2.1-0=0;omega
   rw[e0]
   rfl
noncomputable def vG(a b:bu):List Nat:=fi (b.2.1-a.2.1-if b.2.2=112 then 1 else 0) 98++[b.2.2]
theorem A4:∀(ds:List bu) (s:bu) (mE:Nat),MG s.2.1 ds mE=((fe ds.length).map λu=>vG ((s::ds).getD u jB) ((s::ds).getD (u+1) jB)).flatten++fi (mE-((s::ds).getD ds.length jB).2.1) 98
 |[],s,mE=>rfl
 |t::ds,s,mE=>by
  show vG s t++MG t.2.1 ds mE=_
  rw[A4 ds t mE,eM,List.range_succ_eq_map,g0,ww,n0,nz]
  rfl
theorem Gd.Jm{g:Gd}{vs:List Nat}{v:Nat}{s e:bu}{c:Int}(h:g.walk s (vs++[v])=some (c,e)):∃r c' t,g.walk s vs=some (c',r)/\t∈g.steps r/\t.1=e/\t.1.2.2=v/\c=c'+t.2:=by
 rw[Gd.xY]at h
 obtain⟨⟨c',r⟩,h1,h⟩:=vk.mp h
 obtain⟨⟨c2,r2⟩,h2,h⟩:=fw.mp h
 cases h
 obtain⟨t,c3,ht,hv,hw,rfl⟩:=Gd.qU h2
 cases hw
 exact⟨r,c',t,h1,ht,rfl,hv,by show c'+(t.2+0)=c'+t.2;omega⟩
theorem EW{T:PT}{m f s:bp}{mv:List Nat}{c:Int}{e:bu}(h:(cW T m f s).walk jB mv=some (c,e)):∀k,k<=mv.length->∃ck ek,(cW T m f s).walk jB (mv.take k)=some (ck,ek)/\(cW T m f s).In ek/\zX (0,0) mv k=((ek.1:Int),(ek.2.1:Int))/\cst (La T.1 T.2.1 (uT T)) (cX (uT T) T.2.2.1) (cX (uT T) T.2.2.2) f s (0,0) mv k=ck/\(∀v,v=97\/v=98->(v=ek.2.2↔k≠0/\mv[k-1]? =some v))
 | 0,_=>⟨0,jB,rfl,EB T m f s,rfl,rfl,λv hv=>⟨λz=>by rcases hv with q|q<;>rw[q]at z<;>exact absurd z (by decide),λz=>absurd rfl z.1⟩⟩
 |k+1,hk=>by
  obtain⟨ck,ek,h1,h2,h3,h4,h5⟩:=EW h k (by omega)
  have hlt:k<mv.length:=by omega
  obtain⟨v,hv⟩:∃v,mv[k]? =some v:=⟨_,a6 hlt⟩
  have et:=take_snoc hv
  have hp:∃c' e',(cW T m f s).walk jB (mv.take (k+1))=some (c',e'):=by
   have z:=h
   rw[←oy (k+1) mv,Gd.xY]at z
   obtain⟨⟨c',e'⟩,z1,_⟩:=vk.mp z
   exact⟨c',e',z1⟩
  obtain⟨c',e',hw⟩:=hp
  have QS:=hw
  rw[et]at QS
  obtain⟨r,c2,t,w1,w2,w3,w4,w5⟩:=Gd.Jm QS
  rw[h1]at w1
  cases w1
  subst w3
  refine⟨c',t.1,hw,Gd.mq w2 h2,?_,?_,λx hx=>?_⟩
  ·rw[yt hv,h3]
   have em:=Gd.ur w2
   rw[w4]at em
   rw[em]
   unfold stp fh
   simp only
   congr 1<;>split<;>simp
  ·show cst _ _ _ f s (0,0) mv k+QJ _ _ _ f s (0,0) mv k=c'
   rw[h4,w5]
   congr 1
   unfold QJ
   rw[hv,h3]
   simp only[kx]
   rcases Gd.fq.mp w2 with⟨_,_,z⟩|⟨_,z⟩|⟨_,z⟩
   ·have ev:v=112:=by rw[←w4,z]
    rw[if_pos ev,z]
    rfl
   ·have ev:v=97:=by rw[←w4,z]
    rw[if_neg (by omega),z]
    show _=(cW T m f s).ac 97 ek.2.2
    unfold Gd.ac
    have q:=h5 97 (.inl rfl)
    rw[ev]
    by_cases y:97=ek.2.2
    ·rw[if_pos y,if_pos (q.mp y)];rfl
    ·rw[if_neg y,if_neg (λw=>y (q.mpr w))];rfl
   ·have ev:v=98:=by rw[←w4,z]
    rw[if_neg (by omega),z]
    show _=(cW T m f s).ac 98 ek.2.2
    unfold Gd.ac
    have q:=h5 98 (.inr rfl)
    rw[ev]
    by_cases y:98=ek.2.2
    ·rw[if_pos y,if_pos (q.mp y)];rfl
    ·rw[if_neg y,if_neg (λw=>y (q.mpr w))];rfl
  ·rw[w4,show k+1-1=k by omega,hv]
   exact⟨λz=>⟨Nat.succ_ne_zero _,by rw[z]⟩,λz=>(dA z.2).symm⟩
end
end GP
namespace L2
open PySem PySem.Spec PyProof.Rows
theorem vz:∀{ys:List bp} {us:List a9},Vals (ys.map V.str) us->StrsAre us ys
 |[],_,.nil=>.nil
 |y::ys,_,.cons r rs=>by
  obtain⟨t,e⟩:=r
  rw[e]
  exact .cons y t (vz rs)
theorem MH{X:Cx}{K':PySem.W.Frag}(hK:X.K=K'):Xv X "str.join" (λx xs H Q=>∃(y:bp) (a:a5) (ys:List bp),x= .str y/\xs=[.ref a]/\(cy K' H a (ys.map V.str)\/cE K' H a (ys.map V.str))/\y.length<=1/\(∀z∈ys,z.length<=2000)/\ys.length<=2000/\Q (.str (Str.join y ys)) H):=by
 subst hK
 intro pins s σ H x xs v us Q I rx rs h
 obtain⟨y,a,ys,rfl,rfl,hl,hy,hz,hn,q⟩:=h
 obtain⟨t,rfl⟩:=rx
 have hj:Txt.join y ys=Str.join y ys:=StrLaws.glued_eq_join y ys
 have hok:(ys.map (·.length)).sum+ys.length*y.length<=16777216:=by
  have h1:=StrLaws.sumLen_le ys hz
  have h2:ys.length*2000<=2000*2000:=wS _ hn
  have h3:ys.length*y.length<=2000*1:=va hn hy
  omega
 cases rs with
 |cons r rr =>
  cases rr
  cases r
  rcases hl with hl|hl
  ·obtain⟨its,r1,t1,_⟩:=I.list hl
   exact TK.bP (a7 s.toks) (join_list (items:=its.toArray) t1.isList (vz r1) hok λt' k hk=>⟨.str (Str.join y ys),H,I.tok k hk,⟨t',by rw[hj]⟩,q⟩)
  ·obtain⟨its,r1,t1,_⟩:=I.tuple hl
   exact TK.bP (a7 s.toks) (join_tuple (items:=its.toArray) t1 (vz r1) hok λt' k hk=>⟨.str (Str.join y ys),H,I.tok k hk,⟨t',by rw[hj]⟩,q⟩)
end L2
namespace GP
open PySem L2 rW
theorem Be:∀(rest:List bp) (acc:Array Nat),(rest.foldl (λacc (p:bp)=>acc++(⟨#[]⟩:bp).cps++p.cps) acc).toList=acc.toList++(rest.map λy=>y.cps.toList).flatten
 |[],acc=>by simp
 |y::rest,acc=>by
  rw[tf,Be rest]
  simp
theorem Ke(ys:List bp):(Str.join ⟨#[]⟩ ys).cps.toList=(ys.map λy=>y.cps.toList).flatten:=by
 cases ys with
 |nil=>rfl
 |cons y ys =>
  rw[←StrLaws.glued_cons,g0,ww]
  exact Be ys y.cps
theorem EF{l:List Nat}{a n i:Nat}(h:i<n):((l.drop a).take n).getD i 0=l.getD (i+a) 0:=by
 rw[cf,cf,List.getElem?_take,if_pos h,List.getElem?_drop,Nat.add_comm]
theorem SO{T:PT}{m m' f s f' s':bp}{a b c d:Nat}(hf:f'.cps.toList=(f.cps.toList.drop a).take (b-a))(hs:s'.cps.toList=(s.cps.toList.drop c).take (d-c))(hb:b<=f.cps.size)(hd:d<=s.cps.size)(hab:a<=b)(hcd:c<=d):Sub (cW T m f s) (cW T m' f' s') a c/\f'.cps.size=b-a/\s'.cps.size=d-c:=by
 have nf:f'.cps.size=b-a:=by rw[←eD,hf,lh,vw,eD];omega
 have ns:s'.cps.size=d-c:=by rw[←eD,hs,lh,vw,eD];omega
 refine⟨⟨by show f'.cps.size+a<=f.cps.size;omega,by show s'.cps.size+c<=s.cps.size;omega,λi j hi hj=>?_,rfl,rfl⟩,nf,ns⟩
 have hi':i<b-a:=by rw[←nf];exact hi
 have hj':j<d-c:=by rw[←ns];exact hj
 show La T.1 T.2.1 (uT T) (f'.cps.toList.getD i 0) (s'.cps.toList.getD j 0)=La T.1 T.2.1 (uT T) (f.cps.toList.getD (i+a) 0) (s.cps.toList.getD (j+c) 0)
 rw[hf,hs,EF hi',EF hj']
theorem Nn{g:Gd}{s t:bu}{k:Nat}(h:(g.xu s)[k]? =some t):s.2.1<=t.2.1:=by
 rcases c_.mp (cx h)with z|z
 ·rw[z];exact a7 _
 ·exact(BR (kd.mp z).1).2
noncomputable def Sx(t:bu):HO:=.tup [.int (t.2.1:Int),.str ⟨#[t.2.2]⟩]
noncomputable def Qc(H:Hp):Option bu->Option V->Prop
 |none,v=>v=none
 |some t,v=>∃p,v=some (.ref p)/\H p=some (Sx t)
theorem Qc.tps{H H':Hp}{o:Option bu}{v:Option V}(h:Qc H o v)(e:NY H H'):Qc H' o v:=by
 cases o with
 |none=>exact h
 |some t=>obtain⟨p,a,b⟩:=h;exact⟨p,a,e _ _ b⟩
noncomputable def E7(H:Hp)(d:a5)(S:Nat->Option bu):Prop:=∃kvs:List (Key×V),H d=some (.dK kvs)/\kvs.length<=1000/\∀u:Nat,Qc H (S u) (iO kvs (.inl (u:Int)))
theorem E7.same{H H':Hp}{d:a5}{S:Nat->Option bu}(h:E7 H d S)(e:aj H H'):E7 H' d S:=by
 obtain⟨kvs,a,b,c⟩:=h
 exact⟨kvs,e _ _ a,b,λu=>(c u).tps (m6 e)⟩
theorem E7.get{H:Hp}{d:a5}{S:Nat->Option bu}{u:Nat}{t:bu}(h:E7 H d S)(hu:S u=some t):∃p,pI H d (.int (u:Int)) (some (.ref p))/\H p=some (Sx t):=by
 obtain⟨kvs,a,_,c⟩:=h
 have z:=c u
 rw[hu]at z
 obtain⟨p,e,hp⟩:=z
 have g:=pI.k (k:=.inl (u:Int)) a
 rw[e]at g
 exact⟨p,g,hp⟩
noncomputable def HW(K:PySem.W.Frag)(C:a5):Sp:=λvs H Q _=>∃(pr d:a5) (T:PT) (f s:bp) (lo hi u:Nat) (S:Nat->Option bu) (tl th tu:bu),vs=[.ref pr,.str f,.str s,.ref d,.int (lo:Int),.int (hi:Int),.int (u:Int)]/\zB K C H pr T/\Of T.1 f/\Of T.1 s/\f.cps.size<=12/\s.cps.size<=12/\E7 H d S/\lo<=u/\u<=hi/\hi<=f.cps.size/\(gi T f s)[lo]? =some tl/\(gi T f s)[hi]? =some th/\(gi T f s)[u]? =some tu/\S lo=some tl/\S hi=some th/\∀r H',aj H H'->H' r=some (Sx tu)->Q (.ref r) H'
noncomputable def Ie(K:PySem.W.Frag)(C:a5):Sp:=λvs H Q _=>∃(pr:a5) (T:PT) (f s:bp),vs=[.ref pr,.str f,.str s]/\zB K C H pr T/\Of T.1 f/\Of T.1 s/\f.cps.size<=12/\s.cps.size<=12/\∀d H',aj H H'->H d=none->E7 H' d (λu=>(gi T f s)[u]?)->Q (.ref d) H'
noncomputable def LU:Sp:=λvs H Q _=>∃(p1 p2:a5) (t1 t2:bu),vs=[.ref p1,.ref p2]/\H p1=some (Sx t1)/\H p2=some (Sx t2)/\t1.2.1<=1000/\t2.2.1<=1000/\Q (.str ⟨(vG t1 t2).toArray⟩) H
noncomputable def Ga(K:PySem.W.Frag)(C CS:a5):Sp:=λvs H Q E=>∃(pr:a5) (T:PT) (f s:bp),vs=[.ref pr,.str f,.str s]/\zB K C H pr T/\f.cps.size<=20/\s.cps.size<=20/\(Of T.1 f->Of T.1 s->f.cps.size<=12/\s.cps.size<=12/\∀r H',aj H H'->XO H' r T sW f s->Q (.ref r) H')/\(∀i j,xJ T.1 f s i j->∀dx H',aj H H'->H' dx=some (Dj dx (Cu i j))->E (.ref CS) (some dx) H')
noncomputable def LL(K:PySem.W.Frag)(C:a5):Sp:=λvs H Q _=>∃(pr:a5) (T:PT) (f s:bp) (i j:Nat),vs=[.ref pr,.str f,.str s]/\zB K C H pr T/\f.cps.size<=20/\s.cps.size<=20/\xJ T.1 f s i j/\∀r H',aj H H'->H' r=some (.tup [.int (i:Int),.int (j:Int)])->Q (.ref r) H'
theorem Gi(n:Int):(o9 (a_ "b") n).cps.toList=fi n.toNat 98:=by
 unfold o9
 rw[sB]
 show((fi n.toNat #[98]).foldl (·++·) #[]).toList=_
 rw[tR]
 simp[List.flatten_replicate_singleton]
theorem NJ{c:Nat}(h:c=112\/c=97\/c=98):c∈vZ:=by
 unfold vZ
 rcases h with q|q|q<;>rw[q]<;>simp
noncomputable def Eb(sp:List (Nat×Nat)):Nat:=(sp.map λq=>2*(q.2-q.1)-1+if q.1=q.2 then 1 else 0).sum
theorem rB(sp:List (Nat×Nat))(q:Nat×Nat):Eb (sp++[q])=Eb sp+(2*(q.2-q.1)-1+if q.1=q.2 then 1 else 0):=by
 unfold Eb
 rw[dC,List.sum_append]
 simp
theorem Io:∀sp:List (Nat×Nat),(∀q∈sp,q.1<=q.2)->sp.length<=Eb sp
 |[],_=>a7 _
 |q::sp,h=>by
  have ih:=Io sp λx hx=>h x (ce _ hx)
  have hq:=h q cr
  show sp.length+1<=(2*(q.2-q.1)-1+if q.1=q.2 then 1 else 0)+Eb sp
  split<;>omega
theorem wB{α β:Type}{F:α->β->Prop}:∀{l:List α} {x:α} {l':List β},Paired F (l++[x]) l'->∃m y,l'=m++[y]/\Paired F l m/\F x y
 |[],x,_,.cons h .nil=>⟨[],_,rfl,.nil,h⟩
 |a::l,x,_,.cons h r=>by
  obtain⟨m,y,e,h1,h2⟩:=wB r
  exact⟨_::m,y,by rw[e];rfl,.cons h h1,h2⟩
end GP
namespace L2
open PySem PySem.Spec PyProof.Rows
section
variable{P:bn}{w:df}{K:PySem.W.Frag}{mg:bp->Option a9}{base:eJ}{x qual:bp}{st:hV}{f:a5}{fd:dv}{N ps:List bp}{k:Nat}{sp:Sp}
theorem FH.kG(F:FH K x qual st f fd)(S:aC N ps (av st))(len:∀vs H Q E,sp vs H Q E->vs.length=ps.length)
  (hbody:∀(cdv:a9) (A:eR) (outer:List Env) (s:ba) (H:Hp) (vs:List V) (Q:VK) (E:XK),jL k (A.deeper (envOfC qual (av st) s.heap.objs.size f cdv))->sp vs H Q E →
   let X:=(sR bS P w K mg base N qual (av st) f cdv A outer s H E).Qz;∃t,zQ X (cV st) t/\t { nx:=λ_ H'=>Q .ia H',rt:=Q } (start N vs) H):aE P w K mg base bS (k+1) f fd ps sp:=F.ok S len hbody
theorem FH.Gv(F:FH K x qual st f fd)(S:aC N ps (av st))(len:∀vs H Q E,sp vs H Q E->vs.length=ps.length)
  (hbody:∀(cdv:a9) (A:eR) (outer:List Env) (s:ba) (H:Hp) (vs:List V) (Q:VK) (E:XK),jL k (A.deeper (envOfC qual (av st) s.heap.objs.size f cdv))->sp vs H Q E →
   let X:=sR (vt P w) P w K mg base N qual (av st) f cdv A outer s H E;∃t,zQ X (cV st) t/\t { nx:=λ_ H'=>Q .ia H',rt:=Q } (start N vs) H):aE P w K mg base (vt P w) (k+1) f fd ps sp:=F.okX S len hbody
end
end L2
namespace GP
open PySem L2 rW
theorem HM{T:PT}{m f s:bp}:∀{mv:List Nat} {x e:bu} {c:Int},(cW T m f s).walk x mv=some (c,e)->∀v∈mv,v=112\/v=97\/v=98
 |[],x,e,c,h,v,hv=>nomatch hv
 |y::vs,x,e,c,h,v,hv=>by
  obtain⟨t,c',ht,ey,hw,_⟩:=Gd.qU h
  rcases c_.mp hv with z|z
  ·rw[z,←ey]
   rcases Gd.fq.mp ht with⟨_,_,q⟩|⟨_,q⟩|⟨_,q⟩
   ·exact .inl (by rw[q])
   ·exact .inr (.inl (by rw[q]))
   ·exact .inr (.inr (by rw[q]))
  ·exact HM hw v z
theorem Jk{T:PT}{f s:bp}(hf:f.cps.size<=12)(hs:s.cps.size<=12):Way f s (0,0) ⟨((cW T sW f s).moves jB).toArray⟩/\KG T.1 T.2.1 T.2.2.1 T.2.2.2 f s (0,0) ⟨((cW T sW f s).moves jB).toArray⟩ ((cW T sW f s).moves jB).length=(cW T sW f s).Hs (0,0):=by
 obtain⟨e,hw,he,hen⟩:=Gd.qa (rL T sW f s) _ jB (EB T sW f s) (a7 _)
 have hc:=EW hw
 have hl:=Gd.A5 (g:=cW T sW f s) jB
 have hh:(cW T sW f s).ht jB<=1000:=by
  show f.cps.size-0+(s.cps.size-0)<=1000
  omega
 refine⟨⟨by omega,by omega,by show((cW T sW f s).moves jB).toArray.size<=2000;rw[d_];omega,λc h=>HM hw c h,λk hk=>?_⟩,?_⟩
 ·obtain⟨ck,ek,h1,h2,h3,_⟩:=hc k (by rw[←d_];exact hk)
  show InR f s (zX (0,0) ((cW T sW f s).moves jB) k)
  rw[h3]
  have i1:ek.1<=f.cps.size:=h2.1
  have i2:ek.2.1<=s.cps.size:=h2.2.1
  exact⟨oC _,xi.mpr i1,oC _,xi.mpr i2⟩
 ·obtain⟨ck,ek,h1,h2,_,h4,_⟩:=hc _ (a7 _)
  rw[u_,hw]at h1
  cases h1
  exact h4
theorem Ht{g:Gd}(n k:Nat):fmin g.Hs (KR sW n k)=some (0,0):=by
 obtain⟨x,hx⟩:=sH (f:=g.Hs) (Jc sW n k)
 have hm:=(kd.mp (mW hx)).2
 unfold Cj at hm
 rw[if_pos rfl,ll]at hm
 have h1:=of_decide_eq_true hm.1
 have h2:=of_decide_eq_true hm.2
 rw[hx,show x=(0,0) from Prod.ext (by omega) (by omega)]
theorem Lj{T:PT}{f s:bp}:(cW T sW f s).moves jB=((fe f.cps.size).map λu=>vG ((gi T f s).getD u jB) ((gi T f s).getD (u+1) jB)).flatten++fi (s.cps.size-((gi T f s).getD f.cps.size jB).2.1) 98:=by
 obtain⟨e,hw,he,hen⟩:=Gd.qa (rL T sW f s) _ jB (EB T sW f s) (a7 _)
 rw[(BD T f s).en]at hen
 have h2:=of_decide_eq_true hen
 have h4:e.2.1=s.cps.size:=h2.2
 have hl:=xQ T f s
 have hd:(downs jB ((cW T sW f s).moves jB)).length=f.cps.size:=by
  unfold gi at hl
  rw[eM]at hl
  omega
 have z:=Gd.QD hw
 rw[A4,hd,h4]at z
 exact z
theorem t7{T:PT}{f s:bp}{u:Nat}(h:u<=f.cps.size):∃t,(gi T f s)[u]? =some t:=⟨_,a6 (by rw[xQ];exact Nat.lt_succ_of_le h)⟩
theorem half_lt{a b hh:Nat}(e:(a+b) / 2=hh)(z:a<hh):hh<b:=by omega
theorem GY{a b:Nat}(h:¬a=b):¬(Sum.inl (a:Int):Key)=Sum.inl (b:Int):=λz=>h (Int.ofNat.inj (Sum.inl.inj z))
theorem G6{T:PT}{f s:bp}{u:Nat}{t:bu}(h:(gi T f s)[u]? =some t):t.2.1<=s.cps.size:=(Gd.uQ (rL T sW f s) _ jB u t (EB T sW f s) (a7 _) h).1.2.1
theorem HR(m:Int)(y:bp):∃a:Nat,m / 2 % ((y.length:Int)+1)=(a:Int)/\a<=y.cps.size:=by
 have hy:(y.length:Int)=(y.cps.size:Int):=rfl
 have m0:=jp (m / 2) (show(y.length:Int)+1≠0 by omega)
 have m1:=ii (m / 2) (show(0:Int)<(y.length:Int)+1 by omega)
 exact⟨_,(io m0).symm,by omega⟩
theorem Cw{y:bp}{a c:Nat}(h:y.cps.size<=11):(Txt.slice y none (some (a:Int))).length+(⟨#[c]⟩:bp).length<=bt/\(Txt.slice y none (some (a:Int))++(⟨#[c]⟩:bp)).length+(Txt.slice y (some (a:Int)) none).length<=bt:=by
 have l1:=bj (Txt.slice_le y none (some (a:Int))) h
 have l2:=bj (Txt.slice_le y (some (a:Int)) none) h
 have l3:(Txt.slice y none (some (a:Int))++(⟨#[c]⟩:bp)).length=(Txt.slice y none (some (a:Int))).length+1:=by
  show((Txt.slice y none (some (a:Int))).cps++ #[c]).size=_
  rw[Array.size_append]
  rfl
 rw[l3]
 exact⟨bj (i5 l1) (by decide),bj (Nat.add_le_add (i5 l1) l2) (by decide)⟩
theorem len_pos(y:bp):(0:Int)<(y.length:Int)+1:=Int.lt_add_one_of_le (oC _)
end GP
set_option Elab.async false
set_option linter.all false
set_option maxRecDepth 100000
set_option maxHeartbeats 4000000
seal PySem.wpAny
namespace XI
open PySem L2 rW GP
noncomputable def top(i:Nat):hV:=PySem.Challenge.pw_gapweave_k31_halved.main.body.getD i (.Pass ⟨0,0,0,0⟩)
noncomputable abbrev A8(K:PySem.W.Frag):Lm:=⟨eW K "first_begin",⟨219,34,219,65⟩,(("first_begin" :bp)++ ".<locals>.")++ "<lambda>",eW K "state_behind",⟨221,40,221,77⟩,(("state_behind" :bp)++ ".<locals>.")++ "<lambda>"⟩
theorem jZ{N P:List bp}{sc:oP}(a:sc.kind=.function:=by rfl)(b:sc.isCoroutine=false:=by rfl)(c:sc.isGenerator=false:=by rfl)(d:N.Nodup:=by decide +kernel)(e:N.take P.length=P:=by rfl)(f:∀x∈P,sc.names.lookup x=some .local\/sc.names.lookup x=some .cell:=by decide +kernel)(g:∀y∈sc.names,y.2≠.free:=by decide +kernel):aC N P sc:=⟨a,b,c,d,e,f,g⟩
noncomputable abbrev bX:hV:=inClass (top 5) 0
theorem tQ:aC ["self","row","place"] ["self","row","place"] (av bX):=jZ
noncomputable abbrev cY:hV:=top 7
theorem f6:aC ["one","other","rest"] ["one","other"] (av cY):=jZ
noncomputable abbrev uz:hV:=top 8
theorem AU:aC ["fraction","divisor"] ["fraction"] (av uz):=jZ
noncomputable abbrev su:hV:=top 13
theorem yj:aC ["sign","number"] ["sign"] (av su):=jZ
noncomputable abbrev oW:hV:=top 14
theorem BQ:aC ["text"] ["text"] (av oW):=jZ
noncomputable abbrev mL:hV:=top 15
theorem yl:aC ["signs"] ["signs"] (av mL):=jZ
noncomputable abbrev jQ:hV:=top 16
theorem pM:aC ["signs","pairs","row"] ["signs","pairs"] (av jQ):=jZ
noncomputable abbrev iR:hV:=top 17
theorem wU:aC ["price"] ["price"] (av iR):=jZ
noncomputable abbrev jP:hV:=top 18
theorem vH:aC ["row"] ["row"] (av jP):=jZ
noncomputable abbrev nJ:hV:=top 19
theorem o8:aC ["pairs","opening","more","unders","row"] ["pairs","opening","more"] (av nJ):=jZ
noncomputable abbrev kQ:hV:=top 20
theorem fj:aC ["unders","factors","unit","under","factor"] ["unders"] (av kQ):=jZ
noncomputable abbrev nE:hV:=top 21
theorem mD:aC ["factors","product","factor"] ["factors"] (av nE):=jZ
noncomputable abbrev pP:hV:=top 22
theorem Gh:aC ["price","unit"] ["price","unit"] (av pP):=jZ
noncomputable abbrev i6:hV:=top 23
theorem dH:aC ["signs","pairs","unit","costs","one","row","other","price"] ["signs","pairs","unit"] (av i6):=jZ
noncomputable abbrev bW:hV:=inClass (top 24) 0
theorem tP:aC ["self","signs","pairs","opening","more"] ["self","signs","pairs","opening","more"] (av bW):=jZ
noncomputable abbrev j3:hV:=top 25
theorem BN:aC ["prices","one","other"] ["prices","one","other"] (av j3):=jZ
noncomputable abbrev kW:hV:=top 26
theorem wR:aC ["prices"] ["prices"] (av kW):=jZ
noncomputable abbrev oO:hV:=top 27
theorem BO:aC ["prices"] ["prices"] (av oO):=jZ
noncomputable abbrev oi:hV:=top 28
theorem iP:aC ["prices","number","over","under","factor","divisor"] ["prices","number"] (av oi):=jZ
noncomputable abbrev mP:hV:=top 32
theorem iQ:aC ["known","rows","number","row","place","sign"] ["known","rows"] (av mP):=jZ
noncomputable abbrev i7:hV:=top 33
theorem zV:aC ["prices","rows"] ["prices","rows"] (av i7):=jZ
noncomputable abbrev kX:hV:=top 34
theorem wV:aC ["manner"] ["manner"] (av kX):=jZ
noncomputable abbrev mO:hV:=top 35
theorem ym:aC ["first","second","place"] ["first","second","place"] (av mO):=jZ
noncomputable abbrev kU:hV:=top 36
theorem qJ:aC ["place","move","step"] ["place","move"] (av kU):=jZ
noncomputable abbrev oN:hV:=top 37
theorem kI:aC ["first","second","begin","moves","place","places","move"] ["first","second","begin","moves"] (av oN):=jZ
noncomputable abbrev i8:hV:=top 38
theorem zW:aC ["prices","move","came"] ["prices","move","came"] (av i8):=jZ
noncomputable abbrev sy:hV:=top 39
theorem gT:aC ["prices","first","second","begin","moves","places","cost","came","place","move"] ["prices","first","second","begin","moves"] (av sy):=jZ
noncomputable abbrev oQ:hV:=top 40
theorem BP:aC ["manner","place"] ["manner","place"] (av oQ):=jZ
noncomputable abbrev sj:hV:=top 41
theorem Gg:aC ["manner","first","second","place"] ["manner","first","second","place"] (av sj):=jZ
noncomputable abbrev nK:hV:=top 44
theorem mF:aC ["first","second","places","i","j"] ["first","second"] (av nK):=jZ
noncomputable abbrev nD:hV:=top 45
theorem mz:aC ["prices","first","second","place","came","i","j","steps"] ["prices","first","second","place","came"] (av nD):=jZ
noncomputable abbrev oY:hV:=top 46
theorem ni:aC ["prices","first","second","places","steps","place","came"] ["prices","first","second","places"] (av oY):=jZ
noncomputable abbrev qj:hV:=top 47
theorem rj:aC ["first","second","places","manner","ends","place"] ["first","second","places","manner"] (av qj):=jZ
noncomputable abbrev bY:hV:=inClass (top 48) 0
theorem n9:aC ["self","prices","first","second","manner","places"] ["self","prices","first","second","manner"] (av bY):=jZ
noncomputable abbrev mG:hV:=top 49
theorem kJ:aC ["ground","rests","state","costs"] ["ground"] (av mG):=jZ
noncomputable abbrev nH:hV:=top 50
theorem zU:aC ["ground","rests","state"] ["ground","rests","state"] (av nH):=jZ
noncomputable abbrev mK:hV:=top 51
theorem yk:aC ["ground","rests"] ["ground","rests"] (av mK):=jZ
noncomputable abbrev kT:hV:=top 52
theorem wQ:aC ["ground","rests","state"] ["ground","rests","state"] (av kT):=jZ
noncomputable abbrev mJ:hV:=top 53
theorem kN:aC ["ground","rests","begin","state","moves"] ["ground","rests","begin"] (av mJ):=jZ
noncomputable abbrev qh:hV:=top 54
theorem oM:aC ["prices","first","second","manner","ground","rests","begin"] ["prices","first","second","manner"] (av qh):=jZ
noncomputable abbrev se:hV:=top 56
theorem Gf:aC ["way"] ["way"] (av se):=jZ
noncomputable abbrev qi:hV:=top 57
theorem wu:aC ["prices","came","pair","across","under","beside","ways"] ["prices","came","pair","across","under","beside"] (av qi):=jZ
noncomputable abbrev pO:hV:=top 58
theorem qg:aC ["prices","pair","across","under","beside","cell","came","way"] ["prices","pair","across","under","beside"] (av pO):=jZ
noncomputable abbrev nG:hV:=top 59
theorem jI:aC ["prices","second","lasts","cell","came","cells","j"] ["prices","second","lasts"] (av nG):=jZ
noncomputable abbrev mQ:hV:=top 60
theorem kO:aC ["prices","sign","second","under","cells","j","pair"] ["prices","sign","second","under"] (av mQ):=jZ
noncomputable abbrev nu:hV:=top 61
theorem fX:aC ["cells","stopping","j","cell","stops","came","way"] ["cells"] (av nu):=jZ
noncomputable abbrev pN:hV:=top 62
theorem lM:aC ["prices","first","second","came","lasts","used","cells","i"] ["prices","first","second","came","lasts","used"] (av pN):=jZ
noncomputable abbrev nB:hV:=top 63
theorem zT:aC ["prices","first","second","used"] ["prices","first","second","used"] (av nB):=jZ
noncomputable abbrev kR:hV:=top 64
theorem jN:aC ["prices","first","second","stops","low","high","used","start","goal","stop"] ["prices","first","second","stops","low","high","used"] (av kR):=jZ
noncomputable abbrev oX:hV:=top 65
theorem kP:aC ["prices","first","second","stops","spans","span","half"] ["prices","first","second"] (av oX):=jZ
noncomputable abbrev jO:hV:=top 66
theorem pL:aC ["ahead","stop","paired"] ["ahead","stop"] (av jO):=jZ
noncomputable abbrev rm:hV:=top 67
theorem r9:aC ["prices","first","second","stops","parts","moves"] ["prices","first","second"] (av rm):=jZ
noncomputable abbrev fY:hV:=top 69
theorem q9:aC ["_law_script","_law_at","_law_cell","_law_m"] ["_law_script","_law_at"] (av fY):=jZ
noncomputable abbrev oV:hV:=top 70
theorem qe:aC ["_law_script","_law_at","_law_m","_law_cell"] ["_law_script","_law_at"] (av oV):=jZ
noncomputable abbrev oS:hV:=top 71
theorem kK:aC ["_law_script","_law_at","_law_many","_law_every","_law_m","_law_step"] ["_law_script","_law_at","_law_many"] (av oS):=jZ
noncomputable abbrev oU:hV:=top 72
theorem ux:aC ["_law_script","_law_at","_law_sort","_law_m"] ["_law_script","_law_at","_law_sort"] (av oU):=jZ
noncomputable abbrev oR:hV:=top 73
theorem dW:aC ["_law_script","_law_at","_law_many","_law_m","_law_sort","_law_signs_here","_law_pairs","_law_k","_law_j","_law_opening","_law_more"] ["_law_script","_law_at","_law_many"] (av oR):=jZ
noncomputable abbrev nF:hV:=top 74
theorem jH:aC ["_law_script","_law_at","_law_signs_here","_law_pairs","_law_opening","_law_more"] ["_law_script","_law_at"] (av nF):=jZ
noncomputable abbrev sr:hV:=top 75
theorem jS:aC ["_law_script","_law_at","_law_signs_here","_law_most","_law_m","_law_sort","_law_row_here","_law_k"] ["_law_script","_law_at","_law_signs_here","_law_most"] (av sr):=jZ
noncomputable abbrev oh:hV:=top 76
theorem wm:aC ["_law_found","_law_due"] ["_law_found","_law_due"] (av oh):=jZ
noncomputable abbrev mH:hV:=top 77
theorem kL:aC ["_law_prices_here","_law_first","_law_second","_law_told","e"] ["_law_prices_here","_law_first","_law_second"] (av mH):=jZ
noncomputable abbrev sS:hV:=top 78
theorem qf:aC ["_law_script","_law_at","_law_prices_here","_law_first","_law_second","_law_m","_law_other","_law_spot"] ["_law_script"] (av sS):=jZ
noncomputable abbrev l6:List bp:=["_law_script","_law_at"]
noncomputable abbrev l7:List bp:=["prices","first","second"]
noncomputable abbrev l8:List bp:=["price"]
noncomputable abbrev l9:List bp:=["prices"]
noncomputable abbrev Og:List bp:=["ground","rests","state"]
noncomputable abbrev Oe:List bp:=["_law_script","_law_at","_law_many"]
noncomputable abbrev Po:List bp:=["one","other"]
noncomputable abbrev Pn:List bp:=["prices","one","other"]
noncomputable abbrev Pk:List bp:=["prices","rows"]
noncomputable abbrev Pj:List bp:=["prices","move","came"]
noncomputable abbrev QF:List bp:=["_law_found","_law_due"]
noncomputable abbrev Tt:List bp:=["price","unit"]
noncomputable abbrev Tr:List bp:=["prices","number"]
noncomputable abbrev Tq:List bp:=["prices","pair","across","under","beside"]
noncomputable abbrev Tp:List bp:=["prices","first","second","came","lasts","used"]
noncomputable abbrev UI:List bp:=["self","signs","pairs","opening","more"]
noncomputable abbrev UH:List bp:=["self","row","place"]
noncomputable abbrev UG:List bp:=["self","prices","first","second","manner"]
noncomputable abbrev UE:List bp:=["_law_script"]
noncomputable abbrev Wi:List bp:=["fraction"]
noncomputable abbrev Wh:List bp:=["pairs","opening","more"]
noncomputable abbrev Wg:List bp:=["signs","pairs"]
noncomputable abbrev Wf:List bp:=["signs","pairs","unit"]
noncomputable abbrev We:List bp:=["known","rows"]
noncomputable abbrev Wd:List bp:=["manner","place"]
noncomputable abbrev Wc:List bp:=["manner","first","second","place"]
noncomputable abbrev Wb:List bp:=["first","second"]
noncomputable abbrev Wa:List bp:=["prices","first","second","place","came"]
noncomputable abbrev V9:List bp:=["prices","first","second","places"]
noncomputable abbrev V8:List bp:=["first","second","places","manner"]
noncomputable abbrev V7:List bp:=["ground","rests"]
noncomputable abbrev V6:List bp:=["ground","rests","begin"]
noncomputable abbrev V5:List bp:=["prices","first","second","manner"]
noncomputable abbrev V4:List bp:=["prices","came","pair","across","under","beside"]
noncomputable abbrev V3:List bp:=["prices","second","lasts"]
noncomputable abbrev V2:List bp:=["prices","sign","second","under"]
noncomputable abbrev V1:List bp:=["prices","first","second","used"]
noncomputable abbrev V0:List bp:=["first","second","place"]
noncomputable abbrev VZ:List bp:=["place","move"]
noncomputable abbrev VY:List bp:=["first","second","begin","moves"]
noncomputable abbrev VX:List bp:=["prices","first","second","begin","moves"]
noncomputable abbrev VW:List bp:=["prices","first","second","stops","low","high","used"]
noncomputable abbrev VU:List bp:=["ahead","stop"]
noncomputable abbrev VT:List bp:=["_law_script","_law_at","_law_sort"]
noncomputable abbrev VS:List bp:=["_law_script","_law_at","_law_signs_here","_law_most"]
noncomputable abbrev VR:List bp:=["_law_prices_here","_law_first","_law_second"]
noncomputable abbrev l52:List bp:=["behind","cost","rests"]
noncomputable abbrev l53:List bp:=["_law_k","_law_every","_law_m","_law_step"]
noncomputable abbrev l54:List bp:=["_law_j","_law_script","_law_at","_law_many","_law_sort"]
noncomputable abbrev l55:List bp:=["_law_k","_law_script","_law_at","_law_sort"]
structure Pm where
 ng:Do
 oK:Do
 jU:a5
 mh:a5
 lD:a5
 jG:a5
 jF:a5
 jE:a5
 jV:a5
 ao:a5
 aR:a5
 fW:a5
 bV:a5
 aH:a5
structure Txt(K:PySem.W.Frag)(mg:bp->Option a9)(p:Pm)(w:df)(base:eJ):Prop where
 UX:mg "abs" =none
 cI:mg "len" =none
 z_ord:mg "ord" =none
 UW:mg "set" =none
 rY:mg "tuple" =none
 HJ:mg "zip" =none
 qS:mg "enumerate" =none
 jM:mg "range" =none
 bG:mg "isinstance" =none
 Qi:mg "int" =none
 Lh:mg "bool" =none
 Qj:mg "all" =none
 xV:mg "list" =none
 HK:mg "str" =none
 HL:mg "min" =none
 FN:mg "reversed" =none
 Cs:mg "FIRST_SIGN" =some (.int 32 p.ng)
 EG:mg "LAST_SIGN" =some (.int 126 p.oK)
 G4:mg "NO_SIGNS" =some (.ref p.jU)
 Gm:∀H:Hp,cE K H p.jU [.int 34,.int 37,.int 45]
 Ks:mg "MANNERS" =some (.ref p.mh)
 JC:∀H:Hp,cE K H p.mh [.str (a_ "whole"),.str (a_ "within"),.str (a_ "over"),.str (a_ "stretch")]
 IM:mg "STEPS" =some (.ref p.lD)
 EA:∀P:bn,KDict P w K p.lD [(.inr (a_ "p"),.ref p.jG),(.inr (a_ "a"),.ref p.jF),(.inr (a_ "b"),.ref p.jE)]
 Me:∀H:Hp,cE K H p.jG [.int 1,.int 1]
 Mc:∀H:Hp,cE K H p.jF [.int 1,.int 0]
 Mb:∀H:Hp,cE K H p.jE [.int 0,.int 1]
 G5:mg "CAME" =some (.ref p.jV)
 yq:∀H:Hp,cE K H p.jV [.str (a_ "p"),.str (a_ "a"),.str (a_ "b")]
 JU:mg "Prices" =some (.ref p.ao)
 bh:Qh K p.ao
 gg:bO K p.ao "signs"
 oA:bO K p.ao "pairs"
 lN:bO K p.ao "opening"
 pB:bO K p.ao "more"
 lO:bO K p.ao "factors"
 mS:bO K p.ao "unit"
 rD:bO K p.ao "costs"
 k6:bO K p.ao "opening_units"
 m8:bO K p.ao "more_units"
 JV:mg "Ground" =some (.ref p.aR)
 jz:Qh K p.aR
 k8:bO K p.aR "steps"
 qM:bO K p.aR "begins"
 pC:bO K p.aR "ends"
 Ae:mg "WeaveError" =some (.ref p.fW)
 Et:mg "NoManner" =some (.ref p.bV)
 Dp:NW K p.bV
 Qk:XB K p.bV
 A6:mg "NoSign" =some (.ref p.aH)
 Jj:XB K p.aH
 AF:XTy K p.aH
 AG:Xn K p.aH
 Ji:∃f,Jg K p.aH f
 uJ:bO K p.aH "row"
 rE:bO K p.aH "place"
 zR:XBase K p.fW
 vR:PySem.W.subIn K (.ref p.aH) (.ref p.aH)=some true
 bm:Ri base mg
 yN:qO K "first_begin" =true
 yM:∀f,mg "first_begin" =some (.ref f)->PySem.W.nsIn K dk "first_begin" =some (some (.ref f))
 xq:qO K "state_behind" =true
 xm:∀f,mg "state_behind" =some (.ref f)->PySem.W.nsIn K dk "state_behind" =some (some (.ref f))
theorem Uu:bootBuiltins "abs" =some (.builtin "abs"):=by decide +kernel
theorem bL:bootBuiltins "len" =some (.builtin "len"):=by decide +kernel
theorem Ut:bootBuiltins "ord" =some (.builtin "ord"):=by decide +kernel
theorem Us:bootBuiltins "set" =some (.type "set"):=by decide +kernel
theorem pX:bootBuiltins "tuple" =some (.type "tuple"):=by decide +kernel
theorem bB:bootBuiltins "isinstance" =some (.builtin "isinstance"):=by decide +kernel
theorem NP:bootBuiltins "int" =some (.type "int"):=by decide +kernel
theorem Jb:bootBuiltins "bool" =some (.type "bool"):=by decide +kernel
theorem NQ:bootBuiltins "all" =some (.builtin "all"):=by decide +kernel
theorem uZ:bootBuiltins "list" =some (.type "list"):=by decide +kernel
theorem CD:bootBuiltins "str" =some (.type "str"):=by decide +kernel
theorem CH:bootBuiltins "min" =some (.builtin "min"):=by decide +kernel
section
variable{P:bn}{w:df}{K:PySem.W.Frag}{mg:bp->Option a9}{base:eJ}
theorem sN {aZ:a5}{aV:dv}{p:Pm}(T:Txt K mg p w base)(aI:Dn K mg "greatest_divisor" cY Po aZ aV)  :aE P w K mg base bS 1 aZ aV Po HZ:=by
 refine aI.fn.kG f6 (λvs H Q E h=>?_) (λ_ _ _ _ H vs Q E hr h=>?_)
 ·obtain⟨a,b,rfl,_⟩:=h
  rfl
 ·obtain⟨a,b,rfl,hb,k⟩:=h
  intro X
  refine⟨_,(ai (yr eI (aQ A0 (pv 1) ak (bq _)) (ai (ag 2 f6.nd (aD cJ (pv 0) (pv 1)))
   (ai (ag 0 f6.nd (pv 1))
   (aq (ag 1 f6.nd (pv 2))))))
   (aq (aK (aB (NN) rfl T.UX Uu (aa (pv 0) af))))),?_⟩
  refine⟨λm σ H'=>H'=H/\∃(x y:Int) (r:Option V),σ=[some (.int x),some (.int y),r]/\0<=y/\f_ x y=f_ a b/\m=y.toNat,⟨b.toNat,rfl,a,b,none,rfl,hb,rfl,rfl⟩,?_⟩
  rintro m σ H' ⟨rfl,x,y,r,rfl,hy,hg,rfl⟩
  refine⟨_,rfl,rfl,_,rfl,?_⟩
  refine Cm (λh0=>?_) (λh0=>?_)
  ·have l1:=jp x h0
   have l2:=ii x (show 0<y by omega)
   refine⟨λσ' N4=>N4=H'/\∃r,σ'=[some (.int y),some (.int (x % y)),r],?_,?_⟩
   ·rintro σ' N4 ⟨rfl,r,rfl⟩
    exact⟨(x % y).toNat,by omega,rfl,y,x % y,r,rfl,l1,(Nk x y).trans hg,rfl⟩
   ·exact⟨_,rfl,_,rfl,_,_,rfl,rfl,(by show 0<y;omega),_,rfl,_,rfl,rfl,_,rfl⟩
  ·subst h0
   refine⟨_,rfl,_,rfl,?_⟩
   rw[PN,hg]
   exact k
theorem JF {pV aZ:a5}{nT aV:dv}{p:Pm}(T:Txt K mg p w base)(m5:Dn K mg "lowest" uz Wi pV nT)(aI:Dn K mg "greatest_divisor" cY Po aZ aV)(ff:aE P w K mg base bS 1 aZ aV Po HZ):aE P w K mg base bS 2 pV nT Wi (Qs K):=by
 refine m5.fn.kG AU (λvs H Q E h=>?_) (λ_ _ _ _ H vs Q E hr h=>?_)
 ·obtain⟨p,f,rfl,_⟩:=h
  rfl
 ·obtain⟨p,⟨a,b⟩,rfl,hS,hb,hb2,k⟩:=h
  have hb0:0<b:=hb
  have g1:=qA a hb0
  have g2:=G3 a hb0
  have hb':b<1073741824:=hb2
  intro X
  refine⟨_,(ai (ag 1 AU.nd (ae ff hr aI (aa (aJ aO (pv 0) ak (λ_ _=>rfl)) (aa (aJ aO (pv 0) ak (λ_ _=>rfl)) af))))
   (aq (aK (bC (aa (aD dI (aJ aO (pv 0) ak (λ_ _=>rfl)) (pv 1)) (aa (aD dI (aJ aO (pv 0) ak (λ_ _=>rfl)) (pv 1)) af)))))),?_⟩
  refine⟨_,rfl,_,_,_,_,rfl,rfl,hS,rfl,_,rfl,_,_,_,_,rfl,rfl,hS,rfl,a,b,rfl,md hb,?_⟩
  refine⟨_,rfl,_,_,_,_,rfl,rfl,hS,rfl,_,rfl,_,_,rfl,rfl,⟨g1,by omega⟩,_,rfl,_,_,_,_,rfl,rfl,hS,rfl,_,rfl,_,_,rfl,rfl,⟨g1,by omega⟩,?_⟩
  exact⟨aw,λq hq=>k q hq⟩
theorem xg {cL pV:a5}{cB nT:dv}{p:Pm}(T:Txt K mg p w base)(bf:Dn K mg "lowest_price" iR l8 cL cB)(m5:Dn K mg "lowest" uz Wi pV nT)(N5:aE P w K mg base bS 2 pV nT Wi (Qs K)):aE P w K mg base bS 3 cL cB l8 (tO K):=by
 refine bf.fn.kG wU (λvs H Q E h=>?_) (λ_ _ _ _ H vs Q E hr h=>?_)
 ·obtain⟨p,f,rfl,_⟩:=h
  rfl
 ·obtain⟨p,f,rfl,hS,⟨h1,h2⟩,k⟩:=h
  intro X
  refine⟨_,(ai (bZ (aQ Eh (aJ aO (pv 0) ak (λ_ _=>rfl)) ak (bq _)) fk aW)
   (aq (aK (ae N5 hr m5 (aa (pv 0) af))))),?_⟩
  refine⟨_,rfl,_,_,_,_,rfl,rfl,hS,rfl,_,_,rfl,rfl,_,rfl,?_⟩
  refine cK (λz=>absurd z (by omega)) λ_=>?_
  exact⟨_,rfl,p,f,rfl,hS,by omega,h2,k⟩
theorem vK {fH cL:a5}{eK cB:dv}{p:Pm}(T:Txt K mg p w base)(cT:Dn K mg "lowest_prices" jP ["row"] fH eK)(bf:Dn K mg "lowest_price" iR l8 cL cB)(lF:aE P w K mg base bS 3 cL cB l8 (tO K)):aE P w K mg base bS 4 fH eK ["row"] (wk K):=by
 refine cT.fn.kG vH (λvs H Q E h=>?_) (λ_ _ _ _ H vs Q E hr h=>?_)
 ·obtain⟨c,fs,rfl,_⟩:=h
  rfl
 ·obtain⟨c,fs,rfl,⟨ps,hc,hp⟩,ho,hz,k⟩:=h
  have hl:=Paired.len hp
  intro X
  refine⟨_,(aq (aK (sG (tF) rfl T.rY pX (aa (qp (N:=l8) rfl (λ_=>⟨[],c6.plain (by decide +kernel) rfl (by decide +kernel) (by decide +kernel)⟩) (AY (pv 0)) (λ_ _ _ _ _ _ _=>(aM (i:=0) (show(l8:List bp).Nodup by decide +kernel) rfl (Or.inl rfl))) (λ_ _ _ _ _ _ _=>(ae lF hr bf (aa (pv 0) af)))) af)))),?_⟩
  refine⟨_,rfl,c,_,rfl,hc,λl Ua=>?_⟩
  refine⟨λi m ys H2=>m=fs.length-i/\i<=fs.length/\aj H H2/\H2 l=some (.lst ys)/\∃qs:List a5,ys=qs.map V.ref/\qs.length=i/\Paired (λq f=>H2 q=some (.tup [.int f.1,.int f.2])) qs ((fs.map k9).take i),⟨fs.length,rfl,d0 _,aj.upd Ua,ah,[],rfl,rfl,.nil⟩,?_⟩
  rintro i m ys H2 ⟨rfl,hi,s2,hl2,qs,rfl,hq,hP⟩
  have zc:c.at K H2 (ps.map V.ref):=aj.cp s2 hc
  by_cases hlt:i<fs.length
  ·have hpi:i<ps.length:=by omega
   have e1:(ps.map V.ref)[i]? =some (.ref ps[i]):=by rw[eC,a6 hpi];rfl
   refine .inr ⟨⟨_,_,zc,e1⟩,?_⟩
   rintro x H3 ⟨rfl,hx⟩
   have ex:=hx _ zc
   rw[e1]at ex
   cases ex
   obtain⟨f,ef,hf⟩:=Paired.at hp (a6 hpi)
   refine⟨Kp.rep _ _,?_⟩
   refine⟨_,rfl,ps[i],f,rfl,hf.same s2,ho f (cx ef),λq hqn=>?_⟩
   have X7:q≠l:=λz=>by rw[z,hl2]at hqn;cases hqn
   refine⟨by rw[au (Ne.symm X7)];exact hl2,?_,fs.length-(i+1),by omega,rfl,hlt,aj.at (s2.trans (aj.upd hqn)) Ua,ah,qs++[q],by rw[dC];rfl,by rw[cn,hq];rfl,?_⟩
   ·rw[bc,hq]
    exact dy hlt (bj hz (by decide))
   ·rw[sY ef]
    refine GP.Paired.snoc (Paired.g8 hP λa b z=>?_) ?_
    ·have n1:a≠q:=aN z hqn
     have n2:a≠l:=qL z hl2 (by intro z;cases z)
     rw[au n2,au n1]
     exact z
    ·rw[au X7]
     exact ah
  ·have ei:i=fs.length:=by omega
   subst ei
   refine .inl ⟨⟨_,zc,by rw[bc];omega⟩,?_⟩
   refine⟨l,_,rfl,.inl ⟨cy.of hl2,λq hqn=>?_⟩⟩
   refine k q _ (s2.trans (aj.upd hqn)) (aj.free s2 hqn) ⟨qs,cE.of ah,?_⟩
   rw[fA (by rw[bc];exact a7 _)]at hP
   exact Paired.g8 hP λa b z=>cE.of (by rw[au (aN z hqn)];exact z)
theorem Ac {jx:a5}{iA:dv}{p:Pm}(T:Txt K mg p w base)(fU:Dn K mg "all_unders" nJ Wh jx iA)  :aE P w K mg base bS 1 jx iA Wh (DL K):=by
 refine fU.fn.kG o8 (λvs H Q E h=>?_) (λ_ _ _ _ H vs Q E hr h=>?_)
 ·obtain⟨Pp,o,m,rows,fo,fm,rfl,_⟩:=h
  rfl
 ·obtain⟨Pp,o,m,rows,fo,fm,rfl,⟨cs,hc,hp⟩,hfo,hfm,afc,TZ,k⟩:=h
  intro X
  refine⟨_,(ai (ag 3 o8.nd (iS (aa (aJ aO (pv 1) ak (λ_ _=>rfl)) (aa (aJ aO (pv 2) ak (λ_ _=>rfl)) af))))
   (ai (cZ eI rfl (AY (pv 0)) (al 4 o8.nd) (aq (bK (jJ PySem.F.plainAttrs_list PySem.F.slot_list_extend PySem.F.type_list_extend JR (pv 3) (aa (qp (N:=l8) rfl (λ_=>⟨[],c6.plain (by decide +kernel) rfl (by decide +kernel) (by decide +kernel)⟩) (AY (pv 4)) (λ_ _ _ _ _ _ _=>(aM (i:=0) (show(l8:List bp).Nodup by decide +kernel) rfl (Or.inl rfl))) (λ_ _ _ _ _ _ _=>(aJ (Py (K':=K) rfl) (pv 0) ak (λ_ _=>rfl)))) af)))))
   (aq (aK (pv 3))))),?_⟩
  refine⟨_,rfl,_,_,_,_,rfl,rfl,hfo,rfl,_,rfl,_,_,_,_,rfl,rfl,hfm,rfl,aw,λl hl=>?_⟩
  have ab2:∀i,((rows.take i).flatten.map (·.2)).length<=12*12:=λi=>by
   have:∀(q:List (List bT)),(∀r∈q,r.length<=12)->q.flatten.length<=12*q.length:=λq=>by
    induction q with
    |nil=>intro _;simp
    |cons r q ih =>
     intro h
     have a:=h r cr
     have b:=ih λr' hr=>h r' (ce _ hr)
     rw[ww,cn,eM]
     omega
   have a:=this (rows.take i) λr hr=>TZ r (List.mem_of_mem_take hr)
   have b:(rows.take i).length<=12:=by rw[lh];omega
   rw[bc]
   omega
  refine⟨_,rfl,.tup Pp,_,rfl,aj.cp (aj.upd hl) (c:=.tup Pp) hc,G7 (K:=K) (c:=.tup Pp) (xs:=cs.map Cp.val) (λi σ H2=>∃v4,σ=[some (.ref Pp),some (.ref o),some (.ref m),some (.ref l),v4]/\aj H H2/\H2 l=some (.lst ((fo.2::fm.2::(rows.take i).flatten.map (·.2)).map V.int)))
   ⟨_,rfl,aj.upd hl,ah⟩ (λi σ H2 _ ⟨_,_,s2,_⟩=>aj.cp s2 hc) ?_ ?_⟩
  ·rintro i x σ H2 hx ⟨v4,rfl,s2,hl2⟩
   obtain⟨c,ec,rfl⟩:=iU hx
   obtain⟨row,er,⟨ps,hc2,hp2⟩⟩:=Paired.at hp ec
   have WX:=aj.cp s2 hc2
   refine⟨_,rfl,.inl ⟨rfl,_,cy.of hl2⟩,?_⟩
   refine⟨_,rfl,c,_,rfl,WX,λlx hlx=>?_⟩
   refine⟨λj m' ys H3=>m'=row.length-j/\j<=row.length/\aj H2 H3/\H3 lx=some (.lst ys)/\ys=((row.take j).map (·.2)).map V.int,⟨row.length,rfl,d0 _,aj.upd hlx,ah,rfl⟩,?_⟩
   rintro j m' ys H3 ⟨rfl,hj,s3,T5,rfl⟩
   have zr:=aj.cp s3 WX
   by_cases Yn:j<row.length
   ·have hpj:j<ps.length:=by rw[Paired.len hp2];exact Yn
    have e1:(ps.map V.ref)[j]? =some (.ref ps[j]):=by rw[eC,a6 hpj];rfl
    refine .inr ⟨⟨_,_,zr,e1⟩,?_⟩
    rintro y H4 ⟨rfl,Wy⟩
    have ey:=Wy _ zr
    rw[e1]at ey
    cases ey
    refine⟨Kp.rep _ _,?_⟩
    obtain⟨f,ef,hf⟩:=Paired.at hp2 (a6 hpj)
    have hf':=hf.same (s2.trans s3)
    refine⟨_,rfl,_,_,_,_,rfl,rfl,hf',rfl,?_⟩
    refine⟨T5,?_,row.length-(j+1),by omega,rfl,Yn,aj.at s3 hlx,ah,?_⟩
    ·rw[bc,bc,lh]
     have:=TZ row (cx er)
     exact dy (show min j row.length<100 by omega) (by decide)
    ·rw[take_snoc ef,dC,dC]
     rfl
   ·have ej:j=row.length:=by omega
    subst ej
    rw[fA (a7 _)]at T5
    refine .inl ⟨⟨_,zr,by rw[bc,Paired.len hp2];exact a7 _⟩,?_⟩
    have hl3:=s3 _ _ hl2
    refine⟨l,lx,_,_,rfl,rfl,hl3,T5,?_,?_⟩
    ·have a:=ab2 i
     have a2:=TZ row (cx er)
     have a3:((fo.2::fm.2::(rows.take i).flatten.map (·.2)).map V.int).length+((row.map (·.2)).map V.int).length<=200:=by
      rw[bc,eM,eM,bc,bc,bc]
      rw[bc]at a
      omega
     exact bj a3 (by decide)
    refine⟨_,rfl,aj.at (s2.trans s3) hl,?_⟩
    rw[ah,take_snoc er,List.flatten_append,dC]
    simp
  ·rintro σ H2 ⟨v4,rfl,s2,hl2⟩
   refine⟨_,rfl,?_⟩
   rw[bc,Paired.len hp,fA (a7 _)]at hl2
   exact k l H2 s2 hl hl2
theorem wW {gy aZ:a5}{fz aV:dv}{p:Pm}(T:Txt K mg p w base)(dh:Dn K mg "unit_factors" kQ ["unders"] gy fz)(aI:Dn K mg "greatest_divisor" cY Po aZ aV)(ff:aE P w K mg base bS 1 aZ aV Po HZ):aE P w K mg base bS 2 gy fz ["unders"] (AO K):=by
 refine dh.fn.kG fj (λvs H Q E h=>?_) (λ_ _ _ _ H vs Q E hr h=>?_)
 ·obtain⟨l,ns,rfl,_⟩:=h
  rfl
 ·obtain⟨l,ns,rfl,hl,hn,hs,k⟩:=h
  intro X
  refine⟨_,(ai (ag 1 fj.nd (iS af))
   (ai (ag 2 fj.nd ak)
   (ai (cZ eI rfl (ql (pv 0)) (al 3 fj.nd) (ai (ag 4 fj.nd (aD dI (pv 3) (ae ff hr aI (aa (pv 2) (aa (pv 3) af)))))
   (aq (bZ (aQ uE (pv 4) ak (bq _)) (ai (bK (jJ PySem.F.plainAttrs_list PySem.F.slot_list_append PySem.F.type_list_append b8 (pv 1) (aa (pv 4) af)))
   (aq (ag 2 fj.nd (aD pq (pv 2) (pv 4))))) aW))))
   (aq (aK (pv 1)))))),?_⟩
  refine⟨am,λq hq=>?_⟩
  refine⟨_,rfl,l,rfl,⟨_,aj.seq (aj.upd hq) hl⟩,rM (K:=K) (a:=l) (xs:=ns.map V.int) (λi σ H2=>∃v3 v4,σ=[some (.ref l),some (.ref q),some (.int (pU (ns.take i)).2),v3,v4]/\aj H H2/\H2 q=some (.lst ((pU (ns.take i)).1.map V.int)))
   ⟨_,_,rfl,aj.upd hq,ah⟩ (λi σ H2 _ ⟨_,_,_,s2,_⟩=>aj.seq s2 hl) ?_ ?_⟩
  ·rintro i x σ H2 hx ⟨v3,v4,rfl,s2,hq2⟩
   obtain⟨b,eb,rfl⟩:=iU hx
   have hi:i<ns.length:=(bd.mp eb).1
   have hb:=hs b (cx eb)
   have F:=vX hs i (kz hi)
   have es:pU (ns.take (i+1))=sJ (pU (ns.take i)) b:=by rw[take_snoc eb,yZ]
   have fl:=F.len
   rw[lh]at fl
   rw[es]
   unfold sJ
   generalize hp:pU (ns.take i)=pr at *
   obtain⟨fs,u⟩:=pr
   obtain⟨b1,b2⟩:=hb
   have g1:=qA u b1
   have g2:=G3 u b1
   obtain⟨d1,d2⟩:=IT (u:=u) ⟨b1,b2⟩
   refine⟨_,rfl,_,rfl,_,rfl,u,b,rfl,md b1,_,_,rfl,rfl,⟨g1,by omega⟩,_,rfl,_,_,rfl,rfl,_,rfl,?_⟩
   refine cK (λh1=>?_) (λh1=>?_)
   ·rw[if_pos h1]
    refine⟨_,rfl,.inl ⟨rfl,_,cy.of hq2⟩,_,rfl,q,_,_,rfl,rfl,hq2,?_,?_⟩
    ·rw[bc]
     exact bv (show fs.length<=1000 by dsimp only at fl;omega) (by decide)
    refine⟨_,rfl,_,rfl,_,_,rfl,rfl,.inr ⟨by omega,by omega⟩,?_⟩
    exact⟨_,_,rfl,aj.at s2 hq,by rw[ah,dC];rfl⟩
   ·rw[if_neg h1]
    exact⟨_,_,rfl,s2,hq2⟩
  ·rintro σ H2 ⟨v3,v4,rfl,s2,hq2⟩
   refine⟨_,rfl,?_⟩
   rw[bc,fA (a7 _)]at hq2
   exact k q H2 s2 hq hq2
theorem z6 {jq:a5}{iu:dv}{p:Pm}(T:Txt K mg p w base)(fQ:Dn K mg "product_of" nE ["factors"] jq iu)  :aE P w K mg base bS 1 jq iu ["factors"] (LO K):=by
 refine fQ.fn.kG mD (λvs H Q E h=>?_) (λ_ _ _ _ H vs Q E hr h=>?_)
 ·obtain⟨l,fs,rfl,_⟩:=h
  rfl
 ·obtain⟨l,fs,rfl,hl,hs,k⟩:=h
  intro X
  refine⟨_,(ai (ag 1 mD.nd ak)
   (ai (cZ eI rfl (ql (pv 0)) (al 2 mD.nd) (aq (ag 1 mD.nd (aD pq (pv 1) (pv 2)))))
   (aq (aK (pv 1))))),?_⟩
  refine⟨_,rfl,l,rfl,⟨_,hl⟩,rM (K:=K) (a:=l) (xs:=fs.map V.int) (λi σ H2=>H2=H/\∃v2,σ=[some (.ref l),some (.int (sU (fs.take i))),v2])
   ⟨rfl,_,rfl⟩ (λi σ H2 _ ⟨e,_⟩=>by subst e;exact hl) ?_ ?_⟩
  ·rintro i x σ H2 hx ⟨rfl,v2,rfl⟩
   obtain⟨b,eb,rfl⟩:=iU hx
   obtain⟨b1,b2⟩:=hs b (cx eb)
   refine⟨_,rfl,_,rfl,_,_,rfl,rfl,.inr ⟨by omega,by omega⟩,rfl,some (.int b),?_⟩
   rw[take_snoc eb,tT]
   rfl
  ·rintro σ H2 ⟨rfl,v2,rfl⟩
   refine⟨_,rfl,?_⟩
   rw[bc,fA (a7 _)]
   exact k
theorem GD {jw:a5}{gZ:dv}{p:Pm}(T:Txt K mg p w base)(cQ:Dn K mg "by_unit" pP Tt jw gZ)  :aE P w K mg base bS 1 jw gZ Tt (yg K):=by
 refine cQ.fn.kG Gh (λvs H Q E h=>?_) (λ_ _ _ _ H vs Q E hr h=>?_)
 ·obtain⟨p,f,u,rfl,_⟩:=h
  rfl
 ·obtain⟨p,f,u,rfl,hS,⟨h1,h2⟩,b1,b2,k⟩:=h
  intro X
  refine⟨_,(aq (aK (aD O0 (aJ aO (pv 0) ak (λ_ _=>rfl)) (aD dI (pv 1) (aJ aO (pv 0) ak (λ_ _=>rfl)))))),?_⟩
  exact⟨_,rfl,_,_,_,_,rfl,rfl,hS,rfl,_,rfl,_,rfl,_,_,_,_,rfl,rfl,hS,rfl,_,_,rfl,rfl,⟨by omega,h2⟩,_,_,rfl,rfl,⟨b1,b2⟩,k⟩
end
section
variable{P:bn}{w:df}{K:PySem.W.Frag}{mg:bp->Option a9}{base:eJ}
theorem GA {nX:a5}{lV:dv}{p:Pm}(T:Txt K mg p w base)(kC:Dn K mg "is_sign" su ["sign"] nX lV)  :aE P w K mg base bS 1 nX lV ["sign"] DR:=by
 refine kC.fn.kG yj (λvs H Q E h=>?_) (λ_ _ _ _ H vs Q E hr h=>?_)
 ·obtain⟨c,rfl,_⟩:=h
  rfl
 ·obtain⟨c,rfl,k⟩:=h
  intro X
  refine⟨_,(ai (ag 1 yj.nd (aB (NL) rfl T.z_ord Ut (aa (pv 0) af)))
   (aq (aK (oq (Mr A2 A2 (nL (v:=.int 32) rfl T.Cs ⟨_,rfl⟩) (pv 1) (nL (v:=.int 126) rfl T.EG ⟨_,rfl⟩)) (qo (iL uD (pv 1) (nL (v:=.ref p.jU) rfl T.G4 rfl) (by with_unfolding_all rfl))))))),?_⟩
  refine⟨_,rfl,_,rfl,rfl,?_⟩
  have k':Q (.bl ((decide ((32:Int)<=(c:Int))&&decide ((c:Int)<=126))&& !QK (.int c) [.int 34,.int 37,.int 45])) H:=k
  refine⟨_,rfl,_,_,rfl,rfl,_,rfl,?_⟩
  refine cK (λh1=>?_) (λh1=>?_)
  ·refine⟨_,_,rfl,rfl,_,rfl,?_⟩
   have tD:(32:Int)<=(c:Int):=h1
   rw[decide_eq_true tD,BT]at k'
   refine cK (λh2=>?_) (λh2=>?_)
   ·have h2':(c:Int)<=126:=h2
    rw[decide_eq_true h2',BT]at k'
    exact⟨_,rfl,_,_,rfl,.inr (T.Gm _),rfl,rfl,k'⟩
   ·have h2':¬(c:Int)<=126:=h2
    rw[decide_eq_false h2',t_]at k'
    exact k'
  ·have tD:¬(32:Int)<=(c:Int):=h1
   rw[decide_eq_false tD,t_,t_]at k'
   exact⟨_,rfl,lJ k'⟩
theorem Cc {kj nX:a5}{jh lV:dv}{p:Pm}(T:Txt K mg p w base)(gO:Dn K mg "are_signs" oW ["text"] kj jh)(kC:Dn K mg "is_sign" su ["sign"] nX lV)(K4:aE P w K mg base bS 1 nX lV ["sign"] DR):aE P w K mg base bS 2 kj jh ["text"] yh:=by
 refine gO.fn.kG BQ (λvs H Q E h=>?_) (λ_ _ _ _ H vs Q E hr h=>?_)
 ·obtain⟨x,rfl,_⟩:=h
  rfl
 ·obtain⟨x,rfl,hx,k⟩:=h
  intro X
  refine⟨_,(aq (aK (aB (wM rfl) rfl T.Qj NQ (aa (qp (N:=["sign"]) rfl (λ_=>⟨[],c6.plain (by decide +kernel) rfl (by decide +kernel) (by decide +kernel)⟩) (Gq (pv 0)) (λ_ _ _ _ _ _ _=>(aM (i:=0) (show(["sign"]:List bp).Nodup by decide +kernel) rfl (Or.inl rfl))) (λ_ _ _ _ _ _ _=>(ae K4 hr kC (aa (pv 0) af)))) af)))),?_⟩
  refine⟨_,rfl,x,rfl,λl hl=>?_⟩
  refine⟨λi m ys H2=>m=x.cps.size-i/\i<=x.cps.size/\aj H H2/\H2 l=some (.lst ys)/\ys=((x.cps.toList.take i).map qz).map V.bl,⟨x.cps.size,rfl,d0 _,aj.upd hl,ah,rfl⟩,?_⟩
  rintro i m ys H2 ⟨rfl,hi,s2,hl2,rfl⟩
  by_cases hlt:i<x.cps.size
  ·refine .inr ⟨hlt,?_⟩
   rintro y H3 ⟨rfl,c,ec,rfl⟩
   refine⟨Kp.rep _ _,?_⟩
   refine⟨_,rfl,c,rfl,?_⟩
   refine⟨hl2,?_,x.cps.size-(i+1),by omega,rfl,hlt,aj.at s2 hl,ah,?_⟩
   ·rw[bc,bc,lh]
    exact bv (show min i x.cps.toList.length<=1000 by omega) (by decide)
   ·rw[take_snoc (x:=c) (by rw[fg];exact ec),dC,dC]
    rfl
  ·have ei:i=x.cps.size:=by omega
   subst ei
   refine .inl ⟨a7 _,?_⟩
   rw[fA (by rw[eD];exact a7 _)]at hl2
   refine⟨l,_,rfl,cy.of hl2,?_⟩
   have e:(x.cps.toList.map qz).all id=x.cps.toList.all qz:=by rw[List.all_map];rfl
   rw[e]
   exact k H2 s2
theorem yD {iG kj:a5}{gu jh:dv}{p:Pm}(T:Txt K mg p w base)(eB:Dn K mg "check_signs" mL ["signs"] iG gu)(gO:Dn K mg "are_signs" oW ["text"] kj jh)(Fz:aE P w K mg base bS 2 kj jh ["text"] yh):aE P w K mg base bS 3 iG gu ["signs"] uu:=by
 refine eB.fn.kG yl (λvs H Q E h=>?_) (λ_ _ _ _ H vs Q E hr h=>?_)
 ·obtain⟨x,rfl,_⟩:=h
  rfl
 ·obtain⟨x,rfl,⟨h1,h2,h3,h4⟩,k⟩:=h
  intro X
  refine⟨_,(ai (bZ (aQ fL (aB (aS) rfl T.cI bL (aa (pv 0) af)) ak (bq _)) fk aW)
   (ai (bZ (BU (oj (ae Fz hr gO (aa (pv 0) af)))) fk aW)
   (aq (bZ (aQ A0 (aB (Aj) rfl T.cI bL (aa (sG (KI rfl) rfl T.UW Us (aa (pv 0) af)) af)) (aB (aS) rfl T.cI bL (aa (pv 0) af)) (bq _)) fk aW)))),?_⟩
  have hz:x.length<=bt:=bj h2 (by decide)
  refine⟨_,rfl,_,_,rfl,⟨hz,rfl⟩,rfl,_,rfl,?_⟩
  refine rK (λz=>absurd z (by show ¬((x.cps.size:Nat):Int)=0;omega)) λ_=>?_
  refine⟨_,rfl,x,rfl,bj h2 (by decide),λH2 s2=>?_⟩
  refine⟨_,rfl,?_⟩
  rw[uk.mpr h3]
  refine wF ?_
  refine⟨_,rfl,x,rfl,bv (i5 h2) (by decide),λp hp=>?_⟩
  refine⟨p,_,rfl,ah,_,rfl,_,_,rfl,⟨hz,rfl⟩,rfl,_,rfl,?_⟩
  refine Cm (λz=>absurd (by rw[JW h4];rfl) z) λ_=>?_
  exact k _ (s2.trans (aj.upd hp))
theorem vL {fJ:a5}{eL:dv}{p:Pm}(T:Txt K mg p w base)(cU:Dn K mg "check_lengths" jQ Wg fJ eL)  :aE P w K mg base bS 1 fJ eL Wg (qZ K):=by
 refine cU.fn.kG pM (λvs H Q E h=>?_) (λ_ _ _ _ H vs Q E hr h=>?_)
 ·obtain⟨x,c,rows,rfl,_⟩:=h
  rfl
 ·obtain⟨x,c,rows,rfl,⟨nc,cs,ncs,hc,hp⟩,hx,⟨hq1,hq2⟩,k⟩:=h
  intro X
  refine⟨_,(ai (bZ (aQ A0 (aB (aS) rfl T.cI bL (aa (pv 1) af)) (aB (aS) rfl T.cI bL (aa (pv 0) af)) (bq _)) fk aW)
   (aq (cZ eI rfl (AY (pv 1)) (al 2 pM.nd) (aq (bZ (aQ A0 (aB (aS) rfl T.cI bL (aa (pv 2) af)) (aB (aS) rfl T.cI bL (aa (pv 0) af)) (bq _)) fk aW))))),?_⟩
  have hz:x.length<=bt:=bj hx (by decide)
  have hl:(cs.map Cp.val).length=x.cps.size:=by rw[bc,Paired.len hp,hq1]
  refine⟨_,rfl,_,_,rfl,NF hc nc,_,rfl,_,_,rfl,⟨hz,rfl⟩,rfl,_,rfl,?_⟩
  refine Cm (λz=>absurd (by rw[hl];rfl) z) λ_=>?_
  refine⟨_,rfl,c,_,rfl,hc,G7 (K:=K) (c:=c) (xs:=cs.map Cp.val) (λi σ H2=>H2=H/\∃v,σ=[some (.str x),some c.val,v]) ⟨rfl,_,rfl⟩ (λi σ H2 _ ⟨e,_⟩=>by subst e;exact hc) ?_ ?_⟩
  ·rintro i y σ H2 hy ⟨rfl,v,rfl⟩
   obtain⟨d,ed,rfl⟩:∃d,cs[i]? =some d/\y=d.val:=by
    rw[eC]at hy
    cases e:cs[i]? with
    |none=>rw[e]at hy;cases hy
    |some d=>rw[e]at hy;exact⟨d,rfl,(dA hy).symm⟩
   obtain⟨row,er,hr2⟩:=Paired.at hp ed
   refine⟨_,rfl,_,_,rfl,hr2.len (ncs d (cx ed)),_,rfl,_,_,rfl,⟨hz,rfl⟩,rfl,_,rfl,?_⟩
   refine Cm (λz=>absurd (by rw[hq2 row (cx er)];rfl) z) λ_=>?_
   exact⟨rfl,_,rfl⟩
  ·rintro σ H2 ⟨rfl,v,rfl⟩
   exact k
end
section
variable{P:bn}{w:df}{K:PySem.W.Frag}{mg:bp->Option a9}{base:eJ}
theorem uF {eN jw:a5}{dJ gZ:dv}{p:Pm}(T:Txt K mg p w base)(cF:Dn K mg "costs_by_signs" i6 Wf eN dJ)(cQ:Dn K mg "by_unit" pP Tt jw gZ)(sM:aE P w K mg base bS 1 jw gZ Tt (yg K)):aE P w K mg base bS 2 eN dJ Wf (Ib K):=by
 refine cF.fn.kG dH (λvs H Q E h=>?_) (λ_ _ _ _ H vs Q E hr h=>?_)
 ·obtain⟨x,Pp,u,rows,rfl,_⟩:=h
  rfl
 ·obtain⟨x,Pp,u,rows,rfl,hM,hx,nd,⟨hq1,hq2⟩,ho,k⟩:=h
  intro X
  refine⟨_,(ai (ag 3 dH.nd Ed)
   (ai (cZ eI rfl (BY rfl rfl T.HJ (aa (pv 0) (aa (pv 1) af))) (qm (n:=2) rfl (bU (al 4 dH.nd) (bU (al 5 dH.nd) mR))) (aq (cZ eI rfl (BY rfl rfl T.HJ (aa (pv 0) (aa (pv 5) af))) (qm (n:=2) rfl (bU (al 6 dH.nd) (bU (al 7 dH.nd) mR))) (aq (sE (iM hr) (pv 3) (bC (aa (pv 4) (aa (pv 6) af))) (ae sM hr cQ (aa (pv 7) (aa (pv 2) af))) rfl)))))
   (aq (aK (pv 3))))),?_⟩
  intro d hd
  obtain⟨qs,hqs,hp⟩:=hM
  have hlen:qs.length=x.cps.size:=by rw[Paired.len hp,hq1]
  have hmin:min (dR x).length (qs.map V.ref).length=x.cps.size:=by rw[signs_length,bc,hlen,Nat.min_self]
  refine⟨_,rfl,_,rfl,.txt x,.tup Pp,_,_,rfl,rfl,Dat.tup (Dat.of (aj.upd hd)) hqs,Ct (K:=K) (c:=.txt x) (d:=.tup Pp) (xs:=dR x) (ys:=qs.map V.ref) (λi σ H2=>∃kvs v4 v5 v6 v7,σ=[some (.str x),some (.ref Pp),some (.int u),some (.ref d),v4,v5,v6,v7]/\aj H H2/\H2 d=some (.dT kvs)/\kvs.length<=i*x.cps.size/\mj kvs x rows u i 0)
   ⟨[],_,_,_,_,rfl,aj.upd hd,ah,d0 _,mj.nil x rows u⟩ (λi σ H2 _ ⟨kvs,v4,v5,v6,v7,_,s2,_⟩=>⟨rfl,Dat.tup (Dat.of s2) hqs⟩) ?_ ?_⟩
  ·rintro i y z p1 σ H2 hy hz hp1 ⟨kvs,v4,v5,v6,v7,rfl,s2,hd2,hk,hc⟩
   obtain⟨a,ha,rfl⟩:=signs_get hy
   obtain⟨q,hq,rfl⟩:=iU hz
   obtain⟨row,er,TV⟩:=Paired.at hp hq
   have hi:i<x.cps.size:=by rw[←hlen];exact(bd.mp hq).1
   obtain⟨ps,hps,hpp⟩:=TV
   have hpl:ps.length=x.cps.size:=by rw[Paired.len hpp,hq2 row (cx er)]
   have WL:min (dR x).length (ps.map V.ref).length=x.cps.size:=by rw[signs_length,bc,hpl,Nat.min_self]
   refine⟨p1,_,rfl,cE.of ah,rfl,_,_,rfl,_,_,rfl,rfl,?_⟩
   have Yc:d≠p1:=aN hd2 hp1
   refine⟨_,rfl,_,rfl,.txt x,.tup q,_,_,rfl,rfl,Dat.tup (Dat.of (s2.trans (aj.upd hp1))) hps,Ct (K:=K) (c:=.txt x) (d:=.tup q) (xs:=dR x) (ys:=ps.map V.ref)
    (λj σ H3=>∃kvs v6 v7,σ=[some (.str x),some (.ref Pp),some (.int u),some (.ref d),some (.str ⟨#[a]⟩),some (.ref q),v6,v7]/\aj H H3/\H3 d=some (.dT kvs)/\kvs.length<=i*x.cps.size+j/\mj kvs x rows u i j)
    ⟨kvs,v6,v7,rfl,s2.trans (aj.upd hp1),by rw[au Yc];exact hd2,hk,hc⟩ (λj σ H3 _ ⟨kvs,v6,v7,_,s3,_⟩=>⟨rfl,Dat.tup (Dat.of s3) hps⟩) ?_ ?_⟩
   ·rintro j y z p2 σ H3 hy hz hp2 ⟨kvs,v6,v7,rfl,s3,Kq,hk,hc⟩
    obtain⟨b,hb,rfl⟩:=signs_get hy
    obtain⟨pr,hpr,rfl⟩:=iU hz
    obtain⟨f,ef,hf⟩:=Paired.at hpp hpr
    have hj:j<x.cps.size:=by rw[←hpl];exact(bd.mp hpr).1
    obtain⟨o1,o2,o3⟩:=ho row (cx er) f (cx ef)
    refine⟨p2,_,rfl,cE.of ah,rfl,_,_,rfl,_,_,rfl,rfl,?_⟩
    have s4:=s3.trans (aj.upd (o:=.tup [.str ⟨#[b]⟩,.ref pr]) hp2)
    have Nh:upd H3 p2 (.tup [.str ⟨#[b]⟩,.ref pr]) d=some (.dT kvs):=by rw[au (aN Kq hp2)];exact Kq
    refine⟨_,rfl,_,rfl,pr,f,u,rfl,hf.same s4,o1,o2.bg,o3.bg,?_⟩
    refine⟨_,rfl,_,rfl,_,rfl,aw,λt ht=>?_⟩
    have Ko:upd (upd H3 p2 (.tup [.str ⟨#[b]⟩,.ref pr])) t (.tup [.str ⟨#[a]⟩,.str ⟨#[b]⟩]) d=some (.dT kvs):=by rw[au (aN Nh ht)];exact Nh
    have hsz:kvs.length<bt:=by
     have:i*x.cps.size<=100*100:=va (by omega) hx
     have:kvs.length<20000:=by omega
     exact dy this (by decide)
    refine⟨d,_,rfl,xH.t (k:=keyOf a b) Ko ah hsz,?_⟩
    refine⟨putK kvs (keyOf a b) (.int (f.1*(u / f.2))),_,_,rfl,aj.at (s4.trans (aj.upd ht)) hd,ah,?_,hc.put nd ha hb ⟨row,er,ef⟩⟩
    have:=fM kvs (keyOf a b) (.int (f.1*(u / f.2)))
    omega
   ·rintro σ H3 ⟨kvs,v6,v7,rfl,s3,Kq,hk,hc⟩
    rw[WL]at hk hc
    refine⟨kvs,_,_,_,_,rfl,s3,Kq,?_,hc.row (a7 _)⟩
    rw[Nat.succ_mul]
    exact hk
  ·rintro σ H2 ⟨kvs,v4,v5,v6,v7,rfl,s2,hd2,hk,hc⟩
   rw[hmin]at hc
   exact⟨_,rfl,k d H2 kvs s2 hd hd2 (hc.all (a7 _))⟩
theorem B5 {cR:a5}{cA:dv}{p:Pm}(T:Txt K mg p w base)(bF:Dn K mg "pair_cost" j3 Pn cR cA)  :aE P w K mg base bS 1 cR cA Pn (qc K p.ao):=by
 refine bF.fn.kG BN (λvs H Q E h=>?_) (λ_ _ _ _ H vs Q E hr h=>?_)
 ·obtain⟨x,sg,rows,fo,fm,i,j,a,b,f,rfl,_⟩:=h
  rfl
 ·obtain⟨x,sg,rows,fo,fm,i,j,a,b,f,rfl,⟨_,_,_,_,_,_,_,dx,Pp,o,m,d,kvs,h1,h2,h3,h4,h5,h6⟩,ha,hb,hf,k⟩:=h
  intro X
  refine⟨_,(aq (aK (gU (iM hr) (dP (pv 0) rfl) (bC (aa (pv 1) (aa (pv 2) af))) (λ_ _=>rfl)))),?_⟩
  refine⟨_,rfl,x,_,_,_,_,rfl,h1,T.bh,T.rD,G8,?_⟩
  refine⟨_,rfl,_,rfl,aw,λt ht=>?_⟩
  have Ko:upd H t (.tup [.str ⟨#[a]⟩,.str ⟨#[b]⟩]) d.1=some (.dT kvs):=by rw[au (aN h5 ht)];exact h5
  have z:=pI.t (k:=keyOf a b) Ko ah
  rw[h6.1 i j a b f ha hb hf]at z
  exact⟨d.1,_,rfl,z,k _ (aj.upd ht)⟩
theorem w9 {gC:a5}{fE:dv}{p:Pm}(T:Txt K mg p w base)(dB:Dn K mg "opening_cost" kW l9 gC fE)  :aE P w K mg base bS 2 gC fE l9 (AN K p.ao):=by
 refine dB.fn.kG wR (λvs H Q E h=>?_) (λ_ _ _ _ H vs Q E hr h=>?_)
 ·obtain⟨x,sg,rows,fo,fm,rfl,_⟩:=h
  rfl
 ·obtain⟨x,sg,rows,fo,fm,rfl,⟨_,_,_,_,_,_,_,dx,Pp,o,m,d,kvs,h1,h2,h3,h4,h5,h6⟩,k⟩:=h
  intro X
  refine⟨_,(aq (aK (dP (pv 0) rfl))),?_⟩
  exact⟨_,rfl,x,_,_,_,_,rfl,h1,T.bh,T.k6,ud,k⟩
theorem B6 {j8:a5}{ja:dv}{p:Pm}(T:Txt K mg p w base)(dD:Dn K mg "more_cost" oO l9 j8 ja)  :aE P w K mg base bS 2 j8 ja l9 (LQ K p.ao):=by
 refine dD.fn.kG BO (λvs H Q E h=>?_) (λ_ _ _ _ H vs Q E hr h=>?_)
 ·obtain⟨x,sg,rows,fo,fm,rfl,_⟩:=h
  rfl
 ·obtain⟨x,sg,rows,fo,fm,rfl,⟨_,_,_,_,_,_,_,dx,Pp,o,m,d,kvs,h1,h2,h3,h4,h5,h6⟩,k⟩:=h
  intro X
  refine⟨_,(aq (aK (dP (pv 0) rfl))),?_⟩
  exact⟨_,rfl,x,_,_,_,_,rfl,h1,T.bh,T.m8,xw,k⟩
theorem Ej {g6 aZ:a5}{fN aV:dv}{p:Pm}(T:Txt K mg p w base)(c5:Dn K mg "in_units" oi Tr g6 fN)(aI:Dn K mg "greatest_divisor" cY Po aZ aV)(ff:aE P w K mg base bS 1 aZ aV Po HZ):aE P w K mg base bS 2 g6 fN Tr (vE K p.ao):=by
 refine c5.fn.kG iP (λvs H Q E h=>?_) (λ_ _ _ _ H vs Q E hr h=>?_)
 ·obtain⟨x,n,sg,rows,fo,fm,rfl,_⟩:=h
  rfl
 ·obtain⟨x,n,sg,rows,fo,fm,rfl,⟨_,_,_,_,_,u1,u2,dx,Pp,o,m,d,kvs,h1,h2,h3,h4,h5,h6,fs,h7,h8,h9⟩,k⟩:=h
  intro X
  refine⟨_,(ai (ag 2 iP.nd (pv 1))
   (ai (ag 3 iP.nd ak)
   (ai (cZ eI rfl (ql (dP (pv 0) rfl)) (al 4 iP.nd) (ai (ag 5 iP.nd (ae ff hr aI (aa (pv 2) (aa (pv 4) af))))
   (ai (ag 2 iP.nd (aD dI (pv 2) (pv 5)))
   (aq (ag 3 iP.nd (aD pq (pv 3) (aD dI (pv 4) (pv 5))))))))
   (aq (aK (bC (aa (pv 2) (aa (pv 3) af)))))))),?_⟩
  refine⟨_,rfl,_,rfl,x,_,_,_,_,rfl,h1,T.bh,T.lO,qC,d.2,rfl,⟨_,cy.of h9⟩,rM (K:=K) (a:=d.2) (xs:=fs.map V.int) (λi σ H2=>H2=H/\∃(ov un:Int) (v4 v5:Option V),σ=[some (.ref x),some (.int n),some (.int ov),some (.int un),v4,v5]/\0<un/\f_ ov un=1/\ov*sU (fs.take i)=n*un)
   ⟨rfl,n,1,_,_,rfl,by decide,Int.gcd_one_right n,by show n*sU []=n*1;rfl⟩ (λi σ H2 _ ⟨e,_⟩=>by subst e;exact cy.of h9) ?_ ?_⟩
  ·rintro i y σ H2 hy ⟨rfl,ov,un,v4,v5,rfl,hun,hg,he⟩
   obtain⟨b,eb,rfl⟩:=iU hy
   obtain⟨b1,b2⟩:=h7 b (cx eb)
   have g1:=qA ov b1
   have g2:=G3 ov b1
   have d1:0<b / (f_ ov b:Int):=r_ b1 (md g1) (px ov b)
   have d2:b / (f_ ov b:Int)<=b:=Int.ediv_le_self _ (md b1)
   refine⟨_,rfl,_,rfl,ov,b,rfl,md b1,_,rfl,_,rfl,_,_,rfl,rfl,⟨g1,by omega⟩,_,rfl,_,rfl,_,rfl,_,_,rfl,rfl,⟨g1,by omega⟩,_,_,rfl,rfl,.inr ⟨by omega,by omega⟩,?_⟩
   refine⟨rfl,_,_,_,_,rfl,Int.mul_pos hun d1,NG b1 hg,?_⟩
   rw[take_snoc eb,tT]
   exact Hi he
  ·rintro σ H2 ⟨rfl,ov,un,v4,v5,rfl,hun,hg,he⟩
   rw[bc,fA (a7 _),h8]at he
   have el:=VM u1 hun hg he
   refine⟨_,rfl,_,rfl,aw,λq hq=>k q _ (aj.upd hq) hq ?_⟩
   rw[ah,el]
end
section
variable{P:bn}{w:df}{K:PySem.W.Frag}{mg:bp->Option a9}{base:eJ}
theorem tV {bx iG fJ fH cL jx gy jq eN jw:a5}{eX gu eL eK cB iA fz iu dJ gZ:dv}{p:Pm}(T:Txt K mg p w base)(dM:Dm K "__init__" "Prices.__init__" bW UI bx eX)(eB:Dn K mg "check_signs" mL ["signs"] iG gu)(Ay:aE P w K mg base bS 3 iG gu ["signs"] uu)(cU:Dn K mg "check_lengths" jQ Wg fJ eL)(xG:aE P w K mg base bS 1 fJ eL Wg (qZ K))(cT:Dn K mg "lowest_prices" jP ["row"] fH eK)(xF:aE P w K mg base bS 4 fH eK ["row"] (wk K))(bf:Dn K mg "lowest_price" iR l8 cL cB)(lF:aE P w K mg base bS 3 cL cB l8 (tO K))(fU:Dn K mg "all_unders" nJ Wh jx iA)(Dh:aE P w K mg base bS 1 jx iA Wh (DL K))(dh:Dn K mg "unit_factors" kQ ["unders"] gy fz)(zH:aE P w K mg base bS 2 gy fz ["unders"] (AO K))(fQ:Dn K mg "product_of" nE ["factors"] jq iu)(Dd:aE P w K mg base bS 1 jq iu ["factors"] (LO K))(cF:Dn K mg "costs_by_signs" i6 Wf eN dJ)(wj:aE P w K mg base bS 2 eN dJ Wf (Ib K))(cQ:Dn K mg "by_unit" pP Tt jw gZ)(sM:aE P w K mg base bS 1 jw gZ Tt (yg K)):aE P w K mg base bS 5 bx eX UI (LW K p.ao):=by
 refine dM.fn.kG tP (λvs H Q E h=>?_) (λ_ _ _ _ H vs Q E hr h=>?_)
 ·obtain⟨x,dx,o,m,sg,c,rows,fo,fm,rfl,_⟩:=h
  rfl
 ·obtain⟨x,dx,o,m,sg,c,rows,fo,fm,rfl,hx,hS,h12,hM,Yh,hok,hfo,Mv,hfm,Mw,k⟩:=h
  have S:=hS
  obtain⟨q1,q2,q3,q4⟩:=S
  intro X
  refine⟨_,(ai (bK (ae Ay hr eB (aa (pv 1) af)))
   (ai (bK (ae xG hr cU (aa (pv 1) (aa (pv 2) af))))
   (ai (m7 (pv 0) (pv 1) rfl)
   (ai (m7 (pv 0) (sG (tF) rfl T.rY pX (aa (qp (N:=["row"]) rfl (λ_=>⟨[],c6.plain (by decide +kernel) rfl (by decide +kernel) (by decide +kernel)⟩) (AY (pv 2)) (λ_ _ _ _ _ _ _=>(aM (i:=0) (show(["row"]:List bp).Nodup by decide +kernel) rfl (Or.inl rfl))) (λ_ _ _ _ _ _ _=>(ae xF hr cT (aa (pv 0) af)))) af)) rfl)
   (ai (m7 (pv 0) (ae lF hr bf (aa (pv 3) af)) rfl)
   (ai (m7 (pv 0) (ae lF hr bf (aa (pv 4) af)) rfl)
   (ai (m7 (pv 0) (ae zH hr dh (aa (ae Dh hr fU (aa (dP (pv 0) rfl) (aa (dP (pv 0) rfl) (aa (dP (pv 0) rfl) af)))) af)) rfl)
   (ai (m7 (pv 0) (ae Dd hr fQ (aa (dP (pv 0) rfl) af)) rfl)
   (ai (m7 (pv 0) (ae wj hr cF (aa (dP (pv 0) rfl) (aa (dP (pv 0) rfl) (aa (dP (pv 0) rfl) af)))) rfl)
   (ai (m7 (pv 0) (ae sM hr cQ (aa (dP (pv 0) rfl) (aa (dP (pv 0) rfl) af))) rfl)
   (aq (m7 (pv 0) (ae sM hr cQ (aa (dP (pv 0) rfl) (aa (dP (pv 0) rfl) af))) rfl)))))))))))),?_⟩
  refine⟨_,rfl,sg,rfl,hS,λH1 s1=>?_⟩
  refine⟨_,rfl,_,rfl,sg,c,rows,rfl,hM.dat (Dat.of s1),by omega,Yh,?_⟩
  have Lc:H1 x=some (.ins p.ao dx []):=s1 _ _ hx
  refine⟨_,rfl,_,rfl,x,_,dx,_,rfl,Lc,T.bh,T.gg,by decide,?_⟩
  generalize Yw:upd H1 x (.ins p.ao dx (aG "signs" (.str sg) []))=H2
  have hx2:H2 x=some (.ins p.ao dx (aG "signs" (.str sg) [])):=by rw[←Yw];exact ah
  have f2:Off x H H2:=by rw[←Yw];exact(Off.of s1).trans Off.set
  obtain⟨nc,cs,ncs,hcs,hp⟩:=hM.dat (f2.dat hx)
  refine⟨_,rfl,c,_,rfl,hcs,λl Ua=>?_⟩
  refine⟨λi n ys H3=>n=rows.length-i/\i<=rows.length/\aj H2 H3/\H3 l=some (.lst ys)/\∃qs:List a5,ys=qs.map V.ref/\qs.length=i/\Paired (λq r=>lE K H3 (.tup q) r) qs ((Af rows).take i),⟨rows.length,rfl,d0 _,aj.upd Ua,ah,[],rfl,rfl,.nil⟩,?_⟩
  rintro i n ys H3 ⟨rfl,hi,s3,hl3,qs,rfl,hq,hP⟩
  have zc:c.at K H3 (cs.map Cp.val):=aj.cp s3 hcs
  have hcl:=Paired.len hp
  by_cases hlt:i<rows.length
  ·have hci:i<cs.length:=by omega
   have e1:(cs.map Cp.val)[i]? =some cs[i].val:=by rw[eC,a6 hci];rfl
   refine .inr ⟨⟨_,_,zc,e1⟩,?_⟩
   rintro y H4 ⟨rfl,hy⟩
   have ey:=hy _ zc
   rw[e1]at ey
   cases ey
   obtain⟨r,er,hr2⟩:=Paired.at hp (a6 hci)
   have hrm:=cx er
   refine⟨Kp.rep _ _,?_⟩
   refine⟨_,rfl,cs[i],r,rfl,hr2.same s3,λf hf=>(hok r hrm f hf).1,by rw[Yh.2 r hrm];omega,λq H5 s5 hqn hR=>?_⟩
   have T8:H5 l=some (.lst (qs.map V.ref)):=s5 _ _ hl3
   refine⟨T8,?_,rows.length-(i+1),by omega,rfl,hlt,aj.at (s3.trans s5) Ua,ah,qs++[q],by rw[dC];rfl,by rw[cn,hq];rfl,?_⟩
   ·rw[bc,hq]
    have:i<100:=by rw[Yh.1]at hlt;omega
    exact dy this (by decide)
   ·rw[show(Af rows).take (i+1)=(Af rows).take i++[r.map k9] from sY er]
    refine GP.Paired.snoc (Paired.g8 hP λa b z=>?_) ?_
    ·exact(z.same s5).off T8
    ·exact hR.off T8
  ·have ei:i=rows.length:=by omega
   subst ei
   refine .inl ⟨⟨_,zc,by rw[bc];omega⟩,?_⟩
   refine⟨l,_,rfl,.inl ⟨cy.of hl3,λPp hPn=>?_⟩⟩
   generalize hH4:upd H3 Pp (.tup (qs.map V.ref))=H4
   have s4:aj H2 H4:=by rw[←hH4];exact s3.trans (aj.upd hPn)
   have m4:CL K H4 Pp (Af rows):=by
    rw[←hH4]
    refine⟨qs,cE.of ah,?_⟩
    rw[fA (by unfold Af;rw[bc];exact a7 _)]at hP
    exact Paired.g8 hP λa b z=>z.same (aj.upd hPn)
   have WB:=s4 _ _ hx2
   refine⟨_,rfl,x,_,dx,_,rfl,WB,T.bh,T.oA,pl1,?_⟩
   generalize hH5:upd H4 x (.ins p.ao dx (aG "pairs" (.ref Pp) (aG "signs" (.str sg) [])))=H5
   have hx5:H5 x=some (.ins p.ao dx (aG "pairs" (.ref Pp) (aG "signs" (.str sg) []))):=by rw[←hH5];exact ah
   have f5:Off x H H5:=by rw[←hH5];exact(f2.trans (Off.of s4)).trans Off.set
   have d5:Dat H4 H5:=by rw[←hH5];exact Dat.set WB
   refine⟨_,rfl,o,fo,rfl,hfo.dat (f5.dat hx),Mv.1,λo' ho'=>?_⟩
   generalize hH6:upd H5 o' (.tup [.int (k9 fo).1,.int (k9 fo).2])=H6
   have s6:aj H5 H6:=by rw[←hH6];exact aj.upd ho'
   have ho6:jD K H6 o' (k9 fo):=by rw[←hH6];exact cE.of ah
   have QO:=s6 _ _ hx5
   refine⟨_,rfl,x,_,dx,_,rfl,QO,T.bh,T.lN,pl2,?_⟩
   generalize hH7:upd H6 x (.ins p.ao dx (aG "opening" (.ref o') (aG "pairs" (.ref Pp) (aG "signs" (.str sg) []))))=H7
   have hx7:H7 x=some (.ins p.ao dx (aG "opening" (.ref o') (aG "pairs" (.ref Pp) (aG "signs" (.str sg) [])))):=by rw[←hH7];exact ah
   have f7:Off x H H7:=by rw[←hH7];exact(f5.trans (Off.of s6)).trans Off.set
   have d7:Dat H6 H7:=by rw[←hH7];exact Dat.set QO
   refine⟨_,rfl,m,fm,rfl,hfm.dat (f7.dat hx),Mw.1,λm' hm'=>?_⟩
   generalize hH8:upd H7 m' (.tup [.int (k9 fm).1,.int (k9 fm).2])=H8
   have s8:aj H7 H8:=by rw[←hH8];exact aj.upd hm'
   have hm8:jD K H8 m' (k9 fm):=by rw[←hH8];exact cE.of ah
   have hx8:=s8 _ _ hx7
   refine⟨_,rfl,x,_,dx,_,rfl,hx8,T.bh,T.pB,pl3,?_⟩
   generalize hH9:upd H8 x (.ins p.ao dx (aG "more" (.ref m') (aG "opening" (.ref o') (aG "pairs" (.ref Pp) (aG "signs" (.str sg) [])))))=H9
   have WA:H9 x=some (.ins p.ao dx (aG "more" (.ref m') (aG "opening" (.ref o') (aG "pairs" (.ref Pp) (aG "signs" (.str sg) []))))):=by rw[←hH9];exact ah
   have f9:Off x H H9:=by rw[←hH9];exact(f7.trans (Off.of s8)).trans Off.set
   have d9:Dat H8 H9:=by rw[←hH9];exact Dat.set hx8
   have e69:Dat H6 H9:=d7.trans ((Dat.of s8).trans d9)
   have e49:Dat H4 H9:=d5.trans ((Dat.of s6).trans e69)
   have M9:CL K H9 Pp (Af rows):=m4.dat e49
   have O9:jD K H9 o' (k9 fo):=ho6.dat e69
   have m9:jD K H9 m' (k9 fm):=hm8.dat d9
   have kG:∀r∈Af rows,∀f∈r,Fp f:=Ck λr hr f hf=>rG (hok r hr f hf).1
   have SV:=Pc Yh
   refine⟨_,rfl,x,_,_,_,_,rfl,WA,T.bh,T.oA,MK,_,rfl,x,_,_,_,_,rfl,WA,T.bh,T.lN,GQ,_,rfl,x,_,_,_,_,rfl,WA,T.bh,T.pB,O7,?_⟩
   refine⟨Pp,o',m',Af rows,k9 fo,k9 fm,rfl,M9.mat,O9,m9,by rw[SV.1];exact h12,λr hr=>by rw[SV.2 r hr];exact h12,λl1 Ha sa hl1 hla=>?_⟩
   have okU:∀n∈mT (k9 fo) (k9 fm) (Af rows),pH n:=λn hn=>by
    have z:∀{f:bT},Fp f->pH f.2:=λq=>⟨by have:=q.1;omega,q.2⟩
    rcases c_.mp hn with e|hn
    ·rw[e];exact z (rG Mv.1)
    rcases c_.mp hn with e|hn
    ·rw[e];exact z (rG Mw.1)
    obtain⟨f,hf,rfl⟩:=gL.mp hn
    obtain⟨r,hr,hfr⟩:=List.mem_flatten.mp hf
    exact z (kG r hr f hfr)
   have aaW:(mT (k9 fo) (k9 fm) (Af rows)).length<=1000:=by
    unfold mT
    rw[eM,eM,bc,yX SV.2,SV.1]
    have:sg.cps.size*sg.cps.size<=12*12:=va h12 h12
    omega
   refine⟨l1,_,rfl,cy.of hla,aaW,okU,λfl Hb sb hfl hlb=>?_⟩
   have FI:=PY okU
   have eU:sU (pU (mT (k9 fo) (k9 fm) (Af rows))).1=aX (k9 fo).2 (k9 fm).2 (Af rows):=by rw[FI.prod,FI.unit,Ds]
   have hsm:=FI.small
   generalize (pU (mT (k9 fo) (k9 fm) (Af rows))).1=Yx at hlb eU hsm
   clear FI
   have hxb:=sb _ _ (sa _ _ WA)
   refine⟨_,rfl,x,_,dx,_,rfl,hxb,T.bh,T.lO,pl4,?_⟩
   generalize Yv:upd Hb x (.ins p.ao dx (aG "factors" (.ref fl) (aG "more" (.ref m') (aG "opening" (.ref o') (aG "pairs" (.ref Pp) (aG "signs" (.str sg) []))))))=Hc
   have hxc:Hc x=some (.ins p.ao dx (aG "factors" (.ref fl) (aG "more" (.ref m') (aG "opening" (.ref o') (aG "pairs" (.ref Pp) (aG "signs" (.str sg) [])))))):=by rw[←Yv];exact ah
   have fc:Off x H Hc:=by rw[←Yv];exact((f9.trans (Off.of sa)).trans (Off.of sb)).trans Off.set
   have dc:Dat H9 Hc:=by rw[←Yv];exact((Dat.of sa).trans (Dat.of sb)).trans (Dat.set hxb)
   have WT:Hc fl=some (.lst (Yx.map V.int)):=by rw[←Yv];exact Dat.set hxb fl _ (λ_ _ _ z=>by cases z) hlb
   refine⟨_,rfl,x,_,_,_,_,rfl,hxc,T.bh,T.lO,GS,fl,Yx,rfl,cy.of WT,hsm,?_⟩
   have up:=Lp (rG Mv.1) (rG Mw.1) kG
   have ub:=Lq h12 SV (rG Mv.1) (rG Mw.1) kG
   have UD:∀{f:bT},Xr f->Xs (aX (k9 fo).2 (k9 fm).2 (Af rows)) (k9 f):=λz=>⟨rG z.1,Pd z.2,Bu.div ub _⟩
   rw[eU]
   generalize hu:aX (k9 fo).2 (k9 fm).2 (Af rows)=u at *
   refine⟨_,rfl,x,_,dx,_,rfl,hxc,T.bh,T.mS,pl5,?_⟩
   generalize Ug:upd Hc x (.ins p.ao dx (aG "unit" (.int u) (aG "factors" (.ref fl) (aG "more" (.ref m') (aG "opening" (.ref o') (aG "pairs" (.ref Pp) (aG "signs" (.str sg) [])))))))=UA
   have PD:UA x=some (.ins p.ao dx (aG "unit" (.int u) (aG "factors" (.ref fl) (aG "more" (.ref m') (aG "opening" (.ref o') (aG "pairs" (.ref Pp) (aG "signs" (.str sg) []))))))):=by rw[←Ug];exact ah
   have f10:Off x H UA:=by rw[←Ug];exact fc.trans Off.set
   have Xg:Dat Hc UA:=by rw[←Ug];exact Dat.set hxc
   have UP:Dat H9 UA:=dc.trans Xg
   have WU:UA fl=some (.lst (Yx.map V.int)):=Xg fl _ (λ_ _ _ z=>by cases z) WT
   refine⟨_,rfl,x,_,_,_,_,rfl,PD,T.bh,T.gg,MJ,_,rfl,x,_,_,_,_,rfl,PD,T.bh,T.oA,JS,_,rfl,x,_,_,_,_,rfl,PD,T.bh,T.mS,O6,?_⟩
   refine⟨sg,Pp,u,Af rows,rfl,M9.dat UP,q2,q4,SV,Ck λr hr f hf=>UD (hok r hr f hf),λd H11 kvs s11 hdn abF hc=>?_⟩
   have TQ:=s11 _ _ PD
   refine⟨_,rfl,x,_,dx,_,rfl,TQ,T.bh,T.rD,pl6,?_⟩
   generalize PM:upd H11 x (.ins p.ao dx (aG "costs" (.ref d) (aG "unit" (.int u) (aG "factors" (.ref fl) (aG "more" (.ref m') (aG "opening" (.ref o') (aG "pairs" (.ref Pp) (aG "signs" (.str sg) []))))))))=Om
   have PC:Om x=some (.ins p.ao dx (jK sg Pp o' m' u (d,fl))):=by rw[←PM];exact ah
   have d12:Dat UA Om:=by rw[←PM];exact(Dat.of s11).trans (Dat.set TQ)
   have Xc:Off x H Om:=by rw[←PM];exact(f10.trans (Off.of s11)).trans Off.set
   have abE:Om d=some (.dT kvs):=by rw[←PM];exact Dat.set TQ d _ (λ_ _ _ z=>by cases z) abF
   obtain⟨w1,w2,w3⟩:=UD Mv
   obtain⟨y1,y2,y3⟩:=UD Mw
   refine⟨_,rfl,x,_,_,_,_,rfl,PC,T.bh,T.lN,Ah,_,rfl,x,_,_,_,_,rfl,PC,T.bh,T.mS,yW,o',k9 fo,u,rfl,(O9.dat UP).dat d12,w1,w2.bg,w3.bg,?_⟩
   refine⟨_,rfl,x,_,dx,_,rfl,PC,T.bh,T.k6,pl7,?_⟩
   generalize Ue:upd Om x (.ins p.ao dx (aG "opening_units" (.int ((k9 fo).1*(u / (k9 fo).2))) (jK sg Pp o' m' u (d,fl))))=XH
   have M7:XH x=some (.ins p.ao dx (aG "opening_units" (.int ((k9 fo).1*(u / (k9 fo).2))) (jK sg Pp o' m' u (d,fl)))):=by rw[←Ue];exact ah
   have d13:Dat Om XH:=by rw[←Ue];exact Dat.set PC
   have f13:Off x H XH:=by rw[←Ue];exact Xc.trans Off.set
   refine⟨_,rfl,x,_,_,_,_,rfl,M7,T.bh,T.pB,(tE (by decide +kernel)).trans G9,_,rfl,x,_,_,_,_,rfl,M7,T.bh,T.mS,(tE (by decide +kernel)).trans yW,m',k9 fm,u,rfl,((m9.dat UP).dat d12).dat d13,y1,y2.bg,y3.bg,?_⟩
   refine⟨_,rfl,x,_,dx,_,rfl,M7,T.bh,T.m8,pl8,?_⟩
   have YA:Dat UA (upd XH x (.ins p.ao dx (xx sg Pp o' m' u (d,fl) ((k9 fo).1*(u / (k9 fo).2)) ((k9 fm).1*(u / (k9 fm).2))))):=d12.trans (d13.trans (Dat.set M7))
   have f14:Off x H (upd XH x (.ins p.ao dx (xx sg Pp o' m' u (d,fl) ((k9 fo).1*(u / (k9 fo).2)) ((k9 fm).1*(u / (k9 fm).2))))):=f13.trans Off.set
   refine k _ ⟨hS,SV,?_,?_,?_,?_,?_,dx,Pp,o',m',(d,fl),kvs,?_,(M9.dat UP).dat YA,(O9.dat UP).dat YA,(m9.dat UP).dat YA,?_,?_,Yx,hsm,?_,?_⟩ f14 (λc0 hc0 C' dx' fs' hx' hl'=>?_)
   ·rw[hu];exact Ck λr hr f hf=>UD (hok r hr f hf)
   ·rw[hu];exact UD Mv
   ·rw[hu];exact UD Mw
   ·rw[hu];exact up
   ·rw[hu];exact ub
   ·rw[hu];exact ah
   ·exact(d13.trans (Dat.set M7)) d _ (λ_ _ _ z=>by cases z) abE
   ·rw[hu];exact hc
   ·rw[hu];exact eU
   ·exact YA fl _ (λ_ _ _ z=>by cases z) WU
   ·rw[ah]at hx'
    cases hx'
    have e:fl=c0:=V.ref.inj (dA ((qC (x:=sg) (P:=Pp) (o:=o') (m:=m') (u:=u) (d:=(d,fl))).symm.trans hl'))
    subst e
    cases q:H fl with
    |none=>exact hc0 q
    |some u0 =>
     by_cases ex:fl=x
     ·rw[ex,sa _ _ WA]at hfl
      cases hfl
     ·rw[(f9.trans (Off.of sa)) fl u0 q ex]at hfl
      cases hfl
end
section
variable{P:bn}{w:df}{K:PySem.W.Frag}{mg:bp->Option a9}{base:eJ}
end
section
variable{P:bn}{w:df}{K:PySem.W.Frag}{mg:bp->Option a9}{base:eJ}
end
section
variable{P:bn}{w:df}{K:PySem.W.Frag}{mg:bp->Option a9}{base:eJ}
end
section
variable{P:bn}{w:df}{K:PySem.W.Frag}{mg:bp->Option a9}{base:eJ}
theorem tW {aY:a5}{eY:dv}{p:Pm}(T:Txt K mg p w base)(dN:Dm K "__init__" "NoSign.__init__" bX UH aY eY)  :aE P w K mg base (vt P w) 1 aY eY UH (DP p.aH):=by
 refine dN.fn.Gv tQ (λvs H Q E h=>?_) (λ_ _ _ _ H vs Q E hr h=>?_)
 ·obtain⟨e,i,j,rfl,_⟩:=h
  rfl
 ·obtain⟨e,i,j,rfl,he,hi,hj,k⟩:=h
  obtain⟨fI,xc⟩:=T.Ji
  intro X
  refine⟨_,(ai (bK (OY T.zR rfl T.Ae (aa (pv 0) (aa (Iv (sF bJ (sF (Mq (pv 1)) (sF bJ (sF (Mq (pv 2)) Ml))))) af))))
   (ai (Il (pv 0) (pv 1) rfl)
   (aq (Il (pv 0) (pv 2) rfl)))),?_⟩
  have li:=A7 hi
  have lj:=A7 hj
  have ti:=PyProof.Rows.int_text_len_1921 li
  have tj:=PyProof.Rows.int_text_len_1921 lj
  have l0:(zn++a_ "no sign that may stand there: row ").length<=50:=by decide
  have l1:=Cv l0 ti
  have l2:=Cv l1 (show(a_ ", place ").length<=20 by decide)
  have l3:=Cv l2 tj
  refine⟨_,rfl,_,rfl,bj l0 (by decide),_,rfl,_,rfl,li,_,rfl,bj l1 (by decide),_,rfl,bj l2 (by decide),_,rfl,_,rfl,lj,_,rfl,bj l3 (by decide),bj l3 (by decide),?_⟩
  refine⟨e,p.aH,fI,none,_,rfl,he,xc,?_⟩
  refine⟨_,rfl,_,rfl,e,p.aH,rfl,T.AG,T.uJ,.inl ⟨he,λdx hdx=>?_⟩⟩
  have ne:dx≠e:=λz=>by rw[z,he]at hdx;cases hdx
  refine⟨_,rfl,_,rfl,e,p.aH,rfl,T.AG,T.rE,.inr ⟨dx,_,by rw[au (Ne.symm ne),ah],ah,pl1,?_⟩⟩
  refine k dx _ (λb u hb Ni=>?_) hdx (by rw[au (Ne.symm ne),au (Ne.symm ne),ah]) ah
  have nb:b≠dx:=λz=>by rw[z,hdx]at hb;cases hb
  rw[au nb,au nb,au Ni,au nb]
  exact hb
theorem vM {iI aY:a5}{gw eY:dv}{p:Pm}(T:Txt K mg p w base)(eE:Dn K mg "check_known" mP We iI gw)(dN:Dm K "__init__" "NoSign.__init__" bX UH aY eY)(zE:XMk K p.aH aY)(vm:aE P w K mg base (vt P w) 1 aY eY UH (DP p.aH)):aE P w K mg base (vt P w) 3 iI gw We (DQ p.aH):=by
 refine eE.fn.Gv iQ (λvs H Q E h=>?_) (λ_ _ _ _ H vs Q E hr h=>?_)
 ·obtain⟨sg,l,a,b,rfl,_⟩:=h
  rfl
 ·obtain⟨sg,l,a,b,rfl,hl,la,lb,kq,k⟩:=h
  intro X
  refine⟨_,(aq (cZ uB rfl (BZ rfl T.qS (aa (pv 1) af)) (qm (n:=2) rfl (bU (al 2 iQ.nd) (bU (al 3 iQ.nd) mR))) (aq (cZ uB rfl (BZ rfl T.qS (aa (pv 3) af)) (qm (n:=2) rfl (bU (al 4 iQ.nd) (bU (al 5 iQ.nd) mR))) (aq (bZ (aQ uC (pv 5) (pv 0) (by with_unfolding_all rfl)) (aq (JD qu zE vm (hr.mono (by decide)) dN.b rfl rfl T.A6 (aa (pv 2) (aa (pv 4) af)))) aW)))))),?_⟩
  refine⟨_,rfl,.lst l,_,rfl,cy.of hl,yT (K:=K) (c:=.lst l) (xs:=[.str a,.str b]) (λi σ H2=>∃v2 v3 v4 v5,σ=[some (.str sg),some (.ref l),v2,v3,v4,v5]/\aj H H2/\(0<i->Of sg a)/\(1<i->Of sg b)) ⟨_,_,_,_,rfl,aj.refl _,λz=>absurd z (f8 _),λz=>absurd z (Nat.not_lt_zero _)⟩ (λi σ H2 _ ⟨_,_,_,_,_,s2,_⟩=>cy.of (s2 _ _ hl)) ?_ ?_⟩
  ·rintro i y p1 σ H2 hy hp1 ⟨v2,v3,v4,v5,rfl,s2,oa,ob⟩
   obtain⟨z,rfl,hz,hi,hgo,hbad⟩:∃z:bp,y= .str z/\z.cps.size<=1000/\i<=1/\(Of sg z->(0<i+1->Of sg a)/\(1<i+1->Of sg b))/\(∀j,(∃c,z.cps[j]? =some c/\c∉sg.cps.toList)->(∀k c,k<j->z.cps[k]? =some c->c∈sg.cps.toList)->xJ sg a b i j):=by
    match i,hy,oa with
    | 0,hy,oa=>exact⟨a,(dA hy).symm,la,d0 _,λq=>⟨λ_=>q,λz=>absurd z (f8 _)⟩,λj h1 h2=>.inl ⟨rfl,h1,h2⟩⟩
    | 1,hy,oa=>exact⟨b,(dA hy).symm,lb,a7 _,λq=>⟨λ_=>oa (Nat.zero_lt_succ _),λ_=>q⟩,λj h1 h2=>.inr ⟨rfl,oa (Nat.zero_lt_succ _),h1,h2⟩⟩
    |i+2,hy,oa=>simp at hy
   refine⟨p1,_,rfl,cE.of ah,rfl,_,_,rfl,_,_,rfl,rfl,?_⟩
   refine⟨_,rfl,.txt z,_,rfl,rfl,yT (K:=K) (c:=.txt z) (xs:=dR z) (λj σ H3=>∃v4 v5,σ=[some (.str sg),some (.ref l),some (.int (i:Int)),some (.str z),v4,v5]/\aj H H3/\∀k c,k<j->z.cps[k]? =some c->c∈sg.cps.toList) ⟨_,_,rfl,s2.trans (aj.upd hp1),λk c z=>absurd z (Nat.not_lt_zero _)⟩ (λj σ H3 _ _=>rfl) ?_ ?_⟩
   ·rintro j y p2 σ H3 hy hp2 ⟨v4,v5,rfl,s3,hp⟩
    obtain⟨c,hc,rfl⟩:=signs_get hy
    have hj:=Hj hc
    have s4:=s3.trans (aj.upd (o:=.tup [.int (j:Int),.str ⟨#[c]⟩]) hp2)
    refine⟨p2,_,rfl,cE.of ah,rfl,_,_,rfl,_,_,rfl,rfl,?_⟩
    refine⟨_,rfl,_,rfl,_,_,rfl,rfl,_,rfl,?_⟩
    rw[StrLaws.found_one]
    by_cases hm:c∈sg.cps.toList
    ·rw[decide_eq_true hm]
     refine wF ⟨_,_,rfl,s4,λk d hk hd=>?_⟩
     by_cases z:k=j
     ·subst z
      rw[hc]at hd
      cases hd
      exact hm
     ·exact hp k d (by omega) hd
    ·rw[decide_eq_false hm]
     refine IF ⟨_,rfl,_,rfl,aw,λe hn=>?_⟩
     have hne:H e=none:=aj.free s4 hn
     refine⟨e,i,j,rfl,ah,by omega,by omega,λdx H' hk hdx hx hd=>⟨rfl,some dx,hx,k i j (hbad j ⟨c,hc,hm⟩ hp) dx _ (λb u hb=>?_) ?_⟩⟩
     ·have nb:b≠e:=λz=>by rw[z,hne]at hb;cases hb
      rw[rP nb]
      exact hk b u (by rw[au nb];exact s4 b u hb) nb
     ·have ne:dx≠e:=λz=>by rw[z,ah]at hdx;cases hdx
      rw[rP ne]
      exact hd
   ·rintro σ H3 ⟨v4,v5,rfl,s3,hp⟩
    have oz:Of sg z:=λc hc=>by
     obtain⟨k,hk,e⟩:=n_ hc
     have hk':k<z.cps.size:=by simpa using hk
     exact hp k c (by rw[signs_length];exact hk') (by rw[←fg,a6 hk,e])
    exact⟨_,_,_,_,rfl,s3,(hgo oz).1,(hgo oz).2⟩
  ·rintro σ H2 ⟨v2,v3,v4,v5,rfl,s2,oa,ob⟩
   exact kq (oa (show 0<2 by decide)) (ob (show 1<2 by decide)) H2 s2
theorem xh {cC iI:a5}{bQ gw:dv}{p:Pm}(T:Txt K mg p w base)(bA:Dn K mg "check_rows" i7 Pk cC bQ)(eE:Dn K mg "check_known" mP We iI gw)(Az:aE P w K mg base (vt P w) 3 iI gw We (DQ p.aH)):aE P w K mg base (vt P w) 4 cC bQ Pk (xN K p.ao p.aH):=by
 refine bA.fn.Gv zV (λvs H Q E h=>?_) (λ_ _ _ _ H vs Q E hr h=>?_)
 ·obtain⟨x,l,sg,rows,fo,fm,a,b,rfl,_⟩:=h
  rfl
 ·obtain⟨x,l,sg,rows,fo,fm,a,b,rfl,⟨_,_,_,_,_,_,_,dx,Pp,o,m,d,kvs,h1,h2,h3,h4,h5,h6⟩,hl,la,lb,kq,k⟩:=h
  intro X
  refine⟨_,(aq (bK (az Az (hr.mono (by decide)) rfl eE.m eE.fn.kp eE.b .nil (Lets.passes qu) (aa (dP (pv 0) rfl) (aa (pv 1) af))))),?_⟩
  exact⟨_,rfl,x,_,_,_,_,rfl,h1,T.bh,T.gg,qB,_,rfl,sg,l,a,b,rfl,hl,la,lb,kq,k⟩
theorem Ab {cD j8 gC:a5}{bR ja fE:dv}{p:Pm}(T:Txt K mg p w base)(aP:Dn K mg "alone_cost" i8 Pj cD bR)(dD:Dn K mg "more_cost" oO l9 j8 ja)(wO:aE P w K mg base bS 2 j8 ja l9 (LQ K p.ao))(dB:Dn K mg "opening_cost" kW l9 gC fE)(zL:aE P w K mg base bS 2 gC fE l9 (AN K p.ao)):aE P w K mg base bS 3 cD bR Pj (xO K p.ao):=by
 refine aP.fn.kG zW (λvs H Q E h=>?_) (λ_ _ _ _ H vs Q E hr h=>?_)
 ·obtain⟨x,sg,rows,fo,fm,a,b,rfl,_⟩:=h
  rfl
 ·obtain⟨x,sg,rows,fo,fm,a,b,rfl,hP,k⟩:=h
  intro X
  refine⟨_,(ai (bZ (aQ fL (pv 1) (pv 2) (bq _)) (aq (aK (ae wO hr dD (aa (pv 0) af)))) aW)
   (aq (aK (aD cH (ae zL hr dB (aa (pv 0) af)) (ae wO hr dD (aa (pv 0) af)))))),?_⟩
  refine⟨_,rfl,_,rfl,rfl,_,rfl,?_⟩
  by_cases e:a=b
  ·rw[if_pos e]at k
   rw[decide_eq_true (show V.str a=V.str b by rw[e])]
   refine qw ?_
   exact⟨_,rfl,x,sg,rows,fo,fm,rfl,hP,k⟩
  ·rw[if_neg e]at k
   rw[decide_eq_false (show ¬V.str a=V.str b from λz=>e (V.str.inj z))]
   refine lJ ?_
   exact⟨_,rfl,x,sg,rows,fo,fm,rfl,hP,_,rfl,x,sg,rows,fo,fm,rfl,hP,_,_,rfl,rfl,k⟩
theorem B7 {j9:a5}{jb:dv}{p:Pm}(T:Txt K mg p w base)(gH:Dn K mg "may_begin" oQ Wd j9 jb)  :aE P w K mg base bS 1 j9 jb Wd (LS K):=by
 refine gH.fn.kG BP (λvs H Q E h=>?_) (λ_ _ _ _ H vs Q E hr h=>?_)
 ·obtain⟨m,a,q,rfl,_⟩:=h
  rfl
 ·obtain⟨m,a,q,rfl,hq,k⟩:=h
  intro X
  refine⟨_,(ai (bZ (aQ fL (pv 0) bJ (bq _)) (aq (aK (oq (iL fL (aJ aO (pv 1) ak (λ_ _=>rfl)) ak (bq _)) (qo (iL fL (aJ aO (pv 1) ak (λ_ _=>rfl)) ak (bq _)))))) aW)
   (ai (bZ (aQ fL (pv 0) bJ (bq _)) (aq (aK (iL fL (aJ aO (pv 1) ak (λ_ _=>rfl)) ak (bq _)))) aW)
   (ai (bZ (aQ fL (pv 0) bJ (bq _)) (aq (aK (iL fL (aJ aO (pv 1) ak (λ_ _=>rfl)) ak (bq _)))) aW)
   (aq (aK Mt))))),?_⟩
  unfold Cj at k
  refine⟨_,rfl,rfl,_,rfl,?_⟩
  refine ite_str (λh1=>?_) λh1=>?_
  ·rw[if_pos h1]at k
   refine⟨_,rfl,_,_,_,_,rfl,rfl,hq,rfl,rfl,_,rfl,?_⟩
   refine rK (λz=>?_) λz=>?_
   ·refine⟨_,rfl,_,_,_,_,rfl,rfl,hq,rfl,rfl,?_⟩
    rw[decide_eq_true z,BT]at k
    rw[rQ]
    exact k
   ·rw[decide_eq_false z,t_]at k
    exact k
  rw[if_neg h1]at k
  refine⟨_,rfl,rfl,_,rfl,?_⟩
  refine ite_str (λh2=>?_) λh2=>?_
  ·rw[if_pos h2]at k
   refine⟨_,rfl,_,_,_,_,rfl,rfl,hq,rfl,rfl,?_⟩
   rw[rQ]
   exact k
  rw[if_neg h2]at k
  refine⟨_,rfl,rfl,_,rfl,?_⟩
  refine ite_str (λh3=>?_) λh3=>?_
  ·rw[if_pos h3]at k
   refine⟨_,rfl,_,_,_,_,rfl,rfl,hq,rfl,rfl,?_⟩
   rw[rQ]
   exact k
  rw[if_neg h3]at k
  exact k
theorem Gy {nV:a5}{lT:dv}{p:Pm}(T:Txt K mg p w base)(kB:Dn K mg "may_end" sj Wc nV lT)  :aE P w K mg base bS 1 nV lT Wc (LR K):=by
 refine kB.fn.kG Gg (λvs H Q E h=>?_) (λ_ _ _ _ H vs Q E hr h=>?_)
 ·obtain⟨m,f,s,a,q,rfl,_⟩:=h
  rfl
 ·obtain⟨m,f,s,a,q,rfl,hq,hf,hs,k⟩:=h
  have zf:f.length<=bt:=bj hf (by decide)
  have zs:s.length<=bt:=bj hs (by decide)
  intro X
  refine⟨_,(ai (bZ (aQ fL (pv 0) bJ (bq _)) (aq (aK (oq (iL fL (aJ aO (pv 3) ak (λ_ _=>rfl)) (aB (aS) rfl T.cI bL (aa (pv 1) af)) (bq _)) (qo (iL fL (aJ aO (pv 3) ak (λ_ _=>rfl)) (aB (aS) rfl T.cI bL (aa (pv 2) af)) (bq _)))))) aW)
   (ai (bZ (aQ fL (pv 0) bJ (bq _)) (aq (aK Mt)) aW)
   (aq (aK (iL fL (aJ aO (pv 3) ak (λ_ _=>rfl)) (aB (aS) rfl T.cI bL (aa (pv 1) af)) (bq _)))))),?_⟩
  unfold Ew at k
  refine⟨_,rfl,rfl,_,rfl,?_⟩
  refine ite_str (λh1=>?_) λh1=>?_
  ·rw[if_pos h1]at k
   refine⟨_,rfl,_,_,_,_,rfl,rfl,hq,rfl,_,rfl,_,_,rfl,⟨zf,rfl⟩,rfl,_,rfl,?_⟩
   refine rK (λz=>?_) λz=>?_
   ·refine⟨_,rfl,_,_,_,_,rfl,rfl,hq,rfl,_,rfl,_,_,rfl,⟨zs,rfl⟩,rfl,?_⟩
    rw[decide_eq_true (show q.1=(f.cps.size:Int) from z),BT]at k
    rw[rQ]
    exact k
   ·rw[decide_eq_false (show ¬q.1=(f.cps.size:Int) from z),t_]at k
    exact k
  rw[if_neg h1]at k
  refine⟨_,rfl,rfl,_,rfl,?_⟩
  refine ite_str (λh2=>?_) λh2=>?_
  ·rw[if_pos h2]at k
   exact k
  rw[if_neg h2]at k
  refine⟨_,rfl,_,_,_,_,rfl,rfl,hq,rfl,_,rfl,_,_,rfl,⟨zf,rfl⟩,rfl,?_⟩
  rw[rQ]
  exact k
end
section
variable{P:bn}{w:df}{K:PySem.W.Frag}{mg:bp->Option a9}{base:eJ}
theorem uG {gD:a5}{fF:dv}{p:Pm}(T:Txt K mg p w base)(dF:Dn K mg "check_manner" kX ["manner"] gD fF)  :aE P w K mg base (vt P w) 1 gD fF ["manner"] (qY p.bV):=by
 refine dF.fn.Gv wV (λvs H Q E h=>?_) (λ_ _ _ _ H vs Q E hr h=>?_)
 ·obtain⟨m,rfl,_⟩:=h
  rfl
 ·obtain⟨m,rfl,kq,ke⟩:=h
  intro X
  refine⟨_,(aq (bZ (aQ uD (pv 0) (nL (v:=.ref p.mh) rfl T.Ks rfl) (by with_unfolding_all rfl)) (aq (Mj qu T.Dp rfl rfl T.Et (aa (Iv (sF (OU (pv 0)) (sF bJ Ml))) af))) aW)),?_⟩
  refine⟨_,rfl,_,_,rfl,.inr (T.JC _),rfl,rfl,_,rfl,?_⟩
  show if(if true=true then !QK (.str m) [.str (a_ "whole"),.str (a_ "within"),.str (a_ "over"),.str (a_ "stretch")]else _)=true then _ else _
  rw[if_pos rfl]
  cases hm:wG m with
  |true =>
   have e:QK (.str m) [.str (a_ "whole"),.str (a_ "within"),.str (a_ "over"),.str (a_ "stretch")]=true:=hm
   rw[e]
   exact wF (kq hm)
  |false =>
   obtain⟨hl,k⟩:=ke hm
   have e:QK (.str m) [.str (a_ "whole"),.str (a_ "within"),.str (a_ "over"),.str (a_ "stretch")]=false:=hm
   rw[e]
   refine IF ⟨_,rfl,_,rfl,bj hl (by decide),_,rfl,?_,_,rfl,?_,?_,ar,k⟩
   ·exact NS hl (by decide)
   ·exact Bv hl (by decide)
   ·exact Bv hl (by decide)
end
section
variable{P:bn}{w:df}{K:PySem.W.Frag}{mg:bp->Option a9}{base:eJ}
theorem Ad {jy:a5}{iB:dv}{p:Pm}(T:Txt K mg p w base)(fV:Dn K mg "all_places" nK Wb jy iB)  :aE P w K mg base bS 1 jy iB Wb Qq:=by
 refine fV.fn.kG mF (λvs H Q E h=>?_) (λ_ _ _ _ H vs Q E hr h=>?_)
 ·obtain⟨f,s,rfl,_⟩:=h
  rfl
 ·obtain⟨f,s,rfl,hf,hs,kk⟩:=h
  have lf:f.length<=bt:=bj hf (by decide)
  have ls:s.length<=bt:=bj hs (by decide)
  have hf':f.length<=12:=hf
  have hs':s.length<=12:=hs
  intro X
  refine⟨_,(ai (ag 2 mF.nd (iS af))
   (ai (cZ eI rfl (g9 rfl T.jM (aa (aD cH (aB (aS) rfl T.cI bL (aa (pv 0) af)) ak) af)) (al 3 mF.nd) (aq (cZ eI rfl (g9 rfl T.jM (aa (aD cH (aB (aS) rfl T.cI bL (aa (pv 1) af)) ak) af)) (al 4 mF.nd) (aq (bK (jJ PySem.F.plainAttrs_list PySem.F.slot_list_append PySem.F.type_list_append b8 (pv 2) (aa (bC (aa (pv 3) (aa (pv 4) af))) af)))))))
   (aq (aK (pv 2))))),?_⟩
  refine⟨am,λl hl=>?_⟩
  refine⟨_,rfl,_,_,rfl,⟨lf,rfl⟩,_,_,rfl,rfl,_,rfl,by omega,by omega,?_⟩
  rw[show((f.length:Int)+1).toNat=f.cps.size+1 from by show((f.cps.size:Int)+1).toNat=_;omega]
  refine nQ (lo:=0) (n:=f.cps.size+1) (λi σ H2=>∃v3 v4,∃ps:List a5,σ=[some (.str f),some (.str s),some (.ref l),v3,v4]/\aj H H2/\H2 l=some (.lst (ps.map V.ref))/\Paired (HA (Wo l H2)) ps (rws s.cps.size i))
   ⟨_,_,[],rfl,aj.upd hl,ah,.nil⟩ ?_ ?_
  ·rintro i σ H2 hi ⟨v3,v4,ps,rfl,s2,h2,pp⟩
   refine⟨_,rfl,_,_,rfl,⟨ls,rfl⟩,_,_,rfl,rfl,_,rfl,by omega,by omega,?_⟩
   rw[show((s.length:Int)+1).toNat=s.cps.size+1 from by show((s.cps.size:Int)+1).toNat=_;omega]
   refine nQ (lo:=0) (n:=s.cps.size+1) (λj σ H3=>∃v4,∃ps:List a5,σ=[some (.str f),some (.str s),some (.ref l),some (.int (0+(i:Int))),v4]/\aj H H3/\H3 l=some (.lst (ps.map V.ref))/\Paired (HA (Wo l H3)) ps ((rws s.cps.size i)++(fe j).map λj=>(i,j)))
    ⟨_,ps,rfl,s2,h2,by simpa using pp⟩ ?_ ?_
   ·rintro j σ H3 hj ⟨v4,ps,rfl,s3,h3,pp⟩
    refine⟨_,rfl,.inl ⟨rfl,_,cy.of h3⟩,_,rfl,_,rfl,aw,λp hp=>?_⟩
    have np:p≠l:=λz=>by rw[z,h3]at hp;cases hp
    have hlen:=Paired.len pp
    rw[cn,ON,bc,i_]at hlen
    refine⟨l,_,_,rfl,rfl,by rw[au (Ne.symm np)];exact h3,?_,?_⟩
    ·rw[bc,hlen]
     have:i*(s.cps.size+1)<=f.cps.size*(s.cps.size+1):=wS _ (by omega)
     have e:(f.cps.size+1)*(s.cps.size+1)=f.cps.size*(s.cps.size+1)+(s.cps.size+1):=Nat.succ_mul _ _
     exact MY hf hs (by omega)
    ·refine⟨_,ps++[p],rfl,uy s3 hl hp,by rw[ah,dC];rfl,?_⟩
     rw[wd,dC,←nz]
     refine GP.Paired.snoc (Paired.g8 pp λ_ _ z=>z.same (Rj hp)) ?_
     show Wo l _ p=some (.tup [.int (i:Int),.int (j:Int)])
     rw[Li np,ml,ml]
   ·rintro σ H3 ⟨v4,ps,rfl,s3,h3,pp⟩
    exact⟨_,_,ps,rfl,s3,h3,by rw[D0];exact pp⟩
  ·rintro σ H2 ⟨v3,v4,ps,rfl,s2,h2,pp⟩
   exact⟨_,rfl,kk l H2 s2 hl (S2 h2 pp)⟩
theorem z5 {jo cR cD:a5}{ig cA bR:dv}{p:Pm}(T:Txt K mg p w base)(fP:Dn K mg "steps_from" nD Wa jo ig)(bF:Dn K mg "pair_cost" j3 Pn cR cA)(mZ:aE P w K mg base bS 1 cR cA Pn (qc K p.ao))(aP:Dn K mg "alone_cost" i8 Pj cD bR)(g7:aE P w K mg base bS 3 cD bR Pj (xO K p.ao)):aE P w K mg base bS 4 jo ig Wa (HX K p.ao):=by
 refine fP.fn.kG mz (λvs H Q E h=>?_) (λ_ _ _ _ H vs Q E hr h=>?_)
 ·obtain⟨x,pl,T1,f,s,i,j,c,rfl,_⟩:=h
  rfl
 ·obtain⟨x,pl,T1,f,s,i,j,c,rfl,hP,of,os,hf,hs,hp,kk⟩:=h
  have lf:f.length<=bt:=bj hf (by decide)
  have ls:s.length<=bt:=bj hs (by decide)
  intro X
  refine⟨_,(ai (ag 5 mz.nd (aJ aO (pv 3) ak (λ_ _=>rfl)))
   (ai (ag 6 mz.nd (aJ aO (pv 3) ak (λ_ _=>rfl)))
   (ai (ag 7 mz.nd (iS af))
   (bN (bZ (PW.pt (Mg (aQ Eh (pv 5) (aB (aS) rfl T.cI bL (aa (pv 1) af)) (bq _)) (Ij (aQ Eh (pv 6) (aB (aS) rfl T.cI bL (aa (pv 2) af)) (bq _))))) (aq (bK (jJ PySem.F.plainAttrs_list PySem.F.slot_list_append PySem.F.type_list_append b8 (pv 7) (aa (bC (aa (bC (aa (bC (aa (aD cH (pv 5) ak) (aa (aD cH (pv 6) ak) af))) (aa bJ af))) (aa (ae mZ hr bF (aa (pv 0) (aa (aJ rJ (pv 1) (pv 5) (λ_ _=>rfl)) (aa (aJ rJ (pv 2) (pv 6) (λ_ _=>rfl)) af)))) af))) af)))) aW)
   (bN (bZ (aQ Eh (pv 5) (aB (aS) rfl T.cI bL (aa (pv 1) af)) (bq _)) (aq (bK (jJ PySem.F.plainAttrs_list PySem.F.slot_list_append PySem.F.type_list_append b8 (pv 7) (aa (bC (aa (bC (aa (bC (aa (aD cH (pv 5) ak) (aa (pv 6) af))) (aa bJ af))) (aa (ae g7 hr aP (aa (pv 0) (aa bJ (aa (pv 4) af)))) af))) af)))) aW)
   (bN (bZ (aQ Eh (pv 6) (aB (aS) rfl T.cI bL (aa (pv 2) af)) (bq _)) (aq (bK (jJ PySem.F.plainAttrs_list PySem.F.slot_list_append PySem.F.type_list_append b8 (pv 7) (aa (bC (aa (bC (aa (bC (aa (pv 5) (aa (aD cH (pv 6) ak) af))) (aa bJ af))) (aa (ae g7 hr aP (aa (pv 0) (aa bJ (aa (pv 4) af)))) af))) af)))) aW)
   (aq (aK (pv 7))))))))),?_⟩
  refine⟨_,rfl,pl,_,_,_,rfl,rfl,cE.of hp,rfl,?_⟩
  refine⟨_,rfl,pl,_,_,_,rfl,rfl,cE.of hp,rfl,?_⟩
  refine⟨am,λl hl=>?_⟩
  have Q3:∀{H2},aj H H2->nO K p.ao H2 x T1.1 T1.2.1 T1.2.2.1 T1.2.2.2:=λe=>nO.same e hP
  refine⟨λσ H'=>∃ps:List a5,σ=[some (.ref x),some (.str f),some (.str s),some (.ref pl),some (.str ⟨#[c]⟩),some (.int (i:Int)),some (.int (j:Int)),some (.ref l)]/\aj H H'/\H' l=some (.lst (ps.map V.ref))/\ps.length<=1 ∧
   Paired (Qe (Wo l H')) ps (if i<f.cps.size/\j<s.cps.size then [((i+1,j+1,112),(cW T1 f f s).pc i j)]else []),?_,?_⟩
  ·refine⟨_,rfl,_,rfl,_,_,rfl,⟨lf,rfl⟩,_,_,rfl,rfl,_,rfl,?_⟩
   refine cK (λh1=>?_) (λh1=>?_)
   ·refine⟨_,rfl,_,rfl,_,_,rfl,⟨ls,rfl⟩,_,_,rfl,rfl,_,rfl,?_⟩
    have tD:i<f.cps.size:=by have z:(i:Int)<(f.cps.size:Int):=h1;omega
    refine cK (λh2=>?_) (λh2=>?_)
    ·have h2':j<s.cps.size:=by have z:(j:Int)<(s.cps.size:Int):=h2;omega
     obtain⟨a,ha⟩:=vY tD
     obtain⟨b,hb⟩:=vY h2'
     obtain⟨i',j',fr,hi',hj',hat,epc⟩:=Gu (u:=uT T1) hP.sqr (of a (lC ha)) (os b (lC hb))
     refine⟨_,rfl,.inl ⟨rfl,_,cy.of ah⟩,_,rfl,_,_,rfl,rfl,_,rfl,_,_,rfl,rfl,aw,λp1 hp1=>⟨aw,λq1 hq1=>?_⟩⟩
     have s0:=(aj.upd (o:=.lst []) hl).trans ((aj.upd hp1).trans (aj.upd (o:=.tup [.ref p1,.str (a_ "p")]) hq1))
     refine⟨_,rfl,_,rfl,_,rfl,f,_,a,rfl,rfl,lf,dX (e7 ha),_,rfl,_,rfl,s,_,b,rfl,rfl,ls,dX (e7 hb),x,T1.1,T1.2.1,T1.2.2.1,T1.2.2.2,i',j',a,b,fr,rfl,Q3 s0,hi',hj',hat,λH5 s5=>⟨aw,λr1 hr1=>?_⟩⟩
     obtain⟨h5,nr,sw,st⟩:=F9 (t:=((i+1,j+1,112),(cW T1 f f s).pc i j)) (y:=.lst ([]++[.ref r1])) ah hp1 hq1 s5 hr1 rfl rfl sP (by
      show V.int (fr.1*(uT T1 / fr.2))=V.int (La T1.1 T1.2.1 (uT T1) (f.cps.toList.getD i 0) (s.cps.toList.getD j 0))
      rw[cf,cf,e7 ha,e7 hb]
      exact congrArg V.int epc.symm)
     refine⟨l,_,_,rfl,rfl,by rw[au (Ne.symm nr)];exact h5,by show 0<bt;decide,[r1],rfl,uy (s0.trans s5) hl hr1,ah,a7 _,?_⟩
     rw[if_pos ⟨tD,h2'⟩]
     exact .cons st .nil
    ·have h2':¬j<s.cps.size:=λz=>h2 (by show(j:Int)<(s.cps.size:Int);omega)
     exact⟨[],rfl,aj.upd hl,ah,d0 _,by rw[if_neg (λz=>h2' z.2)];exact .nil⟩
   ·have tD:¬i<f.cps.size:=λz=>h1 (by show(i:Int)<(f.cps.size:Int);omega)
    refine lJ ?_
    exact⟨[],rfl,aj.upd hl,ah,d0 _,by rw[if_neg (λz=>tD z.1)];exact .nil⟩
  rintro σ H2 ⟨ps,rfl,s2,h2,l2,pp⟩
  refine⟨λσ H'=>∃ps:List a5,σ=[some (.ref x),some (.str f),some (.str s),some (.ref pl),some (.str ⟨#[c]⟩),some (.int (i:Int)),some (.int (j:Int)),some (.ref l)]/\aj H H'/\H' l=some (.lst (ps.map V.ref))/\ps.length<=2 ∧
   Paired (Qe (Wo l H')) ps ((if i<f.cps.size/\j<s.cps.size then [((i+1,j+1,112),(cW T1 f f s).pc i j)]else [])++(if i<f.cps.size then [((i+1,j,97),(cW T1 f f s).ac 97 c)]else [])),?_,?_⟩
  ·refine⟨_,rfl,_,rfl,_,_,rfl,⟨lf,rfl⟩,_,_,rfl,rfl,_,rfl,?_⟩
   refine cK (λh1=>?_) (λh1=>?_)
   ·have tD:i<f.cps.size:=by have z:(i:Int)<(f.cps.size:Int):=h1;omega
    refine⟨_,rfl,.inl ⟨rfl,_,cy.of h2⟩,_,rfl,_,_,rfl,rfl,_,rfl,aw,λp1 hp1=>⟨aw,λq1 hq1=>?_⟩⟩
    have s0:=s2.trans ((aj.upd hp1).trans (aj.upd (o:=.tup [.ref p1,.str (a_ "a")]) hq1))
    refine⟨_,rfl,_,rfl,x,T1.1,T1.2.1,T1.2.2.1,T1.2.2.2,_,_,rfl,Q3 s0,aw,λr1 hr1=>?_⟩
    obtain⟨h5,nr,sw,st⟩:=F9 (t:=((i+1,j,97),(cW T1 f f s).ac 97 c)) (y:=.lst (ps.map V.ref++[.ref r1])) h2 hp1 hq1 (aj.refl _) hr1 rfl rfl sA (NT sA)
    refine⟨l,_,_,rfl,rfl,by rw[au (Ne.symm nr)];exact h5,by rw[bc];exact bv l2 (by decide),ps++[r1],rfl,uy s0 hl hr1,by rw[ah,dC];rfl,by rw[cn];exact i5 l2,?_⟩
    rw[if_pos tD]
    exact GP.Paired.snoc (Paired.g8 pp λ_ _ z=>z.same sw) st
   ·have tD:¬i<f.cps.size:=λz=>h1 (by show(i:Int)<(f.cps.size:Int);omega)
    exact⟨ps,rfl,s2,h2,by omega,by rw[if_neg tD,ib];exact pp⟩
  rintro σ H3 ⟨ps,rfl,s3,h3,l3,pp⟩
  refine⟨λσ H'=>∃ps:List a5,σ=[some (.ref x),some (.str f),some (.str s),some (.ref pl),some (.str ⟨#[c]⟩),some (.int (i:Int)),some (.int (j:Int)),some (.ref l)]/\aj H H'/\H' l=some (.lst (ps.map V.ref)) ∧
   Paired (Qe (Wo l H')) ps (((if i<f.cps.size/\j<s.cps.size then [((i+1,j+1,112),(cW T1 f f s).pc i j)]else [])++(if i<f.cps.size then [((i+1,j,97),(cW T1 f f s).ac 97 c)]else []))++(if j<s.cps.size then [((i,j+1,98),(cW T1 f f s).ac 98 c)]else [])),?_,?_⟩
  ·refine⟨_,rfl,_,rfl,_,_,rfl,⟨ls,rfl⟩,_,_,rfl,rfl,_,rfl,?_⟩
   refine cK (λh1=>?_) (λh1=>?_)
   ·have tD:j<s.cps.size:=by have z:(j:Int)<(s.cps.size:Int):=h1;omega
    refine⟨_,rfl,.inl ⟨rfl,_,cy.of h3⟩,_,rfl,_,rfl,_,_,rfl,rfl,aw,λp1 hp1=>⟨aw,λq1 hq1=>?_⟩⟩
    have s0:=s3.trans ((aj.upd hp1).trans (aj.upd (o:=.tup [.ref p1,.str (a_ "b")]) hq1))
    refine⟨_,rfl,_,rfl,x,T1.1,T1.2.1,T1.2.2.1,T1.2.2.2,_,_,rfl,Q3 s0,aw,λr1 hr1=>?_⟩
    obtain⟨h5,nr,sw,st⟩:=F9 (t:=((i,j+1,98),(cW T1 f f s).ac 98 c)) (y:=.lst (ps.map V.ref++[.ref r1])) h3 hp1 hq1 (aj.refl _) hr1 rfl rfl sB (NT sB)
    refine⟨l,_,_,rfl,rfl,by rw[au (Ne.symm nr)];exact h5,by rw[bc];exact bv l3 (by decide),ps++[r1],rfl,uy s0 hl hr1,by rw[ah,dC];rfl,?_⟩
    rw[if_pos tD]
    exact GP.Paired.snoc (Paired.g8 pp λ_ _ z=>z.same sw) st
   ·have tD:¬j<s.cps.size:=λz=>h1 (by show(j:Int)<(s.cps.size:Int);omega)
    exact⟨ps,rfl,s3,h3,by rw[if_neg tD,ib];exact pp⟩
  rintro σ H4 ⟨ps,rfl,s4,h4,pp⟩
  refine⟨_,rfl,kk l H4 s4 hl λm=>⟨ps,h4,?_⟩⟩
  rw[nz]at pp
  exact Paired.g8 pp λ_ _ z=>z.same Wo.sub
end
section
variable{P:bn}{w:df}{K:PySem.W.Frag}{mg:bp->Option a9}{base:eJ}
theorem Cf {kr jo:a5}{jk ig:dv}{p:Pm}(T:Txt K mg p w base)(gQ:Dn K mg "all_steps" oY V9 kr jk)(fP:Dn K mg "steps_from" nD Wa jo ig)(Dc:aE P w K mg base bS 4 jo ig Wa (HX K p.ao)):aE P w K mg base bS 5 kr jk V9 (L4 P w K p.ao):=by
 refine gQ.fn.kG ni (λvs H Q E h=>?_) (λ_ _ _ _ H vs Q E hr h=>?_)
 ·obtain⟨x,lp,T1,f,s,rfl,_⟩:=h
  rfl
 ·obtain⟨x,lp,T1,f,s,rfl,hP,of,os,hf,hs,⟨ps,Oi,pp⟩,kk⟩:=h
  have pw:=AW f.cps.size s.cps.size
  intro X
  refine⟨_,(ai (ag 4 ni.nd (Iq (Pr:=P) (wo:=w) rfl rfl))
   (ai (cZ eI rfl (ql (pv 3)) (al 5 ni.nd) (aq (cZ eI rfl (Mm (nL (v:=.ref p.jV) rfl T.G5 rfl)) (al 6 ni.nd) (aq (Ik (Pr:=P) (wo:=w) (tY hr) (pv 4) (bC (aa (pv 5) (aa (pv 6) af))) (ae Dc hr fP (aa (pv 0) (aa (pv 1) (aa (pv 2) (aa (pv 5) (aa (pv 6) af)))))) rfl rfl rfl)))))
   (aq (aK (pv 4))))),?_⟩
  refine λd hd=>?_
  have s1:aj H (L2.upd H d (FF P w d [])):=aj.upd hd
  refine⟨_,rfl,lp,rfl,⟨_,cy.of (s1 _ _ Oi)⟩,?_⟩
  refine rM (K:=K) (a:=lp) (xs:=ps.map V.ref) (λa σ H2=>∃v5 v6 kvs,σ=[some (.ref x),some (.str f),some (.str s),some (.ref lp),some (.ref d),v5,v6]/\aj H H2/\H2 d=some (FF P w d kvs)/\(∀e∈kvs,mY (Wo d H2) e.2.1 e.1)/\∀m,KS (Wo d H2) (cW T1 m f s) kvs (c8 ((placesOf f.cps.size s.cps.size).take a)))
   ⟨_,_,[],rfl,s1,ah,(λe he=>nomatch he),λm=>by rw[List.take_zero];exact .nil⟩ (λa σ H2 _ ⟨_,_,_,_,s2,_⟩=>cy.of (s2 _ _ Oi)) ?_ ?_
  ·rintro a y σ H2 hy ⟨v5,v6,kvs,rfl,s2,hd2,hk2,hst⟩
   obtain⟨pl,hpl,rfl⟩:=iU hy
   obtain⟨q,hq,hpq⟩:=GP.Paired.at pp hpl
   have hqn:=lQ.mp (cx hq)
   refine⟨p.jV,rfl,⟨_,T.yq _⟩,?_⟩
   refine IQ (K:=K) (a:=p.jV) (xs:=[V.str (a_ "p"),V.str (a_ "a"),V.str (a_ "b")]) (λb σ H3=>∃v6 kvs,σ=[some (.ref x),some (.str f),some (.str s),some (.ref lp),some (.ref d),some (.ref pl),v6]/\aj H H3/\H3 d=some (FF P w d kvs)/\(∀e∈kvs,mY (Wo d H3) e.2.1 e.1)/\∀m,KS (Wo d H3) (cW T1 m f s) kvs (c8 ((placesOf f.cps.size s.cps.size).take a)++st3 q b))
    ⟨_,kvs,rfl,s2,hd2,hk2,λm=>by show KS _ _ _ (_++[]);rw[ib];exact hst m⟩ (λb σ H3 _ _=>T.yq _) ?_ ?_
   ·rintro b y σ H3 hy ⟨v6,kvs,rfl,s3,Kq,Ym,hst⟩
    obtain⟨c,hc,rfl⟩:=Ur hy
    refine⟨_,rfl,_,rfl,_,rfl,_,rfl,_,rfl,x,pl,T1,f,s,q.1,q.2,c,rfl,hP.same s3,of,os,hf,hs,s3 _ _ hpq,λl H4 s4 hl hsl=>?_⟩
    refine⟨_,rfl,_,rfl,_,rfl,aw,λq1 hq1=>?_⟩
    have Nh:=s4 _ _ Kq
    have nq:q1≠d:=λz=>by rw[z,Nh]at hq1;cases hq1
    have nl:l≠d:=λz=>by rw[z,Kq]at hl;cases hl
    have kq:mY (L2.upd H4 q1 (.tup [.ref pl,.str ⟨#[c]⟩])) q1 (kY (q.1,q.2,c)):=⟨pl,ah,by rw[au (aN (s4 _ _ (s3 _ _ hpq)) hq1)];exact s4 _ _ (s3 _ _ hpq)⟩
    have sw:aj (Wo d H3) (L2.upd H4 q1 (.tup [.ref pl,.str ⟨#[c]⟩])):=λb u h=>aj.upd hq1 b u (s4 b u (Wo.sub b u h))
    have hno:=Qp (hst f) (SQ pw hq hc)
    have hal:a<(placesOf f.cps.size s.cps.size).length:=(bd.mp hq).1
    have hlen:kvs.length<bt:=by
     have z:=SR (q:=q) (b:=b) hal
     rw[←Paired.len (hst f),places_len]at z
     exact MY hf hs z
    refine⟨d,kvs,_,q1,rfl,rfl,⟨by rw[au (Ne.symm nq)];exact Nh,λe he=>mY.same (Ym e he) sw⟩,kq,hlen,?_⟩
    rw[My hno]
    have sw2:aj (Wo d H3) (Wo d (L2.upd (L2.upd H4 q1 (.tup [.ref pl,.str ⟨#[c]⟩])) d (FF P w d (kvs++[(kY (q.1,q.2,c),q1,.ref l)])))):=λb u h=>Wo.in (Wo.ne h) (by rw[au (Wo.ne h)];exact sw b u h)
    refine⟨_,_,rfl,?_,ah,λe he=>?_,λm=>?_⟩
    ·exact aj.at ((s3.trans s4).trans (aj.upd hq1)) hd
    ·rcases e_.mp he with he|he
     ·exact mY.same (Ym e he) sw2
     ·rw[cq.mp he]
      obtain⟨pl',k1,k2⟩:=kq
      exact⟨pl',Wo.in nq (by rw[au nq];exact k1),Wo.in (λz=>by rw[z,au (Ne.symm nq),Nh]at k2;cases k2) (by rw[au (λz=>by rw[z,au (Ne.symm nq),Nh]at k2;cases k2)];exact k2)⟩
    ·rw[LG hc,←nz]
     refine GP.Paired.snoc ((hst m).same sw2) ⟨rfl,l,rfl,(hsl m).da.same λb u h=>?_⟩
     have h':H4 b=some u:=by
      unfold um at h
      split at h
      ·next e=>cases h;exact e
      ·next e=>cases h;exact e
      ·cases h
     have nb:b≠d:=λz=>by
      rw[z,Nh]at h'
      unfold um at h
      rw[z,Nh]at h
      cases h
     exact Wo.in nb (by rw[au nb];exact aj.upd hq1 _ _ h')
   ·rintro σ H3 ⟨v6,kvs,rfl,s3,Kq,Ym,hst⟩
    exact⟨_,_,kvs,rfl,s3,Kq,Ym,λm=>by rw[DK hq];exact hst m⟩
  ·rintro σ H2 ⟨v5,v6,kvs,rfl,s2,hd2,hk2,hst⟩
   refine⟨_,rfl,kk d kvs H2 s2 hd ⟨hd2,λe he=>mY.same (hk2 e he) Wo.sub⟩ λm=>?_⟩
   have z:=(hst m).same Wo.sub
   rw[bc,Paired.len pp,u_]at z
   exact z
theorem Em {lZ nV:a5}{j6 lT:dv}{p:Pm}(T:Txt K mg p w base)(i0:Dn K mg "all_ends" qj V8 lZ j6)(kB:Dn K mg "may_end" sj Wc nV lT)(K3:aE P w K mg base bS 1 nV lT Wc (LR K)):aE P w K mg base bS 2 lZ j6 V8 Ia:=by
 refine i0.fn.kG rj (λvs H Q E h=>?_) (λ_ _ _ _ H vs Q E hr h=>?_)
 ·obtain⟨lp,f,s,m,rfl,_⟩:=h
  rfl
 ·obtain⟨lp,f,s,m,rfl,hf,hs,⟨ps,Oi,pp⟩,kk⟩:=h
  intro X
  refine⟨_,(ai (ag 4 rj.nd Ed)
   (ai (cZ eI rfl (ql (pv 2)) (al 5 rj.nd) (aq (sE (iM hr) (pv 4) (pv 5) (ae K3 hr kB (aa (pv 3) (aa (pv 0) (aa (pv 1) (aa (pv 5) af))))) rfl)))
   (aq (aK (pv 4))))),?_⟩
  refine λd hd=>?_
  have s1:aj H (L2.upd H d (.dT [])):=aj.upd hd
  refine⟨_,rfl,lp,rfl,⟨_,cy.of (s1 _ _ Oi)⟩,?_⟩
  refine rM (K:=K) (a:=lp) (xs:=ps.map V.ref) (λa σ H2=>∃v5 kvs,σ=[some (.str f),some (.str s),some (.ref lp),some (.str m),some (.ref d),v5]/\aj H H2/\H2 d=some (.dT kvs)/\kvs.length<=a/\∀q∈(placesOf f.cps.size s.cps.size).take a,iO kvs [.inl (q.1:Int),.inl (q.2:Int)]=some (.bl (Ew m f s (q.1,q.2))))
   ⟨_,[],rfl,s1,ah,a7 _,λq hq=>by rw[List.take_zero]at hq;exact nomatch hq⟩ (λa σ H2 _ ⟨_,_,_,s2,_⟩=>cy.of (s2 _ _ Oi)) ?_ ?_
  ·rintro a y σ H2 hy ⟨v5,kvs,rfl,s2,hd2,hk2,hst⟩
   obtain⟨pl,hpl,rfl⟩:=iU hy
   obtain⟨q,hq,hpq⟩:=GP.Paired.at pp hpl
   have hal:=(bd.mp hq).1
   rw[places_len]at hal
   refine⟨_,rfl,_,rfl,_,rfl,_,rfl,m,f,s,pl,((q.1:Int),(q.2:Int)),rfl,cE.of (s2 _ _ hpq),by omega,by omega,?_⟩
   refine⟨_,rfl,_,rfl,d,_,rfl,xH.t (k:=[.inl (q.1:Int),.inl (q.2:Int)]) hd2 (s2 _ _ hpq) (MY hf hs (by omega)),?_⟩
   refine⟨_,_,rfl,aj.at s2 hd,ah,bj (fM _ _ _) (i5 hk2),λr hr=>?_⟩
   rw[take_snoc hq]at hr
   rw[pK]
   by_cases e:r=q
   ·rw[if_pos (by rw[e]),e]
   ·rw[if_neg (λz=>e ?_)]
    ·rcases e_.mp hr with hr|hr
     ·exact hst r hr
     ·exact absurd (cq.mp hr) e
    ·have z1:=(wq z).1
     have z2:=(wq (wq z).2).1
     have e1:(r.1:Int)=q.1:=Sum.inl.inj z1
     have e2:(r.2:Int)=q.2:=Sum.inl.inj z2
     exact Prod.ext (by omega) (by omega)
  ·rintro σ H2 ⟨v5,kvs,rfl,s2,hd2,hk2,hst⟩
   refine⟨_,rfl,kk d kvs H2 s2 hd hd2 λT1 i j hi hj=>?_⟩
   rw[bc,Paired.len pp,u_]at hst
   exact hst (i,j) (lQ.mpr ⟨hi,hj⟩)
theorem tX {bz cC gD jy kr j9 lZ:a5}{eZ bQ fF iB jk jb j6:dv}{p:Pm}(T:Txt K mg p w base)(dO:Dm K "__init__" "Ground.__init__" bY UG bz eZ)(bA:Dn K mg "check_rows" i7 Pk cC bQ)(lG:aE P w K mg base (vt P w) 4 cC bQ Pk (xN K p.ao p.aH))(dF:Dn K mg "check_manner" kX ["manner"] gD fF)(zN:aE P w K mg base (vt P w) 1 gD fF ["manner"] (qY p.bV))(fV:Dn K mg "all_places" nK Wb jy iB)(Di:aE P w K mg base bS 1 jy iB Wb Qq)(gQ:Dn K mg "all_steps" oY V9 kr jk)(FD:aE P w K mg base bS 5 kr jk V9 (L4 P w K p.ao))(gH:Dn K mg "may_begin" oQ Wd j9 jb)(Fv:aE P w K mg base bS 1 j9 jb Wd (LS K))(i0:Dn K mg "all_ends" qj V8 lZ j6)(HE:aE P w K mg base bS 2 lZ j6 V8 Ia):aE P w K mg base (vt P w) 6 bz eZ UG (DS P w K p.ao p.aR p.aH p.bV):=by
 refine dO.fn.Gv n9 (λvs H Q E h=>?_) (λ_ _ _ _ H vs Q E hr h=>?_)
 ·obtain⟨x,dx,pr,T1,f,s,m,rfl,_⟩:=h
  rfl
 ·obtain⟨x,dx,pr,T1,f,s,m,rfl,hx,hP,hf,hs,kk,kS,kM⟩:=h
  intro X
  refine⟨_,(ai (bK (az lG (hr.mono (by decide)) rfl bA.m bA.fn.kp bA.b .nil (Lets.passes qu) (aa (pv 1) (aa (iS (aa (pv 2) (aa (pv 3) af))) af))))
   (ai (bK (az zN (hr.mono (by decide)) rfl dF.m dF.fn.kp dF.b .nil (Lets.passes qu) (aa (pv 4) af)))
   (ai (ag 5 n9.nd (ae Di hr fV (aa (pv 2) (aa (pv 3) af))))
   (ai (m7 (pv 0) (ae FD hr gQ (aa (pv 1) (aa (pv 2) (aa (pv 3) (aa (pv 5) af))))) rfl)
   (ai (m7 (pv 0) (Ef (N:=["place","manner"]) rfl (c6.uS (nt:=1) (ix:=[4]) rfl (by decide +kernel) (by decide +kernel) (by kernel_rfl) rfl (by kernel_rfl)) (ql (pv 5)) (λ_ _ _ _ _ _ _=>(aM (i:=0) (show(["place","manner"]:List bp).Nodup by decide +kernel) rfl (Or.inl rfl))) (λ_ _ _ _ _ _ _=>(pv 0)) (λ_ _ _ _ _ _ _=>(oj (ae Fv hr gH (aa (pv 1) (aa (pv 0) af)))))) rfl)
   (aq (m7 (pv 0) (ae HE hr i0 (aa (pv 2) (aa (pv 3) (aa (pv 5) (aa (pv 4) af))))) rfl))))))),?_⟩
  refine⟨_,rfl,_,rfl,_,rfl,aw,λl hl=>?_⟩
  refine⟨pr,l,T1.1,T1.2.1,T1.2.2.1,T1.2.2.2,f,s,rfl,hP.same (aj.upd hl),ah,by omega,by omega,λof os H1 s1=>?_,λi j bad dx H1 s1 hd=>kS i j bad dx H1 ((aj.upd hl).trans s1) hd⟩
  have Oc:=(aj.upd (o:=.lst [.str f,.str s]) hl).trans s1
  refine⟨_,rfl,m,rfl,λhm=>?_,λhm=>⟨(kM of os hm).1,(kM of os hm).2 H1 Oc⟩⟩
  obtain⟨uP,vU,kk⟩:=kk of os hm
  refine⟨_,rfl,_,rfl,f,s,rfl,uP,vU,λlp H2 s2 Oi hpl=>?_⟩
  have Ih:=Oc.trans s2
  refine⟨_,rfl,_,rfl,_,rfl,_,rfl,pr,lp,T1,f,s,rfl,hP.same Ih,of,os,uP,vU,hpl,λd kvs H3 s3 hd hnd hst=>?_⟩
  have Jx:=Ih.trans s3
  have hx3:=Jx _ _ hx
  refine⟨_,rfl,x,_,dx,[],rfl,hx3,T.jz,T.k8,by show 0<1000;decide,?_⟩
  have d3:=Dat.set (fs':=aG "steps" (.ref d) []) hx3
  have WG:=(hpl.same s3).da.same (um.dat d3)
  obtain⟨ps,hps,pp⟩:=id WG
  have hlen:=Paired.len pp
  rw[places_len]at hlen
  refine⟨_,rfl,lp,rfl,⟨_,cy.of hps⟩,λlB hlB=>?_⟩
  have at_:∀i,i<ps.length->ps[i]? =some (ps.getD i 0)/\HA (L2.upd H3 x (.ins p.aR dx (aG "steps" (.ref d) []))) (ps.getD i 0) ((placesOf f.cps.size s.cps.size).getD i (0,0)):=λi hi=>by
   have e:ps[i]? =some (ps.getD i 0):=by rw[cf,a6 hi];rfl
   obtain⟨q,hq,hpq⟩:=GP.Paired.at pp e
   refine⟨e,?_⟩
   rw[cf (l:=placesOf _ _),hq]
   exact hpq
  refine I0 ps.length (λi=>Cj m (((placesOf f.cps.size s.cps.size).getD i (0,0)).1,((placesOf f.cps.size s.cps.size).getD i (0,0)).2)) (λi=>.ref (ps.getD i 0)) hlB (MY uP vU (by omega)) (λi H4 s4 hi=>?_) (λH4 s4=>?_) (λi y H4 H5 R S s4 hi hy hR hS=>?_) λH4 s4 T9=>?_
  ·exact⟨_,_,cy.of (s4 _ _ hps),by rw[eC,(at_ i hi).1];rfl⟩
  ·exact⟨_,cy.of (s4 _ _ hps),by rw[bc];exact a7 _⟩
  ·obtain⟨rfl,hy⟩:=hy
   have ey:=hy _ (cy.of (s4 _ _ hps))
   rw[eC,(at_ i hi).1]at ey
   cases ey
   refine⟨Kp.Jv,_,rfl,_,rfl,m,_,((((placesOf f.cps.size s.cps.size).getD i (0,0)).1:Int),(((placesOf f.cps.size s.cps.size).getD i (0,0)).2:Int)),rfl,cE.of (s4 _ _ (at_ i hi).2),_,rfl,?_⟩
   cases z:Cj m (((placesOf f.cps.size s.cps.size).getD i (0,0)).1,((placesOf f.cps.size s.cps.size).getD i (0,0)).2)with
   |true=>exact qw ⟨_,rfl,hR z _ (aj.refl _)⟩
   |false=>exact lJ (hS z _ (aj.refl _))
  have WB:=s4 _ _ (ah (H:=H3) (a:=x) (o:=.ins p.aR dx (aG "steps" (.ref d) [])))
  refine⟨_,rfl,x,_,dx,_,rfl,WB,T.jz,T.qM,by show 1<1000;decide,?_⟩
  have d4:=Dat.set (fs':=aG "begins" (.ref lB) (aG "steps" (.ref d) [])) WB
  have abl:Lf H4 lp (placesOf f.cps.size s.cps.size):=WG.same s4
  have abk:=abl.da.same (um.dat d4)
  refine⟨_,rfl,_,rfl,_,rfl,_,rfl,lp,f,s,m,rfl,uP,vU,abk,λdE kE H6 s6 hdE hE6 hE=>?_⟩
  have QO:=s6 _ _ (ah (H:=H4) (a:=x) (o:=.ins p.aR dx (aG "begins" (.ref lB) (aG "steps" (.ref d) []))))
  refine⟨_,rfl,x,_,dx,_,rfl,QO,T.jz,T.pC,by show 2<1000;decide,?_⟩
  have d6:=Dat.set (fs':=aG "ends" (.ref dE) (aG "begins" (.ref lB) (aG "steps" (.ref d) []))) QO
  have dd:Dat H3 (L2.upd H6 x (.ins p.aR dx (aG "ends" (.ref dE) (aG "begins" (.ref lB) (aG "steps" (.ref d) []))))):=(((d3.trans (Dat.of s4)).trans d4).trans (Dat.of s6)).trans d6
  have de:Dat H4 (L2.upd H6 x (.ins p.aR dx (aG "ends" (.ref dE) (aG "begins" (.ref lB) (aG "steps" (.ref d) []))))):=(d4.trans (Dat.of s6)).trans d6
  refine kk _ (λb u nb hb=>?_) ⟨dx,d,lB,dE,kvs,kE,ah,ND.dat hnd dd,(hst m).da.same (um.dat dd),?_,d6 _ _ (λ_ _ _ z=>by cases z) hE6,hE T1⟩
  ·rw[au nb]
   refine s6 _ _ ?_
   rw[au nb]
   refine s4 _ _ ?_
   rw[au nb]
   exact Jx _ _ hb
  ·refine⟨((fe ps.length).filter λi=>Cj m (((placesOf f.cps.size s.cps.size).getD i (0,0)).1,((placesOf f.cps.size s.cps.size).getD i (0,0)).2)).map λi=>ps.getD i 0,?_,?_⟩
   ·rw[n0]
    exact de _ _ (λ_ _ _ z=>by cases z) T9
   ·unfold KR
    rw[←IS (placesOf f.cps.size s.cps.size) (0,0),places_len,←hlen]
    refine wz λi hi=>?_
    have hi':=o0.mp (kd.mp hi).1
    exact de _ _ (λ_ _ _ z=>by cases z) (s4 _ _ (at_ i hi').2)
end
section
variable{P:bn}{w:df}{K:PySem.W.Frag}{mg:bp->Option a9}{base:eJ}
theorem yw {iC:a5}{gk:dv}{p:Pm}(T:Txt K mg p w base)(d8:Dn K mg "least_rests" mG ["ground"] iC gk)  :aE P w K mg base bS 1 iC gk ["ground"] (LN P w p.aR):=by
 refine d8.fn.kG kJ (λvs H Q E h=>?_) (λ_ _ _ _ H vs Q E hr h=>?_)
 ·obtain⟨x,g,bs,rfl,_⟩:=h
  rfl
 ·obtain⟨x,g,bs,rfl,hG,ok,hn,hm,kk⟩:=h
  obtain⟨dx,dS,lB,dE,kS,kE,hx,hS,hst,hB,hE,WY⟩:=id hG
  have hN:kS.length=g.states.length:=Paired.len hst
  have hN3:g.states.length=3*((g.n+1)*(g.m+1)):=by unfold Gd.states;rw[ye,places_len]
  intro X
  refine⟨_,(ai (aA (i:=1) kJ.nd rfl (Or.inr rfl) (Iq (Pr:=P) (wo:=w) rfl rfl))
   (ai (cZ eI rfl (S3 rfl T.FN (aa (sG (CB (Pr:=P) (wo:=w) rfl rfl rfl) rfl T.xV uZ (aa (dP (pv 0) rfl) af)) af)) (al 2 kJ.nd) (ai (tS (i:=3) (N:=l52) kJ.nd rfl (Or.inl rfl) rfl (c6.uS (nt:=2) (ix:=[1]) rfl (by decide +kernel) (by decide +kernel) (by kernel_rfl) rfl (by kernel_rfl)) (ql (uA (Pr:=P) (wo:=w) (tY hr) (dP (pv 0) rfl) (pv 2) (λ_ _=>rfl) rfl rfl)) (λ_ _ _ _ _ _ _=>(Ip (K':=K) (n:=2) rfl rfl (bU (aM (i:=0) (show(l52:List bp).Nodup by decide +kernel) rfl (Or.inl rfl)) (bU (aM (i:=1) (show(l52:List bp).Nodup by decide +kernel) rfl (Or.inl rfl)) mR)))) (λ_ _ _ _ _ _ _=>(aD cH (pv 1) (uA (Pr:=P) (wo:=w) (tY hr) (pv 2) (pv 0) (λ_ _=>rfl) rfl rfl))))
   (bN (bZ (oj (gU (iM hr) (dP (pv 0) rfl) (aJ aO (pv 2) ak (λ_ _=>rfl)) (λ_ _=>rfl))) (aq (bK (jJ PySem.F.plainAttrs_list PySem.F.slot_list_append PySem.F.type_list_append b8 (pv 3) (aa ak af)))) aW)
   (aq (Ik (Pr:=P) (wo:=w) (tY hr) (pv 1) (pv 2) (aB (KJ rfl) rfl T.HL CH (aa (pv 3) af)) rfl rfl rfl)))))
   (aq (aK (pv 1))))),?_⟩
  refine λd hd=>?_
  have s1:aj H (L2.upd H d (FF P w d [])):=aj.upd hd
  refine⟨_,rfl,x,_,dx,_,_,rfl,s1 _ _ hx,T.jz,T.k8,vV,dS,kS,rfl,ND.same hS s1,λl hl=>?_⟩
  have s2:=s1.trans (aj.upd (o:=.lst (kS.map λe=>.ref e.2.1)) hl)
  have Tf:l≠d:=λz=>by rw[z,ah]at hl;cases hl
  refine⟨l,_,rfl,cy.of ah,?_⟩
  refine PX (K:=K) (a:=l) (xs:=kS.map λe=>V.ref e.2.1) (λk σ H2=>∃v2 v3 kvs,σ=[some (.ref x),some (.ref d),v2,v3]/\aj H H2/\H2 l=some (.lst (kS.map λe=>V.ref e.2.1))/\H2 d=some (FF P w d kvs)/\kvs.length<=k/\(∀e∈kvs,mY (Wo d H2) e.2.1 e.1)/\∀s∈g.states.drop (g.states.length-k),lH kvs (kY s)=some (.int (g.rest s)))
   ⟨_,_,[],rfl,s2,ah,by rw[au (Ne.symm Tf),ah],a7 _,(λe he=>nomatch he),λs hs=>by rw[Nat.sub_zero,List.drop_length]at hs;exact nomatch hs⟩ (λk σ H2 _ ⟨_,_,_,_,_,h2,_⟩=>cy.of h2) ?_ ?_
  ·rintro k y σ H2 hk hy ⟨v2,v3,kvs,rfl,s2,hl2,hd2,hlen,hkey,hval⟩
   rw[bc,hN]at hk
   rw[bc,hN]at hy
   obtain⟨e,he,rfl⟩:=iU hy
   obtain⟨s,hs,hek,l',hel,hsl⟩:=GP.Paired.at hst he
   have hin:=Gd.gW.mp (cx hs)
   have hke:mY H e.2.1 (kY s):=by rw[←hek];exact hS.keys e (cx he)
   obtain⟨l'',hnv,WC⟩:=BI hst (Gd.gW.mpr hin)
   obtain⟨ps,hps,pp⟩:=WC
   have hpl:=Paired.len pp
   refine⟨_,rfl,x,_,dx,_,_,rfl,s2 _ _ hx,T.jz,T.k8,vV,_,rfl,dS,kS,kY s,e.2.1,.ref l'',rfl,rfl,ND.same hS s2,mY.same hke s2,hnv,l'',rfl,⟨_,cy.of (s2 _ _ hps)⟩,λlc Le=>?_⟩
   have abg:(g.steps s).length<=3:=by unfold Gd.steps;split<;>split<;>split<;>simp
   refine Cy ps.length (λi=>.int (g.key ((g.steps s).getD i (s,0)))) Le (bv (show ps.length<=3 by omega) (by decide)) (λi H3 s3 hi=>?_) (λH3 s3=>?_) (λi y H3 H4 R s3 hi hy hR=>?_) λH3 s3 hl3=>?_
   ·exact⟨_,_,cy.of (s3 _ _ (s2 _ _ hps)),by rw[eC,a6 hi];rfl⟩
   ·exact⟨_,cy.of (s3 _ _ (s2 _ _ hps)),by rw[bc];exact a7 _⟩
   ·obtain⟨rfl,hy⟩:=hy
    have ey:=hy _ (cy.of (s3 _ _ (s2 _ _ hps)))
    rw[eC,a6 hi]at ey
    cases ey
    obtain⟨t,ht,q,hq1,hq2⟩:=GP.Paired.at pp (a6 hi)
    have et:(g.steps s).getD i (s,0)=t:=by rw[cf,ht];rfl
    rw[et]at hR
    have hb:=Gd.DJ hs (cx ht)
    rw[show g.states.length-1-k+1=g.states.length-k by omega]at hb
    refine⟨_,_,rfl,cE.of (s3 _ _ (s2 _ _ hq1)),rfl,_,_,rfl,_,_,rfl,rfl,Kp2,?_⟩
    exact⟨_,rfl,_,rfl,_,rfl,d,kvs,kY t.1,q,_,rfl,rfl,⟨s3 _ _ hd2,λe he=>mY.same (mY.same (hkey e he) Wo.sub) s3⟩,mY.same (mY.same hq2 s2) s3,hval t.1 hb,_,_,rfl,rfl,hR _ (aj.refl _)⟩
   have hls:(fe ps.length).map (λi=>V.int (g.key ((g.steps s).getD i (s,0))))=((g.steps s).map g.key).map V.int:=by
    rw[n0,hpl]
    refine List.ext_getElem (by simp) λi h1 h2=>?_
    simp only[List.getElem_map,List.getElem_range,Function.comp_apply]
    rw[cf,a6 (by simpa using h2)]
    rfl
   rw[hls]at hl3
   have Jx:=s2.trans s3
   have hcn:H2 lc=none:=Le
   have ncd:lc≠d:=λz=>by rw[z,hd2]at hcn;cases hcn
   have ncl:lc≠l:=λz=>by rw[z,hl2]at hcn;cases hcn
   obtain⟨pk,hk1,hk2⟩:=hke
   refine⟨λσ H'=>σ=[some (.ref x),some (.ref d),some (.ref e.2.1),some (.ref lc)]/\aj H2 H'/\H' lc=some (.lst ((g.costs g.rest s).map V.int)),?_,?_⟩
   ·refine⟨_,rfl,x,_,dx,_,_,rfl,Jx _ _ hx,T.jz,T.pC,EE,_,rfl,e.2.1,_,_,_,rfl,rfl,cE.of (Jx _ _ hk1),rfl,dE,.bl (g.en s.1 s.2.1),rfl,?_,_,rfl,?_⟩
    ·rw[←WY s.1 s.2.1 hin.1 hin.2.1]
     exact pI.t (Jx _ _ hE) (Jx _ _ hk2)
    ·unfold Gd.costs
     cases z:g.en s.1 s.2.1 with
     |true =>
      refine qw ⟨_,rfl,.inl ⟨rfl,_,cy.of hl3⟩,lc,_,_,rfl,rfl,hl3,by rw[bc,bc];exact bv abg (by decide),rfl,aj.at s3 hcn,?_⟩
      rw[ah,if_pos rfl,dC]
      rfl
     |false=>exact lJ ⟨rfl,s3,by rw[if_neg cw,ib];exact hl3⟩
   rintro σ H4 ⟨rfl,s4,T9⟩
   refine⟨_,rfl,lc,_,rfl,cy.of T9,Gd.EX ok hin,_,rfl,_,rfl,d,kvs,kY s,e.2.1,rfl,rfl,⟨s4 _ _ hd2,λe he=>mY.same (mY.same (hkey e he) Wo.sub) s4⟩,⟨pk,s4 _ _ (s2 _ _ hk1),s4 _ _ (s2 _ _ hk2)⟩,MY hn hm (by omega),?_⟩
   rw[←g.rest_eq]
   have sw:aj (Wo d H2) (Wo d (L2.upd H4 d (FF P w d (uH kvs (kY s) e.2.1 (.int (g.rest s)))))):=λb u h=>Wo.in (Wo.ne h) (by rw[au (Wo.ne h)];exact s4 _ _ (Wo.sub b u h))
   have Yc:∀{b:a5} {xs:List V},H2 b=some (.tup xs)->b≠d:=λ{b xs} h z=>by rw[z,hd2]at h;cases h
   refine⟨_,_,_,rfl,aj.at (s2.trans s4) hd,by rw[au Tf];exact s4 _ _ hl2,ah,bj (Eo _ _ _ _) (i5 hlen),JL (λe he=>mY.same (hkey e he) sw) (mY.same ⟨pk,Wo.in (Yc (s2 _ _ hk1)) (s2 _ _ hk1),Wo.in (Yc (s2 _ _ hk2)) (s2 _ _ hk2)⟩ sw),λr hr=>?_⟩
   rw[Mx]
   rw[show g.states.length-(k+1)=g.states.length-1-k by omega,ot (by omega)]at hr
   rw[(bd.mp hs).2]at hr
   by_cases er:kY r=kY s
   ·rw[if_pos er,yo er]
   ·rw[if_neg er]
    rcases c_.mp hr with hr|hr
    ·exact absurd (by rw[hr]) er
    ·exact hval r (by rw[show g.states.length-k=g.states.length-1-k+1 by omega];exact hr)
  ·rintro σ H2 ⟨v2,v3,kvs,rfl,s2,hl2,hd2,hlen,hkey,hval⟩
   rw[bc,hN,xf,List.drop_zero]at hval
   exact⟨_,rfl,kk d kvs H2 s2 hd ⟨hd2,λe he=>mY.same (hkey e he) Wo.sub⟩ λs hs=>hval s (Gd.gW.mpr hs)⟩
theorem Aa {ju:a5}{iz:dv}{p:Pm}(T:Txt K mg p w base)(fT:Dn K mg "ends_there" nH Og ju iz)  :aE P w K mg base bS 1 ju iz Og (HU P w p.aR):=by
 refine fT.fn.kG zU (λvs H Q E h=>?_) (λ_ _ _ _ H vs Q E hr h=>?_)
 ·obtain⟨x,d,q,g,bs,kvs,s,rfl,_⟩:=h
  rfl
 ·obtain⟨x,d,q,g,bs,kvs,s,rfl,⟨hG,hd,hR⟩,hq,hin,kk⟩:=h
  obtain⟨dx,dS,lB,dE,kS,kE,hx,hS,hst,hB,hE,WY⟩:=id hG
  obtain⟨pk,hk1,hk2⟩:=id hq
  intro X
  refine⟨_,(aq (aK (oq (gU (iM hr) (dP (pv 0) rfl) (aJ aO (pv 2) ak (λ_ _=>rfl)) (λ_ _=>rfl)) (qo (iL fL (uA (Pr:=P) (wo:=w) (tY hr) (pv 1) (pv 2) (λ_ _=>rfl) rfl rfl) ak (bq _)))))),?_⟩
  refine⟨_,rfl,x,_,dx,_,_,rfl,hx,T.jz,T.pC,EE,_,rfl,q,_,_,_,rfl,rfl,cE.of hk1,rfl,dE,.bl (g.en s.1 s.2.1),rfl,?_,_,rfl,?_⟩
  ·rw[←WY s.1 s.2.1 hin.1 hin.2.1]
   exact pI.t hE hk2
  ·unfold Gd.stop at kk
   cases z:g.en s.1 s.2.1 with
   |true =>
    rw[z,BT]at kk
    refine qw ⟨_,rfl,_,rfl,d,kvs,kY s,q,_,rfl,rfl,hd,hq,hR s hin,rfl,?_⟩
    rw[nN]
    exact kk
   |false =>
    rw[z,t_]at kk
    exact lJ kk
theorem yC {iF:a5}{gq:dv}{p:Pm}(T:Txt K mg p w base)(c7:Dn K mg "first_begin" mK V7 iF gq)  :aE P w K mg base bS 1 iF gq V7 (DT P w p.aR (A8 K)):=by
 refine c7.fn.okL T.yN (T.yM _ c7.m) yk (λvs H Q E h=>?_) (λcdv A outer s H vs Q E hC hr h=>?_)
 ·obtain⟨x,d,g,bs,kvs,rfl,_⟩:=h
  rfl
 ·obtain⟨x,d,g,bs,kvs,rfl,⟨hG,hd,hR⟩,hT,hne,Ys,kk⟩:=h
  obtain⟨dx,dS,lB,dE,kS,kE,hx,hS,hst,⟨ps,hps,pp⟩,hE,WY⟩:=id hG
  have hlen:=Paired.len pp
  have at_:∀(i:Nat) (v:V),(ps.map V.ref)[i]? =some v->∃pl b,v= .ref pl/\bs[i]? =some b/\HA H pl b:=λi v hv=>by
   obtain⟨pl,hpl,rfl⟩:=iU hv
   obtain⟨b,hb,Nb⟩:=GP.Paired.at pp hpl
   exact⟨pl,b,rfl,hb,Nb⟩
  refine⟨_,(aq (aK (Ir (Pr:=P) (wo:=w) (P:=eW K "first_begin") (ir:=1) (Ph ⟨λ_ _ _ _ _ _=>rfl,rfl,rfl,by decide +kernel,rfl,rfl,rfl,by decide,by decide,by decide⟩) Pw rfl rfl hC T.bm rfl (BS hr) (IK hr) rfl T.HL CH rfl rfl (aa (dP (pv 0) rfl) af) rfl rfl rfl))),?_⟩
  refine⟨_,rfl,x,_,dx,_,_,rfl,hx,T.jz,T.qM,G1,lB,_,.ref d,λi=>g.Hs (bs.getD i (0,0)),rfl,rfl,cy.of hps,?_,λi v hv=>?_,hT.a,λH2 ap e t i v hv hL=>?_⟩
  ·rw[bc,hlen]
   exact xl.mpr hne
  ·obtain⟨pl,b,rfl,hb,Nb⟩:=at_ i v hv
   have hb':=Ys b (cx hb)
   refine⟨pl,d,kvs,b.1,b.2,rfl,Nb,rfl,hd,?_⟩
   have z:=hR (b.1,b.2,112) ⟨hb'.1,hb'.2,.inl rfl⟩
   have e:bs.getD i (0,0)=b:=by rw[cf,hb];rfl
   dsimp only
   rw[e,sP]
   exact z
  ·obtain⟨pl,b,rfl,hb,Nb⟩:=at_ i v hv
   have lo:=Lo.one (P:=P) (w:=w) (L:=A8 K) hT ap e t
   refine kk pl b H2 lo (xR hb λj y hy=>?_) (lo.tup Nb)
   have z:=hL j (by rw[bc,hlen];exact(bd.mp hy).1)
   dsimp only at z
   rw[cf,cf,hb,hy]at z
   exact z
theorem wY {gA:a5}{fC:dv}{p:Pm}(T:Txt K mg p w base)(cO:Dn K mg "state_behind" kT Og gA fC)  :aE P w K mg base bS 1 gA fC Og (LZ P w p.aR (A8 K)):=by
 refine cO.fn.okL T.xq (T.xm _ cO.m) wQ (λvs H Q E h=>?_) (λcdv A outer s H vs Q E hC hr h=>?_)
 ·obtain⟨x,d,q,g,bs,kvs,s,rfl,_⟩:=h
  rfl
 ·obtain⟨x,d,q,g,bs,kvs,s,rfl,⟨hG,hd,hR⟩,hq,hin,hne,hT,kk⟩:=h
  obtain⟨dx,dS,lB,dE,kS,kE,hx,hS,hst,hB,hE,WY⟩:=id hG
  obtain⟨l,hnv,ps,hps,pp⟩:=BI hst (Gd.gW.mpr hin)
  have hlen:=Paired.len pp
  have at_:∀(i:Nat) (v:V),(ps.map V.ref)[i]? =some v->∃pl t,v= .ref pl/\(g.steps s)[i]? =some t/\Qe H pl t:=λi v hv=>by
   obtain⟨pl,hpl,rfl⟩:=iU hv
   obtain⟨b,hb,Nb⟩:=GP.Paired.at pp hpl
   exact⟨pl,b,rfl,hb,Nb⟩
  refine⟨_,(aq (aK (aJ aO (Ir (Pr:=P) (wo:=w) (P:=eW K "state_behind") (ir:=1) (Pg ⟨λ_ _ _ _ _ _=>rfl,rfl,rfl,by decide +kernel,rfl,rfl,rfl,by decide,by decide,by decide⟩) Pu rfl rfl hC T.bm rfl (BS hr) (IK hr) rfl T.HL CH rfl rfl (aa (uA (Pr:=P) (wo:=w) (tY hr) (dP (pv 0) rfl) (pv 2) (λ_ _=>rfl) rfl rfl) af) rfl rfl rfl) ak (λ_ _=>rfl)))),?_⟩
  refine⟨_,rfl,x,_,dx,_,_,rfl,hx,T.jz,T.k8,vV,_,rfl,dS,kS,kY s,q,.ref l,rfl,rfl,hS,hq,hnv,l,_,.ref d,λi=>g.key ((g.steps s).getD i (s,0)),rfl,rfl,cy.of hps,?_,λi v hv=>?_,hT.b,λH2 ap e t i v hv hL=>?_⟩
  ·rw[bc,hlen]
   exact xl.mpr hne
  ·obtain⟨pl,t,rfl,ht,q',h1,h2⟩:=at_ i v hv
   refine⟨pl,d,q',kvs,kY t.1,t.2,g.rest t.1,rfl,h1,h2,rfl,hd,hR t.1 (Gd.mq (cx ht) hin),?_⟩
   show g.key _=_
   rw[cf,ht]
   rfl
  ·obtain⟨pl,u,rfl,hu,q',h1,h2⟩:=at_ i v hv
   have lo:=Lo.two (P:=P) (w:=w) (L:=A8 K) hT ap e t
   refine⟨pl,_,_,_,rfl,rfl,cE.of (lo.tup h1),rfl,kk q' u H2 lo (xR hu λj y hy=>?_) (lo.kat h2)⟩
   have z:=hL j (by rw[bc,hlen];exact(bd.mp hy).1)
   dsimp only at z
   rw[cf,cf,hu,hy]at z
   exact z
theorem yz {iE ju gA:a5}{gp iz fC:dv}{p:Pm}(T:Txt K mg p w base)(ee:Dn K mg "first_moves" mJ V6 iE gp)(fT:Dn K mg "ends_there" nH Og ju iz)(Dg:aE P w K mg base bS 1 ju iz Og (HU P w p.aR))(cO:Dn K mg "state_behind" kT Og gA fC)(zJ:aE P w K mg base bS 1 gA fC Og (LZ P w p.aR (A8 K))):aE P w K mg base bS 2 iE gp V6 (LP P w p.aR (A8 K)):=by
 refine ee.fn.kG kN (λvs H Q E h=>?_) (λ_ _ _ _ H vs Q E hr h=>?_)
 ·obtain⟨x,d,pl,g,bs,kvs,b,rfl,_⟩:=h
  rfl
 ·obtain⟨x,d,pl,g,bs,kvs,b,rfl,hG,hb,hin,ok,hn,hm,hT,kk⟩:=h
  intro X
  refine⟨_,(ai (ag 3 kN.nd (bC (aa (pv 2) (aa bJ af))))
   (ai (ag 4 kN.nd (iS af))
   (ai (yr eI (BU (oj (ae Dg hr fT (aa (pv 0) (aa (pv 1) (aa (pv 3) af)))))) (ai (ag 3 kN.nd (ae zJ hr cO (aa (pv 0) (aa (pv 1) (aa (pv 3) af)))))
   (aq (bK (jJ PySem.F.plainAttrs_list PySem.F.slot_list_append PySem.F.type_list_append b8 (pv 4) (aa (aJ aO (pv 3) ak (λ_ _=>rfl)) af))))))
   (aq (aK (jJ PySem.F.plainAttrs_str PySem.F.slot_str_join PySem.F.type_str_join IB bJ (aa (pv 4) af))))))),?_⟩
  refine⟨_,rfl,aw,λq hq=>⟨am,λl hl=>?_⟩⟩
  have s1:aj H (L2.upd H q (.tup [.ref pl,.str (a_ "p")])):=aj.upd hq
  have hln:H l=none:=aj.free s1 hl
  have X7:q≠l:=λz=>by rw[z,ah]at hl;cases hl
  have k0:mY (L2.upd (L2.upd H q (.tup [.ref pl,.str (a_ "p")])) l (.lst [])) q (kY (b.1,b.2,112)):=by
   refine⟨pl,by rw[au X7,ah,sP];rfl,?_⟩
   exact aj.upd hl _ _ (s1 _ _ hb)
  refine⟨λn σ H'=>∃(q:a5) (s:bu) (mv:List Nat),n=g.ht s/\σ=[some (.ref x),some (.ref d),some (.ref pl),some (.ref q),some (.ref l)]/\Lo P w (A8 K) H H'/\mY H' q (kY s)/\g.In s/\H' l=some (.lst (mv.map sg))/\g.moves (b.1,b.2,112)=mv++g.moves s/\mv.length+g.ht s<=g.n+g.m,
   ⟨_,q,(b.1,b.2,112),[],rfl,rfl,.of hT (s1.trans (aj.upd hl)),k0,hin,ah,rfl,by show 0+(g.n-b.1+(g.m-b.2))<=_;omega⟩,?_⟩
  rintro n σ H1 ⟨q,s,mv,rfl,rfl,lo,hk,hs,hl1,hmv,hle⟩
  refine⟨_,rfl,_,rfl,_,rfl,x,d,q,g,bs,kvs,s,rfl,lo.gR hG,hk,hs,_,rfl,?_⟩
  cases z:g.stop s with
  |true =>
   refine wF ⟨rfl,_,rfl,l,mv,rfl,rfl,cy.of hl1,by omega,?_⟩
   rw[Gd.qt z,ib]at hmv
   rw[←hmv]
   exact kk H1 lo
  |false =>
   obtain⟨t,hf,ht,hnx,_⟩:=g.go ok hs z
   refine IF ⟨λσ' H'=>∃m',m'<g.ht s/\∃(q:a5) (s:bu) (mv:List Nat),m'=g.ht s/\σ'=[some (.ref x),some (.ref d),some (.ref pl),some (.ref q),some (.ref l)]/\Lo P w (A8 K) H H'/\mY H' q (kY s)/\g.In s/\H' l=some (.lst (mv.map sg))/\g.moves (b.1,b.2,112)=mv++g.moves s/\mv.length+g.ht s<=g.n+g.m,λσ' H' h=>h,?_⟩
   refine⟨_,rfl,_,rfl,_,rfl,x,d,q,g,bs,kvs,s,rfl,lo.gR hG,hk,hs,wa ht,lo.lt,λq' t' H2 lo2 hf' hk'=>?_⟩
   obtain rfl:t=t':=dA (hf.symm.trans hf')
   have hl2:=lo2.nx _ _ (Nt.lst hl1)
   obtain⟨pk,hk1,hk2⟩:=id hk'
   have hht:=Gd.fK ht
   refine⟨_,rfl,.inl ⟨rfl,_,cy.of hl2⟩,_,rfl,q',_,_,_,rfl,rfl,cE.of hk1,rfl,l,_,_,rfl,rfl,hl2,by rw[bc];exact bv (show mv.length<=24 by omega) (by decide),g.ht t.1,hht,q',t.1,mv++[t.1.2.2],rfl,rfl,(lo.trans lo2).put hln hl2,Px hk' hl2,Gd.mq ht hs,by rw[ah,dC];rfl,?_,?_⟩
   ·rw[hmv,Gd.uK ok hs z,hnx,nz]
    rfl
   ·rw[cn]
    show mv.length+1+_<=_
    omega
theorem Ek {lX bz iC iF g6 iE:a5}{iV eZ gk gq fN gp:dv}{p:Pm}(T:Txt K mg p w base)(iY:Dn K mg "cheapest" qh V5 lX iV)(dO:Dm K "__init__" "Ground.__init__" bY UG bz eZ)(zF:Mk K p.aR bz)(vn:aE P w K mg base (vt P w) 6 bz eZ UG (DS P w K p.ao p.aR p.aH p.bV))(d8:Dn K mg "least_rests" mG ["ground"] iC gk)(Av:aE P w K mg base bS 1 iC gk ["ground"] (LN P w p.aR))(c7:Dn K mg "first_begin" mK V7 iF gq)(Ax:aE P w K mg base bS 1 iF gq V7 (DT P w p.aR (A8 K)))(c5:Dn K mg "in_units" oi Tr g6 fN)(ug:aE P w K mg base bS 2 g6 fN Tr (vE K p.ao))(ee:Dn K mg "first_moves" mJ V6 iE gp)(Aw:aE P w K mg base bS 2 iE gp V6 (LP P w p.aR (A8 K))):aE P w K mg base (vt P w) 8 lX iV V5 (Ic P w K p.ao p.aH p.bV (A8 K)):=by
 refine iY.fn.Gv oM (λvs H Q E h=>?_) (λ_ _ _ _ H vs Q E hr h=>?_)
 ·obtain⟨pr,T1,f,s,m,rfl,_⟩:=h
  rfl
 ·obtain⟨pr,T1,f,s,m,rfl,hP,hT,hf,hs,kk,kS,kM⟩:=h
  intro X
  refine⟨_,(ai (ag 4 oM.nd (Iu zF vn (hr.mono (by decide)) rfl T.JV dO.b .nil (Lets.passes qu) (aa (pv 0) (aa (pv 1) (aa (pv 2) (aa (pv 3) af))))))
   (ai (ag 5 oM.nd (ae Av hr d8 (aa (pv 4) af)))
   (ai (ag 6 oM.nd (ae Ax hr c7 (aa (pv 4) (aa (pv 5) af))))
   (aq (aK (bC (aa (ae ug hr c5 (aa (pv 0) (aa (uA (Pr:=P) (wo:=w) (tY hr) (pv 5) (bC (aa (pv 6) (aa bJ af))) (λ_ _=>rfl) rfl rfl) af))) (aa (pv 6) (aa (ae Aw hr ee (aa (pv 4) (aa (pv 5) (aa (pv 6) af)))) af))))))))),?_⟩
  refine⟨_,rfl,_,rfl,_,rfl,_,rfl,λx dx hx hdx ndx=>?_⟩
  have s1:aj H (L2.upd (L2.upd H dx (.own x)) x (.ins p.aR dx [])):=aj.at (aj.upd hdx) hx
  refine⟨x,dx,pr,T1,f,s,m,rfl,ah,hP.same s1,hf,hs,λof os hm=>?_,λi j bad dx H1 s2 hd=>kS i j bad dx H1 (s1.trans s2) hd,λof os hm=>⟨(kM of os hm).1,λH1 s2=>(kM of os hm).2 H1 (s1.trans s2)⟩⟩
  obtain⟨uP,vU,kk⟩:=kk of os hm
  refine⟨uP,vU,λH1 e1 hG=>⟨rfl,?_⟩⟩
  have Oc:aj H H1:=λb u q=>e1 b u (aN q hx) (s1 b u q)
  have ok:=rL T1 m f s
  refine⟨_,rfl,x,_,_,rfl,hG,ok,uP,vU,λd kvs H2 s2 hd hnd hR=>?_⟩
  have Ih:=Oc.trans s2
  refine⟨_,rfl,_,rfl,x,d,_,_,kvs,rfl,⟨hG.same s2,hnd,hR⟩,hT.same Ih,Jc _ _ _,λb hb=>lQ.mp (kd.mp hb).1,λpb b H3 lo3 hb Nb=>?_⟩
  have VO:=aj.lo Ih hT lo3
  have hG3:=lo3.gR ⟨hG.same s2,hnd,hR⟩
  have hbi:(cW T1 m f s).In (b.1,b.2,112):=by
   have:=lQ.mp (kd.mp (mW hb)).1
   exact⟨this.1,this.2,.inl rfl⟩
  refine⟨_,rfl,_,rfl,_,rfl,aw,λq hq=>?_⟩
  have s4:aj H3 (L2.upd H3 q (.tup [.ref pb,.str (a_ "p")])):=aj.upd hq
  refine⟨d,kvs,kY (b.1,b.2,112),q,_,rfl,rfl,ND.same hG3.2.1 s4,⟨pb,by rw[ah,sP];rfl,s4 _ _ Nb⟩,hR _ hbi,pr,_,T1.1,T1.2.1,T1.2.2.1,T1.2.2.2,rfl,(VO.pr hP).same s4,λc H5 s5 hc hc5=>?_⟩
  have Vy:=s4.trans s5
  refine⟨_,rfl,_,rfl,_,rfl,_,rfl,x,d,pb,_,_,kvs,b,rfl,hG3.same Vy,Vy _ _ Nb,hbi,ok,uP,vU,lo3.lt.same Vy,λH6 lo6=>⟨ax,λr hr=>?_⟩⟩
  have VN:=(VO.then Vy).trans lo6
  have s7:aj H6 (L2.upd H6 r _):=aj.upd (o:=.tup [.ref c,.ref pb,.str ⟨((cW T1 m f s).moves (b.1,b.2,112)).toArray⟩]) hr
  exact kk r _ (VN.then s7) (VN.dom r hr) ⟨b,c,pb,hb,ah,s7 _ _ (lo6.tup hc5),s7 _ _ (lo6.tup (Vy _ _ Nb))⟩
end
section
variable{P:bn}{w:df}{K:PySem.W.Frag}{mg:bp->Option a9}{base:eJ}
theorem Gx {nU:a5}{lS:dv}{p:Pm}(T:Txt K mg p w base)(ku:Dn K mg "rest_of" se ["way"] nU lS)  :aE P w K mg base bS 1 nU lS ["way"] Vp:=by
 refine ku.fn.kG Gf (λvs H Q E h=>?_) (λ_ _ _ _ H vs Q E hr h=>?_)
 ·obtain⟨a,n,xs,rfl,_⟩:=h
  rfl
 ·obtain⟨a,n,xs,rfl,ha,kk⟩:=h
  intro X
  refine⟨_,(aq (aK (aJ aO (pv 0) ak (λ_ _=>rfl)))),?_⟩
  exact⟨_,rfl,a,_,_,_,rfl,rfl,cE.of ha,(show E5 (V.int n::xs) ((0:Nat):Int)=some (V.int n) from dX rfl),kk⟩
theorem El {lY cD nU:a5}{j5 bR lS:dv}{p:Pm}(T:Txt K mg p w base)(iZ:Dn K mg "best_way" qi V4 lY j5)(aP:Dn K mg "alone_cost" i8 Pj cD bR)(g7:aE P w K mg base bS 3 cD bR Pj (xO K p.ao))(ku:Dn K mg "rest_of" se ["way"] nU lS)(UU:aE P w K mg base bS 1 nU lS ["way"] Vp):aE P w K mg base bS 4 lY j5 V4 (LY K p.ao):=by
 refine iZ.fn.kG wu (λvs H Q E h=>?_) (λ_ _ _ _ H vs Q E hr h=>?_)
 ·obtain⟨pr,A1,U1,B1,T1,c,pair,fa,fu,fb,rfl,_⟩:=h
  rfl
 ·obtain⟨pr,A1,U1,B1,T1,c,pair,fa,fu,fb,rfl,hP,hA,hU,hB,kk⟩:=h
  intro X
  refine⟨_,(ai (ag 6 wu.nd (iS af))
   (bN (bZ (aQ (B3 (iM hr)) bJ (pv 3) (by with_unfolding_all rfl)) (aq (bK (jJ PySem.F.plainAttrs_list PySem.F.slot_list_append PySem.F.type_list_append b8 (pv 6) (aa (bC (aa (aD cH (pv 2) (aJ aO (gU (iM hr) (pv 3) bJ (λ_ _=>rfl)) ak (λ_ _=>rfl))) (aa (aJ aO (gU (iM hr) (pv 3) bJ (λ_ _=>rfl)) ak (λ_ _=>rfl)) af))) af)))) aW)
   (bN (bZ (aQ (B3 (iM hr)) bJ (pv 4) (by with_unfolding_all rfl)) (aq (bK (jJ PySem.F.plainAttrs_list PySem.F.slot_list_append PySem.F.type_list_append b8 (pv 6) (aa (bC (aa (aD cH (ae g7 hr aP (aa (pv 0) (aa bJ (aa (pv 1) af)))) (aJ aO (gU (iM hr) (pv 4) bJ (λ_ _=>rfl)) ak (λ_ _=>rfl))) (aa (aJ aO (gU (iM hr) (pv 4) bJ (λ_ _=>rfl)) ak (λ_ _=>rfl)) af))) af)))) aW)
   (bN (bZ (aQ (B3 (iM hr)) bJ (pv 5) (by with_unfolding_all rfl)) (aq (bK (jJ PySem.F.plainAttrs_list PySem.F.slot_list_append PySem.F.type_list_append b8 (pv 6) (aa (bC (aa (aD cH (ae g7 hr aP (aa (pv 0) (aa bJ (aa (pv 1) af)))) (aJ aO (gU (iM hr) (pv 5) bJ (λ_ _=>rfl)) ak (λ_ _=>rfl))) (aa (aJ aO (gU (iM hr) (pv 5) bJ (λ_ _=>rfl)) ak (λ_ _=>rfl)) af))) af)))) aW)
   (aq (aK (OS ku.fn ⟨⟨_,_,_,_,_,rfl⟩,rfl,by decide +kernel,rfl,rfl,rfl,by decide⟩ ku.b rfl ku.m rfl (BS hr) rfl T.HL CH (aa (pv 6) af) rfl))))))),?_⟩
  refine⟨am,λlw Yl=>?_⟩
  have s0:aj H (L2.upd H lw (.lst [])):=aj.upd Yl
  have W0:CK (L2.upd H lw (.lst [])) lw []:=⟨[],ah,.nil⟩
  have ae9:([]:List (Int×zo)).length<=0:=a7 _
  generalize L2.upd H lw (.lst [])=H0 at s0 W0 ⊢
  refine⟨λσ H2=>σ=[some (.ref pr),some (.str ⟨#[c]⟩),some (.int pair),some (.ref A1),some (.ref U1),some (.ref B1),some (.ref lw)]/\aj H H2/\CK H2 lw (((fa 112).map λw=>(pair+w.1,w.2)).toList)/\(((fa 112).map λw=>(pair+w.1,w.2)).toList).length<=1,?_,?_⟩
  ·obtain⟨ps,hps,pp⟩:=id W0
   have hpl:=Paired.len pp
   rcases(hA.same s0).val 112 with⟨e,g⟩|⟨w1,v1,e,g,q1,x1,rfl,hq1,Lc⟩
   ·exact⟨_,rfl,A1,none,rfl,by rw[sP];exact g,_,rfl,lJ ⟨rfl,s0,by rw[e];exact W0,by rw[e];exact d0 _⟩⟩
   ·have g':pI H0 A1 (.str (a_ "p")) (some (.ref q1)):=by rw[sP];exact g
    refine⟨_,rfl,A1,some _,rfl,g',_,rfl,qw ⟨_,rfl,.inl ⟨rfl,_,cy.of hps⟩,_,rfl,_,rfl,A1,_,rfl,g',q1,_,_,_,rfl,rfl,cE.of hq1,rfl,_,_,rfl,rfl,_,rfl,A1,_,rfl,g',q1,_,_,_,rfl,rfl,cE.of hq1,rfl,aw,λq hq=>?_⟩⟩
    have sq:=λo=>aj.upd (o:=o) hq
    refine⟨lw,_,_,rfl,rfl,sq _ _ _ hps,by rw[bc,hpl];exact bv (show _<=100 by omega) (by decide),rfl,aj.at (s0.trans (sq _)) Yl,?_,?_⟩
    ·have z:=CK.put (w:=(pair+w1.1,w1.2)) hps pp (aj.refl _) hq Lc
     rw[e]
     exact z
    ·rw[e]
     exact a7 _
  rintro σ H2 ⟨rfl,s1,W1,abv⟩
  refine⟨λσ H3=>σ=[some (.ref pr),some (.str ⟨#[c]⟩),some (.int pair),some (.ref A1),some (.ref U1),some (.ref B1),some (.ref lw)]/\aj H H3/\CK H3 lw (((fa 112).map λw=>(pair+w.1,w.2)).toList++((fu 97).map λw=>(NV T1 97 c+w.1,w.2)).toList)/\(((fa 112).map λw=>(pair+w.1,w.2)).toList++((fu 97).map λw=>(NV T1 97 c+w.1,w.2)).toList).length<=2,?_,?_⟩
  ·obtain⟨ps,hps,pp⟩:=id W1
   have hpl:=Paired.len pp
   rcases(hU.same s1).val 97 with⟨e,g⟩|⟨w1,v1,e,g,q1,x1,rfl,hq1,Lc⟩
   ·exact⟨_,rfl,U1,none,rfl,by rw[sA];exact g,_,rfl,lJ ⟨rfl,s1,by rw[e];rw[wl,si,ib];exact W1,by rw[e];rw[wl,si,ib];omega⟩⟩
   ·have g':pI H2 U1 (.str (a_ "a")) (some (.ref q1)):=by rw[sA];exact g
    refine⟨_,rfl,U1,some _,rfl,g',_,rfl,qw ⟨_,rfl,.inl ⟨rfl,_,cy.of hps⟩,_,rfl,_,rfl,pr,T1.1,T1.2.1,T1.2.2.1,T1.2.2.2,_,_,rfl,hP.same s1,_,rfl,U1,_,rfl,g',q1,_,_,_,rfl,rfl,cE.of hq1,rfl,_,_,rfl,rfl,_,rfl,U1,_,rfl,g',q1,_,_,_,rfl,rfl,cE.of hq1,rfl,aw,λq hq=>?_⟩⟩
    have sq:=λo=>aj.upd (o:=o) hq
    refine⟨lw,_,_,rfl,rfl,sq _ _ _ hps,by rw[bc,hpl];exact bv (show _<=100 by omega) (by decide),rfl,aj.at (s1.trans (sq _)) Yl,?_,?_⟩
    ·have z:=CK.put (w:=(NV T1 97 c+w1.1,w1.2)) hps pp (aj.refl _) hq Lc
     rw[e]
     rw[NU sA]
     exact z
    ·rw[e]
     rw[cn];exact i5 abv
  rintro σ H3 ⟨rfl,s2,W2,abu⟩
  refine⟨λσ H4=>σ=[some (.ref pr),some (.str ⟨#[c]⟩),some (.int pair),some (.ref A1),some (.ref U1),some (.ref B1),some (.ref lw)]/\aj H H4/\CK H4 lw ((((fa 112).map λw=>(pair+w.1,w.2)).toList++((fu 97).map λw=>(NV T1 97 c+w.1,w.2)).toList)++((fb 98).map λw=>(NV T1 98 c+w.1,w.2)).toList)/\((((fa 112).map λw=>(pair+w.1,w.2)).toList++((fu 97).map λw=>(NV T1 97 c+w.1,w.2)).toList)++((fb 98).map λw=>(NV T1 98 c+w.1,w.2)).toList).length<=3,?_,?_⟩
  ·obtain⟨ps,hps,pp⟩:=id W2
   have hpl:=Paired.len pp
   rcases(hB.same s2).val 98 with⟨e,g⟩|⟨w1,v1,e,g,q1,x1,rfl,hq1,Lc⟩
   ·exact⟨_,rfl,B1,none,rfl,by rw[sB];exact g,_,rfl,lJ ⟨rfl,s2,by rw[e];rw[wl,si,ib];exact W2,by rw[e];rw[wl,si,ib];omega⟩⟩
   ·have g':pI H3 B1 (.str (a_ "b")) (some (.ref q1)):=by rw[sB];exact g
    refine⟨_,rfl,B1,some _,rfl,g',_,rfl,qw ⟨_,rfl,.inl ⟨rfl,_,cy.of hps⟩,_,rfl,_,rfl,pr,T1.1,T1.2.1,T1.2.2.1,T1.2.2.2,_,_,rfl,hP.same s2,_,rfl,B1,_,rfl,g',q1,_,_,_,rfl,rfl,cE.of hq1,rfl,_,_,rfl,rfl,_,rfl,B1,_,rfl,g',q1,_,_,_,rfl,rfl,cE.of hq1,rfl,aw,λq hq=>?_⟩⟩
    have sq:=λo=>aj.upd (o:=o) hq
    refine⟨lw,_,_,rfl,rfl,sq _ _ _ hps,by rw[bc,hpl];exact bv (show _<=100 by omega) (by decide),rfl,aj.at (s2.trans (sq _)) Yl,?_,?_⟩
    ·have z:=CK.put (w:=(NV T1 98 c+w1.1,w1.2)) hps pp (aj.refl _) hq Lc
     rw[e]
     rw[NU sB]
     exact z
    ·rw[e]
     rw[cn];exact i5 abu
  rintro σ H4 ⟨rfl,s3,W3,ae8⟩
  rw[nz]at W3
  obtain⟨ps,hps,pp⟩:=id W3
  refine⟨_,rfl,lw,ps.map V.ref,λi=>((pJ T1 c pair fa fu fb).getD i (0,none)).1,rfl,cy.of hps,λi v hv=>?_,λhn=>?_,λi v hv hL=>kk v H4 s3 (Ou pp hv hL)⟩
  ·obtain⟨q,hq,rfl⟩:=iU hv
   obtain⟨w1,hw,q',x,e,hq',_⟩:=GP.Paired.at pp hq
   cases e
   refine⟨q,[x],rfl,cE.of ?_⟩
   simp only[show(pJ T1 c pair fa fu fb).getD i (0,none)=w1 from o5 hw]
   exact hq'
  ·have e:pJ T1 c pair fa fu fb=[]:=vy ((Paired.len pp).symm.trans (by rw[←bc (f:=V.ref),hn];rfl))
   refine kk .ia H4 s3 ?_
   rw[e]
   rfl
theorem GC {jv lY:a5}{gY j5:dv}{p:Pm}(T:Txt K mg p w base)(cP:Dn K mg "cell_of" pO Tq jv gY)(iZ:Dn K mg "best_way" qi V4 lY j5)(HD:aE P w K mg base bS 4 lY j5 V4 (LY K p.ao)):aE P w K mg base bS 5 jv gY Tq (BK K p.ao):=by
 refine cP.fn.kG qg (λvs H Q E h=>?_) (λ_ _ _ _ H vs Q E hr h=>?_)
 ·obtain⟨pr,A1,U1,B1,T1,pair,fa,fu,fb,rfl,_⟩:=h
  rfl
 ·obtain⟨pr,A1,U1,B1,T1,pair,fa,fu,fb,rfl,hP,hA,hU,hB,kk⟩:=h
  intro X
  refine⟨_,(ai (ag 5 qg.nd om)
   (ai (cZ eI rfl (Mm (nL (v:=.ref p.jV) rfl T.G5 rfl)) (al 6 qg.nd) (ai (ag 7 qg.nd (ae HD hr iZ (aa (pv 0) (aa (pv 6) (aa (pv 1) (aa (pv 2) (aa (pv 3) (aa (pv 4) af))))))))
   (aq (bZ (aQ OZ (pv 7) yu (by with_unfolding_all rfl)) (aq (sE (iM hr) (pv 5) (pv 6) (pv 7) rfl)) aW))))
   (aq (aK (pv 5))))),?_⟩
  refine λd hd=>?_
  have s1:aj H (L2.upd H d (.dK [])):=aj.upd hd
  refine⟨p.jV,rfl,⟨_,T.yq _⟩,?_⟩
  refine IQ (K:=K) (a:=p.jV) (xs:=vZ.map λc=>V.str ⟨#[c]⟩) (λi σ H2=>∃v6 v7 kvs,σ=[some (.ref pr),some (.int pair),some (.ref A1),some (.ref U1),some (.ref B1),some (.ref d),v6,v7]/\aj H H2/\H2 d=some (.dK kvs)/\K6 H2 (lK T1 pair fa fu fb) kvs ((vZ.take i).filter λc=>(lK T1 pair fa fu fb c).isSome)/\kvs.length<=i)
   ⟨_,_,[],rfl,s1,ah,⟨re,.nil⟩,a7 _⟩ (λi σ H2 _ _=>T.yq _) ?_ ?_
  ·rintro i y σ H2 hy ⟨v6,v7,kvs,rfl,s2,hd2,hL,hlen⟩
   obtain⟨c,hc,rfl⟩:=iU hy
   have hcm:=cx hc
   have ecf:lK T1 pair fa fu fb c=fmin (·.1) (pJ T1 c pair fa fu fb):=if_pos hcm
   have hi:i<3:=(bd.mp hc).1
   have hnc:c∉(vZ.take i).filter λc=>(lK T1 pair fa fu fb c).isSome:=λz=>by
    have hn:=(kd.mp z).1
    match i,hi,hc,hn with
    | 0,_,hc,hn=>exact nomatch hn
    | 1,_,hc,hn=>rw[←dA hc]at hn;exact absurd hn (by decide)
    | 2,_,hc,hn=>rw[←dA hc]at hn;exact absurd hn (by decide)
   refine⟨_,rfl,_,rfl,_,rfl,_,rfl,_,rfl,_,rfl,pr,A1,U1,B1,T1,c,pair,fa,fu,fb,rfl,hP.same s2,hA.same s2,hU.same s2,hB.same s2,λv H3 s3 hw=>?_⟩
   cases hf:fmin (·.1) (pJ T1 c pair fa fu fb)with
   |none =>
    rw[hf]at hw
    obtain rfl:v= .ia:=hw
    refine⟨_,rfl,rfl,_,rfl,lJ ⟨_,_,kvs,rfl,s2.trans s3,s3 _ _ hd2,?_,by omega⟩⟩
    rw[take_snoc hc,x5,mI (by rw[ecf,hf];decide),List.filter_nil,ib]
    exact hL.tps (m6 s3)
   |some w1 =>
    rw[hf]at hw
    obtain⟨q,x,rfl,hq,hx⟩:=hw
    refine⟨_,rfl,rfl,_,rfl,qw ⟨_,rfl,_,rfl,_,rfl,d,_,rfl,xH.k (k:=kS c) (s3 _ _ hd2) (bv (show _<=100 by omega) (by decide)),_,_,_,rfl,aj.at (s2.trans s3) hd,ah,?_,bj (fM _ _ _) (i5 hlen)⟩⟩
    rw[take_snoc hc,x5,mB (by rw[ecf,hf];rfl),List.filter_nil]
    have tp:=kH (o:=.dK (putK kvs (kS c) (.ref q))) (s3 _ _ hd2) (λ_ z=>by cases z)
    exact K6.put (hL.tps ((m6 s3).trans tp)) hnc (ecf.trans hf) (uf.tps ⟨q,x,rfl,hq,hx⟩ tp)
  ·rintro σ H2 ⟨v6,v7,kvs,rfl,s2,hd2,hL,hlen⟩
   refine⟨_,rfl,kk d H2 s2 hd ⟨kvs,_,hd2,hL,λc hc=>?_,?_⟩⟩
   ·refine kd.mpr ⟨?_,hc⟩
    show c∈vZ
    unfold lK at hc
    split at hc
    ·assumption
    ·cases hc
   ·exact bj (List.length_filter_le _ _) (by decide)
end
section
variable{P:bn}{w:df}{K:PySem.W.Frag}{mg:bp->Option a9}{base:eJ}
theorem z9 {jt jv:a5}{iy gY:dv}{p:Pm}(T:Txt K mg p w base)(fS:Dn K mg "last_cells" nG V3 jt iy)(cP:Dn K mg "cell_of" pO Tq jv gY)(sL:aE P w K mg base bS 5 jv gY Tq (BK K p.ao)):aE P w K mg base bS 6 jt iy V3 (LV K p.ao):=by
 refine fS.fn.kG jI (λvs H Q E h=>?_) (λ_ _ _ _ H vs Q E hr h=>?_)
 ·obtain⟨pr,v,T1,s,L,rfl,_⟩:=h
  rfl
 ·obtain⟨pr,v,T1,s,L,rfl,hP,hs,⟨c,rfl,hc,hLn,hLl⟩,kk⟩:=h
  have QE:s.length<=bt:=bj hs (by decide)
  intro X
  refine⟨_,(ai (ag 3 jI.nd om)
   (bN (cZ eI rfl (AY (pv 2)) (al 4 jI.nd) (aq (sE (iM hr) (pv 3) (pv 4) (bC (aa ak (aa yu af))) rfl)))
   (ai (ag 5 jI.nd (iS (aa (pv 3) af)))
   (bN (cZ eI rfl (g9 rfl T.jM (aa (aB (aS) rfl T.cI bL (aa (pv 1) af)) af)) (al 6 jI.nd) (aq (bK (jJ PySem.F.plainAttrs_list PySem.F.slot_list_append PySem.F.type_list_append b8 (pv 5) (aa (ae sL hr cP (aa (pv 0) (aa ak (aa om (aa om (aa (aJ cG (pv 5) (pv 6) (λ_ _=>rfl)) af)))))) af)))))
   (ai (bK (Gs PySem.F.plainAttrs_list PySem.F.slot_list_reverse PySem.F.type_list_reverse yI (pv 5)))
   (aq (aK (pv 5)))))))),?_⟩
  refine λd hd=>?_
  have s1:aj H (L2.upd H d (.dK [])):=aj.upd hd
  refine⟨λσ H2=>∃v4,σ=[some (.ref pr),some (.str s),some c.val,some (.ref d),v4,none,none]/\aj H H2/\jY H2 d (jA T1 L 0),?_,?_⟩
  ·refine⟨_,rfl,c,_,rfl,IY hc s1,?_⟩
   refine G7 (K:=K) (c:=c) (xs:=L.map λa=>V.str ⟨#[a]⟩) (λi σ H2=>∃v4 kvs,σ=[some (.ref pr),some (.str s),some c.val,some (.ref d),v4,none,none]/\aj H H2/\H2 d=some (.dK kvs)/\K6 H2 (jA T1 L 0) kvs (L.take i)/\kvs.length<=i)
    ⟨_,[],rfl,s1,ah,⟨re,.nil⟩,a7 _⟩ (λi σ H2 _ ⟨_,_,_,s2,_⟩=>IY hc s2) ?_ ?_
   ·rintro i y σ H2 hy ⟨v4,kvs,rfl,s2,hd2,hL,hlen⟩
    obtain⟨a,ha,rfl⟩:=iU hy
    have hil:i<L.length:=(bd.mp ha).1
    have hna:a∉L.take i:=λz=>by
     have e:L=L.take i++L.drop i:=(oy _ _).symm
     have nd:=hLn
     rw[e]at nd
     refine(y7.mp nd).2.2 a z a ?_ rfl
     rw[ot hil,(bd.mp ha).2]
     exact cr
    refine⟨aw,λq hq=>?_⟩
    have s3:=aj.upd (o:=.tup [.int 0,.ia]) hq
    refine⟨_,rfl,_,rfl,d,_,rfl,xH.k (k:=kS a) (s3 _ _ hd2) (bv (show _<=100 by omega) (by decide)),_,_,rfl,aj.at (s2.trans s3) hd,ah,?_,bj (fM _ _ _) (i5 hlen)⟩
    have tp:=kH (o:=.dK (putK kvs (kS a) (.ref q))) (s3 _ _ hd2) (λ_ z=>by cases z)
    rw[take_snoc ha]
    exact K6.put (hL.tps ((m6 s3).trans tp)) hna (w:=(0,none)) (if_pos (cx ha)) (uf.tps ⟨q,.ia,rfl,ah,rfl⟩ tp)
   ·rintro σ H2 ⟨v4,kvs,rfl,s2,hd2,hL,hlen⟩
    rw[bc,u_]at hL
    refine⟨_,rfl,s2,kvs,L,hd2,hL,λa ha=>?_,hLl⟩
    show a∈L
    have ha':((if a∈L then some ((0:Int),(none:zo))else none).isSome)=true:=ha
    split at ha'
    ·assumption
    ·cases ha'
  rintro σ H2 ⟨v4,rfl,s2,hc2⟩
  refine⟨_,rfl,ar,λlc Le=>?_⟩
  have s3:=aj.upd (o:=.lst [.ref d]) Le
  have G0:=aj.free s2 Le
  have C3:kF (L2.upd H2 lc (.lst [.ref d])) lc (jA T1 L) 0:=⟨[d],ah,rfl,λj q hq=>by
   have:j<1:=(bd.mp hq).1
   have ej:j=0:=by omega
   subst ej
   cases hq
   exact hc2.same s3⟩
  have Jx:=s2.trans s3
  generalize L2.upd H2 lc (.lst [.ref d])=H3 at C3 Jx ⊢
  refine⟨λσ H4=>∃v6,σ=[some (.ref pr),some (.str s),some c.val,some (.ref d),v4,some (.ref lc),v6]/\aj H H4/\kF H4 lc (jA T1 L) s.cps.size,?_,?_⟩
  ·refine⟨_,rfl,_,_,rfl,⟨QE,rfl⟩,_,rfl,?_,?_,?_⟩
   ·show _<=(s.cps.size:Int)
    omega
   ·show(s.cps.size:Int)<_
    omega
   have en:(((s.length:Nat):Int)).toNat=s.cps.size:=by show((s.cps.size:Int)).toNat=_;omega
   rw[en]
   refine nQ (lo:=0) (n:=s.cps.size) (λi σ H4=>∃v6,σ=[some (.ref pr),some (.str s),some c.val,some (.ref d),v4,some (.ref lc),v6]/\aj H H4/\kF H4 lc (jA T1 L) i)
    ⟨_,rfl,Jx,C3⟩ ?_ ?_
   ·rintro i σ H4 hi ⟨v6,rfl,s4,C4⟩
    obtain⟨ds,hds,hdl,hdc⟩:=id C4
    refine⟨_,rfl,.inl ⟨rfl,_,cy.of hds⟩,_,rfl,λd1 hd1 d2 hd2=>?_⟩
    have s5:=(aj.upd (o:=.dK []) hd1).trans (aj.upd (o:=.dK []) hd2)
    have e1:L2.upd (L2.upd H4 d1 (.dK [])) d2 (.dK []) d1=some (.dK []):=aj.upd hd2 _ _ ah
    obtain⟨ds',dj,g1,g2,g3,g4⟩:=(C4.same s5).get (a7 i)
    refine⟨_,rfl,_,rfl,lc,_,_,_,rfl,rfl,cy.of g1,by rw[ml];exact g2,pr,d1,d2,dj,T1,0,iX,iX,jA T1 L i,rfl,hP.same (s4.trans s5),jY.empty e1,jY.empty ah,g4,λdn H6 s6 hdn cdn=>?_⟩
    have s46:=s5.trans s6
    exact⟨lc,_,_,rfl,rfl,s46 _ _ hds,by rw[bc,hdl];exact bv (show _<=100 by omega) (by decide),_,rfl,aj.at (s4.trans s46) G0,kF.grow (F:=jA T1 L) hds hdl hdc s46 cdn⟩
   ·rintro σ H4 ⟨v6,rfl,s4,C4⟩
    exact⟨_,rfl,s4,C4⟩
  rintro σ H4 ⟨v6,rfl,s4,ds,hds,hdl,hdc⟩
  refine⟨_,rfl,.inl ⟨rfl,_,cy.of hds⟩,lc,_,rfl,rfl,hds,_,rfl,?_⟩
  exact kk lc _ (aj.at s4 G0) G0 (kF.rev hds hdl hdc)
theorem yF {iJ cR jv:a5}{gx cA gY:dv}{p:Pm}(T:Txt K mg p w base)(eF:Dn K mg "cells_ahead" mQ V2 iJ gx)(bF:Dn K mg "pair_cost" j3 Pn cR cA)(mZ:aE P w K mg base bS 1 cR cA Pn (qc K p.ao))(cP:Dn K mg "cell_of" pO Tq jv gY)(sL:aE P w K mg base bS 5 jv gY Tq (BK K p.ao)):aE P w K mg base bS 6 iJ gx V2 (Ig K p.ao):=by
 refine eF.fn.kG kO (λvs H Q E h=>?_) (λ_ _ _ _ H vs Q E hr h=>?_)
 ·obtain⟨pr,lu,T1,mn,f,s,i,a,U,rfl,_⟩:=h
  rfl
 ·obtain⟨pr,lu,T1,mn,f,s,i,a,U,rfl,hP,hfi,of,os,hs,hU,kk⟩:=h
  have QE:s.length<=bt:=bj hs (by decide)
  intro X
  refine⟨_,(ai (ag 4 kO.nd (iS (aa (ae sL hr cP (aa (pv 0) (aa ak (aa om (aa (aJ cG (pv 3) (AZ vA ak) (λ_ _=>rfl)) (aa om af)))))) af)))
   (bN (cZ eI rfl (AX rfl T.jM (aa (aD ow (aB (aS) rfl T.cI bL (aa (pv 2) af)) ak) (aa (AZ vA ak) (aa (AZ vA ak) af)))) (al 5 kO.nd) (ai (ag 6 kO.nd (ae mZ hr bF (aa (pv 0) (aa (pv 1) (aa (aJ rJ (pv 2) (pv 5) (λ_ _=>rfl)) af)))))
   (aq (bK (jJ PySem.F.plainAttrs_list PySem.F.slot_list_append PySem.F.type_list_append b8 (pv 4) (aa (ae sL hr cP (aa (pv 0) (aa (pv 6) (aa (aJ cG (pv 3) (aD cH (pv 5) ak) (λ_ _=>rfl)) (aa (aJ cG (pv 3) (pv 5) (λ_ _=>rfl)) (aa (aJ cG (pv 4) (AZ vA ak) (λ_ _=>rfl)) af)))))) af))))))
   (ai (bK (Gs PySem.F.plainAttrs_list PySem.F.slot_list_reverse PySem.F.type_list_reverse yI (pv 4)))
   (aq (aK (pv 4)))))),?_⟩
  refine⟨_,rfl,λd1 hd1=>?_⟩
  have s1:=aj.upd (o:=.dK []) hd1
  have e1:L2.upd H d1 (.dK []) d1=some (.dK []):=ah
  generalize L2.upd H d1 (.dK [])=H1 at s1 e1 ⊢
  obtain⟨dU,du,u1,u2,u3⟩:=(hU.same s1).last
  refine⟨_,rfl,_,rfl,lu,_,_,_,rfl,rfl,cy.of u1,u2,λd2 hd2=>?_⟩
  have s2:=s1.trans (aj.upd (o:=.dK []) hd2)
  have s12:=aj.upd (o:=.dK []) hd2
  refine⟨pr,d1,du,d2,T1,0,iX,U s.cps.size,iX,rfl,hP.same s2,jY.empty (s12 _ _ e1),u3.same s12,jY.empty ah,λdn H3 s3 hdn cdn=>⟨ar,λlc Le=>?_⟩⟩
  have Jx:=s2.trans s3
  have G0:=aj.free Jx Le
  have s4:=aj.upd (o:=.lst [.ref dn]) Le
  have C4:kF (L2.upd H3 lc (.lst [.ref dn])) lc (c9 T1 ((cW T1 mn f s).pc i) U s.cps.size) 0:=⟨[dn],ah,rfl,λj q hq=>by
   have:j<1:=(bd.mp hq).1
   have ej:j=0:=by omega
   subst ej
   cases hq
   exact cdn.same s4⟩
  have X4:=Jx.trans s4
  generalize L2.upd H3 lc (.lst [.ref dn])=H4 at C4 X4 ⊢
  refine⟨λσ H5=>∃v5 v6,σ=[some (.ref pr),some (.str ⟨#[a]⟩),some (.str s),some (.ref lu),some (.ref lc),v5,v6]/\aj H H5/\kF H5 lc (c9 T1 ((cW T1 mn f s).pc i) U s.cps.size) s.cps.size,?_,?_⟩
  ·refine⟨_,rfl,_,_,rfl,⟨QE,rfl⟩,_,_,rfl,rfl,_,rfl,_,rfl,_,_,rfl,⟨?_,?_,by decide,by decide⟩,?_⟩
   ·show _<=(s.cps.size:Int)-1
    omega
   ·show(s.cps.size:Int)-1<_
    omega
   have en:(((s.length:Nat):Int)-1- -1).toNat=s.cps.size:=by show((s.cps.size:Int)-1- -1).toNat=_;omega
   rw[show((((s.length:Nat):Int)-1)-(-1:Int)).toNat=s.cps.size from en]
   refine EJ (lo:=((s.length:Nat):Int)-1) (n:=s.cps.size) (λk σ H5=>∃v5 v6,σ=[some (.ref pr),some (.str ⟨#[a]⟩),some (.str s),some (.ref lu),some (.ref lc),v5,v6]/\aj H H5/\kF H5 lc (c9 T1 ((cW T1 mn f s).pc i) U s.cps.size) k)
    ⟨_,_,rfl,X4,C4⟩ ?_ ?_
   ·rintro k σ H5 hk ⟨v5,v6,rfl,s5,C5⟩
    obtain⟨ds,hds,hdl,hdc⟩:=id C5
    have ej:((s.length:Nat):Int)-1-(k:Int)=((s.cps.size-(k+1):Nat):Int):=by show((s.cps.size:Nat):Int)-1-(k:Int)=_;omega
    have hjl:s.cps.size-(k+1)<s.cps.size:=by omega
    obtain⟨b,hb⟩:=vY hjl
    have ha:=hfi
    obtain⟨i',j',fr,hi',hj',hat,epc⟩:=Gu (u:=uT T1) hP.sqr (of a (lC ha)) (os b (lC hb))
    have epr:fr.1*(uT T1 / fr.2)=(cW T1 mn f s).pc i (s.cps.size-(k+1)):=by
     show _=La T1.1 T1.2.1 (uT T1) (f.cps.toList.getD i 0) (s.cps.toList.getD (s.cps.size-(k+1)) 0)
     rw[cf,cf,e7 ha,e7 hb]
     exact epc.symm
    refine⟨_,rfl,_,rfl,_,rfl,_,rfl,s,_,b,rfl,rfl,QE,by rw[ej];exact dX (e7 hb),pr,T1.1,T1.2.1,T1.2.2.1,T1.2.2.2,i',j',a,b,fr,rfl,nO.same s5 hP,hi',hj',hat,λH6 s6=>?_⟩
    have s06:=s5.trans s6
    obtain⟨dU1,dp,g1,g2,g3,g4⟩:=(hU.same s06).get (j:=s.cps.size-(k+1)+1) (by omega)
    obtain⟨dU2,dq,h1,h2,h3,h4⟩:=(hU.same s06).get (j:=s.cps.size-(k+1)) (by omega)
    obtain⟨dL,db,l1,l2,l3⟩:=(C5.same s6).last
    refine⟨_,rfl,.inl ⟨rfl,_,cy.of (s6 _ _ hds)⟩,_,rfl,_,rfl,_,rfl,_,rfl,_,_,rfl,rfl,lu,_,_,_,rfl,rfl,cy.of g1,?_,_,rfl,_,rfl,lu,_,_,_,rfl,rfl,cy.of h1,by rw[ej];exact h2,_,rfl,_,rfl,lc,_,_,_,rfl,rfl,cy.of l1,l2,pr,dp,dq,db,T1,_,U (s.cps.size-(k+1)+1),U (s.cps.size-(k+1)),c9 T1 ((cW T1 mn f s).pc i) U s.cps.size k,rfl,hP.same s06,g4,h4,l3,λde H7 s7 hde cde=>?_⟩
    ·rw[show((s.length:Nat):Int)-1-(k:Int)+1=((s.cps.size-(k+1)+1:Nat):Int) by rw[ej];rfl]
     exact g2
    have s57:=s6.trans s7
    have ack:jY H7 de (c9 T1 ((cW T1 mn f s).pc i) U s.cps.size (k+1)):=by
     have z:=cde
     rw[show fr.1*(aX T1.2.2.1.2 T1.2.2.2.2 T1.2.1 / fr.2)=(cW T1 mn f s).pc i (s.cps.size-(k+1)) from epr]at z
     exact z
    exact⟨lc,_,_,rfl,rfl,s57 _ _ hds,by rw[bc,hdl];exact bv (show _<=100 by omega) (by decide),_,_,rfl,aj.at (s5.trans s57) G0,kF.grow (F:=c9 T1 ((cW T1 mn f s).pc i) U s.cps.size) hds hdl hdc s57 ack⟩
   ·rintro σ H5 ⟨v5,v6,rfl,s5,C5⟩
    exact⟨_,_,rfl,s5,C5⟩
  rintro σ H5 ⟨v5,v6,rfl,s5,ds,hds,hdl,hdc⟩
  refine⟨_,rfl,.inl ⟨rfl,_,cy.of hds⟩,lc,_,rfl,rfl,hds,_,rfl,?_⟩
  exact kk lc _ (aj.at s5 G0) G0 (kF.rev hds hdl hdc)
theorem zY {jl:a5}{ic:dv}{p:Pm}(T:Txt K mg p w base)(cN:Dn K mg "with_stops" nu ["cells"] jl ic)  :aE P w K mg base bS 1 jl ic ["cells"] LI:=by
 refine cN.fn.kG fX (λvs H Q E h=>?_) (λ_ _ _ _ H vs Q E hr h=>?_)
 ·obtain⟨l,F,m,rfl,_⟩:=h
  rfl
 ·obtain⟨l,F,m,rfl,⟨ds,hds,hdl,hdc⟩,hm,kk⟩:=h
  intro X
  refine⟨_,(ai (ag 1 fX.nd (iS af))
   (ai (cZ eI rfl (BZ rfl T.qS (aa (pv 0) af)) (qm (n:=2) rfl (bU (al 2 fX.nd) (bU (al 3 fX.nd) mR))) (ai (ag 4 fX.nd om)
   (ai (Mi (H0:=H) (cZ eI rfl (Mn (pv 3)) (qm (n:=2) rfl (bU (al 5 fX.nd) (bU (al 6 fX.nd) mR))) (aq (sE (iM hr) (pv 4) (pv 5) (bC (aa (aJ aO (pv 6) ak (λ_ _=>rfl)) (aa (bC (aa (pv 2) (aa (pv 5) af))) af))) rfl))) rfl)
   (aq (bK (jJ PySem.F.plainAttrs_list PySem.F.slot_list_append PySem.F.type_list_append b8 (pv 1) (aa (pv 4) af)))))))
   (aq (aK (pv 1))))),?_⟩
  refine⟨am,λlp Oi=>?_⟩
  have s1:=aj.upd (o:=.lst []) Oi
  have e1:L2.upd H lp (.lst []) lp=some (.lst []):=ah
  generalize L2.upd H lp (.lst [])=H1 at s1 e1 ⊢
  refine⟨_,rfl,.lst l,_,rfl,cy.of (s1 _ _ hds),?_⟩
  refine yT (K:=K) (c:=.lst l) (xs:=ds.map V.ref) (λi σ H2=>∃v2 v3 v4 v5 v6 es,σ=[some (.ref l),some (.ref lp),v2,v3,v4,v5,v6]/\aj H H2/\H2 lp=some (.lst (es.map V.ref))/\es.length=i/\∀j d,es[j]? =some d->jY H2 d (uq F j))
   ⟨_,_,_,_,_,[],rfl,s1,e1,rfl,λj d hd=>by simp at hd⟩ (λi σ H2 _ ⟨_,_,_,_,_,_,_,s2,_⟩=>cy.of (s2 _ _ hds)) ?_ ?_
  ·rintro i y q σ H2 hy hq ⟨v2,v3,v4,v5,v6,es,rfl,s2,Nd,hel,hec⟩
   obtain⟨d,hd,rfl⟩:=iU hy
   have hil:i<m+1:=by rw[←hdl];exact(bd.mp hd).1
   have s3:=aj.upd (o:=.tup [.int (i:Int),.ref d]) hq
   obtain⟨kvs,cs,hk,hL,hcs,hc3⟩:=hdc i d hd
   refine⟨_,_,rfl,cE.of ah,rfl,_,_,rfl,_,_,rfl,rfl,?_⟩
   generalize L2.upd H2 q (.tup [.int (i:Int),.ref d])=H3 at s3 ⊢
   refine λe he=>?_
   have s4:=aj.upd (o:=.dK []) he
   have X0:=s2.trans (s3.trans s4)
   have e4:L2.upd H3 e (.dK []) e=some (.dK []):=ah
   generalize L2.upd H3 e (.dK [])=H4 at s4 X0 e4 ⊢
   refine⟨_,rfl,d,kvs,rfl,X0 _ _ hk,λo=>?_⟩
   have nde:e≠d:=λz=>by rw[z]at he;rw[s3 _ _ (s2 _ _ hk)]at he;cases he
   have kl:kvs.length<=3:=by rw[Paired.len hL.2];exact hc3
   refine Kv (a:=d) (o:=o) (kvs:=kvs) (λk σ H5=>∃v5 v6 QG,σ=[some (.ref l),some (.ref lp),some (.int (i:Int)),some (.ref d),some (.ref e),v5,v6]/\(∀b u,b≠d->b≠e->H4 b=some u->H5 b=some u)/\H5 d=some (.uR o (.dK kvs))/\H5 e=some (.dK QG)/\K6 H5 (uq F i) QG (cs.take k)/\QG.length<=k)
    ⟨_,_,[],rfl,λb u n1 n2 q=>by rw[au n1];exact q,ah,by rw[au nde];exact e4,⟨re,.nil⟩,a7 _⟩ (λk σ H5 _ ⟨_,_,_,_,_,q,_⟩=>q) ?_ ?_
   ·rintro k ky x pp σ H5 hkx hpp ⟨v5,v6,QG,rfl,s5,Ko,Yo,Yu,T8⟩
    obtain⟨c,hc,hky,w1,hw1,qx,x',hx,WE,hx'⟩:=GP.Paired.at hL.2 hkx
    have WR:k<cs.length:=(bd.mp hc).1
    obtain rfl:ky=kS c:=hky
    obtain rfl:x= .ref qx:=hx
    have abj:=X0 _ _ WE
    have nqd:qx≠d:=λz=>by rw[z,hk]at WE;cases WE
    have nqe:qx≠e:=λz=>by rw[z]at WE;rw[s3 _ _ (s2 _ _ WE)]at he;cases he
    have s6:=aj.upd (o:=.tup [kV (kS c),.ref qx]) hpp
    have WD:=s6 _ _ (s5 _ _ nqd nqe abj)
    refine⟨_,_,rfl,cE.of ah,rfl,_,_,rfl,_,_,rfl,rfl,?_⟩
    generalize L2.upd H5 pp (.tup [kV (kS c),.ref qx])=H6 at s6 WD ⊢
    refine⟨_,rfl,qx,_,_,_,rfl,rfl,cE.of WD,rfl,_,rfl,_,rfl,aw,λq1 hq1=>⟨aw,λq2 hq2=>?_⟩⟩
    have t1:=aj.upd (o:=.tup [.int (i:Int),.str ⟨#[c]⟩]) hq1
    have t2:=aj.upd (o:=.tup [.int w1.1,.ref q1]) hq2
    have Vl:=s6.trans (t1.trans t2)
    have hna:c∉cs.take k:=λz=>by
     have e:cs=cs.take k++cs.drop k:=(oy _ _).symm
     have nd:=hL.1
     rw[e]at nd
     refine(y7.mp nd).2.2 c z c ?_ rfl
     rw[ot WR,(bd.mp hc).2]
     exact cr
    refine⟨_,rfl,_,rfl,e,_,rfl,xH.k (k:=kS c) (Vl _ _ Yo) (bv (show _<=100 by omega) (by decide)),_,_,_,rfl,λb u n1 n2 q=>by rw[au n2];exact Vl _ _ (s5 b u n1 n2 q),by rw[au (Ne.symm nde)];exact Vl _ _ Ko,ah,?_,bj (fM _ _ _) (i5 T8)⟩
    have tp:=kH (o:=.dK (putK QG (kS c) (.ref q2))) (Vl _ _ Yo) (λ_ z=>by cases z)
    rw[take_snoc hc]
    exact K6.put (Yu.tps ((m6 Vl).trans tp)) hna (w:=(w1.1,some (i,c))) (by unfold uq;rw[hw1];rfl) (uf.tps ⟨q2,.ref q1,rfl,ah,q1,rfl,t2 _ _ ah⟩ tp)
   ·rintro σ H5 ⟨v5,v6,QG,rfl,s5,Ko,Yo,Yu,T8⟩
    rw[Paired.len hL.2,u_]at Yu
    have Nh:=X0 _ _ hk
    refine⟨d,o,.dK kvs,Ko,(λo u z=>by rw[hk]at z;cases z),?_⟩
    have he7:L2.upd H5 d (.dK kvs) e=some (.dK QG):=by rw[au nde];exact Yo
    have s7:aj H3 (L2.upd H5 d (.dK kvs)):=λb u q=>by
     have ne:b≠e:=λz=>by rw[z,he]at q;cases q
     by_cases z:b=d
     ·have q4:=s4 _ _ q
      rw[z,Nh]at q4
      rw[z,ah]
      exact q4
     ·rw[au z]
      exact s5 b u z ne (s4 _ _ q)
    have cd7:jY (L2.upd H5 d (.dK kvs)) e (uq F i):=⟨QG,cs,he7,Yu.tps (kH Ko (λ_ z=>by cases z)),λc hcc=>hcs c (by
     unfold uq at hcc
     cases hF:F i c with
     |none=>rw[hF]at hcc;cases hcc
     |some w1=>rfl),hc3⟩
    generalize L2.upd H5 d (.dK kvs)=H7 at he7 s7 cd7 ⊢
    have X3:=s3.trans s7
    refine⟨_,rfl,.inl ⟨rfl,_,cy.of (X3 _ _ Nd)⟩,_,rfl,lp,_,_,rfl,rfl,X3 _ _ Nd,by rw[bc,hel];exact bv (show i<=100 by omega) (by decide),?_⟩
    obtain⟨es',g1,g2,g3⟩:=kF.grow (F:=uq F) (d:=e) Nd hel hec X3 cd7
    exact⟨_,_,_,_,_,es',rfl,aj.at (s2.trans X3) Oi,g1,g2,g3⟩
  ·rintro σ H2 ⟨v2,v3,v4,v5,v6,es,rfl,s2,Nd,hel,hec⟩
   rw[bc]at hel
   exact⟨_,rfl,kk lp H2 s2 Oi ⟨es,Nd,by rw[hel,hdl],hec⟩⟩
end
section
variable{P:bn}{w:df}{K:PySem.W.Frag}{mg:bp->Option a9}{base:eJ}
theorem Gw {jn jt jl iJ:a5}{gX iy ic gx:dv}{p:Pm}(T:Txt K mg p w base)(eO:Dn K mg "stop_at" pN Tp jn gX)(fS:Dn K mg "last_cells" nG V3 jt iy)(Df:aE P w K mg base bS 6 jt iy V3 (LV K p.ao))(cN:Dn K mg "with_stops" nu ["cells"] jl ic)(vh:aE P w K mg base bS 1 jl ic ["cells"] LI)(eF:Dn K mg "cells_ahead" mQ V2 iJ gx)(AA:aE P w K mg base bS 6 iJ gx V2 (Ig K p.ao)):aE P w K mg base bS 7 jn gX Tp (yf K p.ao):=by
 refine eO.fn.kG lM (λvs H Q E h=>?_) (λ_ _ _ _ H vs Q E hr h=>?_)
 ·obtain⟨pr,v,T1,mn,f,s,c,u,L,w1,rfl,_⟩:=h
  rfl
 ·obtain⟨pr,v,T1,mn,f,s,c,u,L,w1,rfl,hP,of,os,hf,hs,hu,hc,hLc,hL,hw,kk⟩:=h
  have lf:f.length<=bt:=bj hf (by decide)
  intro X
  refine⟨_,(ai (ag 6 lM.nd (ae Df hr fS (aa (pv 0) (aa (pv 2) (aa (pv 4) af)))))
   (bN (bZ (aQ fL (pv 5) (aB (aS) rfl T.cI bL (aa (pv 1) af)) (bq _)) (aq (ag 6 lM.nd (ae vh hr cN (aa (pv 6) af)))) aW)
   (bN (cZ eI rfl (AX rfl T.jM (aa (aD ow (aB (aS) rfl T.cI bL (aa (pv 1) af)) ak) (aa (AZ vA ak) (aa (AZ vA ak) af)))) (al 7 lM.nd) (ai (ag 6 lM.nd (ae AA hr eF (aa (pv 0) (aa (aJ rJ (pv 1) (pv 7) (λ_ _=>rfl)) (aa (pv 2) (aa (pv 6) af))))))
   (aq (bZ (aQ fL (pv 5) (pv 7) (bq _)) (aq (ag 6 lM.nd (ae vh hr cN (aa (pv 6) af)))) aW))))
   (aq (aK (aJ aO (gU (iM hr) (aJ cG (pv 6) ak (λ_ _=>rfl)) (pv 3) (λ_ _=>rfl)) ak (λ_ _=>rfl))))))),?_⟩
  refine⟨_,rfl,_,rfl,_,rfl,pr,v,T1,s,L,rfl,hP,hs,hL,λlc H1 s1 Le C1=>?_⟩
  have R1:∀j,j<=s.cps.size->xy (cW T1 mn f s) (rO f.cps.size s.cps.size L) u f.cps.size (λj=>jA T1 L (s.cps.size-j)) j:=λj hj=>by
   have z:=A9 (T:=T1) (mn:=mn) (f:=f) (s:=s) (u:=u) hLc (s.cps.size-j) (by omega)
   rw[show s.cps.size-(s.cps.size-j)=j by omega]at z
   exact z
  refine⟨λσ H2=>∃(lc:a5) (F:Nat->CF),σ=[some (.ref pr),some (.str f),some (.str s),some (.str ⟨#[c]⟩),some v,some (.int (u:Int)),some (.ref lc),none]/\aj H H2/\kF H2 lc F s.cps.size/\E8 (cW T1 mn f s) (rO f.cps.size s.cps.size L) u f.cps.size F,?_,?_⟩
  ·refine⟨_,rfl,_,rfl,_,_,rfl,⟨lf,rfl⟩,rfl,_,rfl,?_⟩
   rw[nN]
   refine cK (λz=>?_) λz=>⟨lc,_,rfl,s1,C1,xy.s R1 (λq=>z (by rw[←q];rfl))⟩
   have e:u=f.cps.size:=by have z':(u:Int)=(f.cps.size:Int):=z;omega
   refine⟨_,rfl,lc,_,s.cps.size,rfl,C1,hs,λl' H2 s2 hl' C2=>⟨l',_,rfl,s1.trans s2,C2,?_⟩⟩
   rw[←e]at R1 ⊢
   exact xy.stops R1
  rintro σ H2 ⟨lc,F,rfl,s2,C2,R2⟩
  refine⟨λσ H3=>∃(lc:a5) (F:Nat->CF) (v7:Option V),σ=[some (.ref pr),some (.str f),some (.str s),some (.str ⟨#[c]⟩),some v,some (.int (u:Int)),some (.ref lc),v7]/\aj H H3/\kF H3 lc F s.cps.size/\E8 (cW T1 mn f s) (rO f.cps.size s.cps.size L) u 0 F,?_,?_⟩
  ·refine⟨_,rfl,_,_,rfl,⟨lf,rfl⟩,_,_,rfl,rfl,_,rfl,_,rfl,_,_,rfl,⟨?_,?_,by decide,by decide⟩,?_⟩
   ·show _<=(f.cps.size:Int)-1
    omega
   ·show(f.cps.size:Int)-1<_
    omega
   have en:(((f.length:Nat):Int)-1- -1).toNat=f.cps.size:=by show((f.cps.size:Int)-1- -1).toNat=_;omega
   rw[show((((f.length:Nat):Int)-1)-(-1:Int)).toNat=f.cps.size from en]
   refine EJ (lo:=((f.length:Nat):Int)-1) (n:=f.cps.size) (λk σ H3=>∃(lc:a5) (F:Nat->CF) (v7:Option V),σ=[some (.ref pr),some (.str f),some (.str s),some (.str ⟨#[c]⟩),some v,some (.int (u:Int)),some (.ref lc),v7]/\aj H H3/\kF H3 lc F s.cps.size/\E8 (cW T1 mn f s) (rO f.cps.size s.cps.size L) u (f.cps.size-k) F)
    ⟨lc,F,_,rfl,s2,C2,by rw[Nat.sub_zero];exact R2⟩ ?_ ?_
   ·rintro k σ H3 hk ⟨lc,F,v7,rfl,s3,C3,R3⟩
    have ei:((f.length:Nat):Int)-1-(k:Int)=((f.cps.size-(k+1):Nat):Int):=by show((f.cps.size:Nat):Int)-1-(k:Int)=_;omega
    have hil:f.cps.size-(k+1)<f.cps.size:=by omega
    have er:f.cps.size-k=f.cps.size-(k+1)+1:=by omega
    rw[er]at R3
    obtain⟨a,ha⟩:=vY hil
    refine⟨_,rfl,_,rfl,_,rfl,f,_,a,rfl,rfl,lf,by rw[ei];exact dX (e7 ha),_,rfl,_,rfl,pr,lc,T1,mn,f,s,f.cps.size-(k+1),a,F,rfl,hP.same s3,ha,of,os,hs,C3,λl4 H4 s4 T9 C4=>?_⟩
    have R4:∀j,j<=s.cps.size->xy (cW T1 mn f s) (rO f.cps.size s.cps.size L) u (f.cps.size-(k+1)) (λj=>c9 T1 ((cW T1 mn f s).pc (f.cps.size-(k+1))) F s.cps.size (s.cps.size-j)) j:=λj hj=>by
     have z:=Hv (T:=T1) (mn:=mn) (f:=f) (s:=s) (u:=u) (L:=L) hil R3 (s.cps.size-j) (by omega)
     rw[show s.cps.size-(s.cps.size-j)=j by omega]at z
     exact z
    refine⟨_,rfl,_,rfl,rfl,_,rfl,?_⟩
    rw[nN]
    refine cK (λz=>?_) λz=>⟨l4,_,_,rfl,s3.trans s4,C4,xy.s R4 (λq=>z (by rw[ei,←q]))⟩
    have e:u=f.cps.size-(k+1):=by
     have z':(u:Int)=((f.length:Nat):Int)-1-(k:Int):=z
     rw[ei]at z'
     omega
    refine⟨_,rfl,l4,_,s.cps.size,rfl,C4,hs,λl5 H5 s5 T8 C5=>⟨l5,_,_,rfl,(s3.trans s4).trans s5,C5,?_⟩⟩
    rw[←e]at R4 ⊢
    exact xy.stops R4
   ·rintro σ H3 ⟨lc,F,v7,rfl,s3,C3,R3⟩
    rw[xf]at R3
    exact⟨lc,F,v7,rfl,s3,C3,R3⟩
  rintro σ H3 ⟨lc,F,v7,rfl,s3,C3,R3⟩
  obtain⟨ds,d,g1,g2,g3,g4⟩:=C3.get (j:=0) (d0 _)
  have hv:=R3 0 (d0 _) c hc
  rw[hw]at hv
  rcases g4.val c with⟨e,_⟩|⟨w2,v2,e,g,q,x,rfl,hq,hx⟩
  ·rw[hv]at e;cases e
  rw[hv]at e
  cases e
  exact⟨_,rfl,lc,_,_,_,rfl,rfl,cy.of g1,g2,_,rfl,d,_,rfl,g,q,_,_,_,rfl,rfl,cE.of hq,rfl,kk x H3 s3 hx⟩
theorem zZ {jm jn:a5}{ie gX:dv}{p:Pm}(T:Txt K mg p w base)(fO:Dn K mg "whole_stop" nB V1 jm ie)(eO:Dn K mg "stop_at" pN Tp jn gX)(wg:aE P w K mg base bS 7 jn gX Tp (yf K p.ao)):aE P w K mg base bS 8 jm ie V1 (HS K p.ao):=by
 refine fO.fn.kG zT (λvs H Q E h=>?_) (λ_ _ _ _ H vs Q E hr h=>?_)
 ·obtain⟨pr,T1,f,s,u,t1,rfl,_⟩:=h
  rfl
 ·obtain⟨pr,T1,f,s,u,t1,rfl,hP,of,os,hf,hs,hu,ht,kk⟩:=h
  intro X
  refine⟨_,(aq (aK (ae wg hr eO (aa (pv 0) (aa (pv 1) (aa (pv 2) (aa bJ (aa (nL (v:=.ref p.jV) rfl T.G5 rfl) (aa (pv 3) af))))))))),?_⟩
  have hsv:=SM T1 f s u
  rw[ht]at hsv
  refine⟨_,rfl,_,rfl,_,rfl,_,rfl,pr,.ref p.jV,T1,sW,f,s,112,u,vZ,_,by rw[sP];rfl,hP,of,os,hf,hs,hu,NI,λa ha=>ha,⟨.tup p.jV,rfl,T.yq _,by decide,by decide⟩,hsv,λx H' s' hx=>?_⟩
  obtain⟨q,rfl,hq⟩:=hx
  exact kk q H' s' hq
end
section
variable{P:bn}{w:df}{K:PySem.W.Frag}{mg:bp->Option a9}{base:eJ}
theorem yE {iH:a5}{gv:dv}{p:Pm}(T:Txt K mg p w base)(cj:Dn K mg "check_place" mO V0 iH gv)  :aE P w K mg base bS 1 iH gv V0 (uv K):=by
 refine cj.fn.kG ym (λvs H Q E h=>?_) (λ_ _ _ _ H vs Q E hr h=>?_)
 ·obtain⟨f,s,q,ij,rfl,_⟩:=h
  rfl
 ·obtain⟨f,s,q,ij,rfl,hq,⟨i1,i2,i3,i4⟩,hf,hs,k⟩:=h
  have zf:f.length<=bt:=bj hf (by decide)
  have zs:s.length<=bt:=bj hs (by decide)
  intro X
  refine⟨_,(aq (bZ (BU (PW.pt (Mg (D9 A2 A2 ak (aJ aO (pv 2) ak (λ_ _=>rfl)) (aB (aS) rfl T.cI bL (aa (pv 0) af))) (Ij (D9 A2 A2 ak (aJ aO (pv 2) ak (λ_ _=>rfl)) (aB (aS) rfl T.cI bL (aa (pv 1) af))))))) fk aW)),?_⟩
  refine⟨_,rfl,_,_,_,_,rfl,rfl,hq,rfl,_,_,rfl,rfl,_,rfl,?_⟩
  refine cK (λ_=>?_) λz=>absurd i1 z
  refine⟨_,rfl,_,_,rfl,⟨zf,rfl⟩,_,_,rfl,rfl,_,rfl,?_⟩
  refine cK (λ_=>?_) λz=>absurd i2 z
  refine⟨_,rfl,_,_,_,_,rfl,rfl,hq,rfl,_,_,rfl,rfl,_,rfl,?_⟩
  refine cK (λ_=>?_) λz=>absurd i3 z
  refine⟨_,rfl,_,_,rfl,⟨zs,rfl⟩,_,_,rfl,rfl,_,rfl,?_⟩
  rw[decide_eq_true (show ij.2<=((s.length:Nat):Int) from i4)]
  exact wF k
theorem wZ {gB:a5}{fD:dv}{p:Pm}(T:Txt K mg p w base)(dw:Dn K mg "place_behind" kU VZ gB fD)  :aE P w K mg base bS 1 gB fD VZ (DV K):=by
 refine dw.fn.kG qJ (λvs H Q E h=>?_) (λ_ _ _ _ H vs Q E hr h=>?_)
 ·obtain⟨q,c,ij,rfl,_⟩:=h
  rfl
 ·obtain⟨q,c,ij,rfl,hq,hc,k⟩:=h
  intro X
  refine⟨_,(ai (bZ (aQ Eg (pv 1) (nL (v:=.ref p.lD) rfl T.IM rfl) (by with_unfolding_all rfl)) fk aW)
   (ai (ag 2 qJ.nd (OT (nL (v:=.ref p.lD) rfl T.IM rfl) (pv 1) (λ_ _=>rfl)))
   (aq (aK (bC (aa (aD cH (aJ aO (pv 0) ak (λ_ _=>rfl)) (aJ aO (pv 2) ak (λ_ _=>rfl))) (aa (aD cH (aJ aO (pv 0) ak (λ_ _=>rfl)) (aJ aO (pv 2) ak (λ_ _=>rfl))) af))))))),?_⟩
  obtain⟨v,f,hv,hf,e⟩:∃(v:a5) (f:bT),iO [(Sum.inr (a_ "p"),V.ref p.jG),(Sum.inr (a_ "a"),V.ref p.jF),(Sum.inr (a_ "b"),V.ref p.jE)] (Sum.inr ⟨#[c]⟩:Key)=some (.ref v)/\(∀H:Hp,cE K H v [.int f.1,.int f.2])/\stp ij c=(ij.1+f.1,ij.2+f.2):=by
   rcases hc with rfl|rfl|rfl
   ·exact⟨p.jG,(1,1),eT (show(Sum.inr (a_ "p"):Key)=Sum.inr ⟨#[112]⟩ by decide +kernel),T.Me,rfl⟩
   ·exact⟨p.jF,(1,0),(eV (show ¬(Sum.inr (a_ "p"):Key)=Sum.inr ⟨#[97]⟩ by decide +kernel)).trans (eT (show(Sum.inr (a_ "a"):Key)=Sum.inr ⟨#[97]⟩ by decide +kernel)),T.Mc,rfl⟩
   ·exact⟨p.jE,(0,1),(eV (show ¬(Sum.inr (a_ "p"):Key)=Sum.inr ⟨#[98]⟩ by decide +kernel)).trans ((eV (show ¬(Sum.inr (a_ "a"):Key)=Sum.inr ⟨#[98]⟩ by decide +kernel)).trans (eT (show(Sum.inr (a_ "b"):Key)=Sum.inr ⟨#[98]⟩ by decide +kernel))),T.Mb,rfl⟩
  refine⟨_,rfl,p.lD,_,.inr ⟨#[c]⟩,rfl,rfl,T.EA P,_,rfl,?_⟩
  rw[hv]
  refine wF ?_
  refine⟨_,rfl,p.lD,_,.inr ⟨#[c]⟩,_,rfl,rfl,T.EA P,hv,?_⟩
  refine⟨_,rfl,_,_,_,_,rfl,rfl,hq,rfl,_,rfl,_,_,_,_,rfl,rfl,hf _,rfl,_,_,rfl,rfl,_,rfl,_,_,_,_,rfl,rfl,hq,rfl,_,rfl,_,_,_,_,rfl,rfl,hf _,rfl,_,_,rfl,rfl,aw,λr hr=>?_⟩
  have z:=k r hr
  rw[e]at z
  exact z
theorem B4 {j7 iH gB:a5}{i9 gv fD:dv}{p:Pm}(T:Txt K mg p w base)(gG:Dn K mg "places_of" oN VY j7 i9)(cj:Dn K mg "check_place" mO V0 iH gv)(tH:aE P w K mg base bS 1 iH gv V0 (uv K))(dw:Dn K mg "place_behind" kU VZ gB fD)(zK:aE P w K mg base bS 1 gB fD VZ (DV K)):aE P w K mg base bS 2 j7 i9 VY (DO K):=by
 refine gG.fn.kG kI (λvs H Q E h=>?_) (λ_ _ _ _ H vs Q E hr h=>?_)
 ·obtain⟨f,s,b,ij,mv,rfl,_⟩:=h
  rfl
 ·obtain⟨f,s,b,ij,mv,rfl,hb,W,k⟩:=h
  intro X
  refine⟨_,(ai (ag 4 kI.nd (bC (aa (aJ aO (pv 2) ak (λ_ _=>rfl)) (aa (aJ aO (pv 2) ak (λ_ _=>rfl)) af))))
   (ai (bK (ae tH hr cj (aa (pv 0) (aa (pv 1) (aa (pv 4) af)))))
   (ai (ag 5 kI.nd (iS (aa (pv 4) af)))
   (ai (cZ eI rfl (Gq (pv 3)) (al 6 kI.nd) (ai (ag 4 kI.nd (ae zK hr dw (aa (pv 4) (aa (pv 6) af))))
   (ai (bK (ae tH hr cj (aa (pv 0) (aa (pv 1) (aa (pv 4) af)))))
   (aq (bK (jJ PySem.F.plainAttrs_list PySem.F.slot_list_append PySem.F.type_list_append b8 (pv 5) (aa (pv 4) af)))))))
   (aq (aK (pv 5))))))),?_⟩
  refine⟨_,rfl,_,_,_,_,rfl,rfl,hb,rfl,_,rfl,_,_,_,_,rfl,rfl,hb,rfl,aw,λq0 Yi=>?_⟩
  have t0:TupAt (upd H q0 (.tup [.int ij.1,.int ij.2])) q0 ij:=ah
  have s1:aj H (upd H q0 (.tup [.int ij.1,.int ij.2])):=aj.upd Yi
  generalize upd H q0 (.tup [.int ij.1,.int ij.2])=H1 at t0 s1 ⊢
  refine⟨_,rfl,_,rfl,_,rfl,f,s,q0,ij,rfl,t0.fr,W.Yg 0 (d0 _),W.fs,W.ss,?_⟩
  refine⟨_,rfl,ar,λl hl=>?_⟩
  have Ua:H l=none:=aj.free s1 hl
  refine⟨_,rfl,mv,rfl,PV (x:=mv) (λi σ H2=>∃(qs:List a5) (q:a5) (v6:Option V),σ=[some (.str f),some (.str s),some (.ref b),some (.str mv),some (.ref q),some (.ref l),v6]/\qs[i]? =some q/\qs.length=i+1/\H2 l=some (.lst (qs.map V.ref))/\(∀(k:Nat) q,qs[k]? =some q->TupAt H2 q (zX ij mv.cps.toList k))/\aj H H2)
   ⟨[q0],q0,_,rfl,rfl,rfl,ah,?_,s1.trans (aj.upd hl)⟩ ?_ ?_⟩
  ·intro k q hk
   match k,hk with
   | 0,hk=>cases hk;exact t0.same (aj.upd hl)
   |k+1,hk=>simp at hk
  ·rintro i c σ H2 hc ⟨qs,q,v6,rfl,hq,QY,hl2,hts,s2⟩
   have hi:=Hj hc
   have tq:=hts i q hq
   refine⟨_,rfl,_,rfl,q,c,_,rfl,tq.fr,W.ok c (lC hc),λr hr=>?_⟩
   have e:=yt (q:=ij) (e7 hc)
   rw[←e]
   have tr:TupAt (upd H2 r (.tup [.int (zX ij mv.cps.toList (i+1)).1,.int (zX ij mv.cps.toList (i+1)).2])) r (zX ij mv.cps.toList (i+1)):=ah
   have s3:aj H2 (upd H2 r (.tup [.int (zX ij mv.cps.toList (i+1)).1,.int (zX ij mv.cps.toList (i+1)).2])):=aj.upd hr
   generalize upd H2 r (.tup [.int (zX ij mv.cps.toList (i+1)).1,.int (zX ij mv.cps.toList (i+1)).2])=H3 at tr s3 ⊢
   refine⟨_,rfl,_,rfl,_,rfl,f,s,r,_,rfl,tr.fr,W.Yg (i+1) hi,W.fs,W.ss,?_⟩
   have hl3:=s3 _ _ hl2
   refine⟨_,rfl,.inl ⟨rfl,_,cy.of hl3⟩,_,rfl,l,_,_,rfl,rfl,hl3,?_,?_⟩
   ·rw[bc,QY]
    have:=W.ms
    exact dy (show i+1<3000 by omega) (by decide)
   refine⟨qs++[r],r,_,rfl,?_,by rw[cn,QY];rfl,by rw[ah,dC];rfl,λk q hk=>?_,aj.at (s2.trans s3) Ua⟩
   ·rw[js (by rw[QY];exact a7 _),QY,xf];rfl
   ·by_cases z:k<qs.length
    ·rw[ik z]at hk
     exact((hts k q hk).same s3).off hl3
    ·rw[js (z_ z)]at hk
     have z0:k-qs.length=0:=by
      have:=(bd.mp hk).1
      simp at this
      omega
     have zk:k=i+1:=by omega
     rw[z0]at hk
     cases hk
     subst zk
     exact tr.off hl3
  ·rintro σ H2 ⟨qs,q,v6,rfl,hq,QY,hl2,hts,s2⟩
   exact⟨_,rfl,k l H2 qs s2 hl2 QY hts⟩
theorem GB {nY cC j7 cR cD g6:a5}{lW bQ i9 cA bR fN:dv}{p:Pm}(T:Txt K mg p w base)(kD:Dn K mg "cost_of" sy VX nY lW)(bA:Dn K mg "check_rows" i7 Pk cC bQ)(lG:aE P w K mg base bS 4 cC bQ Pk (nv (xN K p.ao p.aH)))(gG:Dn K mg "places_of" oN VY j7 i9)(Ft:aE P w K mg base bS 2 j7 i9 VY (DO K))(bF:Dn K mg "pair_cost" j3 Pn cR cA)(mZ:aE P w K mg base bS 1 cR cA Pn (qc K p.ao))(aP:Dn K mg "alone_cost" i8 Pj cD bR)(g7:aE P w K mg base bS 3 cD bR Pj (xO K p.ao))(c5:Dn K mg "in_units" oi Tr g6 fN)(ug:aE P w K mg base bS 2 g6 fN Tr (vE K p.ao)):aE P w K mg base bS 5 nY lW VX (DU K p.ao):=by
 refine kD.fn.kG gT (λvs H Q E h=>?_) (λ_ _ _ _ H vs Q E hr h=>?_)
 ·obtain⟨x,sg,rows,fo,fm,f,s,b,ij,mv,rfl,_⟩:=h
  rfl
 ·obtain⟨x,sg,rows,fo,fm,f,s,b,ij,mv,rfl,hP,of,os,hb,W,k⟩:=h
  intro X
  refine⟨_,(ai (bK (ae lG hr bA (aa (pv 0) (aa (iS (aa (pv 1) (aa (pv 2) af))) af))))
   (ai (ag 5 gT.nd (ae Ft hr gG (aa (pv 1) (aa (pv 2) (aa (pv 3) (aa (pv 4) af))))))
   (ai (ag 6 gT.nd ak)
   (ai (ag 7 gT.nd bJ)
   (ai (cZ eI rfl (BY rfl rfl T.HJ (aa (pv 5) (aa (pv 4) af))) (qm (n:=2) rfl (bU (al 8 gT.nd) (bU (al 9 gT.nd) mR))) (bN (bZ (aQ fL (pv 9) bJ (bq _)) (aq (ag 6 gT.nd (aD cH (pv 6) (ae mZ hr bF (aa (pv 0) (aa (aJ rJ (pv 1) (aJ aO (pv 8) ak (λ_ _=>rfl)) (λ_ _=>rfl)) (aa (aJ rJ (pv 2) (aJ aO (pv 8) ak (λ_ _=>rfl)) (λ_ _=>rfl)) af))))))) (aq (ag 6 gT.nd (aD cH (pv 6) (ae g7 hr aP (aa (pv 0) (aa (pv 9) (aa (pv 7) af))))))))
   (aq (ag 7 gT.nd (pv 9)))))
   (aq (aK (ae ug hr c5 (aa (pv 0) (aa (pv 6) af)))))))))),?_⟩
  refine⟨_,rfl,_,rfl,_,rfl,aw,λl hl=>?_⟩
  refine⟨x,l,sg,rows,fo,fm,f,s,rfl,hP.same (aj.upd hl),ah,W.fs,W.ss,λ_ _ H1 s1=>?_,λi j bad=>absurd ⟨of,os⟩ bad.no⟩
  have Oc:=(aj.upd (o:=.lst [.str f,.str s]) hl).trans s1
  refine⟨_,rfl,_,rfl,_,rfl,_,rfl,f,s,b,ij,mv,rfl,hb.same Oc,W,λl2 H2 qs s2 hl2 QY hts=>?_⟩
  have Ih:=Oc.trans s2
  have zf:f.length<=bt:=bj W.fs (by decide)
  have zs:s.length<=bt:=bj W.ss (by decide)
  have hmin:min (qs.map V.ref).length (dR mv).length=mv.cps.size:=by rw[signs_length,bc,QY];omega
  have sq:NZ sg.cps.size rows:=hP.sqr
  refine⟨_,rfl,_,rfl,.lst l2,.txt mv,_,_,rfl,cy.of hl2,rfl,Ct (K:=K) (c:=.lst l2) (d:=.txt mv) (xs:=qs.map V.ref) (ys:=dR mv) (λi σ H3=>∃(v8 v9:Option V),σ=[some (.ref x),some (.str f),some (.str s),some (.ref b),some (.str mv),some (.ref l2),some (.int (KG sg rows fo fm f s ij mv i)),some (.str (if i=0 then a_ "" else⟨#[mv.cps.toList.getD (i-1) 0]⟩)),v8,v9]/\aj H2 H3)
   ⟨_,_,rfl,aj.refl _⟩ (λi σ H3 _ ⟨_,_,_,s3⟩=>⟨cy.of (s3 _ _ hl2),rfl⟩) ?_ ?_⟩
  ·rintro i y z p1 σ H3 hy hz hp1 ⟨v8,v9,rfl,s3⟩
   obtain⟨q,hq,rfl⟩:=iU hy
   obtain⟨c,hc,rfl⟩:=signs_get hz
   have s4:=s3.trans (aj.upd (o:=.tup [.ref q,.str ⟨#[c]⟩]) hp1)
   have hi:=Hj hc
   have tq:=(hts i q hq).same s4
   refine⟨p1,_,rfl,cE.of ah,rfl,_,_,rfl,_,_,rfl,rfl,?_⟩
   generalize upd H3 p1 (.tup [.ref q,.str ⟨#[c]⟩])=H4 at s4 tq ⊢
   have Yt:=hP.same (Ih.trans s4)
   have hcl:=e7 hc
   refine⟨λσ' H'=>aj H2 H'/\σ'=[some (.ref x),some (.str f),some (.str s),some (.ref b),some (.str mv),some (.ref l2),some (.int (KG sg rows fo fm f s ij mv (i+1))),some (.str (if i=0 then a_ "" else⟨#[mv.cps.toList.getD (i-1) 0]⟩)),some (.ref q),some (.str ⟨#[c]⟩)],?_,?_⟩
   ·refine⟨_,rfl,rfl,_,rfl,?_⟩
    have ecs:KG sg rows fo fm f s ij mv (i+1)=KG sg rows fo fm f s ij mv i+QJ (La sg rows (aX fo.2 fm.2 rows)) (cX (aX fo.2 fm.2 rows) fo) (cX (aX fo.2 fm.2 rows) fm) f s ij mv.cps.toList i:=rfl
    by_cases e:c=112
    ·have es:(⟨#[c]⟩:bp)=a_ "p" :=by rw[e];decide +kernel
     rw[decide_eq_true (show V.str ⟨#[c]⟩=V.str (a_ "p") by rw[es])]
     refine qw ?_
     have w0:=W.Yg i (kz hi)
     have w1:=W.Yg (i+1) hi
     rw[yt hcl,e]at w1
     obtain⟨a1,a2,a3,a4⟩:=w0
     obtain⟨b1,b2,b3,b4⟩:=w1
     have b2':(zX ij mv.cps.toList i).1+1<=(f.cps.size:Int):=b2
     have b4':(zX ij mv.cps.toList i).2+1<=(s.cps.size:Int):=b4
     obtain⟨n1,hn1⟩:∃n:Nat,(zX ij mv.cps.toList i).1=(n:Int):=⟨_,(io a1).symm⟩
     obtain⟨n2,hn2⟩:∃n:Nat,(zX ij mv.cps.toList i).2=(n:Int):=⟨_,(io a3).symm⟩
     obtain⟨ca,hca⟩:=vY (x:=f) (i:=n1) (by omega)
     obtain⟨cb,hcb⟩:=vY (x:=s) (i:=n2) (by omega)
     obtain⟨j1,j2,g,k1,k2,k3,k4⟩:=Gu (u:=aX fo.2 fm.2 rows) sq (of ca (lC hca)) (os cb (lC hcb))
     refine⟨_,rfl,_,rfl,_,rfl,_,rfl,_,_,_,_,rfl,rfl,tq.fr,rfl,f,_,ca,rfl,rfl,zf,(by rw[hn1];exact dX (e7 hca)),?_⟩
     refine⟨_,rfl,_,rfl,_,_,_,_,rfl,rfl,tq.fr,rfl,s,_,cb,rfl,rfl,zs,(by rw[hn2];exact dX (e7 hcb)),?_⟩
     refine⟨x,sg,rows,fo,fm,j1,j2,ca,cb,g,rfl,Yt,k1,k2,k3,λH5 s5=>?_⟩
     refine⟨_,_,rfl,rfl,s4.trans s5,?_⟩
     have ei:QJ (La sg rows (aX fo.2 fm.2 rows)) (cX (aX fo.2 fm.2 rows) fo) (cX (aX fo.2 fm.2 rows) fm) f s ij mv.cps.toList i=g.1*(aX fo.2 fm.2 rows / g.2):=by
      unfold QJ
      rw[hcl]
      show(if c=112 then _ else _)=_
      rw[if_pos e,hn1,hn2,kx,kx,cf,cf,e7 hca,e7 hcb]
      exact k4
     rw[ecs,ei]
     rfl
    ·have es:¬(⟨#[c]⟩:bp)=a_ "p" :=λz=>e (by
      have z2: #[c]= #[112]:=congrArg Str.cps z
      simpa using z2)
     rw[decide_eq_false (show ¬V.str ⟨#[c]⟩=V.str (a_ "p") from λz=>es (V.str.inj z))]
     refine lJ ?_
     refine⟨_,rfl,_,rfl,_,rfl,_,rfl,x,sg,rows,fo,fm,⟨#[c]⟩,_,rfl,Yt,_,_,rfl,rfl,s4,?_⟩
     have ei:QJ (La sg rows (aX fo.2 fm.2 rows)) (cX (aX fo.2 fm.2 rows) fo) (cX (aX fo.2 fm.2 rows) fm) f s ij mv.cps.toList i=(if(⟨#[c]⟩:bp)=(if i=0 then a_ "" else⟨#[mv.cps.toList.getD (i-1) 0]⟩)then cX (aX fo.2 fm.2 rows) fm else cX (aX fo.2 fm.2 rows) fo+cX (aX fo.2 fm.2 rows) fm):=by
      unfold QJ
      rw[hcl]
      show(if c=112 then _ else _)=_
      rw[if_neg e]
      exact P8 mv i c hi
     rw[ecs,ei]
     rfl
   ·rintro σ' H' ⟨s5,rfl⟩
    refine⟨_,rfl,some (.ref q),some (.str ⟨#[c]⟩),?_,s5⟩
    have eg:mv.cps.toList.getD i 0=c:=by rw[cf,hcl];rfl
    rw[if_neg (Nat.succ_ne_zero i),Nat.add_sub_cancel,eg]
    rfl
  ·rintro σ H3 ⟨v8,v9,rfl,s3⟩
   rw[hmin]
   refine⟨_,rfl,_,rfl,x,_,sg,rows,fo,fm,rfl,hP.same (Ih.trans s3),λq H4 s4 hqn hq4=>?_⟩
   exact k q H4 ((Ih.trans s3).trans s4) hq4
end
section
variable{P:bn}{w:df}{K:PySem.W.Frag}{mg:bp->Option a9}{base:eJ}
theorem wX {gz jn:a5}{fB gX:dv}{p:Pm}(T:Txt K mg p w base)(dm:Dn K mg "stop_between" kR VW gz fB)(eO:Dn K mg "stop_at" pN Tp jn gX)(wg:aE P w K mg base bS 7 jn gX Tp (yf K p.ao)):aE P w K mg base bS 8 gz fB VW (HW K p.ao):=by
 refine dm.fn.kG jN (λvs H Q E h=>?_) (λ_ _ _ _ H vs Q E hr h=>?_)
 ·obtain⟨pr,d,T1,f,s,lo,hi,u,S,tl,th,tu,rfl,_⟩:=h
  rfl
 ·obtain⟨pr,d,T1,f,s,lo,hi,u,S,tl,th,tu,rfl,hP,of,os,hf,hs,hS,h1,h2,h3,W9,UN,Ui,sl,sh,kk⟩:=h
  have lf:f.length<=bt:=bj hf (by decide)
  have QE:s.length<=bt:=bj hs (by decide)
  intro X
  refine⟨_,(ai (ag 7 jN.nd (gU (iM hr) (pv 3) (pv 4) (λ_ _=>rfl)))
   (ai (ag 8 jN.nd (gU (iM hr) (pv 3) (pv 5) (λ_ _=>rfl)))
   (ai (ag 9 jN.nd (ae wg hr eO (aa (pv 0) (aa (pQ vF (pv 1) (oZ (pv 4)) (oZ (pv 5))) (aa (pQ vF (pv 2) (oZ (aJ aO (pv 7) ak (λ_ _=>rfl))) (oZ (aJ aO (pv 8) ak (λ_ _=>rfl)))) (aa (aJ aO (pv 7) ak (λ_ _=>rfl)) (aa (aJ aO (pv 8) ak (λ_ _=>rfl)) (aa (aD ow (pv 6) (pv 4)) af))))))))
   (aq (aK (bC (aa (aD cH (aJ aO (pv 7) ak (λ_ _=>rfl)) (aJ aO (pv 9) ak (λ_ _=>rfl))) (aa (aJ aO (pv 9) ak (λ_ _=>rfl)) af)))))))),?_⟩
  obtain⟨pl,gl,hpl⟩:=hS.get sl
  obtain⟨ph,gh,hph⟩:=hS.get sh
  obtain⟨il,onl⟩:=Gd.uQ (rL T1 sW f s) _ jB lo tl (EB T1 sW f s) (a7 _) W9
  have rl:=IP W9
  have rh:=IP UN
  have eh:((cW T1 sW f s).xu tl)[hi-lo]? =some th:=by rw[onl,Nat.add_sub_cancel' (bj h1 h2)];exact UN
  have eu:((cW T1 sW f s).xu tl)[u-lo]? =some tu:=by rw[onl,Nat.add_sub_cancel' h1];exact Ui
  have cl:=Nn eh
  have ih:=(Gd.uQ (rL T1 sW f s) _ jB hi th (EB T1 sW f s) (a7 _) UN).1
  have hm:th.2.1<=s.cps.size:=ih.2.1
  obtain⟨SB,nf,ns⟩:=SO (T:=T1) (m:=sW) (m':=sW) (f:=f) (s:=s) (AQ f (bj h1 h2)) (AQ s cl) h3 hm (bj h1 h2) cl
  obtain⟨r1,hsv,cu⟩:=LA (g':=cW T1 sW (Txt.slice f (some (lo:Int)) (some (hi:Int))) (Txt.slice s (some (tl.2.1:Int)) (some (th.2.1:Int)))) (rL T1 sW f s) il eh eu (by omega) (by rw[rl];exact SB) (by show(Txt.slice f (some (lo:Int)) (some (hi:Int))).cps.size+tl.1=th.1;omega) (by show(Txt.slice s (some (tl.2.1:Int)) (some (th.2.1:Int))).cps.size+tl.2.1=th.2.1;omega)
  refine⟨_,rfl,_,rfl,d,_,rfl,gl,_,rfl,_,rfl,d,_,rfl,gh,?_⟩
  refine⟨_,rfl,_,rfl,_,rfl,_,rfl,_,rfl,_,rfl,f,rfl,lf,?_⟩
  refine⟨_,rfl,_,rfl,pl,_,_,_,rfl,rfl,cE.of hpl,rfl,_,rfl,_,rfl,ph,_,_,_,rfl,rfl,cE.of hph,rfl,_,rfl,s,rfl,QE,?_⟩
  refine⟨_,rfl,pl,_,_,_,rfl,rfl,cE.of hpl,rfl,_,rfl,ph,_,_,_,rfl,rfl,cE.of hph,rfl,_,rfl,_,rfl,_,_,rfl,rfl,?_⟩
  refine⟨pr,.str ⟨#[th.2.2]⟩,T1,sW,_,_,tl.2.2,u-lo,[th.2.2],_,(by show [_,_,_,_,_,V.int ((u:Int)-(lo:Int))]=_;rw[show((u:Int)-(lo:Int))=((u-lo:Nat):Int) by omega]),hP,λc hc=>of c (AR hc),λc hc=>os c (AR hc),by omega,by omega,by omega,NJ il.2.2,λa ha=>by rw[cq.mp ha];exact NJ ih.2.2,⟨.txt ⟨#[th.2.2]⟩,rfl,rfl,by simp,by simp⟩,hsv,λx H2 s2 hx=>?_⟩
  obtain⟨q,rfl,hq⟩:=hx
  refine⟨_,rfl,pl,_,_,_,rfl,rfl,cE.of (s2 _ _ hpl),rfl,_,rfl,q,_,_,_,rfl,rfl,cE.of hq,rfl,_,_,rfl,rfl,_,rfl,q,_,_,_,rfl,rfl,cE.of hq,rfl,aw,λr hr=>?_⟩
  refine kk r _ (s2.trans (aj.upd hr)) ?_
  rw[ah]
  show some (HO.tup [.int ((tl.2.1:Int)+((tu.2.1-tl.2.1:Nat):Int)),.str ⟨#[tu.2.2]⟩])=some (Sx tu)
  rw[show(tl.2.1:Int)+((tu.2.1-tl.2.1:Nat):Int)=(tu.2.1:Int) by omega]
  rfl
theorem Cd {ko jm gz:a5}{jj ie fB:dv}{p:Pm}(T:Txt K mg p w base)(gP:Dn K mg "all_stops" oX l7 ko jj)(fO:Dn K mg "whole_stop" nB V1 jm ie)(C9:aE P w K mg base bS 8 jm ie V1 (HS K p.ao))(dm:Dn K mg "stop_between" kR VW gz fB)(zI:aE P w K mg base bS 8 gz fB VW (HW K p.ao)):aE P w K mg base bS 9 ko jj l7 (Ie K p.ao):=by
 refine gP.fn.kG kP (λvs H Q E h=>?_) (λ_ _ _ _ H vs Q E hr h=>?_)
 ·obtain⟨pr,T1,f,s,rfl,_⟩:=h
  rfl
 ·obtain⟨pr,T1,f,s,rfl,hP,of,os,hf,hs,kk⟩:=h
  have lf:f.length<=bt:=bj hf (by decide)
  intro X
  refine⟨_,(ai (ag 3 kP.nd (OX (Ea ak (bC (aa ak (aa bJ af))) (Ea (aB (aS) rfl T.cI bL (aa (pv 1) af)) (ae C9 hr fO (aa (pv 0) (aa (pv 1) (aa (pv 2) (aa (aB (aS) rfl T.cI bL (aa (pv 1) af)) af))))) OR)) rfl rfl (λz=>by cases z) (by decide)))
   (ai (ag 4 kP.nd (iS (aa (bC (aa ak (aa (aB (aS) rfl T.cI bL (aa (pv 1) af)) af))) af)))
   (ai (yr eI (aQ uE (aB (aS) rfl T.cI bL (aa (pv 4) af)) ak (bq _)) (ai (ag 5 kP.nd (Gs PySem.F.plainAttrs_list PySem.F.slot_list_pop PySem.F.type_list_pop Th (pv 4)))
   (ai (ag 6 kP.nd (aD dI (aD cH (aJ aO (pv 5) ak (λ_ _=>rfl)) (aJ aO (pv 5) ak (λ_ _=>rfl))) ak))
   (aq (bZ (aQ uE (pv 6) (aJ aO (pv 5) ak (λ_ _=>rfl)) (bq _)) (ai (sE (iM hr) (pv 3) (pv 6) (ae zI hr dm (aa (pv 0) (aa (pv 1) (aa (pv 2) (aa (pv 3) (aa (aJ aO (pv 5) ak (λ_ _=>rfl)) (aa (aJ aO (pv 5) ak (λ_ _=>rfl)) (aa (pv 6) af)))))))) rfl)
   (ai (bK (jJ PySem.F.plainAttrs_list PySem.F.slot_list_append PySem.F.type_list_append b8 (pv 4) (aa (bC (aa (aJ aO (pv 5) ak (λ_ _=>rfl)) (aa (pv 6) af))) af)))
   (aq (bK (jJ PySem.F.plainAttrs_list PySem.F.slot_list_append PySem.F.type_list_append b8 (pv 4) (aa (bC (aa (pv 6) (aa (aJ aO (pv 5) ak (λ_ _=>rfl)) af))) af)))))) aW)))))
   (aq (aK (pv 3)))))),?_⟩
  have fl:=xQ T1 f s
  obtain⟨tn,PR⟩:=t7 (T:=T1) (f:=f) (s:=s) (a7 _)
  refine λd hd=>⟨aw,λq0 Yi=>?_⟩
  have e0:L2.upd (L2.upd H d (.dK [])) q0 (.tup [.int 0,.str (a_ "p")]) d=some (.dK []):=aj.upd Yi _ _ ah
  have e1:L2.upd (L2.upd H d (.dK [])) q0 (.tup [.int 0,.str (a_ "p")]) q0=some (Sx jB):=by rw[ah,sP];rfl
  have s1:=(aj.upd (o:=.dK []) hd).trans (aj.upd (o:=.tup [.int 0,.str (a_ "p")]) Yi)
  generalize L2.upd (L2.upd H d (.dK [])) q0 (.tup [.int 0,.str (a_ "p")])=H1 at e0 e1 s1 ⊢
  refine⟨_,rfl,_,_,rfl,⟨lf,rfl⟩,_,rfl,_,rfl,_,rfl,_,rfl,_,_,rfl,⟨lf,rfl⟩,pr,T1,f,s,f.cps.size,tn,rfl,hP.same s1,of,os,hf,hs,a7 _,PR,λq H2 s2 hq=>⟨s2 _ _ e0,[(.inl 0,.ref q0),(.inl (f.cps.size:Int),.ref q)],rfl,by show 2<=15;decide,?_⟩⟩
  have Ih:=s1.trans s2
  have t3:=kH (o:=.dK (lP [] [(.inl 0,.ref q0),(.inl (f.cps.size:Int),.ref q)])) (s2 _ _ e0) (λ_ z=>by cases z)
  have s3:aj H (L2.upd H2 d (.dK (lP [] [(.inl 0,.ref q0),(.inl (f.cps.size:Int),.ref q)]))):=aj.at Ih hd
  have Kq:L2.upd H2 d (.dK (lP [] [(.inl 0,.ref q0),(.inl (f.cps.size:Int),.ref q)])) d=some (.dK (lP [] [(.inl 0,.ref q0),(.inl (f.cps.size:Int),.ref q)])):=ah
  have f0:(gi T1 f s)[0]? =some jB:=rfl
  have hv3:∀u:Nat,Qc (L2.upd H2 d (.dK (lP [] [(.inl 0,.ref q0),(.inl (f.cps.size:Int),.ref q)]))) (if u=f.cps.size then some tn else if u=0 then some jB else none) (iO (lP [] [(.inl 0,.ref q0),(.inl (f.cps.size:Int),.ref q)]) (.inl (u:Int))):=λu=>by
   show Qc _ _ (iO (putK (putK ([]:List (Key×V)) (Sum.inl 0) (.ref q0)) (Sum.inl (f.cps.size:Int)) (.ref q)) (Sum.inl (u:Int)))
   by_cases a:u=f.cps.size
   ·subst a
    rw[pK,if_pos rfl,if_pos rfl]
    exact⟨q,rfl,t3 _ _ hq⟩
   ·have na:=GY a
    rw[pK,if_neg a,if_neg na,pK]
    by_cases b:u=0
    ·subst b
     rw[if_pos rfl]
     exact⟨q0,(if_pos rfl:(if(Sum.inl ((0:Nat):Int):Key)=Sum.inl 0 then _ else _)=_),t3 _ _ (s2 _ _ e1)⟩
    ·have nb:¬(Sum.inl (u:Int):Key)=Sum.inl 0:=GY b
     rw[if_neg b,if_neg nb]
     rfl
  have hl3:(lP [] [((.inl 0:Key),V.ref q0),(.inl (f.cps.size:Int),.ref q)]).length<=2:=pD _ _
  generalize lP [] [((.inl 0:Key),V.ref q0),(.inl (f.cps.size:Int),.ref q)]=kv3 at t3 s3 Kq hv3 hl3 ⊢
  generalize L2.upd H2 d (.dK kv3)=H3 at t3 s3 Kq hv3 ⊢
  refine⟨_,rfl,_,_,rfl,⟨lf,rfl⟩,aw,λp0 hp0=>⟨ar,λls hls=>?_⟩⟩
  have s4:=(aj.upd (o:=.tup [.int 0,.int ((f.length:Nat):Int)]) hp0).trans (aj.upd (o:=.lst [.ref p0]) hls)
  have T7:H ls=none:=aj.free s3 (aj.free (aj.upd (o:=.tup [.int 0,.int ((f.length:Nat):Int)]) hp0) hls)
  have T9:L2.upd (L2.upd H3 p0 (.tup [.int 0,.int ((f.length:Nat):Int)])) ls (.lst [.ref p0]) ls=some (.lst [.ref p0]):=ah
  have WH:L2.upd (L2.upd H3 p0 (.tup [.int 0,.int ((f.length:Nat):Int)])) ls (.lst [.ref p0]) p0=some (.tup [.int ((0:Nat):Int),.int (f.cps.size:Int)]):=aj.upd hls _ _ ah
  generalize L2.upd (L2.upd H3 p0 (.tup [.int 0,.int ((f.length:Nat):Int)])) ls (.lst [.ref p0])=H4 at s4 T9 WH ⊢
  have X4:=s3.trans s4
  refine⟨λm σ H5=>∃v5 v6 ps sp kvs S,σ=[some (.ref pr),some (.str f),some (.str s),some (.ref d),some (.ref ls),v5,v6]/\aj H H5/\H5 ls=some (.lst (ps.map V.ref))/\Paired (HA H5) ps sp/\H5 d=some (.dK kvs)/\m=Eb sp/\kvs.length+Eb sp<=100/\(∀u:Nat,Qc H5 (S u) (iO kvs (.inl (u:Int))))/\(∀q∈sp,q.1<=q.2/\q.2<=f.cps.size/\S q.1=(gi T1 f s)[q.1]? /\S q.2=(gi T1 f s)[q.2]?)/\(∀u,u<=f.cps.size->S u=(gi T1 f s)[u]? \/∃q∈sp,q.1<u/\u<q.2)/\(∀u,S u=none\/S u=(gi T1 f s)[u]?),⟨_,_,_,[p0],[(0,f.cps.size)],kv3,λu=>if u=f.cps.size then some tn else if u=0 then some jB else none,rfl,X4,T9,.cons WH .nil,s4 _ _ Kq,rfl,?_,λu=>(hv3 u).tps (m6 s4),?_,?_,?_⟩,?_⟩
  ·have z:Eb [(0,f.cps.size)]<=25:=by
    show(2*(f.cps.size-0)-1+if 0=f.cps.size then 1 else 0)+0<=25
    split<;>omega
   omega
  ·intro q hq
   rw[cq.mp hq]
   refine⟨d0 _,a7 _,?_,?_⟩
   ·show(if 0=f.cps.size then some tn else if 0=0 then some jB else none)=_
    by_cases a:0=f.cps.size
    ·rw[if_pos a,←PR,←a]
    ·rw[if_neg a,if_pos rfl]
     rfl
   ·show(if f.cps.size=f.cps.size then some tn else _)=_
    rw[if_pos rfl,PR]
  ·intro u hu
   by_cases a:u=f.cps.size
   ·left
    show(if u=f.cps.size then some tn else _)=_
    rw[if_pos a,a,PR]
   ·by_cases b:u=0
    ·left
     show(if u=f.cps.size then some tn else if u=0 then some jB else none)=_
     rw[if_neg a,if_pos b,b]
     rfl
    ·exact .inr ⟨_,cq.mpr rfl,Nat.pos_of_ne_zero b,Nat.lt_of_le_of_ne hu a⟩
  ·intro u
   show(if u=f.cps.size then some tn else if u=0 then some jB else none)=none\/(if u=f.cps.size then some tn else if u=0 then some jB else none)=_
   by_cases a:u=f.cps.size
   ·right;rw[if_pos a,a,PR]
   ·by_cases b:u=0
    ·right;rw[if_neg a,if_pos b,b];rfl
    ·left;rw[if_neg a,if_neg b]
  ·rintro m σ H5 ⟨v5,v6,ps,sp,kvs,S,rfl,s5,Nc,pp,Ko,rfl,hb,hv,hin,hall,hok⟩
   have hpl:=Paired.len pp
   refine⟨_,rfl,_,_,rfl,.inl ⟨_,cy.of Nc,rfl⟩,_,_,rfl,rfl,_,rfl,?_⟩
   refine cK (λz=>?_) λz=>?_
   ·have hne:ps≠[]:=λe=>by rw[e]at z;exact absurd z (by decide)
    obtain⟨ps',pt,rfl⟩:∃ps' pt,ps=ps'++[pt]:=by
     rcases List.eq_nil_or_concat ps with e|⟨l,x,e⟩
     ·exact absurd e hne
     ·exact⟨l,x,by rw[e];simp⟩
    obtain⟨DW,⟨a,b⟩,rfl,pp',hpt⟩:=wB pp
    obtain⟨hab,hbn,hSa,hSb⟩:=hin (a,b) (eQ _ cr)
    have hb':kvs.length+(Eb DW+(2*(b-a)-1+if a=b then 1 else 0))<=100:=by rw[←rB DW (a,b)];exact hb
    have edl:((ps'++[pt]).map V.ref).dropLast=ps'.map V.ref:=by rw[dC];exact List.dropLast_concat
    refine⟨_,λσ' H' z=>z,?_⟩
    refine⟨_,rfl,.inl ⟨rfl,_,cy.of Nc⟩,ls,_,.ref pt,rfl,rfl,Nc,by rw[dC,cn];exact List.getElem?_concat_length ..,?_⟩
    rw[edl]
    have t6:=kH (o:=.lst (ps'.map V.ref)) Nc (λ_ z=>by cases z)
    have s6:aj H (L2.upd H5 ls (.lst (ps'.map V.ref))):=aj.at s5 T7
    have Tf:d≠ls:=λz=>by rw[z,Nc]at Ko;cases Ko
    have Yr:L2.upd H5 ls (.lst (ps'.map V.ref)) d=some (.dK kvs):=by rw[au Tf];exact Ko
    have T6:L2.upd H5 ls (.lst (ps'.map V.ref)) ls=some (.lst (ps'.map V.ref)):=ah
    generalize L2.upd H5 ls (.lst (ps'.map V.ref))=H6 at t6 s6 Yr T6 ⊢
    have GZ:H6 pt=some (.tup [.int (a:Int),.int (b:Int)]):=t6 _ _ hpt
    have pp6:Paired (HA H6) ps' DW:=Paired.g8 pp' λ_ _ z=>t6 _ _ z
    obtain⟨hh,ehh⟩:∃hh:Nat,(a+b) / 2=hh:=⟨_,rfl⟩
    have eh:((a:Int)+(b:Int)) / 2=(hh:Int):=by omega
    refine⟨_,rfl,pt,_,_,_,rfl,rfl,cE.of GZ,rfl,_,rfl,pt,_,_,_,rfl,rfl,cE.of GZ,rfl,_,_,rfl,rfl,_,_,rfl,rfl,⟨by decide,by decide⟩,?_⟩
    rw[show(λi j=>V.int (i / j)) ((a:Int)+(b:Int)) 2=V.int (hh:Int) from congrArg V.int eh]
    refine⟨_,rfl,_,rfl,pt,_,_,_,rfl,rfl,cE.of GZ,rfl,_,_,rfl,rfl,_,rfl,?_⟩
    refine cK (λz=>?_) λz=>?_
    ·have z1:a<hh:=y_.mp z
     have z2:=half_lt ehh z1
     have hhn:=bj (kz z2) hbn
     have hk0:kvs.length<=100:=bj (km _ _) hb'
     obtain⟨tu,Ui⟩:=t7 (T:=T1) (s:=s) hhn
     obtain⟨tl,W9⟩:=t7 (T:=T1) (s:=s) (bj hab hbn)
     obtain⟨th,UN⟩:=t7 (T:=T1) (s:=s) hbn
     have SD:E7 H6 d S:=⟨kvs,Yr,bj hk0 (by decide),λu=>(hv u).tps t6⟩
     refine⟨_,rfl,_,rfl,_,rfl,_,rfl,_,rfl,pt,_,_,_,rfl,rfl,cE.of GZ,rfl,_,rfl,pt,_,_,_,rfl,rfl,cE.of GZ,rfl,_,rfl,pr,d,T1,f,s,a,b,hh,S,tl,th,tu,rfl,hP.same s6,of,os,hf,hs,SD,kz z1,kz z2,hbn,W9,UN,Ui,hSa.trans W9,hSb.trans UN,λr H7 s7 hr=>?_⟩
     have hd7:=s7 _ _ Yr
     refine⟨_,rfl,_,rfl,d,_,rfl,xH.k (k:=.inl (hh:Int)) hd7 (bv hk0 (by decide)),?_⟩
     have t8:=(m6 s7).trans (kH (o:=.dK (putK kvs (.inl (hh:Int)) (.ref r))) hd7 (λ_ z=>by cases z))
     have r8:=kH (o:=.dK (putK kvs (.inl (hh:Int)) (.ref r))) hd7 (λ_ z=>by cases z) _ _ hr
     have s8:aj H (L2.upd H7 d (.dK (putK kvs (.inl (hh:Int)) (.ref r)))):=aj.at (s6.trans s7) hd
     have PL:L2.upd H7 d (.dK (putK kvs (.inl (hh:Int)) (.ref r))) ls=some (.lst (ps'.map V.ref)):=by rw[au (Ne.symm Tf)];exact s7 _ _ T6
     have hd8:L2.upd H7 d (.dK (putK kvs (.inl (hh:Int)) (.ref r))) d=some (.dK (putK kvs (.inl (hh:Int)) (.ref r))):=ah
     generalize L2.upd H7 d (.dK (putK kvs (.inl (hh:Int)) (.ref r)))=H8 at t8 r8 s8 PL hd8 ⊢
     have pl6:=Paired.len pp6
     refine⟨_,rfl,.inl ⟨rfl,_,cy.of PL⟩,_,rfl,pt,_,_,_,rfl,rfl,cE.of (t8 _ _ GZ),rfl,_,rfl,aw,λq1 hq1=>?_⟩
     have s9:=aj.upd (o:=.tup [.int (a:Int),.int (hh:Int)]) hq1
     have t9:=(m6 s9).trans (kH (o:=.lst (ps'.map V.ref++[.ref q1])) (s9 _ _ PL) (λ_ z=>by cases z))
     have p9:=kH (o:=.lst (ps'.map V.ref++[.ref q1])) (s9 _ _ PL) (λ_ z=>by cases z) q1 _ ah
     have lps:ps'.length<=100:=by
      have:=Io DW λq hq=>(hin q (hJ _ hq)).1
      omega
     refine⟨ls,_,_,rfl,rfl,s9 _ _ PL,by rw[bc];exact bv lps (by decide),?_⟩
     have s9':aj H (L2.upd (L2.upd H8 q1 (.tup [.int (a:Int),.int (hh:Int)])) ls (.lst (ps'.map V.ref++[.ref q1]))):=aj.at (s8.trans s9) T7
     have WO:L2.upd (L2.upd H8 q1 (.tup [.int (a:Int),.int (hh:Int)])) ls (.lst (ps'.map V.ref++[.ref q1])) ls=some (.lst (ps'.map V.ref++[.ref q1])):=ah
     have hd9:L2.upd (L2.upd H8 q1 (.tup [.int (a:Int),.int (hh:Int)])) ls (.lst (ps'.map V.ref++[.ref q1])) d=some (.dK (putK kvs (.inl (hh:Int)) (.ref r))):=by rw[au Tf];exact s9 _ _ hd8
     generalize L2.upd (L2.upd H8 q1 (.tup [.int (a:Int),.int (hh:Int)])) ls (.lst (ps'.map V.ref++[.ref q1]))=H9 at t9 p9 s9' WO hd9 ⊢
     clear s9
     refine⟨_,rfl,.inl ⟨rfl,_,cy.of WO⟩,_,rfl,_,rfl,pt,_,_,_,rfl,rfl,cE.of (t9 _ _ (t8 _ _ GZ)),rfl,aw,λq2 hq2=>?_⟩
     have K9:=aj.upd (o:=.tup [.int (hh:Int),.int (b:Int)]) hq2
     have t10:=(m6 K9).trans (kH (o:=.lst (ps'.map V.ref++[.ref q1]++[.ref q2])) (K9 _ _ WO) (λ_ z=>by cases z))
     have p10:=kH (o:=.lst (ps'.map V.ref++[.ref q1]++[.ref q2])) (K9 _ _ WO) (λ_ z=>by cases z) q2 _ ah
     have tt:=t8.trans (t9.trans t10)
     have Sh:∀v,(if v=hh then some tu else S v)=none\/(if v=hh then some tu else S v)=(gi T1 f s)[v]? :=λv=>by
      by_cases y:v=hh
      ·right;rw[if_pos y,y,Ui]
      ·rw[if_neg y];exact hok v
     have Se:∀v,S v=(gi T1 f s)[v]? ->(if v=hh then some tu else S v)=(gi T1 f s)[v]? :=λv e=>by
      by_cases y:v=hh
      ·rw[if_pos y,y,Ui]
      ·rw[if_neg y];exact e
     have Sq:(if hh=hh then some tu else S hh)=(gi T1 f s)[hh]? :=by rw[if_pos rfl,Ui]
     have e1:=rB (DW++[(a,hh)]) (hh,b)
     have e2:=rB DW (a,hh)
     have e3:=rB DW (a,b)
     rw[if_neg (eA z1)]at e2
     rw[if_neg (eA z2)]at e1
     rw[if_neg (eA (yB z1 z2))]at e3
     rw[if_neg (eA (yB z1 z2))]at hb'
     have e1':Eb (DW++[(a,hh)]++[(hh,b)])=Eb (DW++[(a,hh)])+(2*(b-hh)-1):=e1
     have Xd:Eb (DW++[(a,hh)])=Eb DW+(2*(hh-a)-1):=e2
     have e3':Eb (DW++[(a,b)])=Eb DW+(2*(b-a)-1):=e3
     have lk:=fM kvs (.inl (hh:Int)) (V.ref r)
     refine⟨ls,_,_,rfl,rfl,K9 _ _ WO,by rw[cn,bc];exact bv (i5 lps) (by decide),Eb (DW++[(a,hh)]++[(hh,b)]),by omega,_,_,ps'++[q1]++[q2],DW++[(a,hh)]++[(hh,b)],putK kvs (.inl (hh:Int)) (.ref r),λv=>if v=hh then some tu else S v,rfl,aj.at (s9'.trans K9) T7,by rw[ah,dC,dC];rfl,(GP.Paired.snoc (GP.Paired.snoc (Paired.g8 pp6 λ_ _ z=>tt _ _ z) (t10 _ _ p9)) p10),by rw[au Tf];exact K9 _ _ hd9,rfl,by omega,λv=>?_,λq hq=>?_,λv hv'=>?_,Sh⟩
     ·show Qc _ (if v=hh then some tu else S v) _
      rw[pK]
      by_cases y:v=hh
      ·subst y
       rw[if_pos rfl,if_pos rfl]
       exact⟨r,rfl,t10 _ _ (t9 _ _ r8)⟩
      ·have ny:=GY y
       rw[if_neg y,if_neg ny]
       exact((hv v).tps t6).tps tt
     ·rcases e_.mp hq with y|y
      ·rcases e_.mp y with y|y
       ·obtain⟨i1,i2,i3,i4⟩:=hin q (hJ _ y)
        exact⟨i1,i2,Se _ i3,Se _ i4⟩
       ·rw[cq.mp y]
        exact⟨kz z1,hhn,Se _ hSa,Sq⟩
      ·rw[cq.mp y]
       exact⟨kz z2,hbn,Sq,Se _ hSb⟩
     ·rcases hall v hv' with q|⟨q,hq,g1,g2⟩
      ·exact .inl (Se _ q)
      ·rcases e_.mp hq with y|y
       ·exact .inr ⟨q,hJ _ (hJ _ y),g1,g2⟩
       ·rw[cq.mp y]at g1 g2
        have g1':a<v:=g1
        have g2':v<b:=g2
        by_cases k1:v=hh
        ·left
         show(if v=hh then some tu else S v)=_
         rw[if_pos k1,k1,Ui]
        ·by_cases k2:v<hh
         ·exact .inr ⟨(a,hh),hJ _ (eQ _ cr),g1,k2⟩
         ·exact .inr ⟨(hh,b),eQ _ cr,Nat.lt_of_le_of_ne (z_ k2) (Ne.symm k1),g2⟩
    ·have z1:¬a<hh:=λq=>z (y_.mpr q)
     refine⟨Eb DW,by rw[rB];show _<_+(2*(b-a)-1+if a=b then 1 else 0);split<;>omega,_,_,ps',DW,kvs,S,rfl,s6,T6,pp6,Yr,rfl,by omega,λu=>(hv u).tps t6,λq hq=>hin q (hJ _ hq),λu hu=>?_,hok⟩
     rcases hall u hu with q|⟨q,hq,q1,q2⟩
     ·exact .inl q
     ·rcases e_.mp hq with y|y
      ·exact .inr ⟨q,y,q1,q2⟩
      ·rw[cq.mp y]at q1 q2
       have q1':a<u:=q1
       have q2':u<b:=q2
       omega
   ·have hps:ps=[]:=by
     cases ps with
     |nil=>rfl
     |cons x xs=>exact absurd (y_.mpr (Nat.succ_pos _)) z
    subst hps
    have IL:sp=[]:=vy (by rw[←hpl];rfl)
    subst IL
    refine⟨_,rfl,kk d H5 s5 hd ⟨kvs,Ko,bj (bj (km _ _) hb) (by decide),λu=>?_⟩⟩
    have eS:S u=(gi T1 f s)[u]? :=by
     by_cases hu:u<=f.cps.size
     ·rcases hall u hu with q|⟨q,hq,_⟩
      ·exact q
      ·exact nomatch hq
     ·rcases hok u with q|q
      ·rw[q,so (by omega)]
      ·exact q
    show Qc H5 ((gi T1 f s)[u]?) _
    rw[←eS]
    exact hv u
theorem vJ {fG:a5}{eG:dv}{p:Pm}(T:Txt K mg p w base)(cS:Dn K mg "moves_between" jO VU fG eG)  :aE P w K mg base bS 1 fG eG VU LU:=by
 refine cS.fn.kG pL (λvs H Q E h=>?_) (λ_ _ _ _ H vs Q E hr h=>?_)
 ·obtain⟨p1,p2,t1,t2,rfl,_⟩:=h
  rfl
 ·obtain⟨p1,p2,t1,t2,rfl,hp1,hp2,l1,l2,kk⟩:=h
  intro X
  refine⟨_,(bN (ag 2 pL.nd (rC (aQ fL (aJ aO (pv 1) ak (λ_ _=>rfl)) bJ (bq _)) ak ak))
   (aq (aK (aD jT (aD Iz bJ (aD ow (aD ow (aJ aO (pv 1) ak (λ_ _=>rfl)) (aJ aO (pv 0) ak (λ_ _=>rfl))) (pv 2))) (aJ aO (pv 1) ak (λ_ _=>rfl)))))),?_⟩
  refine⟨λσ H2=>σ=[some (.ref p1),some (.ref p2),some (.int ((if t2.2.2=112 then 1 else 0:Nat):Int))]/\H=H2,?_,?_⟩
  ·refine⟨_,rfl,p2,_,_,_,rfl,rfl,cE.of hp2,rfl,rfl,_,rfl,?_⟩
   rw[Um sP]
   exact cK (λz=>⟨by rw[if_pos z];rfl,rfl⟩) λz=>⟨by rw[if_neg z];rfl,rfl⟩
  rintro σ _ ⟨rfl,rfl⟩
  obtain⟨pd,epd⟩:∃pd:Nat,(if t2.2.2=112 then 1 else 0:Nat)=pd:=⟨_,rfl⟩
  have hpd:pd<=1:=by rw[←epd];split<;>omega
  rw[epd]
  have b1:(a_ "b").cps.size=1:=by rw[sB];rfl
  refine⟨_,rfl,p2,_,_,_,rfl,rfl,cE.of hp2,rfl,_,rfl,p1,_,_,_,rfl,rfl,cE.of hp1,rfl,_,_,rfl,rfl,_,rfl,_,_,rfl,rfl,_,_,rfl,rfl,by omega,by omega,by rw[b1];decide,?_,_,rfl,p2,_,_,_,rfl,rfl,cE.of hp2,rfl,_,_,rfl,rfl,?_,?_⟩
  ·rw[b1]
   exact bj (show _<=10000 by omega) (by decide)
  ·have e:(o9 (a_ "b") ((t2.2.1:Int)-(t1.2.1:Int)-(pd:Int))).length=((t2.2.1:Int)-(t1.2.1:Int)-(pd:Int)).toNat:=by
    show(o9 (a_ "b") _).cps.size=_
    rw[←eD,Gi,me]
   rw[e]
   exact bj (show _+1<=10000 by omega) (by decide)
  ·have e:(o9 (a_ "b") ((t2.2.1:Int)-(t1.2.1:Int)-(pd:Int))++(⟨#[t2.2.2]⟩:bp))=⟨(vG t1 t2).toArray⟩:=by
    refine Vn ?_
    show((o9 (a_ "b") _).cps++ #[t2.2.2]).toList=vG t1 t2
    rw[Array.toList_append,Gi]
    unfold vG
    rw[epd,show((t2.2.1:Int)-(t1.2.1:Int)-(pd:Int)).toNat=t2.2.1-t1.2.1-pd by omega]
   rw[e]
   exact kk
theorem JG {lA cC ko fG nY:a5}{jg bQ jj eG lW:dv}{p:Pm}(T:Txt K mg p w base)(gF:Dn K mg "halved" rm l7 lA jg)(bA:Dn K mg "check_rows" i7 Pk cC bQ)(lG:aE P w K mg base (vt P w) 4 cC bQ Pk (xN K p.ao p.aH))(gP:Dn K mg "all_stops" oX l7 ko jj)(FA:aE P w K mg base bS 9 ko jj l7 (Ie K p.ao))(cS:Dn K mg "moves_between" jO VU fG eG)(xE:aE P w K mg base bS 1 fG eG VU LU)(kD:Dn K mg "cost_of" sy VX nY lW)(K5:aE P w K mg base bS 5 nY lW VX (DU K p.ao)):aE P w K mg base (vt P w) 10 lA jg l7 (Ga K p.ao p.aH):=by
 refine gF.fn.Gv r9 (λvs H Q E h=>?_) (λ_ _ _ _ H vs Q E hr h=>?_)
 ·obtain⟨pr,T1,f,s,rfl,_⟩:=h
  rfl
 ·obtain⟨pr,T1,f,s,rfl,hP,hf,hs,kk,kS⟩:=h
  have lf:f.length<=bt:=bj hf (by decide)
  have QE:s.length<=bt:=bj hs (by decide)
  intro X
  refine⟨_,(ai (bK (az lG (hr.mono (by decide)) rfl bA.m bA.fn.kp bA.b .nil (Lets.passes qu) (aa (pv 0) (aa (iS (aa (pv 1) (aa (pv 2) af))) af))))
   (ai (aA (i:=3) r9.nd rfl (Or.inr rfl) (ae FA hr gP (aa (pv 0) (aa (pv 1) (aa (pv 2) af)))))
   (ai (tS (i:=4) (N:=["used","stops"]) r9.nd rfl (Or.inl rfl) rfl (c6.uS (nt:=1) (ix:=[3]) rfl (by decide +kernel) (by decide +kernel) (by kernel_rfl) rfl (by kernel_rfl)) (g9 rfl T.jM (aa (aB (aS) rfl T.cI bL (aa (pv 1) af)) af)) (λ_ _ _ _ _ _ _=>(aM (i:=0) (show(["used","stops"]:List bp).Nodup by decide +kernel) rfl (Or.inl rfl))) (λ_ _ _ _ _ _ _=>(ae xE hr cS (aa (gU (iM hr) (pv 1) (pv 0) (λ_ _=>rfl)) (aa (gU (iM hr) (pv 1) (aD cH (pv 0) ak) (λ_ _=>rfl)) af)))))
   (ai (bK (jJ PySem.F.plainAttrs_list PySem.F.slot_list_append PySem.F.type_list_append b8 (pv 4) (aa (aD Iz bJ (aD ow (aB (aS) rfl T.cI bL (aa (pv 2) af)) (aJ aO (gU (iM hr) (pv 3) (aB (aS) rfl T.cI bL (aa (pv 1) af)) (λ_ _=>rfl)) ak (λ_ _=>rfl)))) af)))
   (ai (ag 5 r9.nd (jJ PySem.F.plainAttrs_str PySem.F.slot_str_join PySem.F.type_str_join (MH (K':=K) rfl) bJ (aa (pv 4) af)))
   (aq (aK (bC (aa (ae K5 hr kD (aa (pv 0) (aa (pv 1) (aa (pv 2) (aa (bC (aa ak (aa ak af))) (aa (pv 5) af)))))) (aa (bC (aa ak (aa ak af))) (aa (pv 5) af))))))))))),?_⟩
  refine⟨_,rfl,_,rfl,_,rfl,aw,λl hl=>?_⟩
  refine⟨pr,l,T1.1,T1.2.1,T1.2.2.1,T1.2.2.2,f,s,rfl,hP.same (aj.upd hl),ah,bj hf (by decide),bj hs (by decide),λof os H1 s1=>?_,λi j bad dx H1 s1 hd=>kS i j bad dx H1 ((aj.upd hl).trans s1) hd⟩
  have Oc:=(aj.upd (o:=.lst [.str f,.str s]) hl).trans s1
  obtain⟨uP,vU,kk⟩:=kk of os
  refine⟨_,rfl,_,rfl,_,rfl,pr,T1,f,s,rfl,hP.same Oc,of,os,uP,vU,λd H2 s2 hd SD=>?_⟩
  have fl:=xQ T1 f s
  have Ih:=Oc.trans s2
  refine⟨_,rfl,_,_,rfl,⟨lf,rfl⟩,f.cps.size,rfl,by omega,by omega,λlc Le=>?_⟩
  refine Cy f.cps.size (λu=>V.str ⟨(vG ((gi T1 f s).getD u jB) ((gi T1 f s).getD (u+1) jB)).toArray⟩) Le (bv uP (by decide)) (λi H3 s3 hi=>?_) (λH3 s3=>?_) (λi x H3 H4 R s3 hi y hR=>?_) λH3 s3 hl3=>?_
  ·exact hi
  ·exact a7 f.cps.size
  ·obtain⟨rfl,rfl⟩:=y
   refine⟨Kp.Jv,?_⟩
   obtain⟨t1,ft1⟩:=t7 (T:=T1) (s:=s) (kz hi)
   obtain⟨t2,ft2⟩:=t7 (T:=T1) (s:=s) hi
   have SD3:=SD.same s3
   obtain⟨p1,g1,hp1⟩:=SD3.get ft1
   obtain⟨p2,g2,hp2⟩:=SD3.get ft2
   have e1:(gi T1 f s).getD i jB=t1:=by rw[cf,ft1];rfl
   have e2:(gi T1 f s).getD (i+1) jB=t2:=by rw[cf,ft2];rfl
   have l1:=bj (G6 ft1) vU
   have l2:=bj (G6 ft2) vU
   have hR':=hR _ (aj.refl _)
   rw[e1,e2]at hR'
   refine⟨_,rfl,_,rfl,d,_,rfl,by rw[ml];exact g1,_,rfl,_,rfl,_,_,rfl,rfl,d,_,rfl,by show pI _ d (V.int ((0:Int)+(i:Int)+1)) _;rw[ml];exact g2,p1,p2,t1,t2,rfl,hp1,hp2,bj l1 (by decide),bj l2 (by decide),hR'⟩
  ·obtain⟨tn,PR⟩:=t7 (T:=T1) (f:=f) (s:=s) (a7 _)
   obtain⟨pn,gn,hpn⟩:=(SD.same s3).get PR
   have en:(gi T1 f s).getD f.cps.size jB=tn:=by rw[cf,PR];rfl
   have ln:=G6 PR
   have b1:(a_ "b").cps.size=1:=by rw[sB];rfl
   have lsI:(s.length:Int)=(s.cps.size:Int):=rfl
   refine⟨_,rfl,.inl ⟨rfl,_,cy.of hl3⟩,_,rfl,_,_,rfl,⟨QE,rfl⟩,_,rfl,_,rfl,_,_,rfl,⟨lf,rfl⟩,d,_,rfl,gn,pn,_,_,_,rfl,rfl,cE.of hpn,rfl,_,_,rfl,rfl,_,_,rfl,rfl,by omega,by omega,by rw[b1];decide,?_,lc,_,_,rfl,rfl,hl3,?_,?_⟩
   ·rw[b1]
    exact bj (show _<=10000 by omega) (by decide)
   ·rw[bc,i_]
    exact bv uP (by decide)
   obtain⟨ys,eys⟩:∃ys:List bp,((fe f.cps.size).map λu=>(⟨(vG ((gi T1 f s).getD u jB) ((gi T1 f s).getD (u+1) jB)).toArray⟩:bp))++[o9 (a_ "b") ((s.length:Int)-(tn.2.1:Int))]=ys:=⟨_,rfl⟩
   have efl:(ys.map λy=>y.cps.toList).flatten=(cW T1 sW f s).moves jB:=by
    rw[Lj,en,←eys,dC,List.flatten_append,n0,List.map_singleton,List.flatten_singleton,Gi]
    congr 2
    omega
   have hml:=Gd.A5 (g:=cW T1 sW f s) jB
   have hht:(cW T1 sW f s).ht jB<=100:=by
    show f.cps.size-0+(s.cps.size-0)<=100
    omega
   have ej:Str.join (a_ "") ys=⟨((cW T1 sW f s).moves jB).toArray⟩:=Vn ((Ke ys).trans efl)
   have H4e:L2.upd H3 lc (HO.lst (((fe f.cps.size).map λu=>V.str ⟨(vG ((gi T1 f s).getD u jB) ((gi T1 f s).getD (u+1) jB)).toArray⟩)++[V.str (o9 (a_ "b") ((s.length:Int)-(tn.2.1:Int)))])) lc=some (.lst (ys.map V.str)):=by
    rw[ah,←eys,dC,n0]
    rfl
   have s4:=aj.at (o:=HO.lst (((fe f.cps.size).map λu=>V.str ⟨(vG ((gi T1 f s).getD u jB) ((gi T1 f s).getD (u+1) jB)).toArray⟩)++[V.str (o9 (a_ "b") ((s.length:Int)-(tn.2.1:Int)))])) (Ih.trans s3) (aj.free Ih Le)
   show U3 _ _ _ _ (L2.upd H3 lc (HO.lst (((fe f.cps.size).map λu=>V.str ⟨(vG ((gi T1 f s).getD u jB) ((gi T1 f s).getD (u+1) jB)).toArray⟩)++[V.str (o9 (a_ "b") ((s.length:Int)-(tn.2.1:Int)))])))
   generalize L2.upd H3 lc (HO.lst (((fe f.cps.size).map λu=>V.str ⟨(vG ((gi T1 f s).getD u jB) ((gi T1 f s).getD (u+1) jB)).toArray⟩)++[V.str (o9 (a_ "b") ((s.length:Int)-(tn.2.1:Int)))]))=H4 at H4e s4 ⊢
   refine⟨rfl,_,rfl,_,lc,ys,rfl,rfl,.inl (cy.of H4e),by decide,λz hz=>?_,?_,?_⟩
   ·have z1:=(List.sublist_flatten_of_mem (gL.mpr ⟨z,hz,rfl⟩:z.cps.toList∈ys.map λy=>y.cps.toList)).length_le
    rw[efl,eD]at z1
    show z.cps.size<=2000
    omega
   ·rw[←eys,cn,bc,i_]
    exact bj (i5 uP) (by decide)
   rw[ej]
   obtain⟨W,ec⟩:=Jk (T:=T1) uP vU
   refine⟨_,rfl,_,rfl,_,rfl,aw,λb0 hb0=>⟨_,rfl,?_⟩⟩
   have s5:=aj.upd (o:=.tup [.int 0,.int 0]) hb0
   refine⟨pr,T1.1,T1.2.1,T1.2.2.1,T1.2.2.2,f,s,b0,(0,0),_,rfl,(hP.same s4).same s5,of,os,cE.of ah,W,λc H6 s6 hc=>⟨aw,λpl hpl=>⟨_,rfl,ax,λr hr=>?_⟩⟩⟩
   have s7:=aj.upd (o:=.tup [.int 0,.int 0]) hpl
   have s8:=aj.upd (o:=.tup [.ref c,.ref pl,.str ⟨((cW T1 sW f s).moves jB).toArray⟩]) hr
   refine kk r _ (s4.trans (s5.trans (s6.trans (s7.trans s8)))) ⟨(0,0),c,pl,Ht _ _,ah,?_,s8 _ _ ah⟩
   have hc':=(hc.same s7).same s8
   rw[d_,ec]at hc'
   exact hc'
end
section
variable{P:bn}{w:df}{K:PySem.W.Frag}{mg:bp->Option a9}{base:eJ}
theorem Ei {br:a5}{aT:dv}{p:Pm}(T:Txt K mg p w base)(aF:Dn K mg "_law_next" fY l6 br aT)  :aE P w K mg base bS 1 br aT l6 (qX K):=by
 refine aF.fn.kG q9 (λvs H Q E h=>?_) (λ_ _ _ _ H vs Q E hr h=>?_)
 ·obtain⟨s,t,ns,k,rfl,_⟩:=h
  rfl
 ·obtain⟨s,t,ns,k,rfl,hC,hk2,kk⟩:=h
  have ht:=hC.at_
  have hk:=hC.k0
  intro X
  refine⟨_,(ai (BV (aD cH (aJ cG (pv 1) ak (λ_ _=>rfl)) ak) (Gr (pv 1) ak set_list))
   (bN (ag 2 q9.nd (rC (aQ uE (aB (aS) rfl T.cI bL (aa (pv 0) af)) ak (bq _)) (aJ cG (pv 0) (aD cJ (aJ cG (pv 1) ak (λ_ _=>rfl)) (aB (aS) rfl T.cI bL (aa (pv 0) af))) (λ_ _=>rfl)) ak))
   (ai (ag 3 q9.nd (aD cJ (aD pq (aD cH (aD cH (aD cJ (pv 2) ak) (aD pq (aD pq (aJ cG (pv 1) ak (λ_ _=>rfl)) (aJ cG (pv 1) ak (λ_ _=>rfl))) ak)) ak) ak) ak))
   (aq (aK (aD cJ (aD pq (pv 3) (pv 3)) ak)))))),?_⟩
  refine⟨_,rfl,t,_,_,_,rfl,rfl,cy.of ht,rfl,_,_,rfl,rfl,_,rfl,t,_,_,0,rfl,rfl,ht,rfl,?_⟩
  have hq:cy K (upd H t (.lst [.int (k+1)])) s (ns.map V.int):=hC.Vt _
  have WZ:cy K (upd H t (.lst [.int (k+1)])) t [.int (k+1)]:=cy.of ah
  have rest:∀c:Int,∀m1:Int,m1=(c % 2147483647+(k+1)*(k+1)*7919+11)*48271 % 2147483647->Q (.int (m1*m1 % 1999999973)) (upd H t (.lst [.int (k+1)])):=λc m1 _ =>
   kk _ (jp _ (by decide)) (ii _ (by decide))
  refine⟨λσ H2=>H2=upd H t (.lst [.int (k+1)])/\∃c:Int,σ=[some (.ref s),some (.ref t),some (.int c),none],?_,?_⟩
  ·refine⟨_,rfl,_,_,rfl,.inl ⟨_,hq,rfl⟩,_,_,rfl,rfl,_,rfl,?_⟩
   refine cK (λh0=>?_) (λh0=>?_)
   ·have hn:0<ns.length:=by rw[bc]at h0;omega
    have i1:=jp (k+1) (show((ns.length:Nat):Int)≠0 by omega)
    have i2:=ii (k+1) (show(0:Int)<((ns.length:Nat):Int) by omega)
    obtain⟨j,hj⟩:∃j:Nat,(k+1) % ((ns.length:Nat):Int)=(j:Int):=⟨_,(io i1).symm⟩
    have hjl:j<ns.length:=by omega
    refine⟨_,rfl,_,rfl,t,_,_,_,rfl,rfl,WZ,rfl,_,rfl,_,_,rfl,.inl ⟨_,hq,rfl⟩,_,_,rfl,rfl,(by show(0:Int)<(((ns.map V.int).length:Nat):Int);rw[bc];omega),?_⟩
    refine⟨s,_,_,.int ns[j],rfl,rfl,hq,?_,rfl,_,rfl⟩
    rw[bc,hj]
    exact dX (by rw[eC,a6 hjl];rfl)
   ·exact⟨rfl,_,rfl⟩
  ·rintro σ H2 ⟨rfl,c,rfl⟩
   refine⟨_,rfl,_,_,rfl,rfl,(by show(0:Int)<_;decide),?_⟩
   refine⟨_,rfl,t,_,_,_,rfl,rfl,WZ,rfl,_,rfl,t,_,_,_,rfl,rfl,WZ,rfl,_,_,rfl,rfl,.inl ⟨by omega,by omega⟩,_,_,rfl,rfl,.inr ⟨by decide,by decide⟩,_,_,rfl,rfl,_,_,rfl,rfl,_,_,rfl,rfl,.inr ⟨by decide,by decide⟩,_,_,rfl,rfl,(by show(0:Int)<_;decide),?_⟩
   have m0:=jp ((c % 2147483647+(k+1)*(k+1)*7919+11)*48271) (show(2147483647:Int)≠0 by decide)
   have m1:=ii ((c % 2147483647+(k+1)*(k+1)*7919+11)*48271) (show(0:Int)<2147483647 by decide)
   exact⟨_,rfl,_,rfl,_,_,rfl,rfl,.inl ⟨by omega,by omega⟩,_,_,rfl,rfl,(by show(0:Int)<_;decide),rest c _ rfl⟩
theorem Cb {ki br:a5}{jf aT:dv}{p:Pm}(T:Txt K mg p w base)(gM:Dn K mg "_law_great" oV l6 ki jf)(aF:Dn K mg "_law_next" fY l6 br aT)(cM:aE P w K mg base bS 1 br aT l6 (qX K)):aE P w K mg base bS 2 ki jf l6 (HY K):=by
 refine gM.fn.kG qe (λvs H Q E h=>?_) (λ_ _ _ _ H vs Q E hr h=>?_)
 ·obtain⟨s,t,ns,k,rfl,_⟩:=h
  rfl
 ·obtain⟨s,t,ns,k,rfl,hC,hk2,kk⟩:=h
  have hk:=hC.k0
  intro X
  refine⟨_,(ai (ag 2 qe.nd (ae cM hr aF (aa (pv 0) (aa (pv 1) af))))
   (bN (ag 3 qe.nd (rC (aQ uE (aB (aS) rfl T.cI bL (aa (pv 0) af)) ak (bq _)) (aJ cG (pv 0) (aD cJ (aJ cG (pv 1) ak (λ_ _=>rfl)) (aB (aS) rfl T.cI bL (aa (pv 0) af))) (λ_ _=>rfl)) ak))
   (aq (aK (aD ow (aD cJ (aD cH (aD cJ (pv 3) (aD B0 ak ak)) (aD pq (pv 2) (aD B0 ak ak))) (aD pq ak (aD B0 ak ak))) (aD B0 ak ak)))))),?_⟩
  refine⟨_,rfl,_,rfl,s,t,ns,k,rfl,hC,hk2,λm hm hm2=>?_⟩
  have hq:cy K (upd H t (.lst [.int (k+1)])) s (ns.map V.int):=hC.Vt _
  have WZ:cy K (upd H t (.lst [.int (k+1)])) t [.int (k+1)]:=cy.of ah
  refine⟨λσ H2=>H2=upd H t (.lst [.int (k+1)])/\∃c:Int,σ=[some (.ref s),some (.ref t),some (.int m),some (.int c)],?_,?_⟩
  ·refine⟨_,rfl,_,_,rfl,.inl ⟨_,hq,rfl⟩,_,_,rfl,rfl,_,rfl,?_⟩
   refine cK (λh0=>?_) (λh0=>?_)
   ·have hn:0<ns.length:=by rw[bc]at h0;omega
    have i1:=jp (k+1) (show((ns.length:Nat):Int)≠0 by omega)
    have i2:=ii (k+1) (show(0:Int)<((ns.length:Nat):Int) by omega)
    obtain⟨j,hj⟩:∃j:Nat,(k+1) % ((ns.length:Nat):Int)=(j:Int):=⟨_,(io i1).symm⟩
    have hjl:j<ns.length:=by omega
    refine⟨_,rfl,_,rfl,t,_,_,_,rfl,rfl,WZ,rfl,_,rfl,_,_,rfl,.inl ⟨_,hq,rfl⟩,_,_,rfl,rfl,(by show(0:Int)<(((ns.map V.int).length:Nat):Int);rw[bc];omega),?_⟩
    refine⟨s,_,_,.int ns[j],rfl,rfl,hq,?_,rfl,_,rfl⟩
    rw[bc,hj]
    exact dX (by rw[eC,a6 hjl];rfl)
   ·exact⟨rfl,_,rfl⟩
  ·rintro σ H2 ⟨rfl,c,rfl⟩
   have p39:(0:Int)<(10:Int) ^ (39:Int).toNat:=by decide +kernel
   refine⟨_,rfl,_,_,rfl,rfl,⟨by decide,by decide,by decide⟩,_,_,rfl,rfl,p39,_,rfl,_,_,rfl,rfl,⟨by decide,by decide,by decide⟩,_,_,rfl,rfl,.inl ⟨by omega,by omega⟩,_,_,rfl,rfl,?_⟩
   have p2:(0:Int)<2*(10:Int) ^ (39:Int).toNat:=by omega
   refine⟨_,_,rfl,rfl,⟨by decide,by decide,by decide⟩,_,_,rfl,rfl,.inl ⟨by decide,by decide⟩,_,_,rfl,rfl,p2,_,_,rfl,rfl,⟨by decide,by decide,by decide⟩,_,_,rfl,rfl,?_⟩
   have m0:=jp (c % (10:Int) ^ (39:Int).toNat+m*(10:Int) ^ (28:Int).toNat) (Int.ne_of_gt p2)
   have m1:=ii (c % (10:Int) ^ (39:Int).toNat+m*(10:Int) ^ (28:Int).toNat) p2
   have e39:(10:Int) ^ (39:Int).toNat=10 ^ 39:=rfl
   refine kk _ ?_ ?_
   ·rw[←e39];omega
   ·rw[←e39];omega
theorem B9 {kg br:a5}{jd aT:dv}{p:Pm}(T:Txt K mg p w base)(gK:Dn K mg "_law_signs" oS Oe kg jd)(aF:Dn K mg "_law_next" fY l6 br aT)(cM:aE P w K mg base bS 1 br aT l6 (qX K)):aE P w K mg base bS 2 kg jd Oe (DM K):=by
 refine gK.fn.kG kK (λvs H Q E h=>?_) (λ_ _ _ _ H vs Q E hr h=>?_)
 ·obtain⟨s,t,ns,k,n,rfl,_⟩:=h
  rfl
 ·obtain⟨s,t,ns,k,n,rfl,hC,hk,hn1,hn,kk⟩:=h
  intro X
  refine⟨_,(ai (aA (i:=3) kK.nd rfl (Or.inr rfl) bJ)
   (ai (aA (i:=3) kK.nd rfl (Or.inr rfl) (aD jT (pv 3) bJ))
   (ai (aA (i:=4) kK.nd rfl (Or.inr rfl) (ae cM hr aF (aa (pv 0) (aa (pv 1) af))))
   (ai (aA (i:=5) kK.nd rfl (Or.inr rfl) (aJ cG (iS (aa ak (aa ak (aa ak (aa ak (aa ak (aa ak af))))))) (aD cJ (pv 4) ak) (λ_ _=>rfl)))
   (aq (aK (jJ PySem.F.plainAttrs_str PySem.F.slot_str_join PySem.F.type_str_join IB bJ (aa (qp (N:=l53) rfl (c6.uS (nt:=1) (ix:=[3,4,5]) rfl (by decide +kernel) (by decide +kernel) (by kernel_rfl) rfl (by kernel_rfl)) (g9 rfl T.jM (aa (pv 2) af)) (λ_ _ _ _ _ _ _=>(aM (i:=0) (show(l53:List bp).Nodup by decide +kernel) rfl (Or.inl rfl))) (λ_ _ _ _ _ _ _=>(aJ rJ (pv 1) (aD cJ (aD cH (aD dI (pv 2) ak) (aD pq (pv 0) (pv 3))) (aB (CC) rfl T.cI bL (aa (pv 1) af))) (λ_ _=>rfl)))) af)))))))),?_⟩
  refine⟨_,rfl,_,_,rfl,rfl,(by decide +kernel),?_⟩
  obtain⟨S,hS⟩:∃S:bp,S=a_ " !#$&'()*+,./0123456789:;<=>?@ABCDEFGHIJKLMNOPQRSTUVWXYZ" ++a_ "[\\]^_`abcdefghijklmnopqrstuvwxyz{|}~" :=⟨_,rfl⟩
  have hS1:S.cps.size=92:=by rw[hS];kernel_rfl
  have hS2:S.cps.all qz=true:=by rw[hS];kernel_rfl
  have hS3:S.cps.toList.Nodup:=yR (by rw[hS];kernel_rfl)
  rw[←hS]
  refine⟨_,rfl,_,rfl,s,t,ns,k,rfl,hC,hk,λm hm hm2=>?_⟩
  refine⟨by show 6<=bt;decide,λq hq=>?_⟩
  have s1:aj (upd H t (.lst [.int (k+1)])) (upd (upd H t (.lst [.int (k+1)])) q (.lst [.int 1,.int 3,.int 5,.int 7,.int 9,.int 11])):=aj.upd hq
  have hq1:upd (upd H t (.lst [.int (k+1)])) q (.lst [.int 1,.int 3,.int 5,.int 7,.int 9,.int 11]) q=some (.lst [.int 1,.int 3,.int 5,.int 7,.int 9,.int 11]):=ah
  generalize upd (upd H t (.lst [.int (k+1)])) q (.lst [.int 1,.int 3,.int 5,.int 7,.int 9,.int 11])=H1 at s1 hq1 ⊢
  obtain⟨tv,hmt,hat⟩:=E4 [1,3,5,7,9,11] m (by decide)
  obtain⟨htv,ht1,Oh⟩:=(by decide:∀c∈[(1:Int),3,5,7,9,11],(c=1\/c=3\/c=5\/c=7\/c=9\/c=11)/\0<=c/\c<=11) tv hmt
  refine⟨_,rfl,_,_,rfl,rfl,(by show(0:Int)<6;decide),?_⟩
  refine⟨q,_,_,.int tv,rfl,rfl,cy.of hq1,hat,?_⟩
  refine⟨rfl,_,rfl,n,rfl,by omega,by omega,λl hl=>?_⟩
  refine Cy n (λi=>sg (S.cps.toList.getD ((m / 6+(i:Int)*tv) % 92).toNat 0)) hl (bv hn (by decide)) (λi H2 s2 hi=>?_) (λH2 s2=>?_) (λi x H2 H3 R s2 hi y hR=>?_) λH2 s2 hl2=>?_
  ·show i<((n:Nat):Int).toNat
   omega
  ·show((n:Nat):Int).toNat<=n
   omega
  ·obtain⟨rfl,rfl⟩:=y
   refine⟨Kp.Jv,?_⟩
   have i1:=jp (m / 6+(i:Int)*tv) (show(92:Int)≠0 by decide)
   have i2:=ii (m / 6+(i:Int)*tv) (show(0:Int)<92 by decide)
   obtain⟨j,hj⟩:∃j:Nat,(m / 6+(i:Int)*tv) % 92=(j:Int):=⟨_,(io i1).symm⟩
   have hjl:j<S.cps.toList.length:=by rw[eD];omega
   refine⟨_,rfl,_,rfl,_,_,rfl,rfl,⟨by decide,by decide⟩,_,rfl,_,rfl,_,_,rfl,rfl,.inl ⟨by omega,by omega⟩,_,_,rfl,rfl,_,rfl,S,rfl,(by show S.cps.size<=_;rw[hS1];decide),_,_,rfl,rfl,(by show(0:Int)<(S.cps.size:Int);omega),?_⟩
   have eS:((S.length:Nat):Int)=92:=by show((S.cps.size:Nat):Int)=92;omega
   refine⟨S,_,S.cps.toList[j],rfl,rfl,(by show S.cps.size<=_;rw[hS1];decide),(by rw[ml,eS,hj];exact dX (a6 hjl)),?_⟩
   have e:S.cps.toList[j]=S.cps.toList.getD ((m / 6+(i:Int)*tv) % 92).toNat 0:=by
    rw[hj,kx,o5 (a6 hjl)]
   rw[e]
   exact hR _ (aj.refl _)
  ·refine⟨l,(fe n).map (λi:Nat=>S.cps.toList.getD ((m / 6+(i:Int)*tv) % 92).toNat 0),rfl,rfl,?_,?_,kk _ H2 ⟨?_,?_,λc hc=>?_,GJ hS3 n (λi _=>?_) λi j hij hj=>OA htv hij (by omega)⟩ ?_ (s1.trans s2)⟩
   ·rw[n0]
    exact cy.of hl2
   ·rw[bc,i_];omega
   ·show 0<((fe n).map _).length
    rw[bc,i_];omega
   ·show((fe n).map _).length<=100
    rw[bc,i_];omega
   ·obtain⟨i,hi,rfl⟩:=gL.mp (show c∈(fe n).map _ from hc)
    have i1:=jp (m / 6+(i:Int)*tv) (show(92:Int)≠0 by decide)
    have i2:=ii (m / 6+(i:Int)*tv) (show(0:Int)<92 by decide)
    obtain⟨j,hj⟩:∃j:Nat,(m / 6+(i:Int)*tv) % 92=(j:Int):=⟨_,(io i1).symm⟩
    have hjl:j<S.cps.toList.length:=by rw[eD];omega
    rw[hj,kx,o5 (a6 hjl)]
    exact Array.all_eq_true_iff_forall_mem.mp hS2 _ (Array.mem_toList_iff.mp (kb hjl))
   ·have i1:=jp (m / 6+(i:Int)*tv) (show(92:Int)≠0 by decide)
    have i2:=ii (m / 6+(i:Int)*tv) (show(0:Int)<92 by decide)
    rw[eD]
    omega
   ·show((fe n).map _).length=n
    rw[bc,i_]
theorem Ca {kh br ki:a5}{je aT jf:dv}{p:Pm}(T:Txt K mg p w base)(b7:Dn K mg "_law_price" oU VT kh je)(aF:Dn K mg "_law_next" fY l6 br aT)(cM:aE P w K mg base bS 1 br aT l6 (qX K))(gM:Dn K mg "_law_great" oV l6 ki jf)(Fy:aE P w K mg base bS 2 ki jf l6 (HY K)):aE P w K mg base bS 3 kh je VT (DN K):=by
 refine b7.fn.kG ux (λvs H Q E h=>?_) (λ_ _ _ _ H vs Q E hr h=>?_)
 ·obtain⟨s,t,ns,k,c,rfl,_⟩:=h
  rfl
 ·obtain⟨s,t,ns,k,c,rfl,hC,hk2,kk⟩:=h
  have hk:=hC.k0
  intro X
  refine⟨_,(ai (ag 3 ux.nd (ae cM hr aF (aa (pv 0) (aa (pv 1) af))))
   (ai (bZ (aQ fL (pv 2) ak (bq _)) (aq (aK (bC (aa (aD ow (aD cJ (pv 3) ak) ak) (aa ak af))))) aW)
   (ai (bZ (aQ fL (pv 2) ak (bq _)) (aq (aK (bC (aa (aD ow (aD cJ (pv 3) ak) ak) (aa (aD cH ak (aD cJ (aD dI (pv 3) ak) ak)) af))))) aW)
   (ai (bZ (aQ fL (pv 2) ak (bq _)) (aq (aK (bC (aa (aD ow (aD cJ (pv 3) ak) ak) (aa ak af))))) aW)
   (aq (aK (bC (aa (ae Fy hr gM (aa (pv 0) (aa (pv 1) af))) (aa (aD cH ak (aD cJ (aD dI (pv 3) ak) ak)) af))))))))),?_⟩
  refine⟨_,rfl,_,rfl,s,t,ns,k,rfl,hC,by omega,λm hm hm2=>?_⟩
  have ht:upd H t (.lst [.int (k+1)]) t=some (.lst [.int (k+1)]):=ah
  have last:∀(f:bT) (r:a5),Ux f->upd H t (.lst [.int (k+1)]) r=none->Q (.ref r) (upd (upd H t (.lst [.int (k+1)])) r (.tup [.int f.1,.int f.2])):=λf r hf hr=>by
   have nr:r≠t:=λz=>by rw[z,ht]at hr;cases hr
   exact kk f r _ (k+1) hf (Wo.step (aj.upd hr)) (by rw[au (Ne.symm nr)];exact ht) (by omega) (by omega) (x6 hr) ah
  refine⟨_,rfl,rfl,_,rfl,rK (λh0=>?_) λh0=>?_⟩
  ·exact⟨_,rfl,_,_,rfl,rfl,(by show(0:Int)<_;decide),_,_,rfl,rfl,aw,λr hr=>last (m % 7-1,1) r ⟨by show(1:Int)<=1;omega,by show(1:Int)<=999;omega,by show _<=m % 7-1;omega,by show m % 7-1<=_;omega⟩ hr⟩
  refine⟨_,rfl,rfl,_,rfl,rK (λh1=>?_) λh1=>?_⟩
  ·exact⟨_,rfl,_,_,rfl,rfl,(by show(0:Int)<_;decide),_,_,rfl,rfl,_,rfl,_,_,rfl,rfl,⟨by decide,by decide⟩,_,_,rfl,rfl,(by show(0:Int)<_;decide),_,_,rfl,rfl,aw,λr hr=>last (m % 13-4,1+m / 13 % 4) r ⟨by show 1<=1+m / 13 % 4;omega,by show 1+m / 13 % 4<=999;omega,by show _<=m % 13-4;omega,by show m % 13-4<=_;omega⟩ hr⟩
  refine⟨_,rfl,rfl,_,rfl,rK (λh2=>?_) λh2=>?_⟩
  ·exact⟨_,rfl,_,_,rfl,rfl,(by show(0:Int)<_;decide),_,_,rfl,rfl,aw,λr hr=>last (m % 9-6,1) r ⟨by show(1:Int)<=1;omega,by show(1:Int)<=999;omega,by show _<=m % 9-6;omega,by show m % 9-6<=_;omega⟩ hr⟩
  refine⟨_,rfl,_,rfl,s,t,ns,k+1,rfl,hC.step (by omega),by omega,λg g1 g2=>?_⟩
  refine⟨_,rfl,_,_,rfl,rfl,⟨by decide,by decide⟩,_,_,rfl,rfl,(by show(0:Int)<_;decide),_,_,rfl,rfl,aw,λr hr=>?_⟩
  have Oh:upd (upd H t (.lst [.int (k+1)])) t (.lst [.int (k+1+1)]) t=some (.lst [.int (k+1+1)]):=ah
  have nr:r≠t:=λz=>by rw[z,Oh]at hr;cases hr
  refine kk (g,1+m / 13 % 999) r _ (k+1+1) ⟨by show 1<=1+m / 13 % 999;omega,by show 1+m / 13 % 999<=999;omega,g1,g2⟩ ?_ (by rw[au (Ne.symm nr)];exact Oh) (by omega) (by omega) (x6 (x6 hr)) ah
  have e:=Wo.step (H:=upd H t (.lst [.int (k+1)])) (aj.upd (o:=.tup [.int g,.int (1+m / 13 % 999)]) hr)
  rw[Wo.set]at e
  exact e
end
section
variable{P:bn}{w:df}{K:PySem.W.Frag}{mg:bp->Option a9}{base:eJ}
theorem B8 {kc br kg kh:a5}{jc aT jd je:dv}{p:Pm}(T:Txt K mg p w base)(gJ:Dn K mg "_law_table" oR Oe kc jc)(aF:Dn K mg "_law_next" fY l6 br aT)(cM:aE P w K mg base bS 1 br aT l6 (qX K))(gK:Dn K mg "_law_signs" oS Oe kg jd)(Fx:aE P w K mg base bS 2 kg jd Oe (DM K))(b7:Dn K mg "_law_price" oU VT kh je)(rX:aE P w K mg base bS 3 kh je VT (DN K)):aE P w K mg base bS 4 kc jc Oe (HV K):=by
 refine gJ.fn.kG dW (λvs H Q E h=>?_) (λ_ _ _ _ H vs Q E hr h=>?_)
 ·obtain⟨s,t,ns,k,n,rfl,_⟩:=h
  rfl
 ·obtain⟨s,t,ns,k,n,rfl,hC,hk,hn1,hn6,kk⟩:=h
  have hk0:=hC.k0
  intro X
  refine⟨_,(ai (ag 3 dW.nd (ae cM hr aF (aa (pv 0) (aa (pv 1) af))))
   (bN (aA (i:=4) dW.nd rfl (Or.inr rfl) (aJ cG (iS (aa ak (aa ak (aa ak (aa ak (aa ak (aa ak (aa ak (aa ak af))))))))) (aD cJ (pv 3) ak) (λ_ _=>rfl)))
   (bN (ag 5 dW.nd (ae Fx hr gK (aa (pv 0) (aa (pv 1) (aa (pv 2) af)))))
   (bN (tS (i:=6) (N:=l54) dW.nd rfl (Or.inl rfl) rfl (c6.uS (nt:=1) (ix:=[0,1,2,4]) rfl (by decide +kernel) (by decide +kernel) (by kernel_rfl) rfl (by kernel_rfl)) (g9 rfl T.jM (aa (pv 2) af)) (λ_ _ _ _ _ _ _=>(aM (i:=0) (show(l54:List bp).Nodup by decide +kernel) rfl (Or.inl rfl))) (λ_ _ _ _ _ _ _=>(qp (N:=l55) rfl (c6.uS (nt:=1) (ix:=[1,2,4]) rfl (by decide +kernel) (by decide +kernel) (by kernel_rfl) rfl (by kernel_rfl)) (g9 rfl T.jM (aa (pv 3) af)) (λ_ _ _ _ _ _ _=>(aM (i:=0) (show(l55:List bp).Nodup by decide +kernel) rfl (Or.inl rfl))) (λ_ _ _ _ _ _ _=>(ae rX hr b7 (aa (pv 1) (aa (pv 2) (aa (pv 3) af))))))))
   (bN (cZ eI rfl (g9 rfl T.jM (aa (pv 2) af)) (al 7 dW.nd) (bN (bZ (aQ uE (aD cJ (aD dI (pv 3) ak) ak) ak (bq _)) (aq (BV (bC (aa (aD ow (aJ aO (aJ cG (aJ cG (pv 6) (pv 7) (λ_ _=>rfl)) (pv 7) (λ_ _=>rfl)) ak (λ_ _=>rfl)) ak) (aa (aJ aO (aJ cG (aJ cG (pv 6) (pv 7) (λ_ _=>rfl)) (pv 7) (λ_ _=>rfl)) ak (λ_ _=>rfl)) af))) (Gr (aJ cG (pv 6) (pv 7) (λ_ _=>rfl)) (pv 7) set_list))) aW)
   (aq (cZ eI rfl (g9 rfl T.jM (aa (pv 7) af)) (al 8 dW.nd) (aq (bZ (aQ fL (aD cJ (aD dI (pv 3) ak) ak) ak (bq _)) (aq (BV (aJ cG (aJ cG (pv 6) (pv 8) (λ_ _=>rfl)) (pv 7) (λ_ _=>rfl)) (Gr (aJ cG (pv 6) (pv 7) (λ_ _=>rfl)) (pv 8) set_list))) aW))))))
   (bN (ag 9 dW.nd (rC (aQ uE (aD cJ (aD dI (pv 3) ak) ak) ak (bq _)) (bC (aa (aD cJ (aD dI (pv 3) ak) ak) (aa ak af))) (ae rX hr b7 (aa (pv 0) (aa (pv 1) (aa (pv 4) af))))))
   (bN (ag 10 dW.nd (rC (aQ uE (aD cJ (aD dI (pv 3) ak) ak) ak (bq _)) (bC (aa (aD cJ (aD dI (pv 3) ak) ak) (aa ak af))) (ae rX hr b7 (aa (pv 0) (aa (pv 1) (aa (pv 4) af))))))
   (aq (aK (bC (aa (pv 5) (aa (pv 6) (aa (pv 9) (aa (pv 10) af)))))))))))))),?_⟩
  refine⟨_,rfl,_,rfl,s,t,ns,k,rfl,hC,by omega,λm hm hm2=>?_⟩
  have w1:aj (Wo t H) (Wo t (upd H t (.lst [.int (k+1)]))):=by rw[Wo.set];exact aj.refl _
  have ht1:upd H t (.lst [.int (k+1)]) t=some (.lst [.int (k+1)]):=ah
  have C1:=hC.step (k':=k+1) (by omega)
  generalize upd H t (.lst [.int (k+1)])=H1 at w1 ht1 C1 ⊢
  refine⟨λσ H2=>∃c:Int,σ=[some (.ref s),some (.ref t),some (.int n),some (.int m),some (.int c),none,none,none,none,none,none]/\aj H1 H2,?_,?_⟩
  ·refine⟨by show 8<=bt;decide,λq hq=>⟨_,rfl,_,_,rfl,rfl,(by show(0:Int)<8;decide),?_⟩⟩
   obtain⟨c,_,hc⟩:=E4 [0,1,2,0,3,2,0,1] m (by decide)
   exact⟨q,_,_,.int c,rfl,rfl,cy.of ah,hc,c,rfl,aj.upd hq⟩
  rintro σ H2 ⟨c,rfl,s2⟩
  refine⟨λσ H3=>∃sg,Bw sg/\sg.cps.size=n/\σ=[some (.ref s),some (.ref t),some (.int n),some (.int m),some (.int c),some (.str sg),none,none,none,none,none]/\aj (Wo t H) (Wo t H3)/\H3 t=some (.lst [.int (k+1+1)]),?_,?_⟩
  ·refine⟨_,rfl,_,rfl,_,rfl,s,t,ns,k+1,n,rfl,C1.same s2,by omega,hn1,hn6,λsg H3 hsg hz s3=>⟨sg,hsg,hz,rfl,w1.trans ((Wo.same s2).trans (Wo.step s3)),s3 _ _ ah⟩⟩
  rintro σ H3 ⟨sg,hsg,hz,rfl,w3,Kl⟩
  refine⟨λσ H4=>∃l k1,σ=[some (.ref s),some (.ref t),some (.int n),some (.int m),some (.int c),some (.str sg),some (.ref l),none,none,none,none]/\zC K H t l n 0 k1 H4/\H l=none/\k<=k1/\k1<=k+100,?_,?_⟩
  ·refine⟨_,rfl,n,rfl,by omega,by omega,λl hl=>?_⟩
   have Td:l≠t:=λz=>by rw[z,Kl]at hl;cases hl
   have hlH:H l=none:=Wo.back w3 Kl hl
   refine⟨λi m' ys H4=>m'=n-i/\i<=n/\∃rs rows k1,ys=rs.map V.ref/\rs.length=i/\vg K (Wo t H4) l rs rows/\(∀r∈rows,r.length=n)/\(∀r∈rows,∀f∈r,Ux f)/\(∀r∈rs,H r=none)/\aj (Wo t H3) (Wo t H4)/\H4 t=some (.lst [.int k1])/\k+2<=k1/\k1<=k+2+12*(i:Int),
    ⟨n,rfl,d0 _,[],[],_,rfl,rfl,?_,(λr hr=>by cases hr),(λr hr=>by cases hr),(λr hr=>by cases hr),?_,(by rw[au Td.symm];exact Kl),by omega,by omega⟩,?_⟩
   ·rw[Wo.au Td]
    exact⟨rfl,ah,re,(by simp),λi r row h1=>by simp at h1⟩
   ·rw[Wo.au Td];exact aj.upd (Wo.free hl)
   rintro i m' ys H4 ⟨rfl,hi,rs,rows,k1,rfl,hrs,LM,r1,r2,r3,s4,QU,QI,Wn⟩
   have w4:=w3.trans s4
   by_cases hlt:i<n
   ·refine .inr ⟨(by show i<((n:Nat):Int).toNat;omega),?_⟩
    rintro x H5 ⟨rfl,rfl⟩
    refine⟨Kp.Jv,?_⟩
    refine⟨_,rfl,n,rfl,by omega,by omega,λl2 hl2=>?_⟩
    have GK:l2≠t:=λz=>by rw[z,QU]at hl2;cases hl2
    have abx:H l2=none:=Wo.back w4 QU hl2
    refine⟨λj m' ys H6=>m'=n-j/\j<=n/\H6 l2=some (.lst ys)/\∃ps row k2,ys=ps.map V.ref/\ps.length=j/\Paired (jD K (Wo t H6)) ps row/\(∀f∈row,Ux f)/\aj (Wo t H5) (Wo t H6)/\H6 t=some (.lst [.int k2])/\k1<=k2/\k2<=k1+2*(j:Int),
     ⟨n,rfl,d0 _,ah,[],[],k1,rfl,rfl,.nil,(λf hf=>by cases hf),?_,(by rw[au GK.symm];exact QU),by omega,by omega⟩,?_⟩
    ·rw[Wo.au GK];exact aj.upd (Wo.free hl2)
    rintro j m' ys H6 ⟨rfl,hj,hl6,ps,row,k2,rfl,hps,hP,ok,s6,PF,Wm,k22⟩
    by_cases Yn:j<n
    ·refine .inr ⟨(by show j<((n:Nat):Int).toNat;omega),?_⟩
     rintro x H7 ⟨rfl,rfl⟩
     refine⟨Kp.Jv,?_⟩
     refine⟨_,rfl,_,rfl,_,rfl,s,t,ns,k2,c,rfl,hC.off (w4.trans s6) PF (by omega),by omega,λf q H8 k3 Od w8 ht8 TM UJ hqn hq8=>?_⟩
     have nq:q≠t:=qL hq8 ht8 (by intro z;cases z)
     have PL:Wo t H8 l2=some (.lst (ps.map V.ref)):=w8 _ _ (Wo.in GK hl6)
     refine⟨Wo.sub _ _ PL,?_,n-(j+1),by omega,rfl,Yn,ah,ps++[q],row++[f],k3,by rw[dC];rfl,by rw[cn,hps];rfl,?_,?_,?_,by rw[au GK.symm];exact ht8,by omega,by omega⟩
     ·rw[bc,hps]
      exact dy (show j<100 by omega) (by decide)
     ·rw[Wo.au GK]
      refine GP.Paired.snoc (Paired.g8 hP λa b z=>cE.off PL (z.same w8)) ?_
      exact cE.off PL (cE.of (Wo.in nq hq8))
     ·intro g hg
      rcases e_.mp hg with hg|hg
      ·exact ok g hg
      ·rw[cq.mp hg];exact Od
     ·rw[Wo.au GK]
      exact aj.at (s6.trans w8) (Wo.free hl2)
    ·have ej:j=n:=by omega
     refine .inl ⟨(by show((n:Nat):Int).toNat<=j;omega),?_⟩
     have hlo:Wo t H6 l=some (.lst (rs.map V.ref)):=s6 _ _ LM.at_
     refine⟨Wo.sub _ _ hlo,?_,n-(i+1),by omega,rfl,hlt,rs++[l2],rows++[row],k2,by rw[dC];rfl,by rw[cn,hrs];rfl,?_,?_,?_,?_,?_,by rw[au Td.symm];exact PF,by omega,by omega⟩
     ·rw[bc,hrs]
      exact dy (show i<100 by omega) (by decide)
     ·rw[Wo.au Td]
      exact LM.snoc s6 (Wo.free hl2) (Wo.in GK hl6) hP
     ·intro r hr
      rcases e_.mp hr with hr|hr
      ·exact r1 r hr
      ·rw[cq.mp hr,←Paired.len hP,hps,ej]
     ·intro r hr
      rcases e_.mp hr with hr|hr
      ·exact r2 r hr
      ·rw[cq.mp hr];exact ok
     ·intro r hr
      rcases e_.mp hr with hr|hr
      ·exact r3 r hr
      ·rw[cq.mp hr];exact abx
     ·rw[Wo.au Td]
      exact aj.at (s4.trans s6) (Wo.free hl)
   ·have ei:i=n:=by omega
    subst ei
    refine .inl ⟨(by show((i:Nat):Int).toNat<=i;omega),?_⟩
    refine⟨l,k1,rfl,⟨rs,rows,LM,⟨by rw[←LM.len,hrs],r1⟩,λa b f hf=>?_,r3,w4,QU⟩,hlH,by omega,by omega⟩
    obtain⟨r,hr,hfr⟩:=hf.mem
    exact⟨(r2 r hr f hfr).l,λ_ _=>r2 r hr f hfr⟩
  rintro σ H4 ⟨l,k1,rfl,P4,hlH,QI,Wn⟩
  refine⟨λσ H5=>∃v7 v8,σ=[some (.ref s),some (.ref t),some (.int n),some (.int m),some (.int c),some (.str sg),some (.ref l),v7,v8,none,none]/\zC K H t l n n k1 H5,?_,?_⟩
  ·refine⟨_,rfl,n,rfl,by omega,by omega,?_⟩
   rw[show((n:Nat):Int).toNat=n by omega]
   refine nQ (lo:=0) (n:=n) (λa σ H5=>∃v7 v8,σ=[some (.ref s),some (.ref t),some (.int n),some (.int m),some (.int c),some (.str sg),some (.ref l),v7,v8,none,none]/\zC K H t l n a k1 H5) ⟨_,_,rfl,P4⟩ ?_ (λσ H5 h=>h)
   rintro a σ H5 ha ⟨v7,v8,rfl,P5⟩
   refine⟨λσ H6=>σ=[some (.ref s),some (.ref t),some (.int n),some (.int m),some (.int c),some (.str sg),some (.ref l),some (.int (0+(a:Int))),v8,none,none]/\zC K H t l n (a+1) k1 H6,?_,?_⟩
   ·refine⟨_,rfl,_,_,rfl,rfl,⟨by decide,by decide⟩,_,_,rfl,rfl,(by show(0:Int)<3;decide),_,_,rfl,rfl,_,rfl,?_⟩
    obtain⟨rs,rows,LM,sq,dg,nw,s5,Ld⟩:=P5
    refine cK (λ_=>?_) λ_=>⟨rfl,rs,rows,LM,sq,λi j f hf=>⟨(dg i j f hf).1,λe h=>(dg i j f hf).2 e (by omega)⟩,nw,s5,Ld⟩
    have ha':a<rows.length:=by rw[sq.1];exact ha
    have ha2:a<rs.length:=by rw[LM.len];exact ha'
    obtain⟨ps,TY,hPa⟩:=LM.row a _ _ (a6 ha2) (a6 ha')
    have la:=sq.2 rows[a] (kb ha')
    have hap:a<ps.length:=by rw[Paired.len hPa,la];exact ha
    obtain⟨f,ef,hf⟩:=Paired.at hPa (a6 hap)
    have Od:=(dg a a f ⟨_,a6 ha',ef⟩).2 rfl (a7 _)
    have UL:=Wo.sub _ _ LM.at_
    have TX:=Wo.sub _ _ TY
    have hf':cE K H5 ps[a] [.int f.1,.int f.2]:=jD.same Wo.sub hf
    have ea:E5 (rs.map V.ref) (0+(a:Int))=some (.ref rs[a]):=by rw[ml];exact dX (by rw[eC,a6 ha2];rfl)
    have eb:E5 (ps.map V.ref) (0+(a:Int))=some (.ref ps[a]):=by rw[ml];exact dX (by rw[eC,a6 hap];rfl)
    refine⟨_,rfl,_,rfl,l,_,_,_,rfl,rfl,cy.of UL,ea,_,rfl,rs[a],_,_,_,rfl,rfl,cy.of TX,eb,ps[a],_,_,_,rfl,rfl,hf',rfl,_,_,rfl,rfl,_,rfl,_,rfl,l,_,_,_,rfl,rfl,cy.of UL,ea,_,rfl,rs[a],_,_,_,rfl,rfl,cy.of TX,eb,ps[a],_,_,_,rfl,rfl,hf',rfl,aw,λq hq=>?_⟩
    have nq:q≠t:=λz=>by rw[z,Ld]at hq;cases hq
    have SW:aj H5 (upd H5 q (.tup [.int (f.1-4),.int f.2])):=aj.upd hq
    have LM1:=LM.same (Wo.same (t:=t) SW)
    have abi:=Wo.same (t:=t) SW _ _ TY
    have S9:rs[a]≠t:=Wo.ne TY
    refine⟨_,rfl,_,rfl,l,_,_,.ref rs[a],rfl,rfl,cy.of (SW _ _ UL),ea,_,rfl,rs[a],_,_,a,rfl,rfl,SW _ _ TX,by rw[ml];exact M0 (by rw[bc];exact hap),rfl,rs,rows.set a (rows[a].set a (f.1-4,f.2)),?_,⟨by rw[s_];exact sq.1,λr hr=>?_⟩,λi j g hg=>?_,nw,?_,?_⟩
    ·rw[Wo.au S9]
     exact LM1.put (a6 ha2) (a6 ha') abi (Paired.g8 hPa λ_ _ z=>z.same (Wo.same SW)) (cE.of (Wo.in nq ah))
    ·rcases List.mem_or_eq_of_mem_set hr with hr|hr
     ·exact sq.2 r hr
     ·rw[hr,s_];exact la
    ·rcases Je (a6 ha') hg with⟨rfl,rfl,rfl⟩|hg
     ·exact⟨⟨Od.1,Od.2.1,Vq (by have:=Od.2.2.1;show _<=f.1-4;omega) (by have:=Od.2.2.2;show f.1-4<=_;omega)⟩,λ_ z=>by omega⟩
     ·exact⟨(dg i j g hg).1,λe h=>(dg i j g hg).2 e (by omega)⟩
    ·rw[Wo.au S9]
     exact aj.at (s5.trans (Wo.same SW)) (Wo.free (nw _ (kb ha2)))
    ·rw[au S9.symm];exact SW _ _ Ld
   rintro σ H6 ⟨rfl,P6⟩
   refine⟨_,rfl,_,rfl,by omega,by omega,?_⟩
   rw[show(0+(a:Int)).toNat=a by omega]
   refine nQ (lo:=0) (n:=a) (λb σ H7=>∃v8,σ=[some (.ref s),some (.ref t),some (.int n),some (.int m),some (.int c),some (.str sg),some (.ref l),some (.int (0+(a:Int))),v8,none,none]/\zC K H t l n (a+1) k1 H7) ⟨_,rfl,P6⟩ ?_ (λσ H7 ⟨v8,h1,h2⟩=>⟨_,v8,h1,h2⟩)
   rintro b σ H7 hb ⟨v8,rfl,P7⟩
   obtain⟨rs,rows,LM,sq,dg,nw,s7,TU⟩:=P7
   refine⟨_,rfl,_,_,rfl,rfl,⟨by decide,by decide⟩,_,_,rfl,rfl,(by show(0:Int)<2;decide),rfl,_,rfl,?_⟩
   refine rK (λ_=>?_) λ_=>⟨_,rfl,rs,rows,LM,sq,dg,nw,s7,TU⟩
   have ha':a<rows.length:=by rw[sq.1];exact ha
   have hb':b<rows.length:=by rw[sq.1];omega
   have ha2:a<rs.length:=by rw[LM.len];exact ha'
   have hb2:b<rs.length:=by rw[LM.len];exact hb'
   obtain⟨psa,TY,hPa⟩:=LM.row a _ _ (a6 ha2) (a6 ha')
   obtain⟨psb,hrb,hPb⟩:=LM.row b _ _ (a6 hb2) (a6 hb')
   have la:=sq.2 rows[a] (kb ha')
   have lb:=sq.2 rows[b] (kb hb')
   have hab:a<psb.length:=by rw[Paired.len hPb,lb];exact ha
   have hba:b<psa.length:=by rw[Paired.len hPa,la];omega
   obtain⟨f,ef,hf⟩:=Paired.at hPb (a6 hab)
   have UL:=Wo.sub _ _ LM.at_
   have S9:rs[a]≠t:=Wo.ne TY
   refine⟨_,rfl,_,rfl,l,_,_,.ref rs[b],rfl,rfl,cy.of UL,(by rw[ml];exact dX (by rw[eC,a6 hb2];rfl)),?_⟩
   refine⟨_,rfl,rs[b],_,_,.ref psb[a],rfl,rfl,cy.of (Wo.sub _ _ hrb),(by rw[ml];exact dX (by rw[eC,a6 hab];rfl)),?_⟩
   refine⟨_,rfl,_,rfl,l,_,_,.ref rs[a],rfl,rfl,cy.of UL,(by rw[ml];exact dX (by rw[eC,a6 ha2];rfl)),?_⟩
   refine⟨_,rfl,rs[a],_,_,b,rfl,rfl,Wo.sub _ _ TY,by rw[ml];exact M0 (by rw[bc];exact hba),_,rfl,rs,rows.set a (rows[a].set b f),?_,⟨by rw[s_];exact sq.1,λr hr=>?_⟩,λi j g hg=>?_,nw,?_,?_⟩
   ·rw[Wo.au S9]
    exact LM.put (a6 ha2) (a6 ha') TY hPa hf
   ·rcases List.mem_or_eq_of_mem_set hr with hr|hr
    ·exact sq.2 r hr
    ·rw[hr,s_];exact la
   ·rcases Je (a6 ha') hg with⟨rfl,rfl,rfl⟩|hg
    ·exact⟨(dg _ _ _ ⟨_,a6 hb',ef⟩).1,λz=>by omega⟩
    ·exact dg i j g hg
   ·rw[Wo.au S9]
    exact aj.at s7 (Wo.free (nw _ (kb ha2)))
   ·rw[au S9.symm];exact TU
  rintro σ H5 ⟨v7,v8,rfl,rs,rows,LM,sq,dg,nw,w5,Ld⟩
  have C5:xU K H5 s t ns k1:=hC.off w5 Ld (by omega)
  refine⟨λσ H6=>∃o fo k2,σ=[some (.ref s),some (.ref t),some (.int n),some (.int m),some (.int c),some (.str sg),some (.ref l),v7,v8,some (.ref o),none]/\Ol fo/\TupAt (Wo t H6) o fo/\aj (Wo t H5) (Wo t H6)/\H6 t=some (.lst [.int k2])/\k1<=k2/\k2<=k1+2,?_,?_⟩
  ·refine⟨_,rfl,_,_,rfl,rfl,⟨by decide,by decide⟩,_,_,rfl,rfl,(by show(0:Int)<3;decide),_,_,rfl,rfl,_,rfl,?_⟩
   refine cK (λ_=>?_) λ_=>?_
   ·refine⟨_,rfl,_,_,rfl,rfl,⟨by decide,by decide⟩,_,_,rfl,rfl,(by show(0:Int)<4;decide),aw,λq hq=>?_⟩
    have nq:q≠t:=λz=>by rw[z,Ld]at hq;cases hq
    exact⟨q,(m / 48 % 4,1),k1,rfl,⟨by show(1:Int)<=1;omega,by show(1:Int)<=999;omega,zj (by show _<=m / 48 % 4;omega) (by show m / 48 % 4<=_;omega)⟩,Wo.in nq ah,Wo.same (aj.upd hq),aj.upd hq _ _ Ld,by omega,by omega⟩
   ·exact⟨_,rfl,_,rfl,_,rfl,s,t,ns,k1,c,rfl,C5,by omega,λf q H6 k3 Od w6 PF TM UJ hqn hq6=>⟨q,f,k3,rfl,Od.l,Wo.in (qL hq6 PF (by intro z;cases z)) hq6,w6,PF,TM,UJ⟩⟩
  rintro σ H6 ⟨o,fo,k2,rfl,Mv,ho,w6,PF,Wm,k22⟩
  have C6:xU K H6 s t ns k2:=C5.off w6 PF (by omega)
  refine⟨λσ H7=>∃mo fm k3,σ=[some (.ref s),some (.ref t),some (.int n),some (.int m),some (.int c),some (.str sg),some (.ref l),v7,v8,some (.ref o),some (.ref mo)]/\Ol fm/\TupAt (Wo t H7) mo fm/\aj (Wo t H6) (Wo t H7)/\H7 t=some (.lst [.int k3])/\k2<=k3/\k3<=k2+2,?_,?_⟩
  ·refine⟨_,rfl,_,_,rfl,rfl,⟨by decide,by decide⟩,_,_,rfl,rfl,(by show(0:Int)<3;decide),_,_,rfl,rfl,_,rfl,?_⟩
   refine cK (λ_=>?_) λ_=>?_
   ·refine⟨_,rfl,_,_,rfl,rfl,⟨by decide,by decide⟩,_,_,rfl,rfl,(by show(0:Int)<4;decide),aw,λq hq=>?_⟩
    have nq:q≠t:=λz=>by rw[z,PF]at hq;cases hq
    exact⟨q,(m / 768 % 4,1),k2,rfl,⟨by show(1:Int)<=1;omega,by show(1:Int)<=999;omega,zj (by show _<=m / 768 % 4;omega) (by show m / 768 % 4<=_;omega)⟩,Wo.in nq ah,Wo.same (aj.upd hq),aj.upd hq _ _ PF,by omega,by omega⟩
   ·exact⟨_,rfl,_,rfl,_,rfl,s,t,ns,k2,c,rfl,C6,by omega,λf q H7 k3 Od w7 TU TM UJ hqn hq7=>⟨q,f,k3,rfl,Od.l,Wo.in (qL hq7 TU (by intro z;cases z)) hq7,w7,TU,TM,UJ⟩⟩
  rintro σ H7 ⟨mo,fm,k3,rfl,Mw,hm7,w7,TU,TM,UJ⟩
  refine⟨_,rfl,_,rfl,_,rfl,_,rfl,by show 4<=bt;decide,λr hr=>?_⟩
  have s8:aj H7 (upd H7 r (.tup [.str sg,.ref l,.ref o,.ref mo])):=aj.upd hr
  have w8:=Wo.same (t:=t) s8
  exact kk r l o mo rs rows fo fm sg _ k3 hsg hz ah (LM.same ((w6.trans w7).trans w8)) sq (NB dg) ((ho.same w7).same w8) Mv (hm7.same w8) Mw (((w5.trans w6).trans w7).trans w8) (s8 _ _ TU) (by omega) (by omega)
end
section
variable{P:bn}{w:df}{K:PySem.W.Frag}{mg:bp->Option a9}{base:eJ}
theorem z7 {jr br kc bx:a5}{iw aT jc eX:dv}{p:Pm}(T:Txt K mg p w base)(fR:Dn K mg "_law_prices" nF l6 jr iw)(aF:Dn K mg "_law_next" fY l6 br aT)(cM:aE P w K mg base bS 1 br aT l6 (qX K))(gJ:Dn K mg "_law_table" oR Oe kc jc)(Fw:aE P w K mg base bS 4 kc jc Oe (HV K))(dM:Dm K "__init__" "Prices.__init__" bW UI bx eX)(zD:Mk K p.ao bx)(vj:aE P w K mg base bS 5 bx eX UI (LW K p.ao)):aE P w K mg base bS 7 jr iw l6 (AM K p.ao):=by
 refine fR.fn.kG jH (λvs H Q E h=>?_) (λ_ _ _ _ H vs Q E hr h=>?_)
 ·obtain⟨s,t,ns,k,rfl,_⟩:=h
  rfl
 ·obtain⟨s,t,ns,k,rfl,hC,hk,kk⟩:=h
  have hk0:=hC.k0
  intro X
  refine⟨_,(ai (BV (ae Fw hr gJ (aa (pv 0) (aa (pv 1) (aa (aD cH ak (aD cJ (ae cM hr aF (aa (pv 0) (aa (pv 1) af))) ak)) af)))) (qm (n:=4) rfl (bU (al 2 jH.nd) (bU (al 3 jH.nd) (bU (al 4 jH.nd) (bU (al 5 jH.nd) mR))))))
   (aq (aK (Iu zD vj (hr.mono (by decide)) rfl T.JU dM.b .nil aL (aa (pv 2) (aa (pv 3) (aa (pv 4) (aa (pv 5) af)))))))),?_⟩
  refine⟨_,rfl,_,rfl,_,rfl,_,rfl,s,t,ns,k,rfl,hC,by omega,λm hm hm2=>?_⟩
  refine⟨_,_,rfl,rfl,(by show(0:Int)<4;decide),_,_,rfl,rfl,?_⟩
  obtain⟨n,hn⟩:∃n:Nat,1+m % 4=(n:Int):=⟨(1+m % 4).toNat,by omega⟩
  refine⟨s,t,ns,k+1,n,(by show [V.ref s,V.ref t,V.int (1+m % 4)]=_;rw[hn]),hC.step (by omega),by omega,by omega,by omega,λr l o mo rs rows fo fm sg H5 k5 hsg hz hr LM sq kG ho Mv hmo Mw w5 Ld k51 k52=>?_⟩
  rw[Wo.set]at w5
  refine⟨r,_,rfl,cE.of hr,rfl,_,_,rfl,_,_,rfl,_,_,rfl,_,_,rfl,rfl,?_⟩
  refine⟨_,rfl,_,rfl,_,rfl,_,rfl,λx dx hx hdx ndx=>?_⟩
  have s6:aj H5 (upd (upd H5 dx (.own x)) x (.ins p.ao dx [])):=aj.at (aj.upd hdx) hx
  have QO:upd (upd H5 dx (.own x)) x (.ins p.ao dx []) x=some (.ins p.ao dx []):=ah
  generalize upd (upd H5 dx (.own x)) x (.ins p.ao dx [])=H6 at s6 QO ⊢
  refine⟨x,dx,o,mo,sg,.lst l,rows,fo,fm,rfl,QO,hsg,by omega,((LM.same Wo.sub).same s6).aaO,(by rw[hz];exact sq),λr hr f hf=>(kG r hr f hf).h,TupAt.fr ((ho.same Wo.sub).same s6),Mv.h,TupAt.fr ((hmo.same Wo.sub).same s6),Mw.h,λH7 P7 f7 nf7=>⟨rfl,?_⟩⟩
  have s7:aj H5 H7:=λb u e=>f7 b u (s6 b u e) λz=>by rw[z,hx]at e;cases e
  exact kk x H7 k5 (sg,Af rows,k9 fo,k9 fm) (P7.wo (s7 _ _ Ld) (nf7 t (by rw[s6 _ _ Ld];exact λz=>nomatch z))) (by show sg.cps.size<=4;omega) (Wo.back w5 Ld hx) (w5.trans (Wo.same s7)) (s7 _ _ Ld) (by omega) (by omega)
theorem Gz {nW br:a5}{lU aT:dv}{p:Pm}(T:Txt K mg p w base)(gE:Dn K mg "_law_row" sr VS nW lU)(aF:Dn K mg "_law_next" fY l6 br aT)(cM:aE P w K mg base bS 1 br aT l6 (qX K)):aE P w K mg base bS 2 nW lU VS (LJ K):=by
 refine gE.fn.kG jS (λvs H Q E h=>?_) (λ_ _ _ _ H vs Q E hr h=>?_)
 ·obtain⟨s,t,ns,k,n,sg,rfl,_⟩:=h
  rfl
 ·obtain⟨s,t,ns,k,n,sg,rfl,hC,hk,hn,hs0,hs1,kk⟩:=h
  have hk0:=hC.k0
  have lsg:sg.length<=bt:=bj hs1 (by decide)
  intro X
  refine⟨_,(ai (ag 4 jS.nd (ae cM hr aF (aa (pv 0) (aa (pv 1) af))))
   (ai (ag 5 jS.nd (aD cJ (aD dI (pv 4) ak) ak))
   (ai (ag 6 jS.nd bJ)
   (ai (cZ eI rfl (g9 rfl T.jM (aa (aD cJ (pv 4) (aD cH (pv 3) ak)) af)) (al 7 jS.nd) (bN (bZ (aQ uE (pv 5) ak (bq _)) (aq (ag 4 jS.nd (ae cM hr aF (aa (pv 0) (aa (pv 1) af))))) aW)
   (aq (ag 6 jS.nd (aD jT (pv 6) (aJ rJ (pv 2) (aD cJ (aD dI (pv 4) ak) (aB (aS) rfl T.cI bL (aa (pv 2) af))) (λ_ _=>rfl)))))))
   (aq (aK (pv 6))))))),?_⟩
  refine⟨_,rfl,_,rfl,s,t,ns,k,rfl,hC,by omega,λm hm hm2=>?_⟩
  refine⟨_,rfl,_,_,rfl,rfl,⟨by decide,by decide⟩,_,_,rfl,rfl,(by show(0:Int)<4;decide),?_⟩
  have hm0:=jp m (show((n:Int)+1)≠0 by omega)
  have hm1:=ii m (show(0:Int)<(n:Int)+1 by omega)
  refine⟨_,rfl,_,rfl,_,_,rfl,rfl,_,_,rfl,rfl,(by show(0:Int)<(n:Int)+1;omega),_,rfl,by omega,by omega,?_⟩
  have w1:aj (Wo t H) (Wo t (upd H t (.lst [.int (k+1)]))):=by rw[Wo.set];exact aj.refl _
  refine nQ (lo:=0) (n:=(m % ((n:Int)+1)).toNat) (λi σ H2=>∃(m1 k1:Int) (f:bp) (v7:Option V),σ=[some (.ref s),some (.ref t),some (.str sg),some (.int n),some (.int m1),some (.int (m / 97 % 4)),some (.str f),v7]/\0<=m1/\Of sg f/\f.cps.size=i/\aj (Wo t H) (Wo t H2)/\H2 t=some (.lst [.int k1])/\k<=k1/\k1<=k+1+(i:Int))
   ⟨m,k+1,_,_,rfl,hm,(λc hc=>by cases hc),rfl,w1,ah,by omega,by omega⟩ ?_ ?_
  ·rintro i σ H2 hi ⟨m1,k1,f,v7,rfl,WM,of,hf,w2,Oh,QI,Wn⟩
   refine⟨λσ H3=>∃(m2 k2:Int),σ=[some (.ref s),some (.ref t),some (.str sg),some (.int n),some (.int m2),some (.int (m / 97 % 4)),some (.str f),some (.int (0+(i:Int)))]/\0<=m2/\aj (Wo t H) (Wo t H3)/\H3 t=some (.lst [.int k2])/\k<=k2/\k2<=k1+1,?_,?_⟩
   ·refine⟨_,rfl,_,_,rfl,rfl,_,rfl,?_⟩
    refine cK (λ_=>?_) λ_=>⟨m1,k1,rfl,WM,w2,Oh,QI,by omega⟩
    refine⟨_,rfl,_,rfl,s,t,ns,k1,rfl,hC.off w2 Oh (by omega),by omega,λm3 h3 _=>⟨m3,k1+1,rfl,h3,by rw[Wo.set];exact w2,ah,by omega,by omega⟩⟩
   rintro σ H3 ⟨m2,k2,rfl,abr,w3,Kl,Wm,k22⟩
   have i1:=jp (m2 / 5) (show((sg.cps.size:Nat):Int)≠0 by omega)
   have i2:=ii (m2 / 5) (show(0:Int)<((sg.cps.size:Nat):Int) by omega)
   obtain⟨j,hj⟩:∃j:Nat,(m2 / 5) % ((sg.cps.size:Nat):Int)=(j:Int):=⟨_,(io i1).symm⟩
   have hjl:j<sg.cps.toList.length:=by rw[eD];omega
   refine⟨_,rfl,_,rfl,_,rfl,_,_,rfl,rfl,⟨by decide,by decide⟩,_,rfl,_,_,rfl,⟨lsg,rfl⟩,_,_,rfl,rfl,(by show(0:Int)<(sg.cps.size:Int);omega),sg,_,sg.cps.toList[j],rfl,rfl,lsg,?_,_,_,rfl,rfl,?_,?_⟩
   ·show E5 sg.cps.toList ((m2 / 5) % ((sg.cps.size:Nat):Int))=_
    rw[hj]
    exact dX (a6 hjl)
   ·show f.cps.size+1<=bt
    exact bj (show _<=100 by omega) (by decide)
   ·refine⟨m2,k2,_,_,rfl,abr,λc hc=>?_,?_,w3,Kl,Wm,by omega⟩
    ·have e:(f.cps++ #[sg.cps.toList[j]]).toList=f.cps.toList++[sg.cps.toList[j]]:=by simp
     have hc':c∈f.cps.toList++[sg.cps.toList[j]]:=by rw[←e];exact hc
     rcases e_.mp hc' with hc|hc
     ·exact of c hc
     ·rw[cq.mp hc];exact kb hjl
    ·show(f.cps++ #[sg.cps.toList[j]]).size=i+1
     rw[Array.size_append,hf]
     rfl
  ·rintro σ H2 ⟨m1,k1,f,v7,rfl,WM,of,hf,w2,Oh,QI,Wn⟩
   exact⟨_,rfl,kk f H2 k1 of (by omega) w2 Oh QI (by omega)⟩
end
section
variable{P:bn}{w:df}{K:PySem.W.Frag}{mg:bp->Option a9}{base:eJ}
theorem yx {fZ:a5}{dZ:dv}{p:Pm}(T:Txt K mg p w base)(bD:Dn K mg "_law_same" oh QF fZ dZ)  :aE P w K mg base bS 1 fZ dZ QF (xM K 0):=by
 refine bD.fn.kG wm (λvs H Q E h=>?_) (λ_ _ _ _ H vs Q E hr h=>?_)
 ·obtain⟨v,u,rfl,_⟩:=h
  rfl
 ·obtain⟨v,u,rfl,hE,k⟩:=h
  intro X
  refine⟨_,(ai (bZ (PW.pt (Mf (oj (aB (bI) rfl T.bG bB (aa (pv 1) (aa (gb (v:=.ty "list") rfl T.xV uZ rfl) af)))) (Gn (oj (aB (bI) rfl T.bG bB (aa (pv 1) (aa (gb (v:=.ty "tuple") rfl T.rY pX rfl) af))))))) fk aW)
   (ai (bZ (aQ Mu (pv 1) yu (by with_unfolding_all rfl)) fk aW)
   (ai (bZ (oj (aB (bI) rfl T.bG bB (aa (pv 1) (aa (gb (v:=.ty "str") rfl T.HK CD rfl) af)))) (aq (aK (oq (aB (bI) rfl T.bG bB (aa (pv 0) (aa (gb (v:=.ty "str") rfl T.HK CD rfl) af))) (qo (iL fL (pv 0) (pv 1) (bq _)))))) aW)
   (aq (aK (oq (aB (bI) rfl T.bG bB (aa (pv 0) (aa (gb (v:=.ty "int") rfl T.Qi NP rfl) af))) (oq (Mp (aB (bI) rfl T.bG bB (aa (pv 0) (aa (gb (v:=.ty "bool") rfl T.Lh Jb rfl) af)))) (qo (iL fL (pv 0) (pv 1) (bq _)))))))))),?_⟩
  rcases hE with⟨x,rfl,rfl⟩|⟨n,rfl,rfl⟩
  ·refine⟨_,rfl,_,_,_,_,rfl,.inl (.str x),uM,_,rfl,lJ ?_⟩
   refine⟨_,rfl,_,_,_,_,rfl,.inl (.str x),sZ,_,rfl,lJ ?_⟩
   refine⟨_,rfl,rfl,_,rfl,lJ ?_⟩
   refine⟨_,rfl,_,_,_,_,rfl,.inl (.str x),ly,_,rfl,qw ?_⟩
   refine⟨_,rfl,_,_,_,_,rfl,.inl (.str x),ly,_,rfl,qw ?_⟩
   refine⟨_,rfl,_,rfl,rfl,?_⟩
   rw[decide_eq_true rfl]
   exact k H (aj.refl H)
  ·refine⟨_,rfl,_,_,_,_,rfl,.inl (.int n),uN,_,rfl,lJ ?_⟩
   refine⟨_,rfl,_,_,_,_,rfl,.inl (.int n),tw,_,rfl,lJ ?_⟩
   refine⟨_,rfl,rfl,_,rfl,lJ ?_⟩
   refine⟨_,rfl,_,_,_,_,rfl,.inl (.int n),wD,_,rfl,lJ ?_⟩
   refine⟨_,rfl,_,_,_,_,rfl,.inl (.int n),ly,_,rfl,qw ?_⟩
   refine⟨_,rfl,_,_,_,_,rfl,.inl (.int n),uO,_,rfl,_,rfl,qw ?_⟩
   refine⟨_,rfl,_,rfl,rfl,?_⟩
   rw[decide_eq_true rfl]
   exact k H (aj.refl H)
theorem sV {d:Nat}{fZ:a5}{dZ:dv}{p:Pm}(T:Txt K mg p w base)(bD:Dn K mg "_law_same" oh QF fZ dZ)(oJ:aE P w K mg base bS (d+1) fZ dZ QF (xM K d)):aE P w K mg base bS (d+2) fZ dZ QF (xM K (d+1)):=by
 refine bD.fn.kG wm (λvs H Q E h=>?_) (λ_ _ _ _ H vs Q E hr h=>?_)
 ·obtain⟨v,u,rfl,_⟩:=h
  rfl
 ·obtain⟨v,u,rfl,hE,k⟩:=h
  intro X
  refine⟨_,(ai (bZ (PW.pt (Mf (oj (aB (bI) rfl T.bG bB (aa (pv 1) (aa (gb (v:=.ty "list") rfl T.xV uZ rfl) af)))) (Gn (oj (aB (bI) rfl T.bG bB (aa (pv 1) (aa (gb (v:=.ty "tuple") rfl T.rY pX rfl) af))))))) (ai (bZ (PW.pt (Mf (aQ A0 (aB (bI) rfl T.bG bB (aa (pv 0) (aa (gb (v:=.ty "list") rfl T.xV uZ rfl) af))) (aB (bI) rfl T.bG bB (aa (pv 1) (aa (gb (v:=.ty "list") rfl T.xV uZ rfl) af))) (bq _)) (Gn (aQ A0 (aB (bI) rfl T.bG bB (aa (pv 0) (aa (gb (v:=.ty "tuple") rfl T.rY pX rfl) af))) (aB (bI) rfl T.bG bB (aa (pv 1) (aa (gb (v:=.ty "tuple") rfl T.rY pX rfl) af))) (bq _))))) (aq (aK Mt)) aW)
   (aq (aK (oq (iL fL (aB (aS) rfl T.cI bL (aa (pv 0) af)) (aB (aS) rfl T.cI bL (aa (pv 1) af)) (bq _)) (qo (aB (wM rfl) rfl T.Qj NQ (aa (qp (N:=["_law_a","_law_b"]) rfl (λ_=>⟨[],c6.plain (by decide +kernel) rfl (by decide +kernel) (by decide +kernel)⟩) (BY rfl rfl T.HJ (aa (pv 0) (aa (pv 1) af))) (λ_ _ _ _ _ _ _=>(Ip (K':=K) (n:=2) rfl rfl (bU (aM (i:=0) (show(["_law_a","_law_b"]:List bp).Nodup by decide +kernel) rfl (Or.inl rfl)) (bU (aM (i:=1) (show(["_law_a","_law_b"]:List bp).Nodup by decide +kernel) rfl (Or.inl rfl)) mR)))) (λ_ _ _ _ _ _ _=>(az oJ (hr.mono (by omega)) rfl bD.m bD.fn.kp bD.b .nil aL (aa (pv 0) (aa (pv 1) af))))) af))))))) aW)
   (ai (bZ (aQ Mu (pv 1) yu (by with_unfolding_all rfl)) fk aW)
   (ai (bZ (oj (aB (bI) rfl T.bG bB (aa (pv 1) (aa (gb (v:=.ty "str") rfl T.HK CD rfl) af)))) (aq (aK (oq (aB (bI) rfl T.bG bB (aa (pv 0) (aa (gb (v:=.ty "str") rfl T.HK CD rfl) af))) (qo (iL fL (pv 0) (pv 1) (bq _)))))) aW)
   (aq (aK (oq (aB (bI) rfl T.bG bB (aa (pv 0) (aa (gb (v:=.ty "int") rfl T.Qi NP rfl) af))) (oq (Mp (aB (bI) rfl T.bG bB (aa (pv 0) (aa (gb (v:=.ty "bool") rfl T.Lh Jb rfl) af)))) (qo (iL fL (pv 0) (pv 1) (bq _)))))))))),?_⟩
  rcases hE with(⟨x,rfl,rfl⟩|⟨n,rfl,rfl⟩)|⟨p,q,xs,ys,rfl,rfl,hp,hq,hlen,WQ,hall⟩
  ·refine⟨_,rfl,_,_,_,_,rfl,.inl (.str x),uM,_,rfl,lJ ?_⟩
   refine⟨_,rfl,_,_,_,_,rfl,.inl (.str x),sZ,_,rfl,lJ ?_⟩
   refine⟨_,rfl,rfl,_,rfl,lJ ?_⟩
   refine⟨_,rfl,_,_,_,_,rfl,.inl (.str x),ly,_,rfl,qw ?_⟩
   refine⟨_,rfl,_,_,_,_,rfl,.inl (.str x),ly,_,rfl,qw ?_⟩
   refine⟨_,rfl,_,rfl,rfl,?_⟩
   rw[decide_eq_true rfl]
   exact k H (aj.refl H)
  ·refine⟨_,rfl,_,_,_,_,rfl,.inl (.int n),uN,_,rfl,lJ ?_⟩
   refine⟨_,rfl,_,_,_,_,rfl,.inl (.int n),tw,_,rfl,lJ ?_⟩
   refine⟨_,rfl,rfl,_,rfl,lJ ?_⟩
   refine⟨_,rfl,_,_,_,_,rfl,.inl (.int n),wD,_,rfl,lJ ?_⟩
   refine⟨_,rfl,_,_,_,_,rfl,.inl (.int n),ly,_,rfl,qw ?_⟩
   refine⟨_,rfl,_,_,_,_,rfl,.inl (.int n),uO,_,rfl,_,rfl,qw ?_⟩
   refine⟨_,rfl,_,rfl,rfl,?_⟩
   rw[decide_eq_true rfl]
   exact k H (aj.refl H)
  ·have tp:∀{H':Hp} {a:a5} {zs:List V},cE K H' a zs->(vc K H' (.ref a) (.type "tuple")\/∃b ws,V.ref a= .ref b/\cE K H' b ws/\Value.type "tuple" = .type "tuple"):=λ{H' a zs} z=>.inr ⟨a,zs,rfl,z,rfl⟩
   refine⟨_,rfl,_,_,_,_,rfl,tp hq,oF,_,rfl,lJ ?_⟩
   refine⟨_,rfl,_,_,_,_,rfl,tp hq,ly,_,rfl,qw ?_⟩
   refine⟨_,rfl,_,_,_,_,rfl,tp hp,oF,_,rfl,_,_,_,_,rfl,tp hq,oF,rfl,_,rfl,lJ ?_⟩
   refine⟨_,rfl,_,_,_,_,rfl,tp hp,ly,_,rfl,_,_,_,_,rfl,tp hq,ly,rfl,_,rfl,lJ ?_⟩
   refine⟨_,rfl,_,_,rfl,.inr ⟨_,hp,rfl⟩,_,rfl,_,_,rfl,.inr ⟨_,hq,rfl⟩,rfl,_,rfl,?_⟩
   refine rK (λ_=>?_) λz=>absurd (congrArg Nat.cast hlen) z
   refine⟨_,rfl,_,rfl,.tup p,.tup q,_,_,rfl,hp,hq,λl hl=>?_⟩
   refine Cy xs.length (λ_=>V.bl true) hl (bv WQ (by decide)) (λi H2 s2 hi=>?_) (λH2 s2=>⟨_,_,aj.tup s2 hp,aj.tup s2 hq,.inl (a7 _)⟩) (λi z H2 H3 R s2 hi hy hR=>?_) λH2 s2 hl2=>?_
   ·exact⟨_,_,_,_,aj.tup s2 hp,aj.tup s2 hq,a6 hi,a6 (by rw[←hlen];exact hi)⟩
   ·obtain⟨p',x',y',rfl,Yk,rfl,hxy⟩:=hy
    obtain⟨ex,ey⟩:=hxy _ _ (aj.tup s2 hp) (aj.tup s2 hq)
    refine⟨p',_,rfl,cE.of ah,rfl,_,_,rfl,_,_,rfl,rfl,Kp.rep _ _,?_⟩
    exact⟨_,rfl,_,rfl,x',y',rfl,(hall i x' y' ex ey).same (s2.trans (aj.upd Yk)),λH5 s5=>hR H5 ((aj.upd Yk).trans s5)⟩
   ·refine⟨l,(fe xs.length).map λ_=>true,rfl,cy.of (by rw[hl2,n0];rfl),?_⟩
    rw[show((fe xs.length).map λ_=>true).all id=true from uk.mpr λb hb=>by
     obtain⟨_,_,rfl⟩:=gL.mp hb
     rfl]
    exact k H2 s2
end
section
variable{P:bn}{w:df}{K:PySem.W.Frag}{mg:bp->Option a9}{base:eJ}
theorem yy {iD lA:a5}{gm jg:dv}{p:Pm}(T:Txt K mg p w base)(cg:Dn K mg "_law_refused" mH VR iD gm)(gF:Dn K mg "halved" rm l7 lA jg)(zM:aE P w K mg base (vt P w) 10 lA jg l7 (Ga K p.ao p.aH)):aE P w K mg base bS 11 iD gm VR (LL K p.ao):=by
 refine cg.fn.kG kL (λvs H Q E h=>?_) (λ_ _ _ _ H vs Q E hr h=>?_)
 ·obtain⟨pr,T1,f,s,i,j,rfl,_⟩:=h
  rfl
 ·obtain⟨pr,T1,f,s,i,j,rfl,hP,hf,hs,hB,kk⟩:=h
  intro X
  refine⟨_,(ai (ag 3 kL.nd yu)
   (bN (S1 Uj (λ_ _ _ LT PO=>(aq (bK (Ms zM (hr.mono (by decide)) rfl gF.m gF.fn.kp gF.b .nil LT (aa (pv 0) (aa (pv 1) (aa (pv 2) af))))))) (VC (i:=4) kL.nd rfl rfl rfl T.A6 T.Jj (λea=>(aq (ag 3 kL.nd (bC (aa (Ec (K':=K) rfl (pv 4) rfl) (aa (Ec (K':=K) rfl (pv 4) rfl) af)))))) S4))
   (aq (aK (pv 3))))),?_⟩
  refine⟨λσ' H'=>∃r v4,σ'=[some (.ref pr),some (.str f),some (.str s),some (.ref r),v4]/\Q (.ref r) H',?_,?_⟩
  ·refine⟨_,rfl,_,rfl,_,rfl,pr,T1,f,s,rfl,hP,hf,hs,λof os=>absurd ⟨of,os⟩ hB.no,λi' j' bad dx H' s' hd=>?_⟩
   obtain⟨rfl,rfl⟩:=hB.uniq bad
   refine⟨_,_,rfl,T.vR,qw λea hea=>?_⟩
   have s2:aj H' (upd H' ea (UO ea (.ref p.aH) (some dx))):=aj.upd hea
   refine⟨_,rfl,ea,_,dx,_,_,rfl,ah,s2 _ _ hd,T.AF,T.uJ,Nq,_,rfl,ea,_,dx,_,_,rfl,ah,s2 _ _ hd,T.AF,T.rE,Hf,aw,λt1 ht1=>?_⟩
   exact⟨t1,_,rfl,kk t1 _ ((s'.trans s2).trans (aj.upd ht1)) ah⟩
  ·rintro σ' H1 ⟨r,v4,rfl,q⟩
   exact⟨_,rfl,q⟩
theorem S7 {Bh jr nW lA lX fZ br iD:a5}{Nr iw lU jg iV dZ aT gm:dv}{p:Pm}(T:Txt K mg p w base)(N9:Dn K mg "law" sS UE Bh Nr)(fR:Dn K mg "_law_prices" nF l6 jr iw)(De:aE P w K mg base bS 7 jr iw l6 (AM K p.ao))(gE:Dn K mg "_law_row" sr VS nW lU)(BB:aE P w K mg base bS 2 nW lU VS (LJ K))(gF:Dn K mg "halved" rm l7 lA jg)(zM:aE P w K mg base bS 10 lA jg l7 (nv (Ga K p.ao p.aH)))(iY:Dn K mg "cheapest" qh V5 lX iV){x9:Do}(zO:Binds K iV V5 [.str (a_ "whole") x9])(HC:aE P w K mg base bS 8 lX iV V5 (nv (Ic P w K p.ao p.aH p.bV (A8 K))))(bD:Dn K mg "_law_same" oh QF fZ dZ)(oJ:aE P w K mg base bS 3 fZ dZ QF (xM K 2))(aF:Dn K mg "_law_next" fY l6 br aT)(cM:aE P w K mg base bS 1 br aT l6 (qX K))(cg:Dn K mg "_law_refused" mH VR iD gm)(tG:aE P w K mg base bS 11 iD gm VR (LL K p.ao)):aE P w K mg base bS 12 Bh Nr UE (BJ K (A8 K)):=by
 refine N9.fn.kG qf (λvs H Q E h=>?_) (λ_ _ _ _ H vs Q E hr h=>?_)
 ·obtain⟨s,ns,rfl,_⟩:=h
  rfl
 ·obtain⟨s,ns,rfl,ha,hl,hT,kk⟩:=h
  intro X
  refine⟨_,(ai (ag 1 qf.nd (iS (aa ak af)))
   (ai (aA (i:=2) qf.nd rfl (Or.inr rfl) (ae De hr fR (aa (pv 0) (aa (pv 1) af))))
   (ai (ag 3 qf.nd (ae BB hr gE (aa (pv 0) (aa (pv 1) (aa (dP (pv 2) rfl) (aa ak af))))))
   (ai (ag 4 qf.nd (ae BB hr gE (aa (pv 0) (aa (pv 1) (aa (dP (pv 2) rfl) (aa ak af))))))
   (bN (bZ (BU (oj (ae oJ hr bD (aa (ae zM hr gF (aa (pv 2) (aa (pv 3) (aa (pv 4) af)))) (aa (ae HC hr iY (aa (pv 2) (aa (pv 3) (aa (pv 4) (aa bJ af))))) af))))) fk aW)
   (ai (ag 5 qf.nd (ae cM hr aF (aa (pv 0) (aa (pv 1) af))))
   (bN (ag 6 qf.nd (aJ cG (Ef (N:=["_law_sign","_law_prices_here"]) rfl (c6.uS (nt:=1) (ix:=[2]) rfl (by decide +kernel) (by decide +kernel) (by kernel_rfl) rfl (by kernel_rfl)) (Gq bJ) (λ_ _ _ _ _ _ _=>(aM (i:=0) (show(["_law_sign","_law_prices_here"]:List bp).Nodup by decide +kernel) rfl (Or.inl rfl))) (λ_ _ _ _ _ _ _=>(pv 0)) (λ_ _ _ _ _ _ _=>(aQ uC (pv 0) (OV (K':=K) rfl (pv 1) rfl) (by with_unfolding_all rfl)))) ak (λ_ _=>rfl)))
   (bN (ag 7 qf.nd (aD cJ (aD dI (pv 5) ak) (aD cH (aB (aS) rfl T.cI bL (aa (pv 3) af)) ak)))
   (bN (bZ (aQ fL (aD cJ (pv 5) ak) ak (bq _)) (aq (aK (ae oJ hr bD (aa (ae tG hr cg (aa (pv 2) (aa (aD jT (aD jT (pQ vF (pv 3) xP (oZ (pv 7))) (pv 6)) (pQ vF (pv 3) (oZ (pv 7)) xP)) (aa (pv 4) af)))) (aa (bC (aa ak (aa (pv 7) af))) af))))) aW)
   (bN (ag 7 qf.nd (aD cJ (aD dI (pv 5) ak) (aD cH (aB (aS) rfl T.cI bL (aa (pv 4) af)) ak)))
   (aq (aK (ae oJ hr bD (aa (ae tG hr cg (aa (pv 2) (aa (pv 3) (aa (aD jT (aD jT (pQ vF (pv 4) xP (oZ (pv 7))) (pv 6)) (pQ vF (pv 4) (oZ (pv 7)) xP)) af)))) (aa (bC (aa ak (aa (pv 7) af))) af))))))))))))))),?_⟩
  refine⟨ar,λt ht=>?_⟩
  have hC:xU K (upd H t (.lst [.int 0])) s t ns 0:=by
   refine⟨?_,hl,ah,by decide⟩
   rw[Wo.set]
   exact aj.seq (λb u e=>Wo.in (aN e ht) e) ha
  have hT0:LT (A8 K) (upd H t (.lst [.int 0])):=hT.same (aj.upd ht)
  generalize upd H t (.lst [.int 0])=H0 at hC hT0 ⊢
  refine⟨_,rfl,_,rfl,s,t,ns,0,rfl,hC,by decide,λx H1 k1 T1 hP1 h4 hx w1 ht1 QI Wn=>?_⟩
  have C1:=hC.off w1 ht1 QI
  obtain⟨sig,_,_,_,_,_,_,dx,Pp,o,mo,d,kvs,Lc,_⟩:=id hP1
  have abb:=Wo.sub _ _ Lc
  refine⟨_,rfl,_,rfl,_,rfl,x,_,dx,_,_,rfl,abb,T.bh,T.gg,qB,s,t,ns,k1,11,T1.1,rfl,C1,Int.le_trans Wn (by decide),by decide,sig.1,sig.2.1,λf H2 k2 of hf w2 Oh Wm k22=>?_⟩
  have k02:=Int.le_trans QI Wm
  have C2:=C1.off w2 Oh k02
  refine⟨_,rfl,_,rfl,_,rfl,x,_,dx,_,_,rfl,Wo.sub _ _ (w2 _ _ Lc),T.bh,T.gg,qB,s,t,ns,k2,11,T1.1,rfl,C2,by omega,by decide,sig.1,sig.2.1,λg H3 k3 og hg w3 Kl TM UJ=>?_⟩
  have k03:=Int.le_trans k02 TM
  have C3:=C2.off w3 Kl k03
  have Xc:=yA hf
  have g12:=yA hg
  have f20:=bj hf (show 11<=20 by decide)
  have g20:=bj hg (show 11<=20 by decide)
  have w03:=(w1.trans w2).trans w3
  have hT3:=hT0.step hC.at_ w03
  have hP3:=(hP1.same (w2.trans w3)).same Wo.sub
  have hm:wG sW=true:=by decide +kernel
  have lf:f.length<=bt:=bj Xc (by decide)
  have lg:g.length<=bt:=bj g12 (by decide)
  refine⟨λσ H4=>σ=[some (.ref s),some (.ref t),some (.ref x),some (.str f),some (.str g),none,none,none]/\Lo P w (A8 K) H3 H4,?_,?_⟩
  ·refine⟨_,rfl,_,rfl,_,rfl,x,T1,f,g,rfl,hP3,f20,g20,λ_ _=>⟨Xc,g12,λr1 H4 s4 ch1=>?_⟩,λi j bad=>absurd ⟨of,og⟩ bad.no⟩
   refine⟨_,rfl,_,rfl,_,rfl,x,T1,f,g,sW,rfl,hP3.same s4,hT3.same s4,f20,g20,λ_ _ _=>⟨Xc,g12,λr2 H5 Yd _ ch2=>?_⟩,λi j bad=>absurd ⟨of,og⟩ bad.no,λ_ _ z=>by rw[hm]at z;cases z⟩
   obtain⟨b1,c1,p1,hb1,hr1,hc1,hp1⟩:=ch1
   obtain⟨b2,c2,p2,hb2,hr2,hc2,hp2⟩:=ch2
   rw[hb1]at hb2
   cases hb2
   have aaQ:=(Lo.of (P:=P) (w:=w) hT3 s4).trans Yd
   refine⟨_,_,rfl,BC.of (cE.of (Yd.nx _ _ (Nt.tup hr1))) (cE.of hr2) (by show 3<=100;decide) (.cons (BC.of (cE.of (Yd.nx _ _ (Nt.tup hc1))) (cE.of hc2) (by show 2<=100;decide) (.cons .int (.cons .int .nil))) (.cons (BC.of (cE.of (Yd.nx _ _ (Nt.tup hp1))) (cE.of hp2) (by show 2<=100;decide) (.cons .int (.cons .int .nil))) (.cons .str .nil))),λH6 s6=>⟨_,rfl,wF ⟨rfl,aaQ.then s6⟩⟩⟩
  rintro σ H4 ⟨rfl,Ye⟩
  have QU:=Ye.nx _ _ (Nt.lst Kl)
  have aaT:Lo P w (A8 K) (Wo t H0) H4:=(Lo.of (hT0.wo hC.at_) (w03.trans Wo.sub)).trans Ye
  have C4:xU K H4 s t ns k3:=aaT.ctr hC QU k03
  have aaR:Lo P w (A8 K) (Wo t H3) (Wo t H4):=(Ye.cut hT3 Kl).wo QU
  have Yt:zB K p.ao (Wo t H4) x T1:=aaR.pr (hP1.same (w2.trans w3))
  refine⟨_,rfl,_,rfl,s,t,ns,k3,rfl,C4,by omega,λm hm0 _=>?_⟩
  have hP7:zB K p.ao (L2.upd H4 t (.lst [.int (k3+1)])) x T1:=by
   have z:zB K p.ao (Wo t (L2.upd H4 t (.lst [.int (k3+1)]))) x T1:=by rw[Wo.set];exact Yt
   exact z.same Wo.sub
  have hT7:=Ye.lt.put (o:=.lst [.int (k3+1)]) QU
  generalize L2.upd H4 t (.lst [.int (k3+1)])=H7 at hP7 hT7 ⊢
  refine⟨λσ H8=>∃c:Nat,c∉T1.1.cps.toList/\σ=[some (.ref s),some (.ref t),some (.ref x),some (.str f),some (.str g),some (.int m),some (.str ⟨#[c]⟩),none]/\aj H7 H8,?_,?_⟩
  ·refine⟨_,rfl,λl hl=>?_⟩
   have e9:(a_ "qxQX07+~ ").cps.size=9:=by kernel_rfl
   obtain⟨_,_,_,_,_,_,_,dx,Pp,o,mo,d,kvs,Lc,_⟩:=id hP7
   refine I0 9 (λi=>!decide (vN.getD i 0∈T1.1.cps.toList)) (λi=>sg (vN.getD i 0)) hl (by decide) (λi H2 s2 hi=>?_) (λH2 s2=>?_) (λi y H2 H3 R S s2 hi hy hR hS=>?_) λH2 s2 hl2=>?_
   ·show i<_;rw[e9];exact hi
   ·show _<=9;rw[e9];exact a7 _
   ·obtain⟨rfl,c,hc,rfl⟩:=hy
    have ec:vN.getD i 0=c:=o5 (by rw[←O3];exact e7 hc)
    rw[ec]at hR hS
    refine⟨Kp.Jv,_,rfl,_,rfl,x,_,dx,_,_,rfl,s2 _ _ Lc,T.bh,T.gg,qB,_,_,rfl,rfl,_,rfl,?_⟩
    rw[StrLaws.found_one]
    by_cases q:c∈T1.1.cps.toList
    ·rw[decide_eq_true q]at hS ⊢
     exact wF (hS rfl _ (aj.refl _))
    ·rw[decide_eq_false q]at hR ⊢
     exact IF ⟨_,rfl,hR rfl _ (aj.refl _)⟩
   ·have Dk:=O4 h4
    have e:((fe 9).filter λi=>!decide (vN.getD i 0∈T1.1.cps.toList)).map (λi=>sg (vN.getD i 0))=(wC T1.1).map sg:=by
     unfold wC
     rw[←IS vN 0,n0]
     rfl
    rw[e]at hl2
    have hjl:0<(wC T1.1).length:=by omega
    exact⟨l,_,_,_,rfl,rfl,cy.of hl2,(show E5 _ ((0:Nat):Int)=_ from dX (by rw[eC,a6 hjl];rfl)),(wC T1.1)[0],S8 (kb hjl),rfl,s2⟩
  rintro σ H8 ⟨c,hc,rfl,s8⟩
  have hP8:=hP7.same s8
  have hT8:=hT7.same s8
  obtain⟨a1,ha1,a1f⟩:=HR m f
  obtain⟨b1,hb1,b1g⟩:=HR m g
  refine⟨λσ H9=>σ=[some (.ref s),some (.ref t),some (.ref x),some (.str f),some (.str g),some (.int m),some (.str ⟨#[c]⟩),some (.int (a1:Int))]/\H8=H9,?_,?_⟩
  ·refine⟨_,rfl,_,_,rfl,rfl,⟨by decide,by decide⟩,_,rfl,_,_,rfl,⟨lf,rfl⟩,_,_,rfl,rfl,_,_,rfl,rfl,len_pos f,?_,rfl⟩
   rw[←ha1]
   rfl
  rintro σ _ ⟨rfl,rfl⟩
  refine⟨λσ H9=>σ=[some (.ref s),some (.ref t),some (.ref x),some (.str f),some (.str g),some (.int m),some (.str ⟨#[c]⟩),some (.int (a1:Int))]/\H8=H9,?_,?_⟩
  ·refine⟨_,rfl,_,_,rfl,rfl,(by show(0:Int)<2;decide),rfl,_,rfl,cK (λ_=>?_) λ_=>⟨rfl,rfl⟩⟩
   have zf:=II (c:=c) (oC a1) (xi.mpr a1f)
   have Bf:=Bt (b:=f) (oC a1) (xi.mpr a1f) of hc
   rw[kx]at Bf
   refine⟨_,rfl,_,rfl,_,rfl,_,rfl,f,rfl,lf,_,rfl,_,_,rfl,rfl,(Cw hf).1,_,rfl,_,rfl,_,rfl,f,rfl,lf,_,_,rfl,rfl,(Cw hf).2,_,rfl,x,T1,Pz f a1 c,g,0,a1,rfl,hP8,by unfold Pz;omega,g20,.inl ⟨rfl,Bf.1,Bf.2⟩,λr H9 s9 hr=>⟨_,rfl,aw,λt3 Kl=>?_⟩⟩
   have K9:=aj.upd (o:=.tup [.int 0,.int (a1:Int)]) Kl
   exact⟨_,_,rfl,BC.of (cE.of (K9 _ _ hr)) (cE.of ah) (by show 2<=100;decide) (.cons .int (.cons .int .nil)),λOm s12=>kk Om (hT8.same (s9.trans (K9.trans s12)))⟩
  rintro σ _ ⟨rfl,rfl⟩
  refine⟨λσ H9=>σ=[some (.ref s),some (.ref t),some (.ref x),some (.str f),some (.str g),some (.int m),some (.str ⟨#[c]⟩),some (.int (b1:Int))]/\H8=H9,?_,?_⟩
  ·refine⟨_,rfl,_,_,rfl,rfl,⟨by decide,by decide⟩,_,rfl,_,_,rfl,⟨lg,rfl⟩,_,_,rfl,rfl,_,_,rfl,rfl,len_pos g,?_,rfl⟩
   rw[←hb1]
   rfl
  rintro σ _ ⟨rfl,rfl⟩
  have zg:=II (c:=c) (oC b1) (xi.mpr b1g)
  have Bg:=Bt (b:=g) (oC b1) (xi.mpr b1g) og hc
  rw[kx]at Bg
  refine⟨_,rfl,_,rfl,_,rfl,_,rfl,_,rfl,g,rfl,lg,_,rfl,_,_,rfl,rfl,(Cw hg).1,_,rfl,_,rfl,_,rfl,g,rfl,lg,_,_,rfl,rfl,(Cw hg).2,x,T1,f,Pz g b1 c,1,b1,rfl,hP8,f20,by unfold Pz;omega,.inr ⟨rfl,of,Bg.1,Bg.2⟩,λr H9 s9 hr=>⟨_,rfl,aw,λt3 Kl=>?_⟩⟩
  have K9:=aj.upd (o:=.tup [.int 1,.int (b1:Int)]) Kl
  exact⟨_,_,rfl,BC.of (cE.of (K9 _ _ hr)) (cE.of ah) (by show 2<=100;decide) (.cons .int (.cons .int .nil)),λOm s12=>kk Om (hT8.same (s9.trans (K9.trans s12)))⟩
end
noncomputable def jR(K:PySem.W.Frag)(x y:bp)(s:hV):Prop:=∃f oc od sl kV dc pm an cd ct,PySem.W.nsIn K dk x=some (some (.ref f))/\K.lookup f=some ⟨oc,od,.func (PySem.W.fnOf y y (gf s) (cV s) (av s) .none kV dc pm an cd ct),sl⟩/\PySem.W.codeIn K cd y=true/\PySem.W.keepIn K (.ref f)=true
theorem jR.mk{K:PySem.W.Frag}{x y:bp}{s:hV}{f:a5}{oc kV dc pm cd ct:a9}{od an:Option a5}{sl:Array (Option a9)}(a:PySem.W.nsIn K dk x=some (some (.ref f)))(l:K.lookup f=some ⟨oc,od,.func (PySem.W.fnOf y y (gf s) (cV s) (av s) .none kV dc pm an cd ct),sl⟩)(c:PySem.W.codeIn K cd y=true)(k:PySem.W.keepIn K (.ref f)=true):jR K x y s:=⟨f,oc,od,sl,kV,dc,pm,an,cd,ct,a,l,c,k⟩
theorem VP{α:Type}{l:List α}(h:l.length=7):∃a b c d e f g,l=[a,b,c,d,e,f,g]:=by
 match l,h with
 |[a,b,c,d,e,f,g],_=>exact⟨a,b,c,d,e,f,g,rfl⟩
theorem Xh{K:PySem.W.Frag}{h:eJ}{mg:bp->Option a9}{x y:bp}{s:hV}{ps:List bp}(X:K.In h)(G:h.Ns dk mg)(d:jR K x y s)(b:∀(kV doc pm:a9) (an:Option a5) (cdv ct:a9) (us:List a9),us.length=ps.length->bindArgs (PySem.W.fnOf y y (gf s) (cV s) (av s) .none kV doc pm an cdv ct) ⟨us,[]⟩=pure (ps.zip us):=by intro _ _ _ _ _ _ us hl;first|(obtain⟨_,rfl⟩:=GP.Pf hl;exact rfl)|(obtain⟨_,_,rfl⟩:=GP.To hl;exact rfl)|(obtain⟨_,_,_,rfl⟩:=GP.MX hl;exact rfl)|(obtain⟨_,_,_,_,rfl⟩:=GP.Pe hl;exact rfl)|(obtain⟨_,_,_,_,_,rfl⟩:=GP.MW hl;exact rfl)|(obtain⟨_,_,_,_,_,_,rfl⟩:=GP.VQ hl;exact rfl)|(obtain⟨_,_,_,_,_,_,_,rfl⟩:=VP hl;exact rfl)):∃f fd,Da K mg x y s ps f fd:=by
 obtain⟨f,oc,od,sl,kV,dc,pm,an,cd,ct,a,l,c,k⟩:=d
 exact⟨f,_,vW l c k,Binds.all (b kV dc pm an cd ct),PySem.W.mg_of X G a⟩
theorem bE{K:PySem.W.Frag}{h:eJ}{mg:bp->Option a9}{x:bp}{s:hV}{ps:List bp}(X:K.In h)(G:h.Ns dk mg)(d:jR K x x s)(b:∀(kV doc pm:a9) (an:Option a5) (cdv ct:a9) (us:List a9),us.length=ps.length->bindArgs (PySem.W.fnOf x x (gf s) (cV s) (av s) .none kV doc pm an cdv ct) ⟨us,[]⟩=pure (ps.zip us):=by intro _ _ _ _ _ _ us hl;first|(obtain⟨_,rfl⟩:=GP.Pf hl;exact rfl)|(obtain⟨_,_,rfl⟩:=GP.To hl;exact rfl)|(obtain⟨_,_,_,rfl⟩:=GP.MX hl;exact rfl)|(obtain⟨_,_,_,_,rfl⟩:=GP.Pe hl;exact rfl)|(obtain⟨_,_,_,_,_,rfl⟩:=GP.MW hl;exact rfl)|(obtain⟨_,_,_,_,_,_,rfl⟩:=GP.VQ hl;exact rfl)|(obtain⟨_,_,_,_,_,_,_,rfl⟩:=VP hl;exact rfl)):∃f fd,Dn K mg x s ps f fd:=by
 obtain⟨f,fd,e⟩:=Xh X G d b
 exact⟨f,fd,e.fn,e.b,e.m⟩
theorem jR.ns{K:PySem.W.Frag}{h:eJ}{mg:bp->Option a9}{x y:bp}{s:hV}(d:jR K x y s)(X:K.In h)(G:h.Ns dk mg):∀f,mg x=some (.ref f)->PySem.W.nsIn K dk x=some (some (.ref f)):=λf hf=>by
 obtain⟨f',oc,od,sl,kV,dc,pm,an,cd,ct,a,_⟩:=d
 have e:=(PySem.W.mg_of X G a).symm.trans hf
 cases e
 exact a
noncomputable def XN(K:PySem.W.Frag)(x:bp)(s:hV)(v:bp):Prop:=∃f oc od sl D u VF n sl2 kV dc pm an cd ct,PySem.W.nsIn K dk x=some (some (.ref f))/\K.lookup f=some ⟨oc,od,.func (PySem.W.fnOf x x (gf s) (cV s) (av s) (.ref D) kV dc pm an cd ct),sl⟩/\PySem.W.codeIn K cd x=true/\PySem.W.keepIn K (.ref f)=true/\K.lookup D=some ⟨.type "tuple",VF,.seq #[.str v u] n,sl2⟩
theorem XN.mk {K:PySem.W.Frag}{x v:bp}{s:hV}{f D:a5}{oc kV dc pm cd ct:a9}{od VF an:Option a5}{sl sl2:Array (Option a9)}{u:Do}{n:Nat}(a:PySem.W.nsIn K dk x=some (some (.ref f)))(l:K.lookup f=some ⟨oc,od,.func (PySem.W.fnOf x x (gf s) (cV s) (av s) (.ref D) kV dc pm an cd ct),sl⟩)(c:PySem.W.codeIn K cd x=true)(k:PySem.W.keepIn K (.ref f)=true)(e:K.lookup D=some ⟨.type "tuple",VF,.seq #[.str v u] n,sl2⟩):XN K x s v:=⟨f,oc,od,sl,D,u,VF,n,sl2,kV,dc,pm,an,cd,ct,a,l,c,k,e⟩
theorem Uo{K:PySem.W.Frag}{h:eJ}{mg:bp->Option a9}{x v a1 a2 a3 a4:bp}{s:hV}(X:K.In h)(G:h.Ns dk mg)(d:XN K x s v)
  (b:∀(D:a5) (kV doc pm:a9) (an:Option a5) (cdv ct v1 v2 v3 v4:a9) (sh:ba) (o:mi) (u:Do) (n:Nat),sh.heap.get? D=some o->o.data= .seq #[.str v u] n->BindsTo sh (PySem.W.fnOf x x (gf s) (cV s) (av s) (.ref D) kV doc pm an cdv ct) ⟨[v1,v2,v3,v4],[]⟩ [(a1,v1),(a2,v2),(a3,v3),(a4,v4)]:=by intro _ _ _ _ _ _ _ _ _ _ _ _ _ _ _ ho hs;exact BindsTo.of_defaults rfl ho hs rfl rfl)
  (b2:∀(D:a5) (kV doc pm:a9) (an:Option a5) (cdv ct v1 v2 v3:a9) (sh:ba) (o:mi) (u:Do) (n:Nat),sh.heap.get? D=some o->o.data= .seq #[.str v u] n->BindsTo sh (PySem.W.fnOf x x (gf s) (cV s) (av s) (.ref D) kV doc pm an cdv ct) ⟨[v1,v2,v3],[]⟩ [(a1,v1),(a2,v2),(a3,v3),(a4,.str v u)]:=by intro _ _ _ _ _ _ _ _ _ _ _ _ _ _ ho hs;exact BindsTo.of_defaults rfl ho hs rfl rfl):∃f fd u,Dn K mg x s [a1,a2,a3,a4] f fd/\Binds K fd [a1,a2,a3,a4] [.str v u]:=by
 obtain⟨f,oc,od,sl,D,u,VF,n,sl2,kV,dc,pm,an,cd,ct,a,l,c,k,e⟩:=d
 refine⟨f,_,u,⟨vW l c k,λsh us hX hl=>?_,PySem.W.mg_of X G a⟩,λsh us hX hl=>?_⟩
 ·rw[ib]at hl ⊢
  obtain⟨v1,v2,v3,v4,rfl⟩:=GP.Pe hl
  exact b D kV dc pm an cd ct v1 v2 v3 v4 sh _ u n (hX _ _ e) rfl
 ·obtain⟨v1,v2,v3,rfl⟩:=GP.MX (show us.length=3 by rw[cn]at hl;exact Nat.succ.inj hl)
  exact b2 D kV dc pm an cd ct v1 v2 v3 sh _ u n (hX _ _ e) rfl
theorem all_mk {l:PySem.W.OpenLaw}{w:df}{K:PySem.W.Frag}{h:eJ}{mg:bp->Option a9}{fa:a5}(X:K.In h)(G:h.Ns dk mg)(hfa:mg "law" =some (.ref fa))
  {ng:Do}
  {oK:Do}
  {jU:a5} {En:Option a5} {GO:Nat} {DZ:Array (Option a9)} {DE DC DB:Do}
  {mh:a5} {GF:Option a5} {JQ:Nat} {Gb:Array (Option a9)} {F5 F4 F3 F2:Do}
  {lD:a5} {Nx:Nat} {jG jF jE:a5} {DA Dz Dy:Do}
  {JK:Option a5} {MF:Nat} {Jt:Array (Option a9)} {FZ FY:Do}
  {JJ:Option a5} {ME:Nat} {Js:Array (Option a9)} {FW FU:Do}
  {JI:Option a5} {MD:Nat} {Jr:Array (Option a9)} {FT FQ:Do}
  {jV:a5} {O5:Option a5} {Tg:Nat} {OL:Array (Option a9)} {OG OF OD:Do}
  {ao:a5}
  {aR:a5}
  {fW:a5}
  {bV:a5}
  {aH:a5}
  (u0:qO K "first_begin" =true)
  (u1:qO K "state_behind" =true)
  (u2:PySem.W.nsIn K dk "FIRST_SIGN" =some (some (.int 32 ng)))
  (u3:PySem.W.nsIn K dk "LAST_SIGN" =some (some (.int 126 oK)))
  (u4:PySem.W.nsIn K dk "NO_SIGNS" =some (some (.ref jU)))
  (u5:K.lookup jU=some ⟨.type "tuple",En,.seq #[.int 34 DE,.int 37 DC,.int 45 DB] GO,DZ⟩)
  (u6:PySem.W.nsIn K dk "MANNERS" =some (some (.ref mh)))
  (u7:K.lookup mh=some ⟨.type "tuple",GF,.seq #[.str (a_ "whole") F5,.str (a_ "within") F4,.str (a_ "over") F3,.str (a_ "stretch") F2] JQ,Gb⟩)
  (u8:PySem.W.nsIn K dk "STEPS" =some (some (.ref lD)))
  (u9:K.lookup lD=some { cls:=.type "dict",data:=.dict #[⟨PySem.PyData.keyHash w.params (a_ "p"),.str (a_ "p") DA,.ref jG⟩,⟨PySem.PyData.keyHash w.params (a_ "a"),.str (a_ "a") Dz,.ref jF⟩,⟨PySem.PyData.keyHash w.params (a_ "b"),.str (a_ "b") Dy,.ref jE⟩] Nx })
  (u10:(lD==sysModules)=false)
  (Z5:K.lookup jG=some ⟨.type "tuple",JK,.seq #[.int 1 FZ,.int 1 FY] MF,Jt⟩)
  (Z4:K.lookup jF=some ⟨.type "tuple",JJ,.seq #[.int 1 FW,.int 0 FU] ME,Js⟩)
  (Z3:K.lookup jE=some ⟨.type "tuple",JI,.seq #[.int 0 FT,.int 1 FQ] MD,Jr⟩)
  (Z2:PySem.W.nsIn K dk "CAME" =some (some (.ref jV)))
  (Z1:K.lookup jV=some ⟨.type "tuple",O5,.seq #[.str (a_ "p") OG,.str (a_ "a") OF,.str (a_ "b") OD] Tg,OL⟩)
  (Z0:PySem.W.nsIn K dk "Prices" =some (some (.ref ao)))
  (ZZ:PySem.W.plainGet K ao zn=true) (ZY:PySem.W.hasDictIn K ao=true) (ZX:PySem.W.plainOver K ao=true) (ZW:PySem.W.findIn K (.ref ao) "__setattr__" =some (some (.builtin "object.__setattr__"))) (ZV:PySem.W.makesIn K ao=true) (ZU:PySem.W.keepIn K (.ref ao)=true)
  (u23:bO K ao "signs")
  (ZT:bO K ao "pairs")
  (ZS:bO K ao "opening")
  (ZR:bO K ao "more")
  (ZQ:bO K ao "factors")
  (ZP:bO K ao "unit")
  (ZO:bO K ao "costs")
  (ZN:bO K ao "opening_units")
  (ZM:bO K ao "more_units")
  (ZL:PySem.W.nsIn K dk "Ground" =some (some (.ref aR)))
  (ZK:PySem.W.plainGet K aR zn=true) (ZJ:PySem.W.hasDictIn K aR=true) (ZI:PySem.W.plainOver K aR=true) (ZH:PySem.W.findIn K (.ref aR) "__setattr__" =some (some (.builtin "object.__setattr__"))) (ZG:PySem.W.makesIn K aR=true) (ZF:PySem.W.keepIn K (.ref aR)=true)
  (ZE:bO K aR "steps")
  (ZD:bO K aR "begins")
  (ZC:bO K aR "ends")
  (ZA:PySem.W.nsIn K dk "WeaveError" =some (some (.ref fW)))
  (Zz:PySem.W.nsIn K dk "NoManner" =some (some (.ref bV)))
  (u44:PySem.W.excIn K bV [.type "ValueError",.type "Exception",.type "BaseException",.type "object"] "ValueError.__new__" =true)
  (Zy:PySem.W.hasDictIn K bV=true) (Zx:PySem.W.typeIn K (.ref bV)=some (.type "type")) (Zw:PySem.W.mroIn K bV (.type "BaseException")=some true)
  (Zv:PySem.W.nsIn K dk "NoSign" =some (some (.ref aH)))
  (Zu:PySem.W.hasDictIn K aH=true) (Zt:PySem.W.typeIn K (.ref aH)=some (.type "type")) (Zs:PySem.W.mroIn K aH (.type "BaseException")=some true)
  (Zr:PySem.W.findIn K (.ref aH) "__getattribute__" =some (some (.builtin "BaseException.__getattribute__")))
  (Zq:PySem.W.findIn K (.ref aH) "__getattr__" =some none)
  (Zp:PySem.W.hasDictIn K aH=true)
  (Zo:PySem.W.findIn K (.ref aH) "__class__" =some (some (.builtin "object.__class__")))
  (Zn:PySem.W.specialIn K (.builtin "object.__class__") "__get__" =some (some (.builtin "getset_descriptor.__get__")))
  (Zm:PySem.W.takesIn K (.builtin "object.__class__")=some true)
  (Zl:PySem.W.mroIn K aH (.type "object")=some true)
  (Zk:PySem.W.mroIn K aH (.type "BaseException")=some true)
  (Zj:PySem.W.hasDictIn K aH=true) (Zi:((PySem.W.clsIn K aH).any λcd=>tM cd.mro)=true) (Zh:PySem.W.findIn K (.ref aH) "__setattr__" =some (some (.builtin "object.__setattr__"))) (Zg:PySem.W.keepIn K (.ref aH)=true)
  (Zf:bO K aH "row")
  (Ze:bO K aH "place")
  (Zd:PySem.W.specialIn K (.ref fW) "__getattribute__" =some (some (.builtin "type.__getattribute__"))) (Zc:PySem.W.readsIn K fW (.type "type")=true) (Zb:PySem.W.findCls K (.ref fW) (.type "type") "__init__" =some (.val (.builtin "ValueError.__init__")))
  (Za:PySem.W.subIn K (.ref aH) (.ref aH)=some true)
  {od0 an0:Option a5} {sl0:Array (Option a9)} {oc0 kV0 dc0 pm0 cd0 ct0:a9} {aY:a5}
  (u70:PySem.W.findIn K (.ref aH) "__init__" =some (some (.ref aY))) (Y9:PySem.W.isFn K (.ref aY)=true) (Y8:K.lookup aY=some ⟨oc0,od0,.func (PySem.W.fnOf "__init__" "NoSign.__init__" (gf bX) (cV bX) (av bX) .none kV0 dc0 pm0 an0 cd0 ct0),sl0⟩) (Y7:PySem.W.codeIn K cd0 "NoSign.__init__" =true) (Y6:PySem.W.keepIn K (.ref aY)=true)
  (u75:jR K "greatest_divisor" "greatest_divisor" cY)
  (Y5:jR K "lowest" "lowest" uz)
  (Y4:jR K "is_sign" "is_sign" su)
  (Y3:jR K "are_signs" "are_signs" oW)
  (Y0:jR K "check_signs" "check_signs" mL)
  (YZ:jR K "check_lengths" "check_lengths" jQ)
  (YY:jR K "lowest_price" "lowest_price" iR)
  (YX:jR K "lowest_prices" "lowest_prices" jP)
  (YW:jR K "all_unders" "all_unders" nJ)
  (YV:jR K "unit_factors" "unit_factors" kQ)
  (YU:jR K "product_of" "product_of" nE)
  (YT:jR K "by_unit" "by_unit" pP)
  (YS:jR K "costs_by_signs" "costs_by_signs" i6)
  {aaE acn:Option a5} {aao:Array (Option a9)} {aaH aa0 acd aaz Xl aci:a9} {bx:a5}
  (YR:PySem.W.findIn K (.ref ao) "__init__" =some (some (.ref bx))) (YQ:PySem.W.isFn K (.ref bx)=true) (YO:K.lookup bx=some ⟨aaH,aaE,.func (PySem.W.fnOf "__init__" "Prices.__init__" (gf bW) (cV bW) (av bW) .none aa0 acd aaz acn Xl aci),aao⟩) (YN:PySem.W.codeIn K Xl "Prices.__init__" =true) (YM:PySem.W.keepIn K (.ref bx)=true)
  (YL:jR K "pair_cost" "pair_cost" j3)
  (YK:jR K "opening_cost" "opening_cost" kW)
  (YJ:jR K "more_cost" "more_cost" oO)
  (YI:jR K "in_units" "in_units" oi)
  (YH:jR K "check_known" "check_known" mP)
  (YG:jR K "check_rows" "check_rows" i7)
  (YF:jR K "check_manner" "check_manner" kX)
  (Sw:jR K "check_place" "check_place" mO)
  (Sv:jR K "place_behind" "place_behind" kU)
  (Su:jR K "places_of" "places_of" oN)
  (Ss:jR K "alone_cost" "alone_cost" i8)
  (So:jR K "cost_of" "cost_of" sy)
  (Sn:jR K "may_begin" "may_begin" oQ)
  (Sl:jR K "may_end" "may_end" sj)
  (Sk:jR K "all_places" "all_places" nK)
  (Sj:jR K "steps_from" "steps_from" nD)
  (Si:jR K "all_steps" "all_steps" oY)
  (Sg:jR K "all_ends" "all_ends" qj)
  {aaD acm:Option a5} {aan:Array (Option a9)} {aaG aaZ ab9 aay Xk ach:a9} {bz:a5}
  (Sf:PySem.W.findIn K (.ref aR) "__init__" =some (some (.ref bz))) (Sd:PySem.W.isFn K (.ref bz)=true) (Sb:K.lookup bz=some ⟨aaG,aaD,.func (PySem.W.fnOf "__init__" "Ground.__init__" (gf bY) (cV bY) (av bY) .none aaZ ab9 aay acm Xk ach),aan⟩) (Sa:PySem.W.codeIn K Xk "Ground.__init__" =true) (R9:PySem.W.keepIn K (.ref bz)=true)
  (R8:jR K "least_rests" "least_rests" mG)
  (R7:jR K "ends_there" "ends_there" nH)
  (Oz:jR K "first_begin" "first_begin" mK)
  (Ox:jR K "state_behind" "state_behind" kT)
  (R6:jR K "first_moves" "first_moves" mJ)
  (u121:XN K "cheapest" qh (a_ "whole"))
  (R5:jR K "rest_of" "rest_of" se)
  (R0:jR K "best_way" "best_way" qi)
  (RZ:jR K "cell_of" "cell_of" pO)
  (RY:jR K "last_cells" "last_cells" nG)
  (RX:jR K "cells_ahead" "cells_ahead" mQ)
  (RW:jR K "with_stops" "with_stops" nu)
  (RV:jR K "stop_at" "stop_at" pN)
  (RU:jR K "whole_stop" "whole_stop" nB)
  (RT:jR K "stop_between" "stop_between" kR)
  (RS:jR K "all_stops" "all_stops" oX)
  (RQ:jR K "moves_between" "moves_between" jO)
  (RP:jR K "halved" "halved" rm)
  (RO:jR K "_law_next" "_law_next" fY)
  (RN:jR K "_law_great" "_law_great" oV)
  (RM:jR K "_law_signs" "_law_signs" oS)
  (RL:jR K "_law_price" "_law_price" oU)
  (RK:jR K "_law_table" "_law_table" oR)
  (RJ:jR K "_law_prices" "_law_prices" nF)
  (RI:jR K "_law_row" "_law_row" sr)
  (RH:jR K "_law_same" "_law_same" oh)
  (RG:jR K "_law_refused" "_law_refused" mH)
  {aaC Xm:Option a5} {aam:Array (Option a9)} {aaF Wl Xf VB Uq Xi:a9} {Bh:a5}
  (Ow:PySem.W.nsIn K dk "law" =some (some (.ref Bh))) (RE:K.lookup Bh=some ⟨aaF,aaC,.func (PySem.W.fnOf "law" "law" (gf sS) (cV sS) (av sS) .none Wl Xf VB Xm Uq Xi),aam⟩) (RD:PySem.W.codeIn K Uq "law" =true) (RC:PySem.W.keepIn K (.ref Bh)=true)
  (Ov:Hg K aH aY=true)
  (RB:PySem.W.nsIn K dk "abs" =some none)
  (RA:PySem.W.nsIn K dk "len" =some none)
  (Rz:PySem.W.nsIn K dk "ord" =some none)
  (Ry:PySem.W.nsIn K dk "set" =some none)
  (Rx:PySem.W.nsIn K dk "tuple" =some none)
  (Rw:PySem.W.nsIn K dk "zip" =some none)
  (Rv:PySem.W.nsIn K dk "enumerate" =some none)
  (Ru:PySem.W.nsIn K dk "range" =some none)
  (Rt:PySem.W.nsIn K dk "isinstance" =some none)
  (Rr:PySem.W.nsIn K dk "int" =some none)
  (Rq:PySem.W.nsIn K dk "bool" =some none)
  (Rp:PySem.W.nsIn K dk "all" =some none)
  (Ro:PySem.W.nsIn K dk "list" =some none)
  (Rn:PySem.W.nsIn K dk "str" =some none)
  (Rm:PySem.W.nsIn K dk "min" =some none)
  (Rl:PySem.W.nsIn K dk "reversed" =some none)
  : ∃fd:dv,(∀(s:ba) (v:a9),BindsTo s fd ⟨[v],[]⟩ [("_law_script",v)])/\∀base:eJ,K.In base->base.Ns dk mg->Ri base mg->aE l.prog w K mg base bS 12 fa fd UE (BJ K (A8 K)):=by
 have e:=hfa.symm.trans (PySem.W.mg_of X G Ow)
 cases e
 obtain⟨p,hp⟩:∃p:Pm,p=(⟨ng,oK,jU,mh,lD,jG,jF,jE,jV,ao,aR,fW,bV,aH⟩:Pm):=⟨_,rfl⟩
 have vp:=vW (st:=bX) Y8 Y7 Y6
 have dN:Dm K "__init__" "NoSign.__init__" bX UH _ _:=⟨vp,Binds.all (ps:=UH) λus hl=>by obtain⟨_,_,_,rfl⟩:=GP.MX hl;exact rfl⟩
 obtain⟨aZ,aV,aI⟩:=bE (ps:=Po) X G u75
 obtain⟨pV,nT,m5⟩:=bE (ps:=Wi) X G Y5
 obtain⟨nX,lV,kC⟩:=bE (ps:=["sign"]) X G Y4
 obtain⟨kj,jh,gO⟩:=bE (ps:=["text"]) X G Y3
 obtain⟨iG,gu,eB⟩:=bE (ps:=["signs"]) X G Y0
 obtain⟨fJ,eL,cU⟩:=bE (ps:=Wg) X G YZ
 obtain⟨cL,cB,bf⟩:=bE (ps:=l8) X G YY
 obtain⟨fH,eK,cT⟩:=bE (ps:=["row"]) X G YX
 obtain⟨jx,iA,fU⟩:=bE (ps:=Wh) X G YW
 obtain⟨gy,fz,dh⟩:=bE (ps:=["unders"]) X G YV
 obtain⟨jq,iu,fQ⟩:=bE (ps:=["factors"]) X G YU
 obtain⟨jw,gZ,cQ⟩:=bE (ps:=Tt) X G YT
 obtain⟨eN,dJ,cF⟩:=bE (ps:=Wf) X G YS
 have vo:=vW (st:=bW) YO YN YM
 have dM:Dm K "__init__" "Prices.__init__" bW UI _ _:=⟨vo,Binds.all (ps:=UI) λus hl=>by obtain⟨_,_,_,_,_,rfl⟩:=GP.MW hl;exact rfl⟩
 obtain⟨cR,cA,bF⟩:=bE (ps:=Pn) X G YL
 obtain⟨gC,fE,dB⟩:=bE (ps:=l9) X G YK
 obtain⟨j8,ja,dD⟩:=bE (ps:=l9) X G YJ
 obtain⟨g6,fN,c5⟩:=bE (ps:=Tr) X G YI
 obtain⟨iI,gw,eE⟩:=bE (ps:=We) X G YH
 obtain⟨cC,bQ,bA⟩:=bE (ps:=Pk) X G YG
 obtain⟨gD,fF,dF⟩:=bE (ps:=["manner"]) X G YF
 obtain⟨iH,gv,cj⟩:=bE (ps:=V0) X G Sw
 obtain⟨gB,fD,dw⟩:=bE (ps:=VZ) X G Sv
 obtain⟨j7,i9,gG⟩:=bE (ps:=VY) X G Su
 obtain⟨cD,bR,aP⟩:=bE (ps:=Pj) X G Ss
 obtain⟨nY,lW,kD⟩:=bE (ps:=VX) X G So
 obtain⟨j9,jb,gH⟩:=bE (ps:=Wd) X G Sn
 obtain⟨nV,lT,kB⟩:=bE (ps:=Wc) X G Sl
 obtain⟨jy,iB,fV⟩:=bE (ps:=Wb) X G Sk
 obtain⟨jo,ig,fP⟩:=bE (ps:=Wa) X G Sj
 obtain⟨kr,jk,gQ⟩:=bE (ps:=V9) X G Si
 obtain⟨lZ,j6,i0⟩:=bE (ps:=V8) X G Sg
 have vq:=vW (st:=bY) Sb Sa R9
 have dO:Dm K "__init__" "Ground.__init__" bY UG _ _:=⟨vq,Binds.all (ps:=UG) λus hl=>by obtain⟨_,_,_,_,_,rfl⟩:=GP.MW hl;exact rfl⟩
 obtain⟨iC,gk,d8⟩:=bE (ps:=["ground"]) X G R8
 obtain⟨ju,iz,fT⟩:=bE (ps:=Og) X G R7
 obtain⟨iF,gq,c7⟩:=bE (ps:=V7) X G Oz
 obtain⟨gA,fC,cO⟩:=bE (ps:=Og) X G Ox
 obtain⟨iE,gp,ee⟩:=bE (ps:=V6) X G R6
 obtain⟨lX,iV,x9,iY,zO⟩:=Uo (a1:= "prices") (a2:= "first") (a3:= "second") (a4:= "manner") X G u121
 obtain⟨nU,lS,ku⟩:=bE (ps:=["way"]) X G R5
 obtain⟨lY,j5,iZ⟩:=bE (ps:=V4) X G R0
 obtain⟨jv,gY,cP⟩:=bE (ps:=Tq) X G RZ
 obtain⟨jt,iy,fS⟩:=bE (ps:=V3) X G RY
 obtain⟨iJ,gx,eF⟩:=bE (ps:=V2) X G RX
 obtain⟨jl,ic,cN⟩:=bE (ps:=["cells"]) X G RW
 obtain⟨jn,gX,eO⟩:=bE (ps:=Tp) X G RV
 obtain⟨jm,ie,fO⟩:=bE (ps:=V1) X G RU
 obtain⟨gz,fB,dm⟩:=bE (ps:=VW) X G RT
 obtain⟨ko,jj,gP⟩:=bE (ps:=l7) X G RS
 obtain⟨fG,eG,cS⟩:=bE (ps:=VU) X G RQ
 obtain⟨lA,jg,gF⟩:=bE (ps:=l7) X G RP
 obtain⟨br,aT,aF⟩:=bE (ps:=l6) X G RO
 obtain⟨ki,jf,gM⟩:=bE (ps:=l6) X G RN
 obtain⟨kg,jd,gK⟩:=bE (ps:=Oe) X G RM
 obtain⟨kh,je,b7⟩:=bE (ps:=VT) X G RL
 obtain⟨kc,jc,gJ⟩:=bE (ps:=Oe) X G RK
 obtain⟨jr,iw,fR⟩:=bE (ps:=l6) X G RJ
 obtain⟨nW,lU,gE⟩:=bE (ps:=VS) X G RI
 obtain⟨fZ,dZ,bD⟩:=bE (ps:=QF) X G RH
 obtain⟨iD,gm,cg⟩:=bE (ps:=VR) X G RG
 have XJ:=vW (st:=sS) RE RD RC
 have N9:Dn K mg "law" sS UE _ _:=⟨XJ,Binds.all (ps:=UE) λus hl=>by obtain⟨_,rfl⟩:=GP.Pf hl;exact rfl,PySem.W.mg_of X G Ow⟩
 have zE:XMk K p.aH aY:=by subst hp;exact⟨Dl Ov,Y9,Zg⟩
 have zD:Mk K p.ao bx:=by subst hp;exact⟨ZV,YR,YQ,ZU⟩
 have zF:Mk K p.aR bz:=by subst hp;exact⟨ZG,Sf,Sd,ZF⟩
 refine⟨PySem.W.fnOf "law" "law" (gf sS) (cV sS) (av sS) .none Wl Xf VB Xm Uq Xi,λs v=>.of_eq rfl,λbase _ _ bb=>?_⟩
 have T:Txt K mg p w base:=by subst hp;exact⟨PySem.W.mg_none_of X G RB,PySem.W.mg_none_of X G RA,PySem.W.mg_none_of X G Rz,PySem.W.mg_none_of X G Ry,PySem.W.mg_none_of X G Rx,PySem.W.mg_none_of X G Rw,PySem.W.mg_none_of X G Rv,PySem.W.mg_none_of X G Ru,PySem.W.mg_none_of X G Rt,PySem.W.mg_none_of X G Rr,PySem.W.mg_none_of X G Rq,PySem.W.mg_none_of X G Rp,PySem.W.mg_none_of X G Ro,PySem.W.mg_none_of X G Rn,PySem.W.mg_none_of X G Rm,PySem.W.mg_none_of X G Rl,PySem.W.mg_of X G u2,PySem.W.mg_of X G u3,PySem.W.mg_of X G u4,λH=>.inr ⟨_,_,_,u5,rfl,rfl,ax,.cons ⟨_,rfl⟩ (.cons ⟨_,rfl⟩ (.cons ⟨_,rfl⟩ (.nil)))⟩,PySem.W.mg_of X G u6,λH=>.inr ⟨_,_,_,u7,rfl,rfl,(by show 4<=bt;decide),.cons ⟨_,rfl⟩ (.cons ⟨_,rfl⟩ (.cons ⟨_,rfl⟩ (.cons ⟨_,rfl⟩ (.nil))))⟩,PySem.W.mg_of X G u8,λP=>KDict.mk (P:=P) (w:=w) [((a_ "p"),DA,.ref jG),((a_ "a"),Dz,.ref jF),((a_ "b"),Dy,.ref jE)] u9 rfl (show([(a_ "p"),(a_ "a"),(a_ "b")]:List bp).Nodup by decide +kernel) (vs:=[.ref jG,.ref jF,.ref jE]) (.cons rfl (.cons rfl (.cons rfl (.nil)))) u10,λH=>.inr ⟨_,_,_,Z5,rfl,rfl,aw,.cons ⟨_,rfl⟩ (.cons ⟨_,rfl⟩ (.nil))⟩,λH=>.inr ⟨_,_,_,Z4,rfl,rfl,aw,.cons ⟨_,rfl⟩ (.cons ⟨_,rfl⟩ (.nil))⟩,λH=>.inr ⟨_,_,_,Z3,rfl,rfl,aw,.cons ⟨_,rfl⟩ (.cons ⟨_,rfl⟩ (.nil))⟩,PySem.W.mg_of X G Z2,λH=>.inr ⟨_,_,_,Z1,rfl,rfl,ax,.cons ⟨_,rfl⟩ (.cons ⟨_,rfl⟩ (.cons ⟨_,rfl⟩ (.nil)))⟩,PySem.W.mg_of X G Z0,⟨ZZ,ZY,ZX,ZW⟩,u23,ZT,ZS,ZR,ZQ,ZP,ZO,ZN,ZM,PySem.W.mg_of X G ZL,⟨ZK,ZJ,ZI,ZH⟩,ZE,ZD,ZC,PySem.W.mg_of X G ZA,PySem.W.mg_of X G Zz,Ot u44,⟨Zy,Zx,Zw⟩,PySem.W.mg_of X G Zv,⟨Zu,Zt,Zs⟩,⟨Zr,Zq,Zp,Zo,Zn,Zm,Zl,Zk⟩,⟨Zj,Zi,Zh⟩,⟨_,Dl Ov⟩,Zf,Ze,⟨Zd,Zc,Zb⟩,Za,bb,u0,Oz.ns X G,u1,Ox.ns X G⟩
 have jX:=sN (P:=l.prog) (w:=w) (base:=base) T aI
 have N1:=JF T m5 aI jX
 have rV:=xg T bf m5 N1
 have xB:=vK T cT bf rV
 have C0:=Ac (P:=l.prog) (w:=w) (base:=base) T fU
 have zp:=wW T dh aI jX
 have CT:=z6 (P:=l.prog) (w:=w) (base:=base) T fQ
 have BA:=GD (P:=l.prog) (w:=w) (base:=base) T cQ
 have KZ:=GA (P:=l.prog) (w:=w) (base:=base) T kC
 have Fj:=Cc T gO kC KZ
 have Ar:=yD T eB gO Fj
 have xC:=vL (P:=l.prog) (w:=w) (base:=base) T cU
 have wc:=uF T cF cQ BA
 have rT:=B5 (P:=l.prog) (w:=w) (base:=base) T bF
 have zw:=w9 (P:=l.prog) (w:=w) (base:=base) T dB
 have Fb:=B6 (P:=l.prog) (w:=w) (base:=base) T dD
 have zA:=Ej T c5 aI jX
 have vd:=tV T dM eB Ar cU xC cT xB bf rV fU C0 dh zp fQ CT cF wc cQ BA
 have ve:=tW (P:=l.prog) (w:=w) (base:=base) T dN
 have xD:=vM T eE dN zE ve
 have oH:=xh T bA eE xD
 have qI:=Ab T aP dD Fb dB zw
 have Fc:=B7 (P:=l.prog) (w:=w) (base:=base) T gH
 have KW:=Gy (P:=l.prog) (w:=w) (base:=base) T kB
 have we:=uG (P:=l.prog) (w:=w) (base:=base) T dF
 have C7:=Ad (P:=l.prog) (w:=w) (base:=base) T fV
 have CQ:=z5 T fP bF rT aP qI
 have Fo:=Cf T gQ fP CQ
 have Hz:=Em T i0 kB KW
 have vf:=tX T dO bA oH dF we fV C7 gQ Fo gH Fc i0 Hz
 have Al:=yw (P:=l.prog) (w:=w) (base:=base) T d8
 have CZ:=Aa (P:=l.prog) (w:=w) (base:=base) T fT
 have Aq:=yC (P:=l.prog) (w:=w) (base:=base) T c7
 have zu:=wY (P:=l.prog) (w:=w) (base:=base) T cO
 have Ao:=yz T ee fT CZ cO zu
 have Hx:=Ek T iY dO zF vf d8 Al c7 Aq c5 zA ee Ao
 have KU:=Gx (P:=l.prog) (w:=w) (base:=base) T ku
 have Hy:=El T iZ aP qI ku KU
 have By:=GC T cP iZ Hy
 have CY:=z9 T fS cP By
 have Au:=yF T eF bF rT cP By
 have CO:=zY (P:=l.prog) (w:=w) (base:=base) T cN
 have Bx:=Gw T eO fS CY cN CO eF Au
 have CP:=zZ T fO eO Bx
 have As:=yE (P:=l.prog) (w:=w) (base:=base) T cj
 have zv:=wZ (P:=l.prog) (w:=w) (base:=base) T dw
 have E9:=B4 T gG cj As dw zv
 have K0:=GB T kD bA (aE.nv oH) gG E9 bF rT aP qI c5 zA
 have zq:=wX T dm eO Bx
 have Fl:=Cd T gP fO CP dm zq
 have xA:=vJ (P:=l.prog) (w:=w) (base:=base) T cS
 have Fi:=JG T gF bA oH gP Fl cS xA kD K0
 have jW:=Ei (P:=l.prog) (w:=w) (base:=base) T aF
 have Fg:=Cb T gM aF jW
 have Fe:=B9 T gK aF jW
 have Ff:=Ca T b7 aF jW gM Fg
 have Fd:=B8 T gJ aF jW gK Fe b7 Ff
 have CW:=z7 T fR aF jW gJ Fd dM zD vd
 have KY:=Gz T gE aF jW
 have Am:=yx (P:=l.prog) (w:=w) (base:=base) T bD
 have CV:=sV (d:=0) T bD Am
 have CU:=sV (d:=1) T bD CV
 have An:=yy T cg gF Fi
 have Xo:=S7 T N9 fR CW gE KY gF (aE.nv Fi) iY zO (aE.nv Hx) bD CU aF jW cg An
 exact Xo
theorem walk{l:PySem.W.OpenLaw}{q:bn}{loose:List bp}{XP:(bp->Option a9)->eJ->Prop}{YP:df->eJ->Prop}{d:DefRec}{K:Params->PySem.W.Frag}(hn:l.most=some 63)(hdf:d.params.defaults=[])
  (hY:∀(w:df) (h:eJ),YP w h->(K w.params).In h) (hY1:∀(w:df) (h:eJ),YP w h->h.get? (eW (K w.params) "first_begin")=some (PySem.W.tabObj #[])) (hY2:∀(w:df) (h:eJ),YP w h->h.get? (eW (K w.params) "state_behind")=some (PySem.W.tabObj #[])) (hL1:∀w:df,qO (K w.params) "first_begin" =true) (hL2:∀w:df,qO (K w.params) "state_behind" =true)
  (hne:∀w:df,Nat.beq (eW (K w.params) "first_begin") (eW (K w.params) "state_behind")=false) (hG:∀w:df,PySem.W.nsIn (K w.params) dk "GAP" =some none)
  (F:∀(w:df) (mg:bp->Option a9) (fa:a5) (h:eJ),(K w.params).In h->h.Ns dk mg->mg d.name=some (.ref fa) →
   ∃fd:dv,(∀(s:ba) (u:a9),BindsTo s fd ⟨[u],[]⟩ [("_law_script",u)])/\∀base:eJ,(K w.params).In base->base.Ns dk mg->Ri base mg->aE l.prog w (K w.params) mg base bS 12 fa fd UE (BJ (K w.params) (A8 (K w.params)))) :
  PySem.W.WalkO q loose XP YP l.row.toRowW d [] (λf vs=>PySem.call f vs) :=
 L2.Lk (n:=63) (k:=12) (x:= "_law_script") (nms:=["first_begin","state_behind"]) (CX:=λ_=>bS) (sp:=λw=>BJ (K w.params) (A8 (K w.params))) hn (by decide) hdf ⟨rfl,by decide,by decide⟩ hY (λw h Y=>BE (hY1 w h Y) (hY2 w h Y)) (λw=>BE (hL1 w) (hL2 w)) hG F
  (λw H a ns hl hT hS=>⟨a,ns,rfl,hS,hl,⟨.inl (hT _ cr),.inl (hT _ (ce _ cr)),Nat.ne_of_beq_eq_false (hne w)⟩,λH' hT'=>⟨rfl,BE (Dv hT'.a) (Dv hT'.b)⟩⟩) λ_ _ _ _ _ z=>z
end XI
namespace PySem.W.Fast
def tw4017351373264089341:=0
def tw5037860786659355895:=0
def tw13639308450615662855:=0
def tw17598300599514271082:=0
def tw6487181019933479293:=0
def tw1680508397347829262:=0
def tw11048535905895581626:=0
def tw5299158794155131791:=0
def tw9743744120107356395:=0
def tw16001142003882663404:=0
def tw7421447218083139830:=0
def tw3479096457506783476:=0
def tw988832833363069007:=0
def tw1420735070413952770:=0
def tw1798657960776583145:=0
def tw13146171318947862979:=0
def tw4500549109607892933:=0
def tw3344138415792923422:=0
def tw14163994433500197947:=0
def tw15832172400817419152:=0
def tw11449675974142590446:=0
def tw10451662535600779357:=0
def tw18204992934600430340:=0
def tw6456917412511085584:=0
def tw10877947439331639831:=0
def tw7140992433087311132:=0
def tw7187908510851170713:=0
def tw12691341467262883560:=0
def tw10583196362382145879:=0
def tw14964093856132206222:=0
def tw15246418179029705734:=0
def tw17741351895113519090:=0
def tw13213531222175846524:=0
def tw1985399080031282482:=0
def tw770436900646728382:=0
def tw348096238429395921:=0
def tw8791492385946720109:=0
def tw8569374644267821395:=0
def tw12940169058020883135:=0
def tw3555012276084283225:=0
def tw11490683124758556478:=0
def tw18224530865784317247:=0
def tw8167828151386011853:=0
def tw8495731219844588581:=0
def tw12472412266194846242:=0
def tw12886166297351204745:=0
def tw6926728768988033902:=0
def tw102506519521204015:=0
def tw18294365367828647327:=0
def tw1501990122139564225:=0
def tw1641861443285161511:=0
def tw725115701465876198:=0
def tw3522945099038224326:=0
def tw8309033399869292390:=0
def tw17322000452596065113:=0
def tw6914607475416031790:=0
def tw16526631222407343831:=0
def tw718322828271534260:=0
def tw7352058059134199237:=0
def tw10105119423966247277:=0
def tw16576035226340985343:=0
def tw3508229546024138951:=0
def tw1094184388080531626:=0
def tw5734016615510678676:=0
def tw3279951889373489124:=0
def tw7299458799782509313:=0
def tw3050925572273114511:=0
def tw16648365468056400511:=0
def tw6650576306194634782:=0
def tw905038368336885719:=0
def tw2930671822567128559:=0
def tw15043623649388938336:=0
def tw2864173199456872652:=0
def tw6881899861237845384:=0
def tw2105979247038193377:=0
def tw362582046564869284:=0
def tw3435426076709472609:=0
def tw1892776376735558128:=0
def tw801137731878434643:=0
def tw9351604417267989657:=0
def tw796031551215292554:=0
def tw9349329208618979254:=0
def tw6797315369385599654:=0
def tw760742911198513801:=0
def tw6449581854693839996:=0
def tw11784127612646419379:=0
def tw7618122674560316138:=0
def tw17633997516978188882:=0
def tw14736665844508091716:=0
def tw10589497856996318230:=0
def tw18283659838812010236:=0
def tw11556737142808624755:=0
def tw14506137013314306607:=0
def tw16973166719684130182:=0
def tw13771663888831138038:=0
def tw6400360181702968394:=0
def tw15641041808603705779:=0
def tw2460945731602796015:=0
def tw8001096740990537649:=0
def tw1473751381295788280:=0
def tw11718266051528678175:=0
def tw10469500840631112808:=0
def tw11541773318996306916:=0
def tw11831492441525067128:=0
def tw5001731343521013248:=0
def tw10425749112382390280:=0
def tw13338072437470957185:=0
def tw8948162317429104462:=0
def tw5063592019569922408:=0
def tw12031023599394628490:=0
def tw7131741837407940436:=0
def tw6633099880269074544:=0
def tw13673221461025185428:=0
def tw18079595165434721172:=0
def tw302914140168087486:=0
def tw12460293450638190862:=0
def tw17013058068210978963:=0
def tw915862403682080077:=0
def tw15903440704927272457:=0
def tw11876435746056683409:=0
def tw3383363619338382081:=0
def tw16132993528065275814:=0
def tw4884697902211429810:=0
def tw5585157654897492600:=0
def tw18315860255889542530:=0
def tw12230126089105017772:=0
def tw16772068221413459319:=0
def tw11787586338897853075:=0
def tw9214703287038285498:=0
def tw14042045332404612977:=0
def tw77660458945500764:=0
def tw3453675796043020138:=0
def tw8952099892432692500:=0
def tw14991767777870893162:=0
def tw9755954951374614128:=0
def tw850088704090079319:=0
def tw13380717075555451791:=0
def tw16630982556046407511:=0
def tw17791419541910791896:=0
def tw7776097580894702217:=0
def tw4790915056795867534:=0
def tw11240752674652492185:=0
def tw1954048125440576824:=0
def tw6860435527950735833:=0
def tw3792360296073566870:=0
def tw1293928038760093936:=0
def tw18279266142853118078:=0
def tw16384711444599651922:=0
def tw2423309616361897338:=0
def tw5529306670531745412:=0
def tw6360423640864109176:=0
def tw15041195804712431365:=0
def tw10000282785622042270:=0
def tw17848046977212572371:=0
def tw2802423733453017026:=0
def tw12692379317949074806:=0
def tw2212404791947082857:=0
def tw1388656687285414252:=0
def tw12493585386008565172:=0
def tw10222760853360509812:=0
def tw6957260361082049357:=0
def tw14411888969936161105:=0
def tw12162594788851547339:=0
def tw5270122161954046249:=0
def tw16107568857720148908:=0
def tw13304282542929576986:=0
def tw12170018123573443816:=0
def tw1471008826614333419:=0
def tw12832508831019382855:=0
def tw15257191798771398005:=0
def tw12681508626564141533:=0
def tw7112775042173072766:=0
def tw648375932122431574:=0
def tw7667972617546294935:=0
def tw9807784429158406950:=0
def tw613520702283070851:=0
def tw15212054445250563882:=0
def tw15754060407373161179:=0
def tw13791474269254375928:=0
def tw14549856687544754719:=0
def tw8556338066781720782:=0
def tw14030040347163263200:=0
def tw5953427035437395792:=0
def tw1784600551607396916:=0
def tw13696021249498467048:=0
def tw7678016801224230000:=0
def tw16019715708521718699:=0
def tw3862803793083998720:=0
def tw5308022738370290108:=0
def tw14885048858515499088:=0
def tw5861924611537831905:=0
def tw8139905762587575181:=0
def tw17857767252072864338:=0
def tw7717736331241480418:=0
def tw1478773276057868022:=0
def tw13627622462271604473:=0
def tw4601280820811428795:=0
def tw1239197296297953883:=0
def tw5727565347238453543:=0
def tw16665137306513161427:=0
def tw16851280284091223300:=0
def tw2814110497838118599:=0
def tw12478328904236816466:=0
def tw11733005334969790796:=0
def tw17555157550101164583:=0
def tw10765939449667533854:=0
def tw10399092802642125057:=0
def tw13006195812868274966:=0
def tw10507182984857018943:=0
def tw3253255795574719288:=0
def tw7564898168529379614:=0
def tw1363346421505765873:=0
def tw6708000367255031961:=0
def tw6706392762721243927:=0
def tw12124671220732322679:=0
def tw12165069703596574167:=0
def tw4558293714823525005:=0
def tw14019804326199973364:=0
def tw5170857776797731296:=0
def tw4056638783353207575:=0
def tw711292591975046228:=0
def tw5847130979406626101:=0
def tw571379078580911497:=0
def tw16488372013592833163:=0
def tw18309756329846134646:=0
def tw6945363210825995665:=0
def tw3197982193770419189:=0
def tw10976610311108640413:=0
def tw4738849142430020812:=0
def tw4005709879453264586:=0
def tw11025269423861800555:=0
def tw17166749885746188990:=0
def tw11813402161793501309:=0
def tw6301294640665099571:=0
def tw5316739191762662590:=0
def tw3442161283022306716:=0
def tw17915774642385731551:=0
def tw3108833618622492930:=0
def tw13431682102026974824:=0
def tw2483944687727752653:=0
def tw13810267249419548754:=0
def tw8842920257131693633:=0
def tw3781501579171483961:=0
def tw16658412997263290435:=0
def tw3805368278993912463:=0
def tw1144353001786391450:=0
def tw913088109771620949:=0
def tw6438949562993986794:=0
def tw12505304121410988954:=0
def tw8059714379774487866:=0
def tw9345825087671398395:=0
def tw10415711149073743636:=0
def tw17613784027100552631:=0
def tw16296594824576958190:=0
def tw1848180119337273716:=0
def tw11079610864487392720:=0
def tw13338140171376453537:=0
def tw2800411321382273263:=0
def tw10422990238881685611:=0
def tw2334202132754244007:=0
def tw10204247232061014126:=0
def tw16850327451922790452:=0
def tw8318969476898290148:=0
def tw2146345410361909135:=0
def tw3938431143538974474:=0
def tw3190461710210969976:=0
def tw5779025702611052702:=0
def tw3352327831153246864:=0
def tw3208511918337143834:=0
def tw5869411923639026655:=0
def tw3520657346292184010:=0
def tw1027241636550050329:=0
def tw11383016550254484979:=0
def tw4550111768960329508:=0
def tw963289381535476781:=0
def tw13352021623427676273:=0
def tw265230714059056899:=0
def tw16121988910192037042:=0
def tw14244214132040676659:=0
def tw10948892985183291048:=0
def tw12738858154047560232:=0
def tw12447814500413939434:=0
def tw15905024981271657918:=0
def tw17153059837036079565:=0
def tw7455497995758631775:=0
def tw11588207282982720893:=0
def tw9205383673112590198:=0
def tw5559330298896276463:=0
def tw16249350304605067149:=0
def tw10312129672991601984:=0
def tw2341258106901851109:=0
def tw7539142472718997446:=0
def tw15354613326086066021:=0
def tw16180566422826361930:=0
def tw3010833337265689099:=0
def tw11218109222639411942:=0
def tw10737571670007246267:=0
def tw16450487158809358899:=0
def tw14507796968130387583:=0
def tw1783605808327317532:=0
def tw12254143202987253551:=0
def tw17709878435917627673:=0
def tw17887959176124613197:=0
def tw8574905187371648604:=0
def tw3224962846178426066:=0
def tw17294398715653437940:=0
def tw6418089894869218471:=0
def tw6022790785657264230:=0
def tw2621285621301962700:=0
def tw13799601858791545203:=0
def tw226460174546474599:=0
def tw11818936404300044159:=0
def tw17018878355173434433:=0
def tw1557653137942048219:=0
def tw9314700713063425218:=0
def tw7244856569076519143:=0
def tw15076462149237384793:=0
def tw1901132711552407591:=0
def tw17769421924330112435:=0
def tw18078582196982806490:=0
def tw5325109991016440518:=0
def tw17610753114829418498:=0
def tw15101570908344557295:=0
def tw11735865007441122551:=0
def tw14452678647779579244:=0
def tw16693732259817485671:=0
def tw2104204454628415711:=0
def tw10433454394393233479:=0
def tw834184859383921055:=0
def tw14055081219617129208:=0
def tw2023023258459945303:=0
def tw17193770790838236617:=0
def tw1141960146242229622:=0
def tw12931442428300569611:=0
def tw14841137981785846993:=0
def tw10346160296472517496:=0
def tw1812144713397422212:=0
def tw11680799624385213574:=0
def tw9385856488059463295:=0
def tw17172968762112815360:=0
def tw4570996552120080109:=0
def tw9836656235254146288:=0
def tw7037682045762775647:=0
def tw4635738242605037026:=0
def tw17705125697176503443:=0
def tw14584969895480629698:=0
def tw16233007565642604976:=0
def tw9576113850477483489:=0
def tw12212628862989105618:=0
def tw5600260068265704229:=0
def tw710041013342577226:=0
def tw9053246466054293327:=0
def tw2587108940977108933:=0
def tw2084638955650619454:=0
def tw13079438629830707207:=0
def tw17418970196027195987:=0
def tw8266810263081074405:=0
def tw16833317457408163961:=0
def tw2492472377745360695:=0
def tw1311553911602940082:=0
def tw9907727396276070641:=0
def tw14351334089240626091:=0
def tw9384585644016626663:=0
def tw16411025749665608712:=0
def tw4957167296477591246:=0
def tw15811269611117139207:=0
def tw12788072521651995011:=0
def tw17962868140575715322:=0
def tw13835071268257855568:=0
def tw8956579790666069678:=0
def tw12570707295179822983:=0
def tw18417857089902304877:=0
def tw14473576754966996847:=0
def tw6544067612246101996:=0
def tw681489248177449876:=0
def tw9962919853374463993:=0
def tw8844997615423828396:=0
def tw9019215136656834653:=0
def tw16031229982975608029:=0
def tw13213157508797165179:=0
def tw7737135591877690282:=0
def tw10733592194125992591:=0
def tw3302066571956522998:=0
def tw8395494380051767066:=0
def tw7929906518122815849:=0
def tw2614106057411890143:=0
def tw8949455512064674108:=0
def tw9819570495344224912:=0
def tw15330131127537242852:=0
def tw15721514870859640487:=0
def tw15189717063356610066:=0
def tw1185123289688079620:=0
def tw721527952073670998:=0
def tw4899673390011343876:=0
def tw16723643792700925494:=0
def tw6783603773454986454:=0
def tw9096596220864824917:=0
def tw17043658147415333275:=0
def tw15464029686366182053:=0
def tw15453009429087220441:=0
def tw4643636189968641579:=0
def tw10448467204321136504:=0
def tw11011040392001246900:=0
def tw15161698604502411466:=0
def tw13015006246638709526:=0
def tw11683282994303282291:=0
def tw386581984649097599:=0
def tw4997471695830643587:=0
def tw1139765956887493822:=0
def tw1182469905753702843:=0
def tw1221821272974612707:=0
def tw15520098763605069265:=0
def tw15571736246666218413:=0
def tw6424510617046806003:=0
def tw16903556055165354641:=0
def tw2487650042953730151:=0
def tw6378491244871256686:=0
def tw11976511272898300035:=0
def tw4716376981730303151:=0
def tw6843884550929192617:=0
def tw2244613951274210798:=0
def tw1887108786028245336:=0
def tw12292915936649274265:=0
def tw15404802454898061322:=0
def tw13557426710215211076:=0
def tw5685856381072276745:=0
def tw8914176324617697830:=0
def tw4921061745356820809:=0
def tw13919258504185412730:=0
def tw4878793791371265907:=0
def tw15023383279224694121:=0
def tw12517023890597865986:=0
def tw4871927332562294007:=0
def tw2461638795726605601:=0
def tw7674863134815841155:=0
def tw3363159482441447317:=0
def tw10906439778981480220:=0
def tw4413113308159441023:=0
def tw3048329715652048696:=0
def tw17200619553404994706:=0
def tw4308544124479310904:=0
def tw15635174729053868626:=0
def tw5799927939839675818:=0
def tw17543004729569835871:=0
def tw8497741827891984506:=0
def tw1250813794834691957:=0
def tw4364396870138568729:=0
def tw8619333771637375840:=0
def tw10161254982867568338:=0
def tw16231260102384244670:=0
def tw8981206495139647650:=0
def tw14756546340498962135:=0
def tw10108606305927385905:=0
def tw2347867385943110552:=0
def tw1914438792068139824:=0
def tw4519631630528069486:=0
def tw7502280841335082682:=0
def tw10644036725619411490:=0
def tw12411525764939395176:=0
def tw12791435218526209375:=0
def tw17591465876946634045:=0
def tw6062877400072185695:=0
def tw448757589690938483:=0
def tw13129178970282088873:=0
def tw14004772224809508074:=0
def tw15803750134259818775:=0
def tw416540437330047669:=0
def tw15782437568530395780:=0
def tw16387241670577139103:=0
def tw13788717657529730331:=0
def tw8449975312687234389:=0
def tw17617022550203934128:=0
def tw17036709003642190217:=0
def tw16315925735680781434:=0
def tw15417981602644478937:=0
def tw7748992271808268745:=0
def tw17533400813225055558:=0
def tw11990409837105627635:=0
def tw13310779273883646143:=0
def tw3654090756400041089:=0
def tw15097534806053445367:=0
def tw1403328255748459883:=0
def tw6211189220499829370:=0
def tw11025254930408128349:=0
def tw12233083977308450348:=0
def tw5078859953463606798:=0
def tw18056406767087126192:=0
def tw4637186046043144200:=0
def tw5889752544537848597:=0
def tw4153899928801207972:=0
def tw13758591509775088881:=0
end PySem.W.Fast
open PySem PySem.W PyProof.Rows
set_option maxRecDepth 100000 in
set_option maxHeartbeats 0 in
theorem PySem.Challenge.cw_gapweave_k31_halved_holds : PySem.Challenge.rw_gapweave_k31_halved.Holds := by
 w_on;o_law;k_head;(case hw=>w_witness2)
 k_fill
 refine XI.walk (l:=PySem.Challenge.rw_gapweave_k31_halved) rfl rfl (λw h Y=>PySem.W.km_in_of Y) (λw h Y=>PySem.W.km_tabs_of Y _ (List.elem_iff.mp (by kernel_rfl))) (λw h Y=>PySem.W.km_tabs_of Y _ (List.elem_iff.mp (by kernel_rfl))) (λw=>by kernel_rfl) (λw=>by kernel_rfl) (λw=>by kernel_rfl) (λw=>by kernel_rfl) ?F
 case F =>
  intro w mg fa h KX G hmg
  refine' XI.all_mk KX G hmg ?u0 ?u1 ?u2 ?u3 ?u4 ?u5 ?u6 ?u7 ?u8 ?u9 ?u10 ?Z5 ?Z4 ?Z3 ?Z2 ?Z1 ?Z0 ?ZZ ?ZY ?ZX ?ZW ?ZV ?ZU ?u23 ?ZT ?ZS ?ZR ?ZQ ?ZP ?ZO ?ZN ?ZM ?ZL ?ZK ?ZJ ?ZI ?ZH ?ZG ?ZF ?ZE ?ZD ?ZC ?ZA ?Zz ?u44 ?Zy ?Zx ?Zw ?Zv ?Zu ?Zt ?Zs ?Zr ?Zq ?Zp ?Zo ?Zn ?Zm ?Zl ?Zk ?Zj ?Zi ?Zh ?Zg ?Zf ?Ze ?Zd ?Zc ?Zb ?Za ?u70 ?Y9 ?Y8 ?Y7 ?Y6 ?u75 ?Y5 ?Y4 ?Y3 ?Y0 ?YZ ?YY ?YX ?YW ?YV ?YU ?YT ?YS ?YR ?YQ ?YO ?YN ?YM ?YL ?YK ?YJ ?YI ?YH ?YG ?YF ?Sw ?Sv ?Su ?Ss ?So ?Sn ?Sl ?Sk ?Sj ?Si ?Sg ?Sf ?Sd ?Sb ?Sa ?R9 ?R8 ?R7 ?Oz ?Ox ?R6 ?u121 ?R5 ?R0 ?RZ ?RY ?RX ?RW ?RV ?RU ?RT ?RS ?RQ ?RP ?RO ?RN ?RM ?RL ?RK ?RJ ?RI ?RH ?RG ?Ow ?RE ?RD ?RC ?Ov ?RB ?RA ?Rz ?Ry ?Rx ?Rw ?Rv ?Ru ?Rt ?Rr ?Rq ?Rp ?Ro ?Rn ?Rm ?Rl
  case u2|u3|u4|u5|u6|u7|u8|u9|Z5|Z4|Z3|Z2|Z1|Z0|ZZ|ZY|ZX|ZW|ZV|ZU|ZL|ZK|ZJ|ZI|ZH|ZG|ZF|ZA|Zz|Zy|Zx|Zw|Zv|Zu|Zt|Zs|Zr|Zq|Zp|Zo|Zn|Zm|Zl|Zk|Zj|Zh|Zg|Za|u70|Y9|Y8|Y7|Y6|YR|YQ|YO|YN|YM|Sf|Sd|Sb|Sa|R9|Ow|RE|RD|RC|RB|RA|Rz|Ry|Rx|Rw|Rv|Ru|Rt|Rr|Rq|Rp|Ro|Rn|Rm|Rl=>k_is
  case u0|u1|Zi|Zd|Zc|Zb|Ov=>kernel_rfl
  case u10=>decide
  case u23|ZT|ZS|ZR|ZQ|ZP|ZO|ZN|ZM|ZE|ZD|ZC|Zf|Ze=>(show PySem.W.findIn _ _ _=_;k_is)
  case u44=>k_exc
  case u75|Y5|Y4|Y3|Y0|YZ|YY|YX|YW|YV|YU|YT|YS|YL|YK|YJ|YI|YH|YG|YF|Sw|Sv|Su|Ss|So|Sn|Sl|Sk|Sj|Si|Sg|R8|R7|Oz|Ox|R6|R5|R0|RZ|RY|RX|RW|RV|RU|RT|RS|RQ|RP|RO|RN|RM|RL|RK|RJ|RI|RH|RG=>(refine' XI.jR.mk ?a ?l ?c ?k;(case a=>k_is);(case l=>k_is);(case c=>k_is);(case k=>k_is))
  case u121=>(refine' XI.XN.mk ?a ?l ?c ?k ?e;(case a=>k_is);(case l=>k_is);(case c=>k_is);(case k=>k_is);(case e=>k_is))
