import PyProof.Rows.All
import Wide.All
import OpenK.AllK
import Wide.FinOn
import Lean
import PyProof.EqAt
import PyProof.EqKinds
import PyProof.TupleCall
import PyProof.NeKinds
import PyProof.Rows.StrStrike
import PyProof.SumWalkG
import PyProof.StrCalls2
import PyProof.Rows.StrItems
import PyProof.Rows.StrJoin2
import PyProof.Truth
import PyProof.SumWalkG
import PyProof.EqAt
import PyProof.EqKinds
import PyProof.Rows.StrStrike
import OpenK.ZHead
import PyProof.DictRoadsH
import PyProof.DictKeyH
import KE.KDictList
import KE.KMinKey
import KE.KLam
import KE.KNestM
import PyProof.MinMaxWalk
import PyProof.WalkInts
import KE.KRevIter
import PySem.Challenge.RW_gapweave_k22_small_rows_listed
set_option Elab.async false
set_option linter.all false
set_option maxRecDepth 100000
namespace QA
open PySem
theorem am:0<=sizeLine:=by decide
theorem ar:1<=sizeLine:=by decide
theorem aw:2<=sizeLine:=by decide
theorem ax:3<=sizeLine:=by decide
theorem a0:4<=sizeLine:=by decide
end QA
open QA
open PySem renaming wpAny_bind->a5,Addr->a6,Value->a9,Shared->bc,wpAny_pure->bi,Program->bo,Str->bv,sizeLine->b_,wpAny->cf,mainGlobals->cn,FuncData->db,World->df,Heap->dC,Around->dL,starEach->eh,wpAny_mono->gd,Stmt->gl,wpAny_seqItems->h_,wpAny_field->ik,wpAny_truthy_bool->js,wpAny_holding->j_,wpAny_callSpecial?_slot->kz,wpAny_call_entry->kA,wpAny_newObj_type->lh,Obj->lv,Scope->lL,wpAny_pyIter_list->mi,wpAny_pyIter_tuple->mB,wpAny_Call_Name_kw->mI,wpAny_setField->nz,wpAny_setField_rec->n0,wpAny_passesOwn->oC,NameKind->oP,wpAny_isInstance->qr,Pos->re,wpAny_typeNameOfWhole_keyiter->rf,codeAny_mono->rk,codeAny_builtin->sk,wpAny_standAt->sm,wpAny_loadPart_at->tf,wpAny_letGo->tJ,wpAny_tryCatch->t_,Arguments->ui,wpAny_forIn_list->uj,wpAny_typeNameOf_keyiter->va,wpAny_specialOf->vl,wpAny_getItem_heap->vx,wpAny_pyIter_strU->v0,ExcBaseFacts->wb,wpAny_call->wq,plainId_quiet->wE,IsPair->wS,Tok->wT
open List renaming getElem?_eq_getElem->a7,length_map->a_,getElem?_eq_some_iff->bj,mem_cons_of_mem->b0,mem_of_getElem?->cb,length_append->ce,mem_cons->cm,mem_cons_self->cw,getElem?_map->cx,mem_singleton->c_,range->dk,size_toArray->dq,map_append->du,getD_eq_getElem?_getD->dv,length_cons->d_,mem_append_right->eD,mem_map->eI,map_cons->eJ,mem_append->eM,append_nil->eP,mem_filter->fe,take_of_length_le->fi,not_mem_nil->fA,drop_eq_getElem_cons->ge,getElem_mem->g0,lookup->hJ,append_assoc->im,length_range->io,filter_cons_of_pos->ip,filter_cons_of_neg->iq,find?_cons->i5,map_map->kb,lookup_cons->kx,getElem_of_mem->ll,length_replicate->lw,mem_range->md,range_succ->mn,flatMap_append->ms,length_take->mx,take_length->my,getElem?_append_right->mM,length_singleton->on,getElem?_append_left->ot,map_congr_left->pz,getElem?_replicate->pE,all_eq_true->p_,mem_flatMap->q_,ne_nil_of_mem->r_,length_set->si,getElem?_eq_none->sT,take_append_drop->s_,mem_append_left->tz,any_cons->ul,nodup_cons->vk,foldl_cons->vu,filter_append->vy,replicate->vT,foldl_append->v_,getElem?_set->wa,flatMap_cons->wf,cons_append->ww
open PySem.Heap renaming get?_push_of_some->a8,get?_push_size->bp,lt_size->ca,get?_update_other->fw,get?_update_self->f_,size_push->hV,SameBut->l_,get?_none_of_le->me,ExtBut->wP
open Nat renaming le_refl->ba,le_trans->bn,lt_of_lt_of_le->cq,lt_of_le_of_lt->cr,ne_of_lt->dy,zero_le->em,le_succ->gc,lt_irrefl->g_,lt_succ_self->ib,le_add_right->i_,ne_of_gt->ma,pow_le_pow_right->ph,mul_le_mul->q5,succ_le_succ->rc,le_of_lt->rg
open PySem.Str renaming ofString->bd,empty->wn
open Bool renaming false_ne_true->bt,and_eq_true->ii,false_eq_true->i4,false_and->mf,not_true->sx,true_and->sK,eq_iff_iff->vi
open Option.some renaming inj->dn
open PySem.PassesOwn renaming never->dA
open Int renaming gcd->eQ,emod_lt_of_pos->f8,emod_nonneg->gL,le_of_lt->jp,zero_add->kl,toNat_of_nonneg->lr,gcd_dvd_right->mm,ediv_pos_of_pos_of_dvd->n_,toNat_natCast->o0,ofNat_lt->wl,gcd_dvd_left->wy
open PySem.NameKind renaming free->e_,cell->so
open PySem.Builtin.SmallTypes renaming nextOf->fg,ownedTupleIsFree->ka
open Array renaming getElem?_toList->ft,length_toList->ij,getElem?_eq_getElem->oy,getElem?_eq_some_iff->t5
open Option renaming map_eq_some_iff->gN,isSome_iff_exists->pi
open PySem.Heap.SameBut renaming update->il
open False renaming elim->km
open PySem.Obj renaming data_mapFields->kn,isFreed_of_fields->oo,mapFields->sv,mapSeq->wt
open PyProof.Rows renaming callWith_type1->k_,subscriptTail_builtinR->r0,step_dedup->wx
open PyProof.Rows.F renaming plain_set_update_loop->mr
open PySem.F renaming slot_tuple_iterator_next->m_
open PySem.Around renaming under_plainId->o_
open PySem.AutoSeq1 renaming wpAny_loadPart'->pj
open PySem.Calls renaming spliced_cons->rh,evalArgs_plain->tI,Constant_str->vw
open PySem.Builtin.Tuple renaming tupleHashOf->uk
open PySem.Builtin.List renaming listTooLong->ut
open List.cons renaming inj->u_
namespace TK
open PySem
theorem qI{M:Model}{Γ:Ctx}{p:re}{t:Sem PySem.Fin}{fs:List Frame}{s s':bc}{e:End}(h:Runs M Γ p t fs s e s'):s.toks<=s'.toks:=by
 induction h with
 |fresh _ ih=>exact bn (gc _) ih
 |call _ _ a b=>exact bn a b
 |segRet _ _ a b=>exact bn a b
 |segGen _ _ a b=>exact bn a b
 |resumeFresh _ _ _ _ a b=>exact bn a b
 |resumeSuspended _ _ _ _ a b=>exact bn a b
 |segSuspGen _ _ _ _ a b=>exact bn a b
 |_=>first|exact ba _|assumption
theorem DC{M:Model}{Γ:Ctx}{p:re}{g:Nat}{r:Resume}{s s':bc}{res:GenResult}(h:Wakes M Γ p g r s res s'):s.toks<=s'.toks:=by
 unfold Wakes at h
 split at h
 ·exact h.elim
 ·split at h
  ·obtain⟨e,s1,a,_,_,rfl⟩:=h;have z:=qI a;exact z
  ·obtain⟨_,rfl⟩:=h;exact ba _
  ·obtain⟨_,rfl⟩:=h;exact ba _
 ·obtain⟨e,s1,a,_,_,rfl⟩:=h;have z:=qI a;exact z
 ·obtain⟨_,rfl⟩:=h;exact ba _
 ·obtain⟨_,rfl⟩:=h;exact ba _
theorem Qm{α:Type}{M:Model}{Γ:Ctx}{n:Nat}(t:Sem α):∀{Q:α->re->bc->Prop} {E:a9->re->bc->Prop} {p:re} {s:bc},n<=s.toks →
  Sem.wp M Γ t (λa p s'=>n<=s'.toks->Q a p s') (λe p s'=>n<=s'.toks->E e p s') p s->Sem.wp M Γ t Q E p s:=by
 induction t with
 |pure a=>intro Q E p s hn h;exact h hn
 |raise e=>intro Q E p s hn h;exact h hn
 |unsupported w=>intro Q E p s hn h;exact h
 |finish e=>intro Q E p s hn h;exact h
 |rule t k ih=>intro Q E p s hn h;exact ih () hn h
 | «at» p' k ih=>intro Q E p s hn h;exact ih () hn h
 |load a q k ih=>intro Q E p s hn h;obtain⟨o,e,h⟩:=h;exact⟨o,e,ih o hn h⟩
 |update a q f k ih=>intro Q E p s hn h;exact⟨h.1,ih () hn h.2⟩
 |alloc o k ih=>intro Q E p s hn h;exact ih _ hn h
 |loadIfAlive a k ih=>intro Q E p s hn h;exact ih _ hn h
 |point l k ih=>intro Q E p s hn h;exact ih () hn h
 |register a k ih=>intro Q E p s hn h;exact h
 |fresh k ih=>intro Q E p s hn h;exact ih _ (Nat.le_succ_of_le hn) h
 |ask k ih=>intro Q E p s hn h;exact ih _ hn h
 |choose src m k ih=>intro Q E p s hn h;exact⟨h.1,ih _ hn h.2⟩
 |os q l k ih=>intro Q E p s hn h;exact ih _ hn h
 |call c hd g l k ih=>intro Q E p s hn h;obtain⟨r,s1,a,h⟩:=h;exact⟨r,s1,a,ih r (bn hn (qI a)) h⟩
 |handled own k ih=>intro Q E p s hn h;exact ih _ hn h
 |newGen c k ih=>intro Q E p s hn h;exact ih _ hn h
 |genState g k ih=>intro Q E p s hn h;obtain⟨st,e,h⟩:=h;exact⟨st,e,ih _ hn h⟩
 |resume g r l k ih=>intro Q E p s hn h;obtain⟨res,s1,a,h⟩:=h;exact⟨res,s1,a,ih _ (bn hn (DC a)) h⟩
 |yield v g l k ih=>intro Q E p s hn h;exact h
 |stack k ih=>intro Q E p s hn h;exact ih _ hn h
 |fork c k ih=>intro Q E p s hn h;exact h
 |thread k ih=>intro Q E p s hn h;exact ih _ hn h
 |await a tk tm l k ih=>intro Q E p s hn h;exact h
theorem cH{α:Type}{M:Model}{A:dL}{t:Sem α}{Q:α->bc->Prop}{E:a9->bc->Prop}{s:bc}{n:Nat}(hn:n<=s.toks)(h:cf M A t (λa s'=>n<=s'.toks->Q a s') (λe s'=>n<=s'.toks->E e s') s):cf M A t Q E s :=
 λΓ p hΓ=>Qm t hn (h Γ p hΓ)
theorem EI{M:Model}{A:dL}{c:Code}{R:Result->bc->Prop}{s:bc}{n:Nat}(hn:n<=s.toks)(h:codeAny M A c (λr s'=>n<=s'.toks->R r s') s):codeAny M A c R s:=λΓ p hc hb=>by
 obtain⟨r,s1,a,h⟩:=h Γ p hc hb
 exact⟨r,s1,a,h (bn hn (qI a))⟩
end TK
set_option Elab.async false
set_option linter.all false
set_option maxRecDepth 100000
namespace L2
open PySem PySem.Spec PyProof.Rows
section
noncomputable abbrev Key:=Sum Int bv
noncomputable def zj:Key->a9->Bool
 | .inl k,v=>Value.isInt k v
 | .inr x,v=>Value.isStrOf x v
noncomputable def Wq(w:df):Key->Int
 | .inl k=>hashInt k
 | .inr x=>hashStr w x
theorem fJ:∀{k:Key} {v:a9},zj k v=true->(∃i t,k=Sum.inl i/\v=Value.int i t)\/(∃x t,k=Sum.inr x/\v=Value.str x t)
 | .inl i,v,h=>by
  obtain⟨t,e⟩:=Value.isInt_shape (k:=i) (v:=v) h
  exact .inl ⟨i,t,rfl,e⟩
 | .inr x,v,h=>by
  obtain⟨t,e⟩:=Value.isStrOf_shape (x:=x) (v:=v) h
  exact .inr ⟨x,t,rfl,e⟩
theorem GS(i:Int)(t:wT):zj (.inl i) (.int i t)=true:=by simp[zj,Value.isInt]
theorem GQ(x:bv)(t:wT):zj (.inr x) (.str x t)=true:=by simp[zj,Value.isStrOf]
theorem OF(a b:Int):decide ((Sum.inl a:Key)=Sum.inl b)=(a==b):=by
 by_cases e:a=b
 ·subst e;simp
 ·have h:¬(Sum.inl a:Key)=Sum.inl b:=λq=>e (Sum.inl.inj q)
  rw[decide_eq_false h]
  exact(beq_eq_false_iff_ne.mpr e).symm
theorem OB(a b:bv):decide ((Sum.inr a:Key)=Sum.inr b)=decide (a=b):=by
 by_cases e:a=b
 ·subst e;simp
 ·have h:¬(Sum.inr a:Key)=Sum.inr b:=λq=>e (Sum.inr.inj q)
  rw[decide_eq_false h,decide_eq_false e]
theorem OD(a:Int)(b:bv):decide ((Sum.inl a:Key)=Sum.inr b)=false:=decide_eq_false (λq=>nomatch q)
theorem OC(a:bv)(b:Int):decide ((Sum.inr a:Key)=Sum.inl b)=false:=decide_eq_false (λq=>nomatch q)
noncomputable def bX(prog:bo)(w:df):PySem.KeyKind prog w Key where
 is:=zj
 hash:=Wq w
 inj:=λv a b ha hb=>by
  rcases fJ ha with⟨i,t,rfl,rfl⟩|⟨x,t,rfl,rfl⟩
  ·rcases fJ hb with⟨j,u,rfl,e⟩|⟨y,u,rfl,e⟩
   ·injection e with e1 _;rw[e1]
   ·exact nomatch e
  ·rcases fJ hb with⟨j,u,rfl,e⟩|⟨y,u,rfl,e⟩
   ·exact nomatch e
   ·injection e with e1 _;rw[e1]
 byValue:=λk v h=>by
  rcases fJ h with⟨i,t,rfl,rfl⟩|⟨x,t,rfl,rfl⟩<;>rfl
 pyHash:=λhv h=>by
  rcases fJ hv with⟨i,t,rfl,rfl⟩|⟨x,t,rfl,rfl⟩
  ·exact wpAny_pyHash_int h
  ·exact wpAny_pyHash_str h
 eqBool:=λhu hv h=>by
  rcases fJ hu with⟨i,t,rfl,rfl⟩|⟨x,t,rfl,rfl⟩
  ·rcases fJ hv with⟨j,u,rfl,rfl⟩|⟨y,u,rfl,rfl⟩
   ·rw[OF]at h;exact wpAny_eqBool_int h
   ·rw[OD]at h;exact SeqAt.EqAt.int_str i t y u _ _ _ _ h
  ·rcases fJ hv with⟨j,u,rfl,rfl⟩|⟨y,u,rfl,rfl⟩
   ·rw[OC]at h;exact SeqAt.EqAt.str_int x t j u _ _ _ _ h
   ·rw[OB]at h;exact wpAny_eqBool_str h
 «strs» :=λk x t v h=>by
  rcases fJ h with⟨i,u,rfl,e⟩|⟨y,u,rfl,e⟩
  ·exact nomatch e
  ·injection e with e1 _
   subst e1
   cases v<;>rfl
theorem Ck(prog:bo)(w:df)(i:Int)(t:wT):(bX prog w).is (.inl i) (.int i t)=true:=GS i t
theorem qg(prog:bo)(w:df)(x:bv)(t:wT):(bX prog w).is (.inr x) (.str x t)=true:=GQ x t
end
section
inductive V where
 |jy|bl (b:Bool)|int (i:Int)|str (x:bv)|F5 (b:Array UInt8)|O3 (b:UInt64)|ref (a:a6)|ty (n:String)
 deriving DecidableEq
noncomputable def RelV:V->a9->Prop
 | .jy,u=>u=Value.none
 | .bl b,u=>u=Value.bool b
 | .int i,u=>∃t,u=Value.int i t
 | .str x,u=>∃t,u=Value.str x t
 | .F5 b,u=>∃t,u=Value.bytes b t
 | .O3 b,u=>∃t,u=Value.float b t
 | .ref a,u=>u=Value.ref a
 | .ty n,u=>u=Value.type n
noncomputable abbrev Vals:List V->List a9->Prop:=Paired RelV
theorem Vals.length{xs:List V}{us:List a9}(r:Vals xs us):xs.length=us.length:=Paired.length r
theorem Vals.get:∀{xs:List V} {us:List a9} {i:Nat} {x:V},Vals xs us->xs[i]? =some x->∃u,us[i]? =some u/\RelV x u
 |_,_,_,_,.nil,e=>by simp at e
 |_,_,0,_,.cons r _,e=>by simp at e;subst e;exact⟨_,rfl,r⟩
 |_,_,i+1,x,.cons _ t,e=>by
  obtain⟨u,h1,h2⟩:=Vals.get (i:=i) (x:=x) t (by simpa using e)
  exact⟨u,by simpa using h1,h2⟩
theorem Vals.set{x:V}{u:a9}(r:RelV x u):∀{xs:List V} {us:List a9} (i:Nat),Vals xs us->Vals (xs.set i x) (us.set i u)
 |_,_,_,.nil=>.nil
 |_,_,0,.cons _ t=>.cons r t
 |_,_,i+1,.cons q t=>.cons q (Vals.set r i t)
theorem Vals.append:∀{xs ys:List V} {us ws:List a9},Vals xs us->Vals ys ws->Vals (xs++ys) (us++ws)
 |_,_,_,_,.nil,s=>s
 |_,_,_,_,.cons r t,s=>.cons r (Vals.append t s)
theorem Vals.none_of:∀{xs:List V} {us:List a9} {i:Nat},Vals xs us->xs[i]? =none->us[i]? =none:=λ{xs us i} r e=>by
 have h1:=r.length
 have h2:xs.length<=i:=List.getElem?_eq_none_iff.mp e
 exact List.getElem?_eq_none_iff.mpr (by omega)
noncomputable def ow:Option V->Option a9->Prop
 |some v,some u=>RelV v u
 |none,none=>True
 |_,_=>False
noncomputable def KV{κ:Type}:List (κ×V)->List (κ×a9)->Prop:=Paired λ(p:κ×V) (q:κ×a9)=>p.1=q.1/\RelV p.2 q.2
noncomputable def kV:Key->V
 | .inl i=>.int i
 | .inr x=>.str x
inductive HO where
 |lst (xs:List V)
 |tup (xs:List V)
 |dK (kvs:List (Key×V))|dT (kvs:List (List Key×V))
 |set (S:Int->Bool) (n:Nat)
 |ins (C dx:a6) (fs:List (bv×V))
 |own (x:a6)
 |xd (fs:List (bv×V))
 |met (f x:a6)
 |Th (lo hi:Int)
 |EC (o:lv) (u:HO)
 |Mh (ps:Array a9)
 |ext (φ:dC->Prop)
noncomputable abbrev Hp:=a6->Option HO
noncomputable def upd(H:Hp)(a:a6)(o:HO):Hp:=λb=>if b=a then some o else H b
theorem ah{H:Hp}{a:a6}{o:HO}:upd H a o a=some o:=by unfold upd;rw[if_pos rfl]
theorem aq{H:Hp}{a b:a6}{o:HO}(h:b≠a):upd H a o b=H b:=by unfold upd;rw[if_neg h]
theorem qe{H:Hp}{a b:a6}{o u:HO}(h:H a=some o)(h':H b=some u)(d:o≠u):a≠b:=by
 intro e;subst e;rw[h]at h';exact d (dn h')
theorem aO{H:Hp}{a b:a6}{o:HO}(h:H a=some o)(h':H b=none):a≠b:=by
 intro e;subst e;rw[h]at h';cases h'
section
variable(P:bo)(w:df)
noncomputable def bY(H:Hp)(h:dC)(a:a6):HO->Prop
 | .lst xs=>xs.length<=b_/\∃(its:List a9) (n:Nat),Vals xs its/\h.get? a=some { cls:=.type "list",data:=.seq its.toArray n }
 | .tup xs=>xs.length<=b_/\∃its:List a9,Vals xs its/\IsTup h a its.toArray
 | .dK kvs=>kvs.length<=b_/\(a==sysModules)=false/\∃vs,KV kvs vs/\h.DictOf (bX P w) a vs
 | .dT kvs=>kvs.length<=b_/\(a==sysModules)=false/\∃xs:List (List Key×a6×a9),
   Paired (λ(p:List Key×V) (q:List Key×a6×a9)=>p.1=q.1/\H q.2.1=some (.tup (p.1.map kV))/\RelV p.2 q.2.2) kvs xs ∧
   ∃o es ep,h.get? a=some o/\o.ExactDict/\o.data= .dict es ep/\es.toList=xs.map (entryOfKey (tupleKind (bX P w)))/\(xs.map (·.1)).Nodup
 | .set S n=>h.SetOf (intKind P w) a S n
 | .ins C dx fs=>H dx=some (.own a)/\fs.length<=1000/\dx≠a/\h.get? a=some (PySem.W.instObj C dx) ∧
   ∃mA,h.Ns1 dx mA/\(∀f,ow (fs.lookup f) (mA f))/\PySem.Within mA (fs.map (·.1))
 | .own _=>∃o,h.get? a=some o
 | .xd fs=>∃mA,h.Ns1 a mA/\∀f,ow (fs.lookup f) (mA f)
 | .Th lo hi=>∃t u v,h.get? a=some { cls:=.type "range",data:=.fields #[.int lo t,.int hi u,.int 1 v] }
 | .EC o u=>h.get? a=some o/\bY H h a u
 | .Mh ps=>h.get? a=some { cls:=.none,data:=.fields ps }
 | .met f x=>h.get? a=some (PySem.W.methodObj (.ref f) (.ref x))
 | .ext φ=>φ h/\(∃o,h.get? a=some o)/\∀h1 h2:dC,φ h1->(∀o,h1.get? a=some o->h2.get? a=some o)->φ h2
noncomputable def oA(H:Hp)(h:dC):Prop:=∀a o,H a=some o->bY P w H h a o
end
section
variable{P:bo}{w:df}{H H':Hp}{h h':dC}{a:a6}{o:HO}
theorem bY.lt(x:bY P w H h a o):a<h.objs.size:=by
 cases o with
 |lst xs=>obtain⟨_,_,_,_,e⟩:=x;exact ca e
 |tup xs=>obtain⟨_,_,_,p⟩:=x;exact p.lt
 |dK kvs=>obtain⟨_,_,_,_,o,_,_,e,_⟩:=x;exact ca e
 |dT kvs=>obtain⟨_,_,_,_,o,_,_,e,_⟩:=x;exact ca e
 |set S n=>obtain⟨o,_,_,_,e,_⟩:=x;exact ca e
 |ins C dx fs=>obtain⟨_,_,_,e,_⟩:=x;exact ca e
 |own y=>obtain⟨_,e⟩:=x;exact ca e
 |xd fs=>obtain⟨_,⟨_,_,_,e,_⟩,_⟩:=x;exact ca e
 |Th lo hi=>obtain⟨_,_,_,e⟩:=x;exact ca e
 |EC ob u=>obtain⟨e,_⟩:=x;exact ca e
 |Mh ps=>exact ca (show h.get? a=some _ from x)
 |met f y=>exact ca (show h.get? a=some _ from x)
 |ext φ=>obtain⟨_,⟨_,e⟩,_⟩:=x;exact ca e
theorem Paired.gO{α β:Type}{F G:α->β->Prop}:∀{l₁:List α} {l₂:List β},Paired F l₁ l₂->(∀a b,F a b->G a b)->Paired G l₁ l₂
 |_,_,.nil,_=>.nil
 |_,_,.cons r t,f=>.cons (f _ _ r) (Paired.gO t f)
theorem bY.stay(x:bY P w H h a o)(k:∀b u,(b=a\/H b=some (.own a))->h.get? b=some u->h'.get? b=some u)
  (ho:∀b,H b=some (.own a)->H' b=some (.own a)) (ht:∀b xs,H b=some (.tup xs)->H' b=some (.tup xs)):bY P w H' h' a o:=by
 induction o with
 |lst xs=>obtain⟨z,its,n,r,e⟩:=x;exact⟨z,its,n,r,k _ _ (.inl rfl) e⟩
 |tup xs=>obtain⟨z,its,r,ob,e,c⟩:=x;exact⟨z,its,r,ob,k _ _ (.inl rfl) e,c⟩
 |dK kvs=>obtain⟨z,y,vs,r,ob,es,ep,e,c⟩:=x;exact⟨z,y,vs,r,ob,es,ep,k _ _ (.inl rfl) e,c⟩
 |dT kvs =>
  obtain⟨z,y,xs,r,ob,es,ep,e,c⟩:=x
  exact⟨z,y,xs,Paired.gO r λp q z=>⟨z.1,ht _ _ z.2.1,z.2.2⟩,ob,es,ep,k _ _ (.inl rfl) e,c⟩
 |set S n=>obtain⟨ob,es,ep,t,e,c⟩:=x;exact⟨ob,es,ep,t,k _ _ (.inl rfl) e,c⟩
 |ins C dx fs =>
  obtain⟨d,z,ne,e,mA,⟨od,es,ep,e2,c⟩,r⟩:=x
  exact⟨ho _ d,z,ne,k _ _ (.inl rfl) e,mA,⟨od,es,ep,k _ _ (.inr d) e2,c⟩,r⟩
 |own y=>obtain⟨ob,e⟩:=x;exact⟨ob,k _ _ (.inl rfl) e⟩
 |xd fs=>obtain⟨mA,⟨od,es,ep,e,c⟩,r⟩:=x;exact⟨mA,⟨od,es,ep,k _ _ (.inl rfl) e,c⟩,r⟩
 |Th lo hi=>obtain⟨t,u,v,e⟩:=x;exact⟨t,u,v,k _ _ (.inl rfl) e⟩
 |EC ob u ih=>obtain⟨e,q⟩:=x;exact⟨k _ _ (.inl rfl) e,ih q⟩
 |Mh ps =>
  have e:h.get? a=some { cls:=.none,data:=.fields ps }:=x
  show h'.get? a=some { cls:=.none,data:=.fields ps }
  exact k a _ (.inl rfl) e
 |met f y =>
  have e:h.get? a=some (PySem.W.methodObj (.ref f) (.ref y)):=x
  show h'.get? a=some (PySem.W.methodObj (.ref f) (.ref y))
  exact k a _ (.inl rfl) e
 |ext φ=>obtain⟨p,⟨o,e⟩,st⟩:=x;exact⟨st _ _ p λo q=>k _ _ (.inl rfl) q,⟨o,k _ _ (.inl rfl) e⟩,st⟩
theorem oA.lt(x:oA P w H h)(e:H a=some o):a<h.objs.size:=(x a o e).lt
theorem oA.fresh(x:oA P w H h)(e:h.objs.size<=a):H a=none:=by
 cases q:H a with
 |none=>rfl
 |some u=>exact absurd (cq (x.lt q) e) (g_ _)
theorem oA.kept(x:oA P w H h)(k:∀b u,h.get? b=some u->h'.get? b=some u):oA P w H h':=λa o e =>
 (x a o e).stay (λb u _ q=>k b u q) (λ_ q=>q) λ_ _ q=>q
theorem oA.laid(x:oA P w H h)(k:∀b u,h.get? b=some u->h'.get? b=some u)(hp:h.objs.size<=a)(new:bY P w (upd H a o) h' a o):oA P w (upd H a o) h':=λb u e=>by
 have hn:=x.fresh hp
 by_cases hb:b=a
 ·subst hb;rw[ah]at e;cases e;exact new
 ·rw[aq hb]at e
  exact(x b u e).stay (λc v _ q=>k c v q) (λc q=>by rw[aq (aO q hn)];exact q) λc xs q=>by rw[aq (aO q hn)];exact q
end
noncomputable def Rd(H:Hp)(a:a6)(u:HO):Prop:=H a=some u\/∃o,H a=some (.EC o u)
theorem Rd.ok{P:bo}{w:df}{H:Hp}{h:dC}{a:a6}{u:HO}(r:Rd H a u)(x:oA P w H h):bY P w H h a u:=by
 rcases r with r|⟨o,r⟩
 ·exact x a u r
 ·obtain⟨_,q⟩:=x a _ r
  exact q
noncomputable def SM:Option HO->Prop
 |some (.lst _)=>True
 |some (.dK _)=>True
 |some (.dT _)=>True
 |some (.set _ _)=>True
 |some (.ins _ _ _)=>True
 |some (.ext _)=>True
 |_=>False
section
variable{P:bo}{w:df}{H:Hp}{h h':dC}{x e:a6}{o':HO}
theorem oA.write(ok:oA P w H h)(mu:SM (H x))(he:e=x\/H e=some (.own x))(k:∀b u,b≠e->h.get? b=some u->h'.get? b=some u)(P8:∃u,h'.get? e=some u)
  (new:bY P w (upd H x o') h' x o'):oA P w (upd H x o') h':=λb u q=>by
 have Q2:∀c y,H c=some (.own y)->c≠x:=λc y r z=>by subst z;rw[r]at mu;exact mu
 have V9:∀c xs,H c=some (.tup xs)->c≠x:=λc xs r z=>by subst z;rw[r]at mu;exact mu
 by_cases hb:b=x
 ·subst hb;rw[ah]at q;cases q;exact new
 ·rw[aq hb]at q
  by_cases LO:b=e
  ·have q':H b=some (.own x):=by
    rcases he with z|z
    ·exact absurd (LO.trans z) hb
    ·rw[LO];exact z
   rw[q]at q';cases q'
   obtain⟨v,hv⟩:=P8
   exact⟨v,by rw[LO];exact hv⟩
  ·refine(ok b u q).stay (λc v hc r=>k c v ?_ r) (λc r=>by rw[aq (Q2 c b r)];exact r) λc xs r=>by rw[aq (V9 c xs r)];exact r
   rcases hc with rfl|hc
   ·exact LO
   ·rintro rfl
    rcases he with z|z
    ·exact Q2 c b hc z
    ·rw[hc]at z;cases z;exact hb rfl
end
structure Un(fs ex:List a6)(H H':Hp)(h h':dC):Prop where
 keep:∀b o,h.get? b=some o->H b=none->b∉fs->b∉ex->h'.get? b=some o
 slot:∀b o,h.get? b=some o->H b=none->b∈fs->b∉ex->∃sl,h'.get? b=some { o with slots:=sl }
 free:∀b o,h.get? b=some o->H b=none->b∉ex->H' b=none
 there:∀b o,h.get? b=some o->b∉ex->∃o',h'.get? b=some o'
 tups:∀b xs,H b=some (.tup xs)->H' b=some (.tup xs)
 uy:∀b o u,H b=some (.EC o u)->H' b=some (.EC o u)
 uY:∀b ps,H b=some (.Mh ps)->∃more,H' b=some (.Mh (ps++more))
section
variable{fs fs' ex ex':List a6}{H H1 H2:Hp}{h h1 h2 h':dC}{a x e:a6}{o:HO}
theorem Un.any(u:Un fs ex H H1 h h1){b:a6}{ob:lv}(q:h.get? b=some ob)(n:H b=none)(hx:b∉ex):∃sl,h1.get? b=some { ob with slots:=sl }:=by
 by_cases hb:b∈fs
 ·exact u.slot b ob q n hb hx
 ·exact⟨ob.slots,u.keep b ob q n hb hx⟩
theorem Un.kept(k:∀b u,h.get? b=some u->h'.get? b=some u):Un fs ex H H h h' :=
 ⟨λb ob q _ _ _=>k b ob q,λb ob q _ _ _=>⟨ob.slots,k b ob q⟩,λ_ _ _ n _=>n,λb ob q _=>⟨ob,k b ob q⟩,λ_ _ q=>q,λ_ _ _ q=>q,λ_ ps q=>⟨#[],by rw[q];simp⟩⟩
theorem Un.refl:Un fs ex H H h h:=Un.kept λ_ _ q=>q
theorem Un.laid(k:∀b u,h.get? b=some u->h'.get? b=some u)(hp:h.objs.size<=a)(hn:H a=none):Un fs ex H (upd H a o) h h' where
 keep:=λb u q _ _ _=>k b u q
 slot:=λb u q _ _ _=>⟨u.slots,k b u q⟩
 free:=λb u q n _=>by rw[aq (dy (cq (ca q) hp))];exact n
 there:=λb u q _=>⟨u,k b u q⟩
 tups:=λb xs q=>by rw[aq (aO q hn)];exact q
 uy:=λb u xs q=>by rw[aq (aO q hn)];exact q
 uY:=λb ps q=>⟨#[],by rw[aq (aO q hn),q];simp⟩
theorem Un.write(mu:SM (H x))(he:e=x\/H e=some (.own x))(k:∀b u,b≠e->h.get? b=some u->h'.get? b=some u)(P8:∃u,h'.get? e=some u):Un fs ex H (upd H x o) h h':=by
 have hx:∀b,H b=none->b≠x:=λb n z=>by subst z;rw[n]at mu;exact mu
 have hb:∀b,H b=none->b≠e:=λb n z=>by
  subst z
  rcases he with r|r
  ·exact hx b n r
  ·rw[n]at r;cases r
 have hm:∀b u,H b=some u->¬SM (some u)->b≠x:=λb u q nm z=>by subst z;rw[q]at mu;exact nm mu
 refine⟨λb u q n _ _=>k b u (hb b n) q,λb u q n _ _=>⟨u.slots,k b u (hb b n) q⟩,λb u q n _=>by rw[aq (hx b n)];exact n,λb u q _=>?_,
  λb xs q=>by rw[aq (hm b _ q λz=>z)];exact q,λb u xs q=>by rw[aq (hm b _ q λz=>z)];exact q,λb ps q=>⟨#[],by rw[aq (hm b _ q λz=>z),q];simp⟩⟩
 by_cases LO:b=e
 ·subst LO;exact P8
 ·exact⟨u,k b u LO q⟩
end
noncomputable def Td(h:dC)(H:Hp):List a6:=(dk h.objs.size).filter λa=>(H a).isSome
noncomputable def yw(h:dC)(H:Hp):dC:=PySem.W.hideAll h (Td h H)
theorem GY(h:dC)(H:Hp):(yw h H).objs.size=h.objs.size:=PySem.W.hideAll_size _ _
theorem JB{h:dC}{H:Hp}{b:a6}{o:lv}(e:h.get? b=some o)(n:H b=none):(yw h H).get? b=some o :=
 PySem.W.hideAll_get _ e λhm=>by
  have q:(H b).isSome=true:=(fe.mp hm).2
  rw[n]at q;simp at q
theorem Lh{h:dC}{H:Hp}{b:a6}{o:lv}(e:(yw h H).get? b=some o):h.get? b=some o/\H b=none:=by
 have e':h.get? b=some o:=PySem.W.of_hideAll (Td h H) e
 refine⟨e',?_⟩
 cases q:H b with
 |none=>rfl
 |some x =>
  have hm:b∈Td h H:=fe.mpr ⟨md.mpr (ca e'),by simp[q]⟩
  have z:(yw h H).get? b=none:=PySem.W.hideAll_none (Td h H) hm
  rw[z]at e;cases e
end
section
structure Mod(K:PySem.W.Frag)(mg:bv->Option a9)(base:dC):Prop where
 OA:K.In base
 glob:base.Ns cn mg
 blt:∃mb,base.Ns builtinsNs mb/\∀x:bv,x≠ "__name__" ->mb x=bootBuiltins x
 nolimit:base.NoLimit
structure Cx where
 prog:bo
 w:df
 K:PySem.W.Frag
 mg:bv->Option a9
 base:dC
 A:dL
 N:List bv
 s₀:bc
 H₀:Hp
 env:Env
 outer:List Env
 stack:List Env
 ex:List a6
 fn:bv->Bool
 calm:Bool
 pn:List (a6×lv)
 xe:a9->bc->Prop
noncomputable def frs(l:List Env):List a6:=l.filterMap (·.frame)
noncomputable abbrev Cx.fs(X:Cx):List a6:=frs X.outer
noncomputable def T4(sc:lL)(x:bv):Prop:=sc.names.lookup x=some .local\/sc.names.lookup x=some .cell\/sc.names.lookup x=some .free
noncomputable def Loc(sc:lL)(x:bv):Prop:=sc.names.lookup x=some .local\/sc.names.lookup x=some .cell
noncomputable def Look(env:Env)(h:dC)(m:bv->Option a9)(x:bv)(u:a9):Prop :=
 (env.kindOf x=some .local/\m x=some u)\/((env.kindOf x=some .cell\/env.kindOf x=some .free)/\∃c,env.cells.lookup x=some c/\h.IsCell c (some u))
noncomputable def ER(_mg:bv->Option a9)(n:Nat):Prop:=0<n
theorem ER.mono{mg:bv->Option a9}{n m:Nat}(h:ER mg n)(l:n<=m):ER mg m:=cq h l
structure Cx.Ok(X:Cx):Prop where
 mod:Mod X.K X.mg X.base
 kind:X.env.scope.kind= .function
 glob:X.env.globals=cn
 blt:X.env.builtins=builtinsNs
 above:X.s₀.heap.objs.size<=X.env.locals
 inj:∀x y c,X.env.cells.lookup x=some c->X.env.cells.lookup y=some c->x=y
 has:∀x,(X.env.kindOf x=some .cell\/X.env.kindOf x=some .free)->∃c,X.env.cells.lookup x=some c
 Ph:∀x c,X.fn x=true->X.env.cells.lookup x=some c->X.s₀.heap.objs.size<=c
 hd:X.calm=true->X.A.handled=none
 frames:X.A.frames=some X.stack
 stk:X.stack=X.outer\/(X.stack=X.env::X.outer/\X.env.frame=some X.env.locals)
 Zm:∀b∈X.ex,b≠X.env.locals/\∀x c,X.env.cells.lookup x=some c->c≠b
 bs:∀b o,X.base.get? b=some o->X.s₀.heap.get? b=some o/\X.H₀ b=none
 LZ:X.base.objs.size<=X.s₀.heap.objs.size
 IU:∀b o,X.base.get? b=some o->b∉X.ex
 LV:∀b∈X.ex,b∉X.fs
 uw:X.s₀.heap.FunFrames X.base X.outer
 O2:∀b∈X.fs,X.H₀ b=none
 tk:ER X.mg X.s₀.toks
structure Inv(X:Cx)(pins:List (a6×lv))(σ:List (Option V))(H:Hp)(s:bc):Prop where
 ok:X.Ok
 os:s.os=X.s₀.os
 bare:AllBare s.gens
 base:Un X.fs X.ex X.H₀ H X.s₀.heap s.heap
 loc:∃m,s.heap.Ns X.env.locals m/\∀(i:Nat) (x:bv) (v:V),X.N[i]? =some x->σ[i]? =some (some v)->T4 X.env.scope x->∃u,RelV v u/\Look X.env s.heap m x u
 cell:∀x c,X.env.cells.lookup x=some c->∃v,s.heap.IsCell c v
 free:H X.env.locals=none
 nQ:∀x c,X.env.cells.lookup x=some c->H c=none
 pin:∀p∈X.pn++pins,s.heap.get? p.1=some p.2/\H p.1=none/\p.1≠X.env.locals/\p.1∉X.fs/\∀v,p.2.data≠ .cell v
 hok:oA X.prog X.w H s.heap
 len:σ.length=X.N.length
 up:X.s₀.toks<=s.toks
section
variable{X:Cx}{pins:List (a6×lv)}{σ:List (Option V)}{H H':Hp}{s:bc}{h':dC}
theorem Cx.Ok.Wb(ok:X.Ok){b:a6}{o:lv}(e:X.base.get? b=some o):b∉X.fs:=λhb=>by
 have:=(ok.uw.mem hb).1
 rw[e]at this;cases this
theorem Inv.tk(I:Inv X pins σ H s):ER X.mg s.toks:=I.ok.tk.mono I.up
theorem Inv.bs(I:Inv X pins σ H s):∀b o,X.base.get? b=some o->s.heap.get? b=some o/\H b=none:=λb o e =>
 ⟨I.base.keep b o (I.ok.bs b o e).1 (I.ok.bs b o e).2 (I.ok.Wb e) (I.ok.IU b o e),I.base.free b o (I.ok.bs b o e).1 (I.ok.bs b o e).2 (I.ok.IU b o e)⟩
theorem Inv.bk(I:Inv X pins σ H s):∀b o,X.base.get? b=some o->s.heap.get? b=some o:=λb o e=>(I.bs b o e).1
theorem Inv.mod(I:Inv X pins σ H s):Mod X.K X.mg X.base:=I.ok.mod
theorem Inv.rD(I:Inv X pins σ H s):X.K.In s.heap:=I.ok.mod.OA.keeps I.bk
theorem Inv.nolimit(I:Inv X pins σ H s):s.heap.NoLimit:=I.ok.mod.nolimit.keeps I.bk
theorem Inv.lt(I:Inv X pins σ H s):X.env.locals<s.heap.objs.size:=let ⟨_,hn,_⟩:=I.loc;hn.lt
theorem Inv.sz(I:Inv X pins σ H s):X.s₀.heap.objs.size<=s.heap.objs.size:=bn I.ok.above (rg I.lt)
theorem Inv.Wa(I:Inv X pins σ H s){a:a6}(h:s.heap.objs.size<=a):a∉X.fs:=λhb=>by
 obtain⟨_,o,ho,_⟩:=I.ok.uw.mem hb
 exact absurd (cq (ca ho) (bn I.sz h)) (g_ _)
theorem Inv.Pd(I:Inv X pins σ H s):∀x c,X.env.cells.lookup x=some c->c≠X.env.locals:=λx c e z=>by
 obtain⟨v,o,ho,hd⟩:=I.cell x c e
 obtain⟨m,⟨o',es,ep,ho',hd',_⟩,_⟩:=I.loc
 rw[z,ho']at ho;cases ho;rw[hd']at hd;cases hd
theorem Inv.uw(I:Inv X pins σ H s):s.heap.FunFrames X.base X.outer:=by
 have all:∀(l:List Env),(∀b∈frs l,b∈X.fs)->X.s₀.heap.FunFrames X.base l->s.heap.FunFrames X.base l:=by
  intro l
  induction l with
  |nil=>intro _ _;trivial
  |cons env r ih =>
   intro hs hl
   obtain⟨hk,⟨L,o,hf,hn,ho,hd⟩,hr⟩:=hl
   have hL:L∈X.fs:=hs L (by unfold frs;rw[List.filterMap_cons,hf];exact cw)
   obtain⟨sl,e⟩:=I.base.slot L o ho (I.ok.O2 L hL) hL λz=>I.ok.LV L z hL
   exact⟨hk,⟨L,_,hf,hn,e,hd⟩,ih (λb hb=>hs b (by unfold frs;rw[List.filterMap_cons,hf];exact b0 _ hb)) hr⟩
 exact all X.outer (λ_ hb=>hb) I.ok.uw
theorem Inv.stack(I:Inv X pins σ H s):s.heap.FunFrames X.base X.stack:=by
 rcases I.ok.stk with e|⟨e,hf⟩
 ·rw[e];exact I.uw
 ·rw[e]
  obtain⟨m,hn,_⟩:=I.loc
  refine .cons (by rw[I.ok.kind];decide) hf hn ?_ I.uw
  exact me (bn I.ok.LZ I.ok.above)
theorem Inv.tX(I:Inv X pins σ H s):∀b∈frs X.stack,b∈X.env.locals::X.fs:=λb hb=>by
 rcases I.ok.stk with e|⟨e,hf⟩
 ·rw[e]at hb;exact b0 _ hb
 ·rw[e]at hb
  unfold frs at hb
  rw[List.filterMap_cons,hf]at hb
  exact hb
theorem Inv.zT(I:Inv X pins σ H s):∀b∈frs X.stack,H b=none:=λb hb=>by
 rcases cm.mp (I.tX b hb)with e|hb
 ·rw[e];exact I.free
 ·obtain⟨_,o,ho,_⟩:=I.ok.uw.mem hb
  exact I.base.free b o ho (I.ok.O2 b hb) λz=>I.ok.LV b z hb
theorem Inv.step{g':Array GenState}{t':Nat}{d':Drawn}{ch:List a6}(I:Inv X pins σ H s)
  (hch:∀b∈ch,(b∈X.ex\/X.s₀.heap.objs.size<=b)/\b≠X.env.locals/\(∀x c,X.env.cells.lookup x=some c->c≠b)/\∀p∈X.pn++pins,p.1≠b)
  (keep:∀b o,b≠X.env.locals->b∉X.fs->b∉ch->s.heap.get? b=some o->H b=none->h'.get? b=some o)
  (slot:∀b o,b≠X.env.locals->b∈X.fs->b∉ch->s.heap.get? b=some o->H b=none->∃sl,h'.get? b=some { o with slots:=sl }) (free:∀b o,b∉ch->s.heap.get? b=some o->H b=none->H' b=none)
  (there:∀b o,b∉ch->s.heap.get? b=some o->∃o',h'.get? b=some o')
  (tups:∀b xs,H b=some (.tup xs)->H' b=some (.tup xs)) (uy:∀b o u,H b=some (.EC o u)->H' b=some (.EC o u)) (uY:∀b ps,H b=some (.Mh ps)->∃more,H' b=some (.Mh (ps++more)))
  (ns:∀m,s.heap.Ns X.env.locals m->h'.Ns X.env.locals m) (hok:oA X.prog X.w H' h') (hg:AllBare g') (ht:X.s₀.toks<=t') :
  Inv X pins σ H' { s with heap:=h',gens:=g',drawn:=d',toks:=t' }:=by
 have Yo:∀b o,X.s₀.heap.get? b=some o->b≠X.env.locals:=λb o e=>dy (cq (ca e) I.ok.above)
 have To:∀b o,X.s₀.heap.get? b=some o->b∉X.ex->b∉ch:=λb o e hx hb=>by
  rcases(hch b hb).1 with z|z
  ·exact hx z
  ·exact absurd (cq (ca e) z) (g_ _)
 have cellK:∀x c,X.env.cells.lookup x=some c->∀v,s.heap.IsCell c v->h'.IsCell c v:=λx c e v ⟨o,ho,hd⟩=>by
  have Mw:c∉ch:=λz=>(hch c z).2.2.1 x c e rfl
  by_cases hc:c∈X.fs
  ·obtain⟨sl,q⟩:=slot c o (I.Pd x c e) hc Mw ho (I.nQ x c e)
   exact⟨_,q,hd⟩
  ·exact⟨o,keep c o (I.Pd x c e) hc Mw ho (I.nQ x c e),hd⟩
 refine⟨I.ok,I.os,hg,⟨λb o e n hb hx=>?_,λb o e n hb hx=>?_,λb o e n hx=>?_,λb o e hx=>?_,λb xs e=>tups b xs (I.base.tups b xs e),λb o xs e=>uy b o xs (I.base.uy b o xs e),λb ps e=>?_⟩,?_,λx c e=>?_,?_,λx c e=>?_,λp hp=>?_,hok,I.len,ht⟩
 ·exact keep b o (Yo b o e) hb (To b o e hx) (I.base.keep b o e n hb hx) (I.base.free b o e n hx)
 ·obtain⟨sl,e1⟩:=I.base.slot b o e n hb hx
  obtain⟨HA,e2⟩:=slot b _ (Yo b o e) hb (To b o e hx) e1 (I.base.free b o e n hx)
  exact⟨HA,e2⟩
 ·obtain⟨o',e1⟩:=I.base.there b o e hx
  exact free b o' (To b o e hx) e1 (I.base.free b o e n hx)
 ·obtain⟨o',e1⟩:=I.base.there b o e hx
  exact there b o' (To b o e hx) e1
 ·obtain⟨m1,e1⟩:=I.base.uY b ps e
  obtain⟨m2,e2⟩:=uY b _ e1
  exact⟨m1++m2,by rw[e2,Array.append_assoc]⟩
 ·obtain⟨m,hn,hl⟩:=I.loc
  refine⟨m,ns m hn,λi x v e1 e2 e3=>?_⟩
  obtain⟨u,r,l⟩:=hl i x v e1 e2 e3
  refine⟨u,r,?_⟩
  rcases l with l|⟨k,c,e,z⟩
  ·exact .inl l
  ·exact .inr ⟨k,c,e,cellK x c e _ z⟩
 ·obtain⟨v,z⟩:=I.cell x c e
  exact⟨v,cellK x c e v z⟩
 ·obtain⟨m,⟨o,_,_,ho,_⟩,_⟩:=I.loc
  exact free _ o (λz=>(hch _ z).2.1 rfl) ho I.free
 ·obtain⟨v,o,ho,hd⟩:=I.cell x c e
  exact free c o (λz=>(hch c z).2.2.1 x c e rfl) ho (I.nQ x c e)
 ·obtain⟨e,n,ne,nf,d⟩:=I.pin p hp
  have Mw:p.1∉ch:=λz=>(hch p.1 z).2.2.2 p hp rfl
  exact⟨keep p.1 p.2 ne nf Mw e n,free p.1 p.2 Mw e n,ne,nf,d⟩
theorem Inv.un{t':Nat}(I:Inv X pins σ H s)(u:Un X.fs [] H H' s.heap h')(hok:oA X.prog X.w H' h')(ht:s.toks<=t':=by first|exact ba _|exact gc _|assumption|omega):Inv X pins σ H' { s with heap:=h',toks:=t' }:=by
 obtain⟨m,⟨o,es,ep,ho,r⟩,_⟩:=id I.loc
 obtain⟨sl,hL⟩:=u.any ho I.free (by simp)
 exact I.step (g':=s.gens) (d':=s.drawn) (ch:=[]) (λ_ z=>nomatch z) (λb o _ hb _ e n=>u.keep b o e n hb (by simp)) (λb o _ hb _ e n=>u.slot b o e n hb (by simp)) (λb o _ e n=>u.free b o e n (by simp)) (λb o _ e=>u.there b o e (by simp)) u.tups u.uy u.uY (λm' hm=>by
  obtain⟨o',es',XD,ho',r'⟩:=hm
  rw[ho]at ho';cases ho'
  exact⟨_,es',XD,hL,r'⟩) hok I.bare (bn I.up ht)
theorem Inv.call{g':Array GenState}{t':Nat}{d':Drawn}{ch:List a6}(I:Inv X pins σ H s)(u:Un (frs X.stack) ch H H' s.heap h')(hok:oA X.prog X.w H' h')(hg:AllBare g')
  (hch:∀b∈ch,(b∈X.ex\/X.s₀.heap.objs.size<=b)/\b≠X.env.locals/\(∀x c,X.env.cells.lookup x=some c->c≠b)/\∀p∈X.pn++pins,p.1≠b) (ht:X.s₀.toks<=t') :
  Inv X pins σ H' { s with heap:=h',gens:=g',drawn:=d',toks:=t' }:=by
 obtain⟨m,⟨o,es,ep,ho,r⟩,_⟩:=id I.loc
 obtain⟨sl,hL⟩:=u.any ho I.free λz=>(hch _ z).2.1 rfl
 exact I.step (ch:=ch) hch (λb o hL hb hc e n=>u.keep b o e n (λz=>(cm.mp (I.tX b z)).elim hL hb) hc) (λb o _ _ hc e n=>u.any e n hc) (λb o hc e n=>u.free b o e n hc) (λb o hc e=>u.there b o e hc) u.tups u.uy u.uY (λm' hm=>by
  obtain⟨o',es',XD,ho',r'⟩:=hm
  rw[ho]at ho';cases ho'
  exact⟨_,es',XD,hL,r'⟩) hok hg ht
theorem Inv.turned{t':Nat}{it:a6}(I:Inv X pins σ H s)(k:∀b o,b≠it->s.heap.get? b=some o->h'.get? b=some o)(hn:H it=none)(hL:it≠X.env.locals)
  (h1:it∈X.ex\/X.s₀.heap.objs.size<=it) (h2:∀x c,X.env.cells.lookup x=some c->c≠it) (h3:∀p∈X.pn++pins,p.1≠it) (ht:s.toks<=t':=by first|exact ba _|exact gc _|assumption|omega):Inv X pins σ H { s with heap:=h',toks:=t' }:=by
 have Ym:∀b u,H b=some u->b≠it:=λb u e z=>by rw[z,hn]at e;cases e
 refine I.step (g':=s.gens) (d':=s.drawn) (ch:=[it]) (λb hb=>?_) (λb o _ _ hc e _=>k b o (λz=>hc (by simp[z])) e) (λb o _ _ hc e _=>⟨o.slots,k b o (λz=>hc (by simp[z])) e⟩) (λ_ _ _ _ n=>n)
  (λb o hc e=>⟨o,k b o (λz=>hc (by simp[z])) e⟩) (λ_ _ e=>e) (λ_ _ _ e=>e) (λb ps e=>⟨#[],by rw[e];simp⟩) (λm hm=>?_) (λb u e=>?_) I.bare (bn I.up ht)
 ·have e:b=it:=by simpa using hb
  subst e
  exact⟨h1,hL,h2,h3⟩
 ·obtain⟨o,es,ep,ho,r⟩:=hm
  exact⟨o,es,ep,k _ o (Ne.symm hL) ho,r⟩
 ·refine(I.hok b u e).stay (λc v hc q=>k c v ?_ q) (λ_ q=>q) λ_ _ q=>q
  rcases hc with z|z
  ·rw[z];exact Ym b u e
  ·exact Ym c _ z
theorem Inv.tok(I:Inv X pins σ H s)(t':Nat)(ht:s.toks<=t':=by first|exact ba _|exact gc _|assumption|omega):Inv X pins σ H { s with toks:=t' }:=I.un (h':=s.heap) (t':=t') Un.refl I.hok ht
theorem Inv.kept{t':Nat}(I:Inv X pins σ H s)(k:∀b u,s.heap.get? b=some u->h'.get? b=some u)(ht:s.toks<=t':=by first|exact ba _|exact gc _|assumption|omega):Inv X pins σ H { s with heap:=h',toks:=t' }:=I.un (Un.kept k) (I.hok.kept k) ht
theorem Inv.laid{a:a6}{o:HO}{t':Nat}(I:Inv X pins σ H s)(k:∀b u,s.heap.get? b=some u->h'.get? b=some u)(hp:s.heap.objs.size<=a)(new:bY X.prog X.w (upd H a o) h' a o)(ht:s.toks<=t':=by first|exact ba _|exact gc _|assumption|omega):
  Inv X pins σ (upd H a o) { s with heap:=h',toks:=t' }:=I.un (Un.laid k hp (I.hok.fresh hp)) (I.hok.laid k hp new) ht
theorem Inv.write{x e:a6}{o:HO}{t':Nat}(I:Inv X pins σ H s)(mu:SM (H x))(he:e=x\/H e=some (.own x))(k:∀b u,b≠e->s.heap.get? b=some u->h'.get? b=some u)(P8:∃u,h'.get? e=some u)
  (new:bY X.prog X.w (upd H x o) h' x o) (ht:s.toks<=t':=by first|exact ba _|exact gc _|assumption|omega):Inv X pins σ (upd H x o) { s with heap:=h',toks:=t' }:=I.un (Un.write mu he k P8) (I.hok.write mu he k P8 new) ht
theorem Inv.weak{σ':List (Option V)}(I:Inv X pins σ H s)(hl:σ'.length=σ.length)(w:∀(i:Nat) v,σ'[i]? =some (some v)->σ[i]? =some (some v)):Inv X pins σ' H s :=
 ⟨I.ok,I.os,I.bare,I.base,let ⟨m,hn,hl'⟩:=I.loc;⟨m,hn,λi x v e1 e2 e3=>hl' i x v e1 (w i v e2) e3⟩,I.cell,I.free,I.nQ,I.pin,I.hok,hl.trans I.len,I.up⟩
theorem Inv.z7{Mr:List (a6×lv)}(I:Inv X pins σ H s)(h:∀p∈Mr,s.heap.get? p.1=some p.2/\H p.1=none/\p.1≠X.env.locals/\p.1∉X.fs/\∀v,p.2.data≠ .cell v):Inv X Mr σ H s :=
 ⟨I.ok,I.os,I.bare,I.base,I.loc,I.cell,I.free,I.nQ,λp hp=>(eM.mp hp).elim (λz=>I.pin p (tz _ z)) (h p),I.hok,I.len,I.up⟩
theorem Cj{N:List bv}(hN:N.Nodup){i j:Nat}{x:bv}(a:N[i]? =some x)(b:N[j]? =some x):i=j:=by
 obtain⟨h1,e1⟩:=bj.mp a
 obtain⟨h2,e2⟩:=bj.mp b
 exact(List.getElem_inj hN).mp (e1.trans e2.symm)
theorem tW{M:Model}{A:dL}{E:a9->bc->Prop}{i:Nat}{x:bv}{v:V}{u:a9}{Q:Unit->bc->Prop}(I:Inv X pins σ H s)(hN:X.N.Nodup)(hi:X.N[i]? =some x)(hx:Loc X.env.scope x)(r:RelV v u)
  (h:∀s',Inv X pins (σ.set i (some v)) H s'->(∃a,l_ a s.heap s'.heap/\(a=X.env.locals\/X.env.cells.lookup x=some a))->Q () s') (hf:X.fn x=true\/X.env.scope.names.lookup x=some .local:=by first|exact .inl rfl|exact .inr rfl|assumption):cf M A (storeName X.env x u) Q E s:=by
 obtain⟨m,hn,hl⟩:=id I.loc
 have hcls:(X.env.scope.kind== .class||(X.env.scope.kind== .module&&X.env.locals != X.env.globals))=false:=by rw[I.ok.kind];rfl
 have R7:i<σ.length:=by rw[I.len];exact(bj.mp hi).1
 have Pd:=I.Pd
 have tracked:∀{a:a6} {h':dC},(∃o,s.heap.get? a=some o/\H a=none)->l_ a s.heap h'->oA X.prog X.w H h':=λ{a h'} ha hs b ob e=>by
  obtain⟨_,_,hfree⟩:=ha
  refine(I.hok b ob e).stay (λc w' hc q=>(hs.2 c ?_).trans q) (λ_ q=>q) λ_ _ q=>q
  rintro rfl
  rcases hc with rfl|hc
  ·rw[hfree]at e;cases e
  ·rw[hfree]at hc;cases hc
 rcases hx with hk|hk
 ·refine wpAny_storeName_local hk hn (λh' hn' hs=>?_) hcls
  obtain⟨oL,_,_,hoL,_⟩:=id hn
  refine h _ ⟨I.ok,I.os,I.bare,⟨λb o e n hb hx=>?_,λb o e n hb hx=>?_,I.base.free,λb o e hx=>?_,I.base.tups,I.base.uy,I.base.uY⟩,⟨_,hn',λj y v' e1 e2 e3=>?_⟩,λy c e=>?_,I.free,I.nQ,λp hp=>?_,tracked ⟨oL,hoL,I.free⟩ hs,by simpa using I.len,bn I.up (by first|exact ba _|exact gc _|exact i_ _ _)⟩ ⟨_,hs,.inl rfl⟩
  ·exact(hs.2 b (dy (cq (ca e) I.ok.above))).trans (I.base.keep b o e n hb hx)
  ·obtain⟨sl,e1⟩:=I.base.slot b o e n hb hx
   exact⟨sl,(hs.2 b (dy (cq (ca e) I.ok.above))).trans e1⟩
  ·obtain⟨o',e1⟩:=I.base.there b o e hx
   exact⟨o',(hs.2 b (dy (cq (ca e) I.ok.above))).trans e1⟩
  ·by_cases hj:j=i
   ·subst hj
    rw[hi]at e1;cases e1
    rw[List.getElem?_set_self R7]at e2
    cases e2
    exact⟨u,r,.inl ⟨hk,by simp⟩⟩
   ·rw[List.getElem?_set_ne (Ne.symm hj)]at e2
    obtain⟨u',r',q⟩:=hl j y v' e1 e2 e3
    refine⟨u',r',?_⟩
    rcases q with⟨k,e⟩|⟨k,c,e,z⟩
    ·refine .inl ⟨k,?_⟩
     have:y≠x:=λe=>hj (Cj hN e1 (e▸hi))
     simp[this,e]
    ·exact .inr ⟨k,c,e,z.sameBut hs (Pd y c e)⟩
  ·obtain⟨w',z⟩:=I.cell y c e
   exact⟨w',z.sameBut hs (Pd y c e)⟩
  ·obtain⟨e,n,ne,nf,d⟩:=I.pin p hp
   exact⟨(hs.2 p.1 ne).trans e,n,ne,nf,d⟩
 ·have hfn:X.fn x=true:=by
   rcases hf with z|z
   ·exact z
   ·rw[z]at hk;cases hk
  obtain⟨c,hc⟩:=I.ok.has x (.inl hk)
  obtain⟨w',z⟩:=I.cell x c hc
  refine wpAny_storeName_cell I.ok.kind hk hc z (λh' hc' hs=>?_)
  obtain⟨oc,hoc,WV⟩:=id z
  refine h { s with heap:=h' } ⟨I.ok,I.os,I.bare,⟨λb o e n hb hx=>?_,λb o e n hb hx=>?_,I.base.free,λb o e hx=>?_,I.base.tups,I.base.uy,I.base.uY⟩,⟨m,hn.sameBut hs (Ne.symm (Pd x c hc)),λj y v' e1 e2 e3=>?_⟩,λy c' e=>?_,I.free,I.nQ,λp hp=>?_,tracked ⟨oc,hoc,I.nQ x c hc⟩ hs,by simpa using I.len,I.up⟩ ⟨c,hs,.inr hc⟩
  ·exact(hs.2 b (dy (cq (ca e) (I.ok.Ph x c hfn hc)))).trans (I.base.keep b o e n hb hx)
  ·obtain⟨sl,e1⟩:=I.base.slot b o e n hb hx
   exact⟨sl,(hs.2 b (dy (cq (ca e) (I.ok.Ph x c hfn hc)))).trans e1⟩
  ·obtain⟨o',e1⟩:=I.base.there b o e hx
   exact⟨o',(hs.2 b (dy (cq (ca e) (I.ok.Ph x c hfn hc)))).trans e1⟩
  ·by_cases hj:j=i
   ·subst hj
    rw[hi]at e1;cases e1
    rw[List.getElem?_set_self R7]at e2
    cases e2
    exact⟨u,r,.inr ⟨.inl hk,c,hc,hc'⟩⟩
   ·rw[List.getElem?_set_ne (Ne.symm hj)]at e2
    obtain⟨u',r',q⟩:=hl j y v' e1 e2 e3
    refine⟨u',r',?_⟩
    rcases q with q|⟨k,c',e,z'⟩
    ·exact .inl q
    ·refine .inr ⟨k,c',e,z'.sameBut hs ?_⟩
     rintro rfl
     exact hj (Cj hN e1 (I.ok.inj _ _ _ e hc▸hi))
  ·by_cases hcc:c'=c
   ·subst hcc;exact⟨_,hc'⟩
   ·obtain⟨w2,z2⟩:=I.cell y c' e
    exact⟨w2,z2.sameBut hs hcc⟩
  ·obtain⟨e,n,ne,nf,d⟩:=I.pin p hp
   refine⟨(hs.2 p.1 ?_).trans e,n,ne,nf,d⟩
   intro q
   rw[q,hoc]at e
   have q':oc=p.2:=dn e
   exact d w' (by rw[←q'];exact WV)
theorem sy{M:Model}{A:dL}{E:a9->bc->Prop}{i:Nat}{x:bv}{v:V}{u:a9}{Q:Unit->bc->Prop}(I:Inv X pins σ H s)(hN:X.N.Nodup)(hi:X.N[i]? =some x)(hx:Loc X.env.scope x)(r:RelV v u)
  (h:∀s',Inv X pins (σ.set i (some v)) H s'->Q () s') (hf:X.fn x=true\/X.env.scope.names.lookup x=some .local:=by first|exact .inl rfl|exact .inr rfl|assumption):cf M A (storeName X.env x u) Q E s :=
 tW I hN hi hx r (λs' I' _=>h s' I') hf
theorem Inv.MO{s':bc}{ch:List a6}(I:Inv X pins σ H s)(ho:s'.os=s.os)(u:Un (frs X.stack) ch H H' s.heap s'.heap)(hok:oA X.prog X.w H' s'.heap)(hg:AllBare s'.gens)
  (hch:∀b∈ch,(b∈X.ex\/X.s₀.heap.objs.size<=b)/\b≠X.env.locals/\(∀x c,X.env.cells.lookup x=some c->c≠b)/\∀p∈X.pn++pins,p.1≠b) (ht:X.s₀.toks<=s'.toks):Inv X pins σ H' s':=by
 obtain⟨h',g',d',t',o'⟩:=s'
 have e:o'=s.os:=ho
 subst e
 exact I.call (g':=g') (t':=t') (d':=d') u hok hg hch ht
end
noncomputable abbrev XK:=a9->Option a6->Hp->Prop
noncomputable abbrev St:=List (Option V)
noncomputable abbrev VK:=V->Hp->Prop
noncomputable abbrev TE:=St->Hp->VK->Prop
noncomputable abbrev TT:=St->Hp->(Bool->Hp->Prop)->Prop
noncomputable abbrev TA:=St->Hp->(List V->Hp->Prop)->Prop
structure Ends where
 nx:St->Hp->Prop
 rt:VK
 bk:St->Hp->Prop:=λ_ _=>False
 ct:St->Hp->Prop:=λ_ _=>False
noncomputable abbrev TS:=Ends->St->Hp->Prop
noncomputable def EP(X:Cx)(pins:List (a6×lv))(σ:St)(Q:VK)(u:a9)(s':bc):Prop:=∃v H',Inv X pins σ H' s'/\RelV v u/\Q v H'
noncomputable def TP(X:Cx)(pins:List (a6×lv))(σ:St)(Q:Bool->Hp->Prop)(b:Bool)(s':bc):Prop:=∃H',Inv X pins σ H' s'/\Q b H'
noncomputable def AP(X:Cx)(pins:List (a6×lv))(σ:St)(Q:List V->Hp->Prop)(us:List a9)(s':bc):Prop:=∃vs H',Inv X pins σ H' s'/\Vals vs us/\Q vs H'
noncomputable def SP(X:Cx)(pins:List (a6×lv))(D:Ends)(f:Flow)(s':bc):Prop :=
 match f with
 | .next=>∃ σ' H',Inv X pins σ' H' s'/\D.nx σ' H'
 | .brk=>∃ σ' H',Inv X pins σ' H' s'/\D.bk σ' H'
 | .cont=>∃ σ' H',Inv X pins σ' H' s'/\D.ct σ' H'
 | .ret u=>∃v σ' H',Inv X pins σ' H' s'/\RelV v u/\D.rt v H'
noncomputable def PE(X:Cx)(e:Expr)(t:TE):Prop :=
 ∀(pins:List (a6×lv)) (s:bc) (σ:St) (H:Hp) (Q:VK),Inv X pins σ H s->t σ H Q->cf (model X.prog X.w) X.A (eval e X.env) (EP X pins σ Q) X.xe s
noncomputable def PT(X:Cx)(e:Expr)(t:TT):Prop :=
 ∀(pins:List (a6×lv)) (s:bc) (σ:St) (H:Hp) (Q:Bool->Hp->Prop),Inv X pins σ H s->t σ H Q->cf (model X.prog X.w) X.A (isTrue e X.env (eval e X.env)) (TP X pins σ Q) X.xe s
noncomputable def PW(X:Cx)(e:Expr)(t:TT):Prop :=
 ∀(whole:Sem a9) (pins:List (a6×lv)) (s:bc) (σ:St) (H:Hp) (Q:Bool->Hp->Prop),Inv X pins σ H s->t σ H Q->cf (model X.prog X.w) X.A (isTrue e X.env whole) (TP X pins σ Q) X.xe s
theorem PW.pt{X:Cx}{e:Expr}{t:TT}(h:PW X e t):PT X e t:=h _
noncomputable def PA(X:Cx)(es:List Expr)(t:TA):Prop :=
 ∀(pos:re) (pins:List (a6×lv)) (s:bc) (σ:St) (H:Hp) (Q:List V->Hp->Prop),Inv X pins σ H s->t σ H Q->cf (model X.prog X.w) X.A (spliced (backTo pos (eh es X.env))) (AP X pins σ Q) X.xe s
noncomputable def PS(X:Cx)(st:gl)(t:TS):Prop :=
 ∀(pins:List (a6×lv)) (s:bc) (σ:St) (H:Hp) (D:Ends),Inv X pins σ H s->t D σ H->cf (model X.prog X.w) X.A (exec st X.env) (SP X pins D) X.xe s
noncomputable def Bt(X:Cx)(st:List gl)(t:TS):Prop :=
 ∀(pins:List (a6×lv)) (s:bc) (σ:St) (H:Hp) (D:Ends),Inv X pins σ H s->t D σ H->cf (model X.prog X.w) X.A (execs st X.env) (SP X pins D) X.xe s
theorem gg{α:Type}{t:Sem α}{Q Q':α->bc->Prop}{M:Model}{A:dL}{E:a9->bc->Prop}{s:bc}(h:cf M A t Q E s)(hQ:∀a s,Q a s->Q' a s):cf M A t Q' E s:=gd h hQ λ_ _ x=>x
end
section
section
variable{X:Cx}
noncomputable def Qo(i:Nat):TE:=λσ H Q=>∃v,σ[i]? =some (some v)/\Q v H
noncomputable def tC(v:V):TE:=λ_ H Q=>Q v H
theorem N9 {i:Nat}{x:bv}{pos:re}(hN:X.N[i]? =some x)(hv:T4 X.env.scope x)(hd:(x==("__debug__" :bv))=false:=by decide)(hcd:(x==("__classdict__" :bv))=false:=by decide):PE X (.Name x pos) (Qo i):=by
 intro pins s σ H Q I h
 obtain⟨v,e,h⟩:=h
 obtain⟨m,hn,hl⟩:=I.loc
 obtain⟨u,r,l⟩:=hl i x v hN e hv
 have fin:EP X pins σ Q u s:=⟨v,H,I,r,h⟩
 rcases l with⟨hk,hm⟩|⟨hk,c,hc,hcell⟩
 ·exact wpAny_Name (wpAny_loadName_local I.ok.kind hk hn hm fin) hd
 ·rcases hk with hk|hk
  ·exact wpAny_Name (wpAny_loadName_cell I.ok.kind hk hc hcell fin) hd
  ·exact wpAny_Name (wpAny_loadName_free I.ok.kind hk hc hcell fin hcd) hd
theorem ak{i j pos}:PE X (.Constant (.int i) j pos) (tC (.int i)):=λ_ _ _ H _ I h=>wpAny_Constant_int ⟨.int i,H,I.tok _,⟨_,rfl⟩,h⟩
theorem IJ{b j pos}:PE X (.Constant (.bool b) j pos) (tC (.bl b)):=λ_ _ _ H _ I h=>Constant_bool ⟨.bl b,H,I,rfl,h⟩
theorem D6{j pos}:PE X (.Constant .none j pos) (tC .jy):=λ_ _ _ H _ I h=>Constant_none ⟨.jy,H,I,rfl,h⟩
theorem bA{x j pos}:PE X (.Constant (.str x) j pos) (tC (.str x)):=λ_ _ _ H _ I h=>vw ⟨.str x,H,I.tok _,⟨_,rfl⟩,h⟩
noncomputable def Gl(X:Cx)(x:bv):Prop:=X.env.kindOf x=some .globalImplicit
theorem qP{E:a9->bc->Prop}{pins:List (a6×lv)}{s:bc}{σ:St}{H:Hp}{x:bv}{u:a9}{pos:re}{Q:a9->bc->Prop}(I:Inv X pins σ H s)(hg:Gl X x)(hm:X.mg x=some u)(h:Q u s)
  (hd:(x==("__debug__" :bv))=false:=by decide):cf (model X.prog X.w) X.A (eval (.Name x pos) X.env) Q E s :=
 Calls.Name_function_global I.ok.kind hg (Calls.loadGlobal_global (by rw[I.ok.glob];exact I.mod.glob.keeps I.bk) hm h) hd
theorem qk{E:a9->bc->Prop}{pins:List (a6×lv)}{s:bc}{σ:St}{H:Hp}{x:bv}{u:a9}{pos:re}{Q:a9->bc->Prop}(I:Inv X pins σ H s)(hg:Gl X x)(hm:X.mg x=none)(hv:bootBuiltins x=some u)(h:Q u s)
  (hn:x≠ "__name__" :=by decide) (hd:(x==("__debug__" :bv))=false:=by decide):cf (model X.prog X.w) X.A (eval (.Name x pos) X.env) Q E s:=by
 obtain⟨mb,h1,h2⟩:=I.mod.blt
 exact Calls.Name_function_global I.ok.kind hg (Calls.loadGlobal_builtin (by rw[I.ok.glob];exact I.mod.glob.keeps I.bk) hm (by rw[I.ok.blt];exact h1.keeps I.bk) ((h2 x hn).trans hv) h) hd
theorem sH {x:bv}{v:V}{u:a9}{pos:re}(hg:Gl X x)(hm:X.mg x=some u)(r:RelV v u)(hd:(x==("__debug__" :bv))=false:=by decide):PE X (.Name x pos) (tC v) :=
 λ_ _ _ H _ I h=>qP I hg hm ⟨v,H,I,r,h⟩ hd
theorem gi {x:bv}{v:V}{u:a9}{pos:re}(hg:Gl X x)(hm:X.mg x=none)(hv:bootBuiltins x=some u)(r:RelV v u)(hn:x≠ "__name__" :=by decide)(hd:(x==("__debug__" :bv))=false:=by decide):PE X (.Name x pos) (tC v) :=
 λ_ _ _ H _ I h=>qk I hg hm hv ⟨v,H,I,r,h⟩ hn hd
variable{a b:Expr}{ta tb:TE}{pos:re}
noncomputable def tB(t:TE):TT:=λσ H Q=>t σ H λx H1=>∃c,x= .bl c/\Q c H1
theorem jx{e:Expr}{t:TE}(h:PE X e t)(he:∀whole,isTrue e X.env whole=(do let v ←whole;standAt e.pos;holding [v] (truthy v)):=by intro _;rfl):PT X e (tB t):=by
 intro pins s σ H Q I hw
 refine isTrue_plain (gg (h pins s σ H _ I hw) λv s1 ⟨x,H1,I1,r1,q1⟩=>?_) (he _)
 obtain⟨d,rfl,q⟩:=q1
 cases r1
 exact js ⟨H1,I1,q⟩
variable{tA Tf:TT}{rest:List Expr}
noncomputable def VM(t u:TT):TT:=λσ H Q=>t σ H λc H1=>if c=true then u σ H1 Q else Q false H1
noncomputable def ZD(t u:TT):TT:=λσ H Q=>t σ H λc H1=>if c=true then Q true H1 else u σ H1 Q
noncomputable def VE(t:TT):TT:=λσ H Q=>t σ H λc H1=>Q (!c) H1
theorem qK(ha:PT X a tA):PW X (.BoolOp .And [a] pos) tA:=by
 intro wh pins s σ H Q I h
 refine isTrue_and (gg (ha pins s σ H Q I h) λc s1 e=>?_)
 cases c with
 |true=>exact isTrue_and_nil e
 |false=>exact e
theorem DZ(ha:PT X a tA):PW X (.BoolOp .Or [a] pos) tA:=by
 intro wh pins s σ H Q I h
 refine isTrue_or (gg (ha pins s σ H Q I h) λc s1 e=>?_)
 cases c with
 |false=>exact isTrue_or_nil e
 |true=>exact e
theorem rQ(ha:PT X a tA)(hb:PW X (.BoolOp .And (b::rest) pos) Tf):PW X (.BoolOp .And (a::b::rest) pos) (VM tA Tf):=by
 intro wh pins s σ H Q I h
 refine isTrue_and (gg (ha pins s σ H _ I h) λc s1 ⟨H1,I1,q1⟩=>?_)
 cases c with
 |true=>exact hb wh pins s1 σ H1 Q I1 q1
 |false=>exact⟨H1,I1,q1⟩
theorem IA(ha:PT X a tA)(hb:PW X (.BoolOp .Or (b::rest) pos) Tf):PW X (.BoolOp .Or (a::b::rest) pos) (ZD tA Tf):=by
 intro wh pins s σ H Q I h
 refine isTrue_or (gg (ha pins s σ H _ I h) λc s1 ⟨H1,I1,q1⟩=>?_)
 cases c with
 |true=>exact⟨H1,I1,q1⟩
 |false=>exact hb wh pins s1 σ H1 Q I1 q1
theorem D0(ha:PT X a tA):PT X (.UnaryOp .Not a pos) (VE tA):=by
 intro pins s σ H Q I h
 exact isTrue_not (ha pins s σ H (λc H1=>Q (!c) H1) I h)
noncomputable def QD(ta tb:TE):TE:=λσ H Q=>ta σ H λx H1=>∃c,x= .bl c/\if c=true then tb σ H1 Q else Q (.bl false) H1
noncomputable def VD(ta tb:TE):TE:=λσ H Q=>ta σ H λx H1=>∃c,x= .bl c/\if c=true then Q (.bl true) H1 else tb σ H1 Q
noncomputable def Qs(ta:TE):TE:=λσ H Q=>ta σ H λx H1=>∃c,x= .bl c/\Q (.bl (!c)) H1
theorem kC{op}{t:TE}(h:PE X a t):PE X (.BoolOp op [a] pos) t:=λpins s σ H Q I hw=>BoolOp_one (h pins s σ H Q I hw)
theorem kF(ha:PE X a ta)(hb:PE X (.BoolOp .And (b::rest) pos) tb):PE X (.BoolOp .And (a::b::rest) pos) (QD ta tb):=by
 intro pins s σ H Q I h
 refine BoolOp_and (gg (ha pins s σ H _ I h) λv s1 ⟨x,H1,I1,r1,q1⟩=>?_)
 obtain⟨c,rfl,q1⟩:=q1
 cases r1
 refine js ?_
 cases c with
 |true=>exact hb pins s1 σ H1 Q I1 q1
 |false=>exact⟨.bl false,H1,I1,rfl,q1⟩
theorem Ms(ha:PE X a ta)(hb:PE X (.BoolOp .Or (b::rest) pos) tb):PE X (.BoolOp .Or (a::b::rest) pos) (VD ta tb):=by
 intro pins s σ H Q I h
 refine BoolOp_or (gg (ha pins s σ H _ I h) λv s1 ⟨x,H1,I1,r1,q1⟩=>?_)
 obtain⟨c,rfl,q1⟩:=q1
 cases r1
 refine js ?_
 cases c with
 |false=>exact hb pins s1 σ H1 Q I1 q1
 |true=>exact⟨.bl true,H1,I1,rfl,q1⟩
theorem IF(ha:PE X a ta):PE X (.UnaryOp .Not a pos) (Qs ta):=by
 intro pins s σ H Q I h
 refine UnaryOp_ (gg (ha pins s σ H _ I h) λv s1 ⟨x,H1,I1,r1,q1⟩=>?_)
 obtain⟨c,rfl,q1⟩:=q1
 cases r1
 exact not_of (js ⟨.bl (!c),H1,I1,rfl,q1⟩)
noncomputable def ZE(t:TT)(ta tb:TE):TE:=λσ H Q=>t σ H λc H1=>if c=true then ta σ H1 Q else tb σ H1 Q
theorem oK{c:Expr}(hc:PT X c tA)(ha:PE X a ta)(hb:PE X b tb):PE X (.IfExp c a b pos) (ZE tA ta tb):=by
 intro pins s σ H Q I h
 refine wpAny_IfExp (gg (hc pins s σ H _ I h) λd s1 ⟨H1,I1,q1⟩=>?_)
 cases d with
 |true=>exact ha pins s1 σ H1 Q I1 q1
 |false=>exact hb pins s1 σ H1 Q I1 q1
end
end
section
noncomputable def cA(K:PySem.W.Frag)(H:Hp)(a:a6)(xs:List V):Prop :=
 Rd H a (.lst xs) ∨
  ∃(o:lv) (its:Array a9) (n:Nat),K.lookup a=some o/\o.cls= .type "list" /\o.dict=none/\o.data= .seq its n/\its.size<=b_/\Vals xs its.toList
noncomputable def dD(K:PySem.W.Frag)(H:Hp)(a:a6)(xs:List V):Prop :=
 Rd H a (.tup xs) ∨
  ∃(o:lv) (its:Array a9) (n:Nat),K.lookup a=some o/\o.cls= .type "tuple" /\o.data= .seq its n/\its.size<=b_/\Vals xs its.toList
noncomputable def XO:a9->Option V
 | .none=>some .jy
 | .bool b=>some (.bl b)
 | .int i _=>some (.int i)
 | .str x _=>some (.str x)
 | .bytes b _=>some (.F5 b)
 | .float b _=>some (.O3 b)
 | .ref a=>some (.ref a)
 | .type n=>some (.ty n)
 |_=>none
theorem RelV.abs{x:V}{u:a9}(r:RelV x u):XO u=some x:=by
 cases x with
 |jy=>cases r;rfl
 |bl _=>cases r;rfl
 |int _=>obtain⟨t,rfl⟩:=r;rfl
 |str _=>obtain⟨t,rfl⟩:=r;rfl
 |F5 _=>obtain⟨t,rfl⟩:=r;rfl
 |O3 _=>obtain⟨t,rfl⟩:=r;rfl
 |ref _=>cases r;rfl
 |ty _=>cases r;rfl
theorem RelV.inj{x y:V}{u:a9}(r:RelV x u)(q:RelV y u):x=y:=dn (r.abs.symm.trans q.abs)
theorem Vals.inj:∀{xs ys:List V} {us:List a9},Vals xs us->Vals ys us->xs=ys
 |_,_,_,.nil,.nil=>rfl
 |_,_,_,.cons r t,.cons r' t'=>by rw[r.inj r',Vals.inj t t']
section
variable{X:Cx}{pins:List (a6×lv)}{σ:St}{H:Hp}{s:bc}{a:a6}{xs ys:List V}
theorem cA.of{K:PySem.W.Frag}(h:H a=some (.lst xs)):cA K H a xs:=.inl (.inl h)
theorem dD.of{K:PySem.W.Frag}(h:H a=some (.tup xs)):dD K H a xs:=.inl (.inl h)
theorem Inv.list(I:Inv X pins σ H s)(h:cA X.K H a xs):∃its:List a9,Vals xs its/\PlainL s.heap a its.toArray/\xs.length<=b_:=by
 rcases h with h|⟨o,its,n,hk,hc,hd,hs,hz,r⟩
 ·obtain⟨z,its,n,r,e⟩:=h.ok I.hok
  exact⟨its,r,⟨_,n,e,rfl,rfl,rfl⟩,z⟩
 ·refine⟨its.toList,r,⟨o,n,I.rD a o hk,hc,hd,by simpa using hs⟩,?_⟩
  have e:=r.length
  simp only[ij]at e
  omega
theorem Inv.tuple(I:Inv X pins σ H s)(h:dD X.K H a xs):∃its:List a9,Vals xs its/\IsTup s.heap a its.toArray/\xs.length<=b_:=by
 rcases h with h|⟨o,its,n,hk,hc,hs,hz,r⟩
 ·obtain⟨z,its,r,p⟩:=h.ok I.hok
  exact⟨its,r,p,z⟩
 ·refine⟨its.toList,r,⟨o,I.rD a o hk,hc,n,by simpa using hs⟩,?_⟩
  have e:=r.length
  simp only[ij]at e
  omega
theorem Inv.xw(I:Inv X pins σ H s)(h:cA X.K H a xs)(h':cA X.K H a ys):xs=ys:=by
 obtain⟨its,r,⟨o,n,e,_,_,d⟩,_⟩:=I.list h
 obtain⟨its',r',⟨o',n',e',_,_,d'⟩,_⟩:=I.list h'
 rw[e]at e';cases e'
 rw[d]at d'
 injection d' with d1 _
 have:its=its':=by simpa using congrArg Array.toList d1
 subst this
 exact r.inj r'
theorem Inv.yS(I:Inv X pins σ H s)(h:dD X.K H a xs)(h':dD X.K H a ys):xs=ys:=by
 obtain⟨its,r,⟨o,e,_,n,d⟩,_⟩:=I.tuple h
 obtain⟨its',r',⟨o',e',_,n',d'⟩,_⟩:=I.tuple h'
 rw[e]at e';cases e'
 rw[d]at d'
 injection d' with d1 _
 have:its=its':=by simpa using congrArg Array.toList d1
 subst this
 exact r.inj r'
end
noncomputable abbrev Cx.ya(X:Cx)(E:a9->bc->Prop):Cx:={ X with xe:=E }
noncomputable abbrev Cx.PM(X:Cx):Cx:=X.ya λ_ _=>False
theorem Cx.Ok.ya{X:Cx}(ok:X.Ok)(E:a9->bc->Prop):(X.ya E).Ok :=
 ⟨ok.mod,ok.kind,ok.glob,ok.blt,ok.above,ok.inj,ok.has,ok.Ph,ok.hd,ok.frames,ok.stk,ok.Zm,ok.bs,ok.LZ,ok.IU,ok.LV,ok.uw,ok.O2,ok.tk⟩
theorem Cx.Ok.pS{X:Cx}{E:a9->bc->Prop}(ok:(X.ya E).Ok):X.Ok :=
 ⟨ok.mod,ok.kind,ok.glob,ok.blt,ok.above,ok.inj,ok.has,ok.Ph,ok.hd,ok.frames,ok.stk,ok.Zm,ok.bs,ok.LZ,ok.IU,ok.LV,ok.uw,ok.O2,ok.tk⟩
section
variable{X:Cx}{pins:List (a6×lv)}{σ:St}{H:Hp}{s:bc}{E:a9->bc->Prop}
theorem Inv.ya(I:Inv X pins σ H s)(E:a9->bc->Prop):Inv (X.ya E) pins σ H s:=⟨I.ok.ya E,I.os,I.bare,I.base,I.loc,I.cell,I.free,I.nQ,I.pin,I.hok,I.len,I.up⟩
theorem Inv.pS(I:Inv (X.ya E) pins σ H s):Inv X pins σ H s:=⟨I.ok.pS,I.os,I.bare,I.base,I.loc,I.cell,I.free,I.nQ,I.pin,I.hok,I.len,I.up⟩
theorem SP.pS{D:Ends}{f:Flow}{s':bc}(h:SP (X.ya E) pins D f s'):SP X pins D f s':=by
 cases f with
 |next=>obtain⟨σ',H',I,q⟩:=h;exact⟨σ',H',I.pS,q⟩
 |brk=>obtain⟨σ',H',I,q⟩:=h;exact⟨σ',H',I.pS,q⟩
 |cont=>obtain⟨σ',H',I,q⟩:=h;exact⟨σ',H',I.pS,q⟩
 |ret u=>obtain⟨v,σ',H',I,r,q⟩:=h;exact⟨v,σ',H',I.pS,r,q⟩
theorem Bt.PM{st:List gl}{t:TS}(h:Bt X.PM st t):Bt X st t:=λpins s σ H D I hw =>
 gd (h pins s σ H D (I.ya _) hw) (λ_ _ q=>q.pS) λ_ _ z=>km z
end
section
variable{X:Cx}{st:gl}{rest:List gl}{t u:TS}{e:Expr}{te:TE}{pos:re}
noncomputable def Qt:TS:=λD σ H=>D.nx σ H
noncomputable def VA(t u:TS):TS:=λD σ H=>t { D with nx:=u D } σ H
theorem aT:Bt X [] Qt:=λ_ _ σ H _ I h=>wpAny_execs_nil ⟨σ,H,I,h⟩
theorem aj(h1:PS X st t)(h2:Bt X rest u):Bt X (st::rest) (VA t u):=by
 intro pins s σ H D I h
 refine wpAny_execs_cons (gg (h1 pins s σ H { D with nx:=u D } I h) λf s1 q=>?_)
 cases f with
 |next =>
  obtain⟨σ',H',I',q⟩:=q
  exact h2 pins s1 σ' H' D I' q
 |ret v=>exact q
 |brk=>exact q
 |cont=>exact q
theorem ao(h1:PS X st t):Bt X [st] t:=by
 intro pins s σ H D I h
 refine wpAny_execs_cons (gg (h1 pins s σ H D I h) λf s1 q=>?_)
 cases f with
 |next=>exact wpAny_execs_nil q
 |ret v=>exact q
 |brk=>exact q
 |cont=>exact q
theorem Inv.quiet{pins:List (a6×lv)}{σ:St}{H:Hp}{s:bc}(I:Inv X pins σ H s):interactive X.env=false:=by simp[interactive,I.ok.kind]
noncomputable def Qy(te:TE):TS:=λD σ H=>te σ H λ_ H1=>D.nx σ H1
theorem e7(he:PE X e te)(hs:swapsWith e none pos.line X.env=pure false:=by rfl):PS X (.Expr e pos) (Qy te):=by
 intro pins s σ H D I h
 exact wpAny_Expr_any (gg (he pins s σ H _ I h) λv s1 ⟨x,H1,I1,r1,q1⟩=>⟨σ,H1,I1,q1⟩) I.quiet hs
noncomputable def VB(te:TE):TS:=λD σ H=>te σ H D.rt
theorem aM(he:PE X e te):PS X (.Return (some e) pos) (VB te):=by
 intro pins s σ H D I h
 exact wpAny_Return_some (gg (he pins s σ H _ I h) λv s1 ⟨x,H1,I1,r1,q1⟩=>⟨x,σ,H1,I1,r1,q1⟩)
noncomputable def VI(c:TT)(t u:TS):TS:=λD σ H=>c σ H λb H1=>if b=true then t D σ H1 else u D σ H1
theorem bM{c:Expr}{a b:List gl}{tc:TT}(hc:PT X c tc)(ha:Bt X a t)(hb:Bt X b u):PS X (.If c a b pos) (VI tc t u):=by
 intro pins s σ H D I h
 refine wpAny_If (gg (hc pins s σ H _ I h) λd s1 ⟨H1,I1,q1⟩=>?_)
 cases d with
 |true=>exact ha pins s1 σ H1 D I1 q1
 |false=>exact hb pins s1 σ H1 D I1 q1
noncomputable def NT:TS:=λ_ _ _=>False
theorem eF{sts:List gl}:Bt X sts NT:=λ_ _ _ _ _ _ h=>h.elim
end
noncomputable abbrev TG:=V->St->Hp->(St->Hp->Prop)->Prop
noncomputable abbrev MR:=List V->St->Hp->(St->Hp->Prop)->Prop
noncomputable def PG(X:Cx)(target:Expr)(t:TG):Prop :=
 ∀(pins:List (a6×lv)) (s:bc) (σ:St) (H:Hp) (v:V) (u:a9) (Q:St->Hp->Prop),Inv X pins σ H s->RelV v u->t v σ H Q →
  cf (model X.prog X.w) X.A (assign target X.env u) (λ_ s'=>∃ σ' H',Inv X pins σ' H' s'/\Q σ' H') X.xe s
noncomputable def SI(X:Cx)(ts:List Expr)(t:MR):Prop :=
 ∀(pins:List (a6×lv)) (s:bc) (σ:St) (H:Hp) (vs:List V) (us:List a9) (Q:St->Hp->Prop),Inv X pins σ H s->Vals vs us->t vs σ H Q →
  cf (model X.prog X.w) X.A (assignInOrder ((assignEach ts X.env).map (·.2)) us) (λ_ s'=>∃ σ' H',Inv X pins σ' H' s'/\Q σ' H') X.xe s
noncomputable abbrev Px:=V->V->V->Hp->(Hp->Prop)->Prop
noncomputable def SH(X:Cx)(t:Px):Prop :=
 ∀(pins:List (a6×lv)) (s:bc) (σ:St) (H:Hp) (o i v:V) (ov iv u:a9) (Q:Hp->Prop),Inv X pins σ H s->RelV o ov->RelV i iv->RelV v u->t o i v H Q →
  cf (model X.prog X.w) X.A (setItem ov iv u) (λ_ s'=>∃H',Inv X pins σ H' s'/\Q H') X.xe s
section
variable{X:Cx}{pos:re}
noncomputable def FW(i:Nat):TG:=λv σ H Q=>Q (σ.set i (some v)) H
theorem aL{i:Nat}{x:bv}(hN:X.N.Nodup)(hi:X.N[i]? =some x)(hx:Loc X.env.scope x)(hf:X.fn x=true\/X.env.scope.names.lookup x=some .local:=by first|exact .inl rfl|exact .inr rfl|assumption):PG X (.Name x pos) (FW i):=by
 intro pins s σ H v u Q I r h
 exact wpAny_assign_Name (sy I hN hi hx r (λs' I'=>⟨_,H,I',h⟩) hf)
noncomputable def Xv:MR:=λvs σ H Q=>vs=[]/\Q σ H
noncomputable def Sl(t:TG)(u:MR):MR:=λvs σ H Q=>∃v r,vs=v::r/\t v σ H λσ' H'=>u r σ' H' Q
theorem lE:SI X [] Xv:=by
 intro pins s σ H vs us Q I r h
 obtain⟨e,h⟩:=h
 subst e
 cases r
 exact assignInOrder_nil ⟨σ,H,I,h⟩
theorem bP{e:Expr}{es:List Expr}{t:TG}{u:MR}(h1:PG X e t)(h2:SI X es u)
  (hs:(assignEach (e::es) X.env).map (·.2)=assign e X.env::(assignEach es X.env).map (·.2):=by rfl):SI X (e::es) (Sl t u):=by
 intro pins s σ H vs us Q I r h
 obtain⟨v,vr,e1,h⟩:=h
 subst e1
 cases r with
 |cons r rr =>
  rw[hs]
  refine assignInOrder_cons (gg (h1 pins s σ H _ _ _ I r h) λ_ s1 ⟨σ1,H1,I1,q1⟩=>?_)
  exact h2 pins s1 σ1 H1 _ _ Q I1 rr q1
noncomputable def Sj(K:PySem.W.Frag)(n:Nat)(t:MR):TG:=λv σ H Q=>∃a xs,v= .ref a/\dD K H a xs/\xs.length=n/\t xs σ H Q
theorem o8{es:List Expr}{k:Nat}{t:MR}{n:Nat}(hc:X.calm=true)(h:SI X es t)
  (hn:(assignEach es X.env).length=n:=by rfl) (hst:(assignEach es X.env).findIdx? (·.1)=none:=by rfl):PG X (.Tuple es k pos) (Sj X.K n t):=by
 intro pins s σ H v u Q I r hw
 obtain⟨a,xs,e1,hq,hl,hw⟩:=hw
 subst e1
 cases r
 obtain⟨its,rv,ht,hz⟩:=I.tuple hq
 refine assign_Tuple_tuple (I.ok.hd hc) ht (by simp[hn,←hl,rv.length]) hst λh' hx=>?_
 have I1:Inv X pins σ H { s with heap:=h' }:=I.kept (t':=s.toks) λb o e=>hx b o (dy (ca e)) e
 exact h pins _ σ H xs _ Q I1 (by simpa using rv) hw
noncomputable def Xu(to ti:TE)(t:Px):TG:=λv σ H Q=>to σ H λo H1=>ti σ H1 λi H2=>t o i v H2 λH3=>Q σ H3
theorem D5{o i:Expr}{to ti:TE}{t:Px}(ho:PE X o to)(hi:PE X i ti)(hs:SH X t)
  (ha:∀v,assign (.Subscript o i pos) X.env v=(do
   let ov ←holding [v] (eval o X.env)
   let iv ←holding [v,ov] (eval i X.env)
   standAt pos
   holding [v,ov,iv] (setItem ov iv v)
   release [v,ov,iv] []):=by intro _;rfl):PG X (.Subscript o i pos) (Xu to ti t):=by
 intro pins s σ H v u Q I r h
 rw[ha]
 refine a5 (j_ (gg (ho pins s σ H _ I h) λov s1 ⟨x,H1,I1,r1,q1⟩=>?_))
 refine a5 (j_ (gg (hi pins s1 σ H1 _ I1 q1) λiv s2 ⟨y,H2,I2,r2,q2⟩=>?_))
 refine a5 (sm (a5 (j_ (gg (hs pins s2 σ H2 x y v ov iv u _ I2 r1 r2 r q2) λ_ s3 ⟨H3,I3,q3⟩=>?_))))
 exact wpAny_release ⟨σ,H3,I3,q3⟩
noncomputable def K2(te:TE)(g:TG):TS:=λD σ H=>te σ H λx H1=>g x σ H1 D.nx
theorem wJ{tg e:Expr}{te:TE}{g:TG}(he:PE X e te)(hg:PG X tg g)(hs:swapsWithSole [tg] e pos.line X.env=pure false:=by rfl)(hw:swappedStores [tg] e X.env=pure none:=by rfl)
  (h1:(assignEach [tg] X.env).map (·.2)=[assign tg X.env]:=by rfl):PS X (.Assign [tg] e pos) (K2 te g):=by
 intro pins s σ H D I h
 refine wpAny_Assign_stores (gg (he pins s σ H _ I h) λv s1 ⟨x,H1,I1,r1,q1⟩=>?_) hs hw
 rw[h1]
 exact gg (hg pins s1 σ H1 x v _ I1 r1 q1) λ_ s2 q=>q
theorem aD{i:Nat}{x:bv}{e:Expr}{te:TE}{pos':re}(hN:X.N.Nodup)(hi:X.N[i]? =some x)(hx:Loc X.env.scope x)(he:PE X e te)(hs:swapsWith e (some (.Name x pos')) pos.line X.env=pure false:=by rfl)(hf:X.fn x=true\/X.env.scope.names.lookup x=some .local:=by first|exact .inl rfl|exact .inr rfl|assumption):
  PS X (.Assign [.Name x pos'] e pos) (K2 te (FW i)):=by
 intro pins s σ H D I h
 refine wpAny_Assign_Name (gg (he pins s σ H _ I h) λv s1 ⟨y,H1,I1,r1,q1⟩=>?_) hs
 exact sy I1 hN hi hx r1 (λs2 I2=>⟨_,H1,I2,q1⟩) hf
noncomputable def VC(i j:Nat)(ta:TA):TS:=λD σ H=>ta σ H λvs H1=>∃v w,vs=[v,w]/\D.nx ((σ.set i (some v)).set j (some w)) H1
theorem N6{i j:Nat}{x y:bv}{a b:Expr}{ta:TA}{px py pt:re}{kt k2 VY}(hc:X.calm=true)(hN:X.N.Nodup)(hi:X.N[i]? =some x)(hj:X.N[j]? =some y)(hij:i≠j)
  (hx:X.env.scope.names.lookup x=some .local) (hy:X.env.scope.names.lookup y=some .local) (ha:PA X [a,b] ta)
  (hw:swappedStores [.Tuple [.Name x px,.Name y py] kt pt] (.Tuple [a,b] k2 VY) X.env=pure (some [x,y]))
  (hs:swapsWithSole [.Tuple [.Name x px,.Name y py] kt pt] (.Tuple [a,b] k2 VY) pos.line X.env=pure false:=by rfl) :
  PS X (.Assign [.Tuple [.Name x px,.Name y py] kt pt] (.Tuple [a,b] k2 VY) pos) (VC i j ta):=by
 intro pins s σ H D I h
 rw[exec_Assign_arm]
 refine a5 (sm ?_)
 rw[hs]
 refine a5 (bi ?_)
 rw[if_neg (by decide)]
 refine a5 (Tuple_ (gg (ha _ pins s σ H _ I h) λus s1 ⟨vs,H1,I1,r1,q1⟩=>?_))
 obtain⟨v,w,e1,q1⟩:=q1
 subst e1
 obtain⟨u1,u2,rfl,rv,rw'⟩:∃u1 u2,us=[u1,u2]/\RelV v u1/\RelV w u2:=by
  cases r1 with
  |cons p q =>
   cases q with
   |cons p' q' =>
    cases q'
    exact⟨_,_,rfl,p,p'⟩
 refine lh ?_ aw
 have I2:Inv X pins σ H1 { s1 with heap:=s1.heap.push { cls:=.type "tuple",data:=.seq [u1,u2].toArray } }:=I1.kept (t':=s1.toks) λb o e=>a8 _ e
 rw[hw]
 refine a5 (bi ?_)
 show cf (model X.prog X.w) X.A (do rule "assign.swapped-stores";let items ←unpackItems (.ref s1.heap.objs.size) 2 none;assignInOrder [λv=>bindName X.env y v,λv=>bindName X.env x v] items.reverse;pure Flow.next) _ _ _
 refine a5 (wpAny_rule (a5 (unpackItems_tuple (items:= #[u1,u2]) (I.ok.hd hc) (IsTup.new s1.heap _) λh' hx'=>?_)))
 have I3:=I2.kept (h':=h') (t':=s1.toks) λb o e=>hx' b o (dy (ca e)) e
 show cf _ _ (assignInOrder [λv=>bindName X.env y v,λv=>bindName X.env x v] [u2,u1] >>= λ_=>pure Flow.next) _ _ _
 refine a5 (assignInOrder_cons (wpAny_bindName (sy I3 hN hj (.inl hy) rw' (λs2 I4=>?_) (.inr hy))))
 refine assignInOrder_cons (wpAny_bindName (sy I4 hN hi (.inl hx) rv (λs3 I5=>assignInOrder_nil (bi ?_)) (.inr hx)))
 rw[List.set_comm _ _ (Ne.symm hij)]at I5
 exact⟨_,H1,I5,q1⟩
end
section
variable{X:Cx}{pos:re}
noncomputable def NR(c:TT)(tb:TS):TS:=λD σ H=>∃W:Nat->St->Hp->Prop,(∃m,W m σ H)/\∀m σ H,W m σ H →
 c σ H λb H1=>if b=true then ∃N:St->Hp->Prop,(∀ σ' H',N σ' H'->∃m',m'<m/\W m' σ' H')/\tb { D with nx:=N,ct:=N,bk:=D.nx } σ H1 else D.nx σ H1
theorem B4{c:Expr}{body:List gl}{tc:TT}{tb:TS}(hp:PassesOwn (model X.prog X.w) X.A X.env X.xe)(hc:PT X c tc)(hb:Bt X body tb):PS X (.While c body [] pos) (NR tc tb):=by
 intro pins s σ H D I h
 obtain⟨W,⟨m0,w0⟩,turn⟩:=h
 refine wpAny_While (codeAny_whileLoop (λn s'=>∃ σ' H',Inv X pins σ' H' s'/\W n σ' H') ?_ m0 ⟨σ,H,I,w0⟩)
 rintro n s1 ⟨σ1,H1,I1,w1⟩
 refine oC hp (gg (hc pins s1 σ1 H1 _ I1 (turn n σ1 H1 w1)) λb s2 ⟨H2,I2,q2⟩=>?_)
 cases b with
 |true =>
  obtain⟨N,hN,q2⟩:=q2
  rw[if_pos rfl]
  refine oC hp (gg (hb pins s2 σ1 H2 _ I2 q2) λf s3 q3=>?_)
  cases f with
  |next =>
   obtain⟨σ3,H3,I3,n3⟩:=q3
   obtain⟨m',hm,w3⟩:=hN σ3 H3 n3
   exact⟨m',hm,σ3,H3,I3,w3⟩
  |cont =>
   obtain⟨σ3,H3,I3,n3⟩:=q3
   obtain⟨m',hm,w3⟩:=hN σ3 H3 n3
   exact⟨m',hm,σ3,H3,I3,w3⟩
  |brk=>exact q3
  |ret v=>exact q3
 |false =>
  rw[if_neg bt]
  exact wpAny_execs_nil ⟨σ1,H2,I2,q2⟩
end
structure It where
 go:Nat->Hp->Prop
 Bs:Nat->Hp->V->Hp->Prop
 stop:Nat->Hp->Prop
noncomputable def qz(X:Cx)(pins:List (a6×lv))(H:Hp)(b:a6):Prop :=
 H b=none/\b≠X.env.locals/\b∉X.fs/\(b∈X.ex\/X.s₀.heap.objs.size<=b)/\(∀x c,X.env.cells.lookup x=some c->c≠b)/\∀p∈X.pn++pins,p.1≠b
theorem Inv.xF{X:Cx}{pins:List (a6×lv)}{σ:St}{H H':Hp}{s:bc}{b:a6}(I:Inv X pins σ H s)(hb:s.heap.objs.size<=b)(hn:H' b=none):qz X pins H' b:=by
 refine⟨hn,ma (cq I.lt hb),I.Wa hb,.inr (bn I.sz hb),λx c e z=>?_,λp hp z=>?_⟩
 ·obtain⟨v,q⟩:=I.cell x c e
  exact absurd (cq q.lt (by rw[z];exact hb)) (g_ _)
 ·exact absurd (cq (ca (I.pin p hp).1) (by rw[z];exact hb)) (g_ _)
structure Turn(P:bo)(w:df)(K:PySem.W.Frag)(tg:Expr)(J:It)(fp:List a6)(it:a6)(tn:Nat->dC->Prop):Prop where
 mem:it∈fp
 obj:∀i h,tn i h->∀b∈fp,∃o,h.get? b=some o/\∀v,o.data≠ .cell v
 keep:∀i h h',tn i h->(∀b∈fp,∀o,h.get? b=some o->h'.get? b=some o)->tn i h'
 item:∀(X:Cx),X.prog=P->X.w=w->X.K=K->X.calm=true->∀(i:Nat) (pins:List (a6×lv)) (s:bc) (σ:St) (H:Hp) (E:a9->bc->Prop),Inv X pins σ H s->(∀b∈fp,qz X pins H b)->tn i s.heap->J.go i H →
  cf (model P w) X.A (pyNext (.ref it)) (λr s1=>∃u,r=some u ∧
   cf (model P w) X.A (letOwnedTupleGo tg (.ref it) u) (λ_ s2=>∃x H',Inv X pins σ H' s2/\RelV x u/\J.Bs i H x H'/\tn (i+1) s2.heap/\∀b∈fp,H' b=none) E s1) E s
 done:∀(X:Cx),X.prog=P->X.w=w->X.K=K->X.calm=true->∀(i:Nat) (pins:List (a6×lv)) (s:bc) (σ:St) (H:Hp) (E:a9->bc->Prop),Inv X pins σ H s->(∀b∈fp,qz X pins H b)->tn i s.heap->J.stop i H →
  cf (model P w) X.A (pyNext (.ref it)) (λr s1=>r=none/\Inv X pins σ H s1) E s
 self:∀(A:dL) (i:Nat) (s:bc) (Q:a9->bc->Prop) (E:a9->bc->Prop),tn i s.heap->Q (.ref it) s->cf (model P w) A (pyIter (.ref it)) Q E s
noncomputable abbrev TI:=St->Hp->(It->Hp->Prop)->Prop
noncomputable def Zt(X:Cx)(pins:List (a6×lv))(σ:St)(tg:Expr)(R:It->Hp->Prop)(itv:a9)(s2:bc):Prop :=
 ∃(it:a6) (fp:List a6) (tn:Nat->dC->Prop) (J:It) (H':Hp),itv= .ref it/\Inv X pins σ H' s2/\Turn X.prog X.w X.K tg J fp it tn/\tn 0 s2.heap/\(∀b∈fp,qz X pins H' b)/\R J H'
noncomputable def PI(X:Cx)(tg iter:Expr)(wi:TI):Prop :=
 ∀(pins:List (a6×lv)) (s:bc) (σ:St) (H:Hp) (R:It->Hp->Prop),Inv X pins σ H s->wi σ H R →
  cf (model X.prog X.w) X.A (eval iter X.env) (λv s1=>cf (model X.prog X.w) X.A (pyIter v) (Zt X pins σ tg R) X.xe s1) X.xe s
theorem CB{M:Model}{A:dL}{E:a9->bc->Prop}{s:bc}{tg:Expr}{it:a6}{u:a9}{o:lv}{n:String}{vs:Array a9}{Q:Unit->bc->Prop}(ho:s.heap.get? it=some o)(hc:o.cls= .type n)(hd:o.data= .fields vs)
  (hn:["enumerate","zip","dict_itemiterator","dict_reverseitemiterator","odict_iterator","itertools.zip_longest","itertools.pairwise"].contains n=false) (hQ:Q () s):cf M A (letOwnedTupleGo tg (.ref it) u) Q E s:=by
 unfold letOwnedTupleGo
 cases tg<;>first
  |exact bi hQ
  |(cases u<;>first
    |exact bi hQ
    |(refine a5 (wpAny_load ho ?_)
      rw[hc,hd]
      show cf M A (if(["enumerate","zip","dict_itemiterator","dict_reverseitemiterator","odict_iterator","itertools.zip_longest","itertools.pairwise"].contains n&&vs[0]? ==some (rawInt _))=true then _ else _) Q E s
      rw[if_neg (by intro h;rw[hn,mf]at h;cases h)]
      exact bi hQ))
noncomputable def SV(K:PySem.W.Frag)(a:a6):It :=
 ⟨λi H=>∃xs x,cA K H a xs/\xs[i]? =some x,λi H x H'=>H'=H/\∀xs,cA K H a xs->xs[i]? =some x,λi H=>∃xs,cA K H a xs/\xs.length<=i⟩
noncomputable def SR(K:PySem.W.Frag)(a:a6):It :=
 ⟨λi H=>∃xs x,dD K H a xs/\xs[i]? =some x,λi H x H'=>H'=H/\∀xs,dD K H a xs->xs[i]? =some x,λi H=>∃xs,dD K H a xs/\xs.length<=i⟩
noncomputable def Qi(lo:Int)(n:Nat):It:=⟨λi _=>i<n,λi H x H'=>H'=H/\x= .int (lo+i),λi _=>n<=i⟩
theorem yR{P:bo}{w:df}{K:PySem.W.Frag}{tg:Expr}(a it:a6):Turn P w K tg (SV K a) [it] it (λi h=>h.IsListIter it a i) where
 mem:=by simp
 obj:=λi h st b hb=>by
  have e:b=it:=by simpa using hb
  subst e
  obtain⟨o,e,c,d⟩:=st
  exact⟨o,e,λv z=>by rw[d]at z;cases z⟩
 keep:=λi h h' st k=>st.at λo e=>k it (by simp) o e
 item:=by
  intro X hP hw hK hc i pins s σ H E I hf st hg
  subst hP hw hK
  obtain⟨xs,x,hq,hx⟩:=hg
  obtain⟨its,rv,p,hz⟩:=I.list hq
  obtain⟨u,hu,ru⟩:=rv.get hx
  obtain⟨f0,f1,f2,f3,f4,f5⟩:=hf it (by simp)
  refine wpAny_pyNext_list_item st p.isList (x:=u) (by simpa using hu) λh' st' sb=>?_
  have I1:Inv X pins σ H { s with heap:=h' }:=I.turned (t':=s.toks) (λb o hb e=>(sb.2 b hb).trans e) f0 f1 f3 f4 f5
  obtain⟨o,e,c,d⟩:=id st'
  exact⟨u,rfl,CB (s:={ s with heap:=h' }) e c d (by decide) ⟨x,H,I1,ru,⟨rfl,λys hy=>by rw[I.xw hy hq];exact hx⟩,st',λb hb=>(hf b hb).1⟩⟩
 done:=by
  intro X hP hw hK hc i pins s σ H E I hf st hg
  subst hP hw hK
  obtain⟨xs,hq,hx⟩:=hg
  obtain⟨its,rv,p,hz⟩:=I.list hq
  obtain⟨f0,f1,f2,f3,f4,f5⟩:=hf it (by simp)
  have hl:=rv.length
  exact wpAny_pyNext_list_end (I.ok.hd hc) st p.isList (by simp;omega) λh' eb=>⟨rfl,I.turned (t':=s.toks) (λb o hb e=>eb b o hb e) f0 f1 f3 f4 f5⟩
 self:=λ_ _ _ _ _ st h=>wpAny_pyIter_listiter st h
theorem wk{P:bo}{w:df}{K:PySem.W.Frag}{tg:Expr}(a it:a6):Turn P w K tg (SR K a) [it] it (λi h=>h.IsTupleIter it a i) where
 mem:=by simp
 obj:=λi h st b hb=>by
  have e:b=it:=by simpa using hb
  subst e
  obtain⟨o,e,c,d⟩:=st
  exact⟨o,e,λv z=>by rw[d]at z;cases z⟩
 keep:=λi h h' st k=>st.at λo e=>k it (by simp) o e
 item:=by
  intro X hP hw hK hc i pins s σ H E I hf st hg
  subst hP hw hK
  obtain⟨xs,x,hq,hx⟩:=hg
  obtain⟨its,rv,p,hz⟩:=I.tuple hq
  obtain⟨u,hu,ru⟩:=rv.get hx
  obtain⟨f0,f1,f2,f3,f4,f5⟩:=hf it (by simp)
  refine wpAny_pyNext_tuple_item st (show s.heap.IsTuple a its.toArray from p) (x:=u) (by simpa using hu) λh' st' sb=>?_
  have I1:Inv X pins σ H { s with heap:=h' }:=I.turned (t':=s.toks) (λb o hb e=>(sb.2 b hb).trans e) f0 f1 f3 f4 f5
  obtain⟨o,e,c,d⟩:=id st'
  exact⟨u,rfl,CB (s:={ s with heap:=h' }) e c d (by decide) ⟨x,H,I1,ru,⟨rfl,λys hy=>by rw[I.yS hy hq];exact hx⟩,st',λb hb=>(hf b hb).1⟩⟩
 done:=by
  intro X hP hw hK hc i pins s σ H E I hf st hg
  subst hP hw hK
  obtain⟨xs,hq,hx⟩:=hg
  obtain⟨its,rv,p,hz⟩:=I.tuple hq
  obtain⟨f0,f1,f2,f3,f4,f5⟩:=hf it (by simp)
  have hl:=rv.length
  exact wpAny_pyNext_tuple_end (I.ok.hd hc) st (show s.heap.IsTuple a its.toArray from p) (by simp;omega) λh' eb=>⟨rfl,I.turned (t':=s.toks) (λb o hb e=>eb b o hb e) f0 f1 f3 f4 f5⟩
 self:=λ_ _ _ _ _ st h=>wpAny_pyIter_tupleiter st h
theorem DE{P:bo}{w:df}{K:PySem.W.Frag}{tg:Expr}(it:a6)(lo:Int)(n:Nat):Turn P w K tg (Qi lo n) [it] it (λi h=>IsRangeIter h it (lo+(i:Nat)*1) ((n:Int)-(i:Nat)) 1) where
 mem:=by simp
 obj:=λi h st b hb=>by
  have e:b=it:=by simpa using hb
  subst e
  exact⟨_,st,λv z=>by
   have z':Data.fields _=Data.cell v:=z
   cases z'⟩
 keep:=λi h h' st k=>k it (by simp) _ st
 item:=by
  intro X hP hw hK hc i pins s σ H E I hf st hg
  subst hP hw hK
  obtain⟨f0,f1,f2,f3,f4,f5⟩:=hf it (by simp)
  have W:=Walks.range (prog:=X.prog) (w:=X.w) (I.ok.hd hc) it lo 1 n
  refine TK.cH (ba s.toks) (W.item i s _ _ hg st λv h' tk hv st' kk hup=>?_)
  obtain⟨t,rfl⟩:=hv
  have I1:Inv X pins σ H { s with heap:=h',toks:=tk }:=I.turned (λb o hb e=>kk b o (by simpa using hb) e) f0 f1 f3 f4 f5
  refine⟨_,rfl,CB (s:={ s with heap:=h',toks:=tk }) (n:= "range_iterator") st' rfl rfl (by decide) ⟨.int (lo+i),H,I1,⟨t,?_⟩,⟨rfl,rfl⟩,st',λb hb=>(hf b hb).1⟩⟩
  rw[Int.mul_one]
 done:=by
  intro X hP hw hK hc i pins s σ H E I hf st hg
  subst hP hw hK
  obtain⟨f0,f1,f2,f3,f4,f5⟩:=hf it (by simp)
  exact wpAny_pyNext_range_end (I.ok.hd hc) st (by have:n<=i:=hg;omega) λh' eb=>⟨rfl,I.turned (t':=s.toks) (λb o hb e=>eb b o hb e) f0 f1 f3 f4 f5⟩
 self:=λ_ _ _ _ _ st h=>wpAny_pyIter_rangeiter st h
end
section
section
variable{X:Cx}{tg:Expr}
noncomputable def RI(K:PySem.W.Frag)(tl:TE):TI:=λσ H R=>tl σ H λx H1=>∃a,x= .ref a/\(∃xs,cA K H1 a xs)/\R (SV K a) H1
noncomputable def Wx(K:PySem.W.Frag)(tl:TE):TI:=λσ H R=>tl σ H λx H1=>∃a,x= .ref a/\(∃xs,dD K H1 a xs)/\R (SR K a) H1
theorem iT{l:Expr}{tl:TE}(hl:PE X l tl):PI X tg l (RI X.K tl):=by
 intro pins s σ H R I h
 refine gg (hl pins s σ H _ I h) λv s1 ⟨x,H1,I1,r1,q1⟩=>?_
 obtain⟨a,e,⟨xs,hq⟩,q⟩:=q1
 subst e
 cases r1
 obtain⟨its,rv,p,hz⟩:=I1.list hq
 refine mi p.isList ?_
 refine⟨s1.heap.objs.size,[s1.heap.objs.size],_,_,H1,rfl,I1.kept (t':=s1.toks) λb o e=>a8 _ e,yR a _,⟨_,bp _ rfl,rfl,rfl⟩,λb hb=>?_,q⟩
 have e:b=s1.heap.objs.size:=by simpa using hb
 subst e
 exact I1.xF (ba _) (I1.hok.fresh (ba _))
theorem N8{l:Expr}{tl:TE}(hl:PE X l tl):PI X tg l (Wx X.K tl):=by
 intro pins s σ H R I h
 refine gg (hl pins s σ H _ I h) λv s1 ⟨x,H1,I1,r1,q1⟩=>?_
 obtain⟨a,e,⟨xs,hq⟩,q⟩:=q1
 subst e
 cases r1
 obtain⟨its,rv,p,hz⟩:=I1.tuple hq
 refine mB (show s1.heap.IsTuple a its.toArray from p) ?_
 refine⟨s1.heap.objs.size,[s1.heap.objs.size],_,_,H1,rfl,I1.kept (t':=s1.toks) λb o e=>a8 _ e,wk a _,⟨_,bp _ rfl,rfl,rfl⟩,λb hb=>?_,q⟩
 have e:b=s1.heap.objs.size:=by simpa using hb
 subst e
 exact I1.xF (ba _) (I1.hok.fresh (ba _))
theorem Iw{pins:List (a6×lv)}{σ:St}{H:Hp}{s:bc}{R:It->Hp->Prop}{E:a9->bc->Prop}{lo hi:Int}{t u v:wT}{tk:Nat}(I:Inv X pins σ H s)(h1: -(2 ^ 62)<=lo)(h2:lo<2 ^ 62)(h3: -(2 ^ 62)<=hi)(h4:hi<2 ^ 62)
  (q:R (Qi lo (hi-lo).toNat) H) (htk:s.toks<=tk:=by first|exact ba _|exact gc _|assumption|omega):cf (model X.prog X.w) X.A (pyIter (.ref s.heap.objs.size)) (Zt X pins σ tg R) E { s with heap:=s.heap.push { cls:=.type "range",data:=.fields #[.int lo t,.int hi u,.int 1 v] },toks:=tk }:=by
 refine wpAny_pyIter_range (IsRange.new ..) (small_one h1 h2 h3 h4) ?_
 have I1:Inv X pins σ H { s with heap:=s.heap.push { cls:=.type "range",data:=.fields #[.int lo t,.int hi u,.int 1 v] },toks:=tk }:=I.kept λb o e=>a8 _ e
 refine⟨(s.heap.push { cls:=.type "range",data:=.fields #[.int lo t,.int hi u,.int 1 v] }).objs.size,[(s.heap.push { cls:=.type "range",data:=.fields #[.int lo t,.int hi u,.int 1 v] }).objs.size],_,_,H,rfl,
  I1.kept (t':=tk) λb o e=>a8 _ e,DE _ lo (hi-lo).toNat,?_,λb hb=>?_,q⟩
 ·have e1:lo+((0:Nat):Int)*1=lo:=by simp
  have e2:(((hi-lo).toNat:Nat):Int)-((0:Nat):Int)=Builtin.Range.rangeSize lo hi 1:=by rw[rangeSize_one];split<;>omega
  show IsRangeIter _ _ (lo+((0:Nat):Int)*1) ((((hi-lo).toNat:Nat):Int)-((0:Nat):Int)) 1
  rw[e1,e2]
  exact bp _ rfl
 ·have e:b=(s.heap.push { cls:=.type "range",data:=.fields #[.int lo t,.int hi u,.int 1 v] }).objs.size:=by simpa using hb
  subst e
  exact I1.xF (ba _) (I1.hok.fresh (ba _))
noncomputable def RH(ta:TA):TI:=λσ H R=>ta σ H λvs H1=>∃j:Int,vs=[.int j]/\ -(2 ^ 62)<=j/\j<2 ^ 62/\R (Qi 0 j.toNat) H1
theorem gZ {a:Expr}{ta:TA}{p pos:re}(hg:Gl X "range")(hm:X.mg "range" =none)(ha:PA X [a] ta)(hs:eh [a] X.env=[(false,eval a X.env)]:=by rfl):PI X tg (.Call (.Name "range" p) [a] [] pos) (RH ta):=by
 intro pins s σ H R I h
 refine Call_ (qk I hg hm boot_range (k_ (gg (ha pos pins s σ H _ I h) λus s1 ⟨vs,H1,I1,r1,q1⟩=>?_) hs rfl))
 obtain⟨j,e,q1,q2,q⟩:=q1
 subst e
 cases r1 with
 |cons r rr =>
  cases rr
  obtain⟨t,rfl⟩:=r
  exact call_range_1 (Iw I1 (by omega) (by omega) q1 q2 (by simpa using q))
noncomputable def VJ(wi:TI)(g:TG)(tb:TS):TS:=λD σ H=>wi σ H λJ H1=>∃W:Nat->Nat->St->Hp->Prop,(∃m,W 0 m σ H1)/\∀i m σ H,W i m σ H →
 (J.stop i H/\D.nx σ H)\/(J.go i H/\∃N:St->Hp->Prop,(∀ σ' H',N σ' H'->∃m',m'<m/\W (i+1) m' σ' H')/\∀x H',J.Bs i H x H'->g x σ H' λσ2 H2=>tb { D with nx:=N,ct:=N,bk:=D.nx } σ2 H2)
noncomputable def z9(fp:List a6)(h:dC):List (a6×lv):=fp.filterMap λb=>(h.get? b).map λo=>(b,o)
theorem kI{fp:List a6}{h:dC}{b:a6}{o:lv}(hb:b∈fp)(e:h.get? b=some o):(b,o)∈z9 fp h:=List.mem_filterMap.mpr ⟨b,hb,by rw[e];rfl⟩
theorem Gv{fp:List a6}{h:dC}{p:a6×lv}(hp:p∈z9 fp h):p.1∈fp/\h.get? p.1=some p.2:=by
 obtain⟨b,hb,e⟩:=List.mem_filterMap.mp hp
 cases q:h.get? b with
 |none=>rw[q]at e;cases e
 |some o =>
  rw[q]at e
  have e':(b,o)=p:=dn e
  subst e'
  exact⟨hb,q⟩
theorem Inv.pinned{pins:List (a6×lv)}{σ:St}{H:Hp}{s:bc}{fp:List a6}(I:Inv X pins σ H s)(hf:∀b∈fp,qz X pins H b)(ho:∀b∈fp,∃o,s.heap.get? b=some o/\∀v,o.data≠ .cell v):Inv X (pins++z9 fp s.heap) σ H s :=
 I.z7 λp hp=>(eM.mp hp).elim (λz=>I.pin p (eD _ z)) λz=>by
  obtain⟨hb,e⟩:=Gv z
  obtain⟨f0,f1,f2,_⟩:=hf p.1 hb
  obtain⟨o,e',d⟩:=ho p.1 hb
  rw[e]at e';cases e'
  exact⟨e,f0,f1,f2,d⟩
theorem Inv.we{pins pl:List (a6×lv)}{σ:St}{H:Hp}{s:bc}(I:Inv X (pins++pl) σ H s):Inv X pins σ H s:=I.z7 λp hp=>I.pin p (eD _ (tz _ hp))
theorem dH{iter:Expr}{body:List gl}{wi:TI}{g:TG}{tb:TS}{pos:re}(hp:PassesOwn (model X.prog X.w) X.A X.env X.xe)(hc:X.calm=true)(hi:PI X tg iter wi)(hg:PG X tg g)(hb:Bt X body tb)
  (hs:∀x,foldedSetIterable iter X.env x=pure x:=by intro _;rfl):PS X (.For tg iter body [] pos) (VJ wi g tb):=by
 intro pins s σ H D I h
 refine wpAny_For (gg (hi pins s σ H _ I h) λv s1 h1=>gg h1 λitv s2 h2=>?_) hs
 obtain⟨it,fp,tn,J,H2,e,I2,T,st2,f2,W,⟨m0,w0⟩,turn⟩:=h2
 subst e
 have stat:∀{H':Hp},(∀b∈fp,H' b=none)->∀b∈fp,qz X pins H' b:=λhn b hb=>⟨hn b hb,(f2 b hb).2⟩
 refine codeAny_forLoop_any (λn s'=>∃i σ' H',Inv X pins σ' H' s'/\tn i s'.heap/\(∀b∈fp,H' b=none)/\W i n σ' H') ?_ m0 ⟨0,σ,H2,I2,st2,λb hb=>(f2 b hb).1,w0⟩
 rintro n s3 ⟨i,σ3,H3,I3,st3,Zl,w3⟩
 rcases turn i n σ3 H3 w3 with⟨stop,qn⟩|⟨go,N,hN,step⟩
 ·refine oC hp (gg (T.done X rfl rfl rfl hc i pins s3 σ3 H3 X.xe I3 (stat Zl) st3 stop) λr s4 ⟨hr,I4⟩=>?_)
  subst hr
  exact wpAny_execs_nil ⟨σ3,H3,I4,qn⟩
 ·refine oC hp (gg (T.item X rfl rfl rfl hc i pins s3 σ3 H3 X.xe I3 (stat Zl) st3 go) λr s4 ⟨u,hr,h4⟩=>?_)
  subst hr
  refine oC hp (gg h4 λ_ s5 ⟨x,H5,I5,r5,y5,VN,fr5⟩=>?_)
  have I5':=I5.pinned (stat fr5) (T.obj _ _ VN)
  refine oC hp (gg (hg _ s5 σ3 H5 x u _ I5' r5 (step x H5 y5)) λ_ s6 ⟨Zz,H6,I6,q6⟩=>?_)
  refine oC hp (gg (hb _ s6 Zz H6 _ I6 q6) λf s7 q7=>?_)
  have again:∀{Du:St} {H7:Hp},Inv X (pins++z9 fp s5.heap) Du H7 s7->N Du H7->∃m,m<n/\∃i σ' H',Inv X pins σ' H' s7/\tn i s7.heap/\(∀b∈fp,H' b=none)/\W i m σ' H':=λ{Du H7} I7 n7=>by
   obtain⟨m',hm,w7⟩:=hN Du H7 n7
   refine⟨m',hm,i+1,Du,H7,I7.we,T.keep _ _ _ VN λb hb o e=>(I7.pin (b,o) (eD _ (eD _ (kI hb e)))).1,λb hb=>?_,w7⟩
   obtain⟨o,e,d⟩:=T.obj _ _ VN b hb
   exact(I7.pin (b,o) (eD _ (eD _ (kI hb e)))).2.1
  cases f with
  |next=>obtain⟨Du,H7,I7,n7⟩:=q7;exact again I7 n7
  |cont=>obtain⟨Du,H7,I7,n7⟩:=q7;exact again I7 n7
  |brk=>obtain⟨Du,H7,I7,q7⟩:=q7;exact⟨Du,H7,I7.we,q7⟩
  |ret v=>obtain⟨x7,Du,H7,I7,r7,q7⟩:=q7;exact⟨x7,Du,H7,I7.we,r7,q7⟩
end
theorem lP{K:PySem.W.Frag}{a:a6}{xs:List V}{g:TG}{tb:TS}{D:Ends}{σ:St}{H:Hp}(Pv:Nat->St->Hp->Prop)(h0:Pv 0 σ H)(hl:∀i σ H,i<=xs.length->Pv i σ H->cA K H a xs)
  (hs:∀i x σ H,xs[i]? =some x->Pv i σ H->g x σ H λσ2 H2=>tb { D with nx:=Pv (i+1),ct:=Pv (i+1),bk:=D.nx } σ2 H2) (hd:∀ σ H,Pv xs.length σ H->D.nx σ H) :
  ∃W:Nat->Nat->St->Hp->Prop,(∃m,W 0 m σ H)/\∀i m σ H,W i m σ H →
   ((SV K a).stop i H/\D.nx σ H)\/((SV K a).go i H/\∃N:St->Hp->Prop,(∀ σ' H',N σ' H'->∃m',m'<m/\W (i+1) m' σ' H')/\∀x H',(SV K a).Bs i H x H'->g x σ H' λσ2 H2=>tb { D with nx:=N,ct:=N,bk:=D.nx } σ2 H2):=by
 refine⟨λi m σ H=>m=xs.length-i/\i<=xs.length/\Pv i σ H,⟨xs.length,by simp,em _,h0⟩,?_⟩
 rintro i m σ H ⟨rfl,hi,p⟩
 have q:=hl i σ H hi p
 by_cases hlt:i<xs.length
 ·refine .inr ⟨⟨xs,xs[i],q,by simp[hlt]⟩,Pv (i+1),λσ' H' p'=>⟨xs.length-(i+1),by omega,rfl,hlt,p'⟩,λx H' y=>?_⟩
  obtain⟨e,y⟩:=y
  subst e
  exact hs i x σ _ (y xs q) p
 ·have e:i=xs.length:=by omega
  subst e
  exact .inl ⟨⟨xs,q,ba _⟩,hd σ H p⟩
theorem LS{K:PySem.W.Frag}{a:a6}{xs:List V}{g:TG}{tb:TS}{D:Ends}{σ:St}{H:Hp}(Pv:Nat->St->Hp->Prop)(h0:Pv 0 σ H)(hl:∀i σ H,i<=xs.length->Pv i σ H->dD K H a xs)
  (hs:∀i x σ H,xs[i]? =some x->Pv i σ H->g x σ H λσ2 H2=>tb { D with nx:=Pv (i+1),ct:=Pv (i+1),bk:=D.nx } σ2 H2) (hd:∀ σ H,Pv xs.length σ H->D.nx σ H) :
  ∃W:Nat->Nat->St->Hp->Prop,(∃m,W 0 m σ H)/\∀i m σ H,W i m σ H →
   ((SR K a).stop i H/\D.nx σ H)\/((SR K a).go i H/\∃N:St->Hp->Prop,(∀ σ' H',N σ' H'->∃m',m'<m/\W (i+1) m' σ' H')/\∀x H',(SR K a).Bs i H x H'->g x σ H' λσ2 H2=>tb { D with nx:=N,ct:=N,bk:=D.nx } σ2 H2):=by
 refine⟨λi m σ H=>m=xs.length-i/\i<=xs.length/\Pv i σ H,⟨xs.length,by simp,em _,h0⟩,?_⟩
 rintro i m σ H ⟨rfl,hi,p⟩
 have q:=hl i σ H hi p
 by_cases hlt:i<xs.length
 ·refine .inr ⟨⟨xs,xs[i],q,by simp[hlt]⟩,Pv (i+1),λσ' H' p'=>⟨xs.length-(i+1),by omega,rfl,hlt,p'⟩,λx H' y=>?_⟩
  obtain⟨e,y⟩:=y
  subst e
  exact hs i x σ _ (y xs q) p
 ·have e:i=xs.length:=by omega
  subst e
  exact .inl ⟨⟨xs,q,ba _⟩,hd σ H p⟩
theorem kJ{lo:Int}{n:Nat}{g:TG}{tb:TS}{D:Ends}{σ:St}{H:Hp}(Pv:Nat->St->Hp->Prop)(h0:Pv 0 σ H)
  (hs:∀i σ H,i<n->Pv i σ H->g (.int (lo+i)) σ H λσ2 H2=>tb { D with nx:=Pv (i+1),ct:=Pv (i+1),bk:=D.nx } σ2 H2) (hd:∀ σ H,Pv n σ H->D.nx σ H) :
  ∃W:Nat->Nat->St->Hp->Prop,(∃m,W 0 m σ H)/\∀i m σ H,W i m σ H →
   ((Qi lo n).stop i H/\D.nx σ H)\/((Qi lo n).go i H/\∃N:St->Hp->Prop,(∀ σ' H',N σ' H'->∃m',m'<m/\W (i+1) m' σ' H')/\∀x H',(Qi lo n).Bs i H x H'->g x σ H' λσ2 H2=>tb { D with nx:=N,ct:=N,bk:=D.nx } σ2 H2):=by
 refine⟨λi m σ H=>m=n-i/\i<=n/\Pv i σ H,⟨n,by simp,em _,h0⟩,?_⟩
 rintro i m σ H ⟨rfl,hi,p⟩
 by_cases hlt:i<n
 ·refine .inr ⟨hlt,Pv (i+1),λσ' H' p'=>⟨n-(i+1),by omega,rfl,hlt,p'⟩,λx H' y=>?_⟩
  obtain⟨e,y⟩:=y
  subst e y
  exact hs i σ _ hlt p
 ·have e:i=n:=by omega
  subst e
  exact .inl ⟨ba _,hd σ H p⟩
end
section
noncomputable abbrev R2:=V->V->Hp->VK->Prop
noncomputable def vG(X:Cx)(f:a9->a9->Sem a9)(r:R2):Prop :=
 ∀(pins:List (a6×lv)) (s:bc) (σ:St) (H:Hp) (x y:V) (v u:a9) (Q:VK),Inv X pins σ H s->RelV x v->RelV y u->r x y H Q →
  cf (model X.prog X.w) X.A (f v u) (EP X pins σ Q) X.xe s
noncomputable def nU(X:Cx)(f:a9)(r:List V->Hp->VK->Prop):Prop :=
 ∀(pins:List (a6×lv)) (s:bc) (σ:St) (H:Hp) (xs:List V) (us:List a9) (Q:VK),Inv X pins σ H s->Vals xs us->r xs H Q →
  cf (model X.prog X.w) X.A (call f us) (EP X pins σ Q) X.xe s
noncomputable def Te(r:R2)(ta tb:TE):TE:=λσ H Q=>ta σ H λx H1=>tb σ H1 λy H2=>r x y H2 Q
noncomputable def rI(C:Int->Int->Prop)(g:Int->Int->V):R2:=λx y H Q=>∃i j,x= .int i/\y= .int j/\C i j/\Q (g i j) H
noncomputable def N5(g:Int->Int->V):R2:=λx y H Q=>∃i j,x= .int i/\y= .int j/\Q (g i j) H
section
variable{X:Cx}{a b c:Expr}{ta tb tc:TE}{pos:re}
theorem Pw(ha:PE X a ta)(hb:PE X b tb){pins:List (a6×lv)}{s:bc}{σ:St}{H:Hp}{R:V->V->Hp->Prop}(I:Inv X pins σ H s)
  (h:ta σ H λx H1=>tb σ H1 λy H2=>R x y H2) {Q:a9->bc->Prop} {f:a9->a9->Sem a9}
  (hf:∀v u s2 x y H2,Inv X pins σ H2 s2->RelV x v->RelV y u->R x y H2->cf (model X.prog X.w) X.A (f v u) Q X.xe s2) :
  cf (model X.prog X.w) X.A (eval a X.env) (λv s₁=>cf (model X.prog X.w) X.A (eval b X.env) (λu s₂=>cf (model X.prog X.w) X.A (f v u) Q X.xe s₂) X.xe s₁) X.xe s:=by
 refine gg (ha pins s σ H _ I h) λv s1 ⟨x,H1,I1,r1,q1⟩=>?_
 refine gg (hb pins s1 σ H1 _ I1 q1) λu s2 ⟨y,H2,I2,r2,q2⟩=>?_
 exact hf v u s2 x y H2 I2 r1 r2 q2
theorem aF{op:Operator}{r:R2}(ho:vG X (binaryOp op) r)(ha:PE X a ta)(hb:PE X b tb):PE X (.BinOp a op b pos) (Te r ta tb):=by
 intro pins s σ H Q I h
 exact wpAny_BinOp (Pw ha hb I h λv u s2 x y H2 I2 rx ry q=>ho pins s2 σ H2 x y v u Q I2 rx ry q)
theorem QX{f:a9->a9->Sem a9}{C:Int->Int->Prop}{g:Int->Int->Int}
  (rule:∀(i j:Int) (t u:wT) (s:bc) (Q:a9->bc->Prop) (E:a9->bc->Prop),C i j->Q (.int (g i j) s.toks) { s with toks:=s.toks+1 }->cf (model X.prog X.w) X.A (f (.int i t) (.int j u)) Q E s) :
  vG X f (rI C λi j=>.int (g i j)):=by
 intro pins s σ H x y v u Q I rx ry h
 obtain⟨i,j,rfl,rfl,hc,q⟩:=h
 obtain⟨t,rfl⟩:=rx
 obtain⟨t',rfl⟩:=ry
 exact rule i j t t' s _ _ hc ⟨.int (g i j),H,I.tok _,⟨_,rfl⟩,q⟩
theorem QW{f:a9->a9->Sem a9}{g:Int->Int->Int}
  (rule:∀(i j:Int) (t u:wT) (s:bc) (Q:a9->bc->Prop) (E:a9->bc->Prop),Q (.int (g i j) s.toks) { s with toks:=s.toks+1 }->cf (model X.prog X.w) X.A (f (.int i t) (.int j u)) Q E s) :
  vG X f (N5 λi j=>.int (g i j)):=by
 intro pins s σ H x y v u Q I rx ry h
 obtain⟨i,j,rfl,rfl,q⟩:=h
 obtain⟨t,rfl⟩:=rx
 obtain⟨t',rfl⟩:=ry
 exact rule i j t t' s _ _ ⟨.int (g i j),H,I.tok _,⟨_,rfl⟩,q⟩
theorem Ob{f:a9->a9->Sem a9}{g:Int->Int->Bool}
  (rule:∀(i j:Int) (t u:wT) (s:bc) (Q:a9->bc->Prop) (E:a9->bc->Prop),Q (.bool (g i j)) s->cf (model X.prog X.w) X.A (f (.int i t) (.int j u)) Q E s) :
  vG X f (N5 λi j=>.bl (g i j)):=by
 intro pins s σ H x y v u Q I rx ry h
 obtain⟨i,j,rfl,rfl,q⟩:=h
 obtain⟨t,rfl⟩:=rx
 obtain⟨t',rfl⟩:=ry
 exact rule i j t t' s _ _ ⟨.bl (g i j),H,I,rfl,q⟩
noncomputable def XX(i j:Int):Prop:=0<j/\j<1073741824
noncomputable def XW(i j:Int):Prop:=0<=j/\j<=1000000/\i.natAbs<2 ^ 64
noncomputable def PD(i j:Int):Prop:=(-(2 ^ 64)<i/\i<2 ^ 64)\/(-(2 ^ 64)<j/\j<2 ^ 64)
theorem PD.ok{i j:Int}(h:PD i j):IntMulOk i j:=by
 rcases h with⟨h1,h2⟩|⟨h1,h2⟩
 ·exact .of_left (intBits_le_64 h1 h2)
 ·exact .of_right (intBits_le_64 h1 h2)
theorem bT:vG X (binaryOp .Add) (N5 λi j=>.int (i+j)):=QW λ_ _ _ _ _ _ _ q=>add_int q
theorem wK:vG X (binaryOp .Sub) (N5 λi j=>.int (i-j)):=QW λ_ _ _ _ _ _ _ q=>sub_int q
theorem nY:vG X (binaryOp .Mult) (rI PD λi j=>.int (i*j)):=QX λ_ _ _ _ _ _ _ hc q=>mul_int q hc.ok
theorem fH:vG X (binaryOp .FloorDiv) (rI XX λi j=>.int (i / j)):=QX λi j _ _ _ _ _ hc q=>by
 have h1:(0:Int)<j:=hc.1
 have h2:j<1073741824:=hc.2
 exact floordiv_int (by omega) (by rw[Int.fdiv_eq_ediv_of_nonneg i (by omega)];exact q) (.inl (PyProof.noPylong_small (by omega)))
theorem cY:vG X (binaryOp .Mod) (rI (λ_ j=>0<j) λi j=>.int (i % j)):=QX λi j _ _ _ _ _ hc q=>by
 have h1:(0:Int)<j:=hc
 exact mod_int' (by omega) (by rw[Int.fmod_eq_emod_of_nonneg i (by omega)];exact q)
theorem Ae:vG X (binaryOp .Pow) (rI XW λi j=>.int (i ^ j.toNat)):=QX λ_ _ _ _ _ _ _ hc q=>pow_int_small hc.1 hc.2.1 hc.2.2 q
end
noncomputable def QJ:V->V->Bool
 | .jy,.jy=>true| .jy,.int _=>true| .int _,.jy=>true| .jy,.bl _=>true| .bl _,.jy=>true| .jy,.str _=>true| .str _,.jy=>true
 | .int _,.int _=>true| .bl _,.bl _=>true| .str _,.str _=>true| .F5 _,.F5 _=>true
 | .int _,.str _=>true| .str _,.int _=>true| .bl _,.str _=>true| .str _,.bl _=>true
 |_,_=>false
noncomputable def ZM:R2:=λx y H Q=>QJ x y=true/\Q (.bl (decide (x=y))) H
noncomputable def ZK:R2:=λx y H Q=>QJ x y=true/\Q (.bl (!decide (x=y))) H
theorem lG{i j:Int}:decide (V.int i=V.int j)=(i==j):=by
 rw[vi]
 simp
theorem JT{i j:Bool}:decide (V.bl i=V.bl j)=(i==j):=by
 rw[vi]
 simp
theorem F2{i j:bv}:decide (V.str i=V.str j)=(i==j):=by
 rw[vi]
 simp
theorem F3{i j:Array UInt8}:decide (V.F5 i=V.F5 j)=(i.toList==j.toList):=by
 rw[vi]
 cases i
 cases j
 simp
section
variable{X:Cx}{a b c:Expr}{ta tb tc:TE}{pos:re}
theorem cy{pins:List (a6×lv)}{σ:St}{H:Hp}{s:bc}{Q:VK}{k k':Bool}(I:Inv X pins σ H s)(q:Q (.bl k) H)(e:k=k'):EP X pins σ Q (.bool k') s:=by
 subst e
 exact⟨.bl k,H,I,rfl,q⟩
theorem bW:vG X (compareOp .Eq) ZM:=by
 intro pins s σ H x y v u Q I rx ry h
 obtain⟨hs,q⟩:=h
 cases x with
 |jy =>
  cases rx
  cases y with
  |jy=>cases ry;exact PySem.EqNone.eq_none_none (cy I q (by simp))
  |bl j=>cases ry;exact PySem.EqNone.eq_none_bool (cy I q (by simp))
  |int j=>obtain⟨t',rfl⟩:=ry;exact PySem.EqNone.eq_none_int (cy I q (by simp))
  |str j=>obtain⟨t',rfl⟩:=ry;exact PySem.EqNone.eq_none_str (cy I q (by simp))
  |_=>exact absurd (show false=true from hs) bt
 |bl i =>
  cases rx
  cases y with
  |jy=>cases ry;exact PySem.EqNone.eq_bool_none (cy I q (by simp))
  |bl j=>cases ry;exact eq_bool (cy I q JT)
  |str j=>obtain⟨t',rfl⟩:=ry;exact PySem.EqMixed.eq_bool_str (cy I q (by simp))
  |_=>exact absurd (show false=true from hs) bt
 |int i =>
  obtain⟨t,rfl⟩:=rx
  cases y with
  |jy=>cases ry;exact PySem.EqNone.eq_int_none (cy I q (by simp))
  |int j=>obtain⟨t',rfl⟩:=ry;exact eq_int (cy I q lG)
  |str j=>obtain⟨t',rfl⟩:=ry;exact PySem.EqMixed.eq_int_str (cy I q (by simp))
  |_=>exact absurd (show false=true from hs) bt
 |str i =>
  obtain⟨t,rfl⟩:=rx
  cases y with
  |jy=>cases ry;exact PySem.EqNone.eq_str_none (cy I q (by simp))
  |bl j=>cases ry;exact PySem.EqMixed.eq_str_bool (cy I q (by simp))
  |int j=>obtain⟨t',rfl⟩:=ry;exact PySem.EqMixed.eq_str_int (cy I q (by simp))
  |str j=>obtain⟨t',rfl⟩:=ry;exact eq_str (cy I q F2)
  |_=>exact absurd (show false=true from hs) bt
 |F5 i =>
  obtain⟨t,rfl⟩:=rx
  cases y with
  |F5 j=>obtain⟨t',rfl⟩:=ry;exact PySem.W.eq_bytes (cy I q F3)
  |_=>exact absurd (show false=true from hs) bt
 |_=>cases y<;>exact absurd (show false=true from hs) bt
theorem yY:vG X (compareOp .NotEq) ZK:=by
 intro pins s σ H x y v u Q I rx ry h
 obtain⟨hs,q⟩:=h
 cases x with
 |jy =>
  cases rx
  cases y with
  |jy=>cases ry;exact PySem.EqNone.ne_none_none (cy I q (by simp))
  |bl j=>cases ry;exact PySem.EqNone.ne_none_bool (cy I q (by simp))
  |int j=>obtain⟨t',rfl⟩:=ry;exact PySem.EqNone.ne_none_int (cy I q (by simp))
  |str j=>obtain⟨t',rfl⟩:=ry;exact PySem.EqNone.ne_none_str (cy I q (by simp))
  |_=>exact absurd (show false=true from hs) bt
 |bl i =>
  cases rx
  cases y with
  |jy=>cases ry;exact PySem.EqNone.ne_bool_none (cy I q (by simp))
  |bl j=>cases ry;exact ne_bool (cy I q (congrArg not JT))
  |str j=>obtain⟨t',rfl⟩:=ry;exact PySem.EqMixed.ne_bool_str (cy I q (by simp))
  |_=>exact absurd (show false=true from hs) bt
 |int i =>
  obtain⟨t,rfl⟩:=rx
  cases y with
  |jy=>cases ry;exact PySem.EqNone.ne_int_none (cy I q (by simp))
  |int j=>obtain⟨t',rfl⟩:=ry;exact ne_int (cy I q (congrArg not lG))
  |str j=>obtain⟨t',rfl⟩:=ry;exact PySem.EqMixed.ne_int_str (cy I q (by simp))
  |_=>exact absurd (show false=true from hs) bt
 |str i =>
  obtain⟨t,rfl⟩:=rx
  cases y with
  |jy=>cases ry;exact PySem.EqNone.ne_str_none (cy I q (by simp))
  |bl j=>cases ry;exact PySem.EqMixed.ne_str_bool (cy I q (by simp))
  |int j=>obtain⟨t',rfl⟩:=ry;exact PySem.EqMixed.ne_str_int (cy I q (by simp))
  |str j=>obtain⟨t',rfl⟩:=ry;exact ne_str (cy I q (congrArg not F2))
  |_=>exact absurd (show false=true from hs) bt
 |F5 i =>
  obtain⟨t,rfl⟩:=rx
  cases y with
  |F5 j=>obtain⟨t',rfl⟩:=ry;exact PySem.W.ne_bytes (cy I q (congrArg not F3))
  |_=>exact absurd (show false=true from hs) bt
 |_=>cases y<;>exact absurd (show false=true from hs) bt
theorem lN:vG X (compareOp .Lt) (N5 λi j=>.bl (decide (i<j))):=Ob λ_ _ _ _ _ _ _ q=>lt_int q
theorem Mt:vG X (compareOp .LtE) (N5 λi j=>.bl (decide (i<=j))):=Ob λ_ _ _ _ _ _ _ q=>le_int q
theorem wL:vG X (compareOp .Gt) (N5 λi j=>.bl (decide (j<i))):=Ob λ_ _ _ _ _ _ _ q=>gt_int q
theorem IL:vG X (compareOp .Is) (λx y H Q=>y= .jy/\Q (.bl (decide (x= .jy))) H):=by
 intro pins s σ H x y v u Q I rx ry h
 obtain⟨rfl,q⟩:=h
 cases ry
 refine is_none_gen (cy I q ?_)
 cases x<;>first
  |(cases rx;rfl)
  |(obtain⟨t,rfl⟩:=rx;rfl)
theorem aG(b:Expr){op:CmpOp}(h:op≠ .In:=by decide)(h2:op≠ .NotIn:=by decide):behindInMarks op b=false:=by
 have e1:(op==CmpOp.In)=false:=by cases op<;>first|rfl|exact absurd rfl h
 have e2:(op==CmpOp.NotIn)=false:=by cases op<;>first|rfl|exact absurd rfl h2
 cases b<;>simp[behindInMarks,e1,e2]
theorem b8{op:CmpOp}{r:R2}(ho:vG X (compareOp op) r)(ha:PE X a ta)(hb:PE X b tb)(hm:behindInMarks op b=false):PE X (.Compare a [op] [b] pos) (Te r ta tb):=by
 intro pins s σ H Q I h
 exact wpAny_Compare1 (Pw ha hb I h λv u s2 x y H2 I2 rx ry q=>ho pins s2 σ H2 x y v u Q I2 rx ry q) hm
noncomputable def Qp(t:TE):TT:=λσ H Q=>t σ H λx H'=>∃k,x= .bl k/\Q k H'
theorem aK{op:CmpOp}{r:R2}(ho:vG X (compareOp op) r)(ha:PE X a ta)(hb:PE X b tb)(hm:behindInMarks op b=false):PT X (.Compare a [op] [b] pos) (Qp (Te r ta tb)):=by
 intro pins s σ H Q I h
 refine wpAny_isTrue_Compare1 (gg (ha pins s σ H _ I h) λv s1 ⟨x,H1,I1,r1,q1⟩=>gg (hb pins s1 σ H1 _ I1 q1) λu s2 ⟨y,H2,I2,r2,q2⟩ =>
  gg (ho pins s2 σ H2 x y v u _ I2 r1 r2 q2) λc s3 ⟨z,H3,I3,r3,k,e,q3⟩=>?_) hm
 subst e
 cases r3
 exact js ⟨H3,I3,q3⟩
noncomputable def NV(r r':R2)(ta tb tc:TE):TE:=λσ H Q=>ta σ H λx H1=>tb σ H1 λy H2=>r x y H2 λz H3=>∃k,z= .bl k ∧
 (if k=true then tc σ H3 λw' H4=>r' y w' H4 Q else Q (.bl false) H3)
theorem II{op op':CmpOp}{r r':R2}(ho:vG X (compareOp op) r)(ho':vG X (compareOp op') r')(ha:PE X a ta)(hb:PE X b tb)(hc:PE X c tc)
  (hm:lastMarks [op,op'] [b,c]=false:=by with_unfolding_all rfl):PE X (.Compare a [op,op'] [b,c] pos) (NV r r' ta tb tc):=by
 intro pins s σ H Q I h
 refine Compare_chain (gg (ha pins s σ H _ I h) λv s1 ⟨x,H1,I1,r1,q1⟩=>chain_link (gg (hb pins s1 σ H1 _ I1 q1) λu s2 ⟨y,H2,I2,r2,q2⟩ =>
  gg (ho pins s2 σ H2 x y v u _ I2 r1 r2 q2) λd s3 ⟨z,H3,I3,r3,k,e,q3⟩=>?_)) hm
 subst e
 cases r3
 refine js ?_
 cases k with
 |false=>exact ite_ff ⟨.bl false,H3,I3,rfl,q3⟩
 |true=>exact ite_tt (chain_last (gg (hc pins s3 σ H3 _ I3 q3) λw' s4 ⟨z',H4,I4,r4,q4⟩=>ho' pins s4 σ H4 y z' u w' Q I4 r2 r4 q4))
theorem ur:(b_:Nat)<2 ^ 63:=by rw[sizeLine_eq];decide
theorem mZ:vG X (binaryOp .Add) (λx y H Q=>∃i j,x= .str i/\y= .str j/\i.length+j.length<=b_/\Q (.str (i++j)) H):=by
 intro pins s σ H x y v u Q I rx ry h
 obtain⟨i,j,rfl,rfl,hz,q⟩:=h
 obtain⟨t,rfl⟩:=rx
 obtain⟨t',rfl⟩:=ry
 exact TK.cH (ba _) (add_str (λt' tk hup=>⟨.str (i++j),H,I.tok _,⟨_,rfl⟩,q⟩) hz)
theorem vals1{x:V}{us:List a9}(r:Vals [x] us):∃u,us=[u]/\RelV x u:=by
 cases r with
 |cons r1 r2=>cases r2;exact⟨_,rfl,r1⟩
theorem vals2{x y:V}{us:List a9}(r:Vals [x,y] us):∃u w',us=[u,w']/\RelV x u/\RelV y w':=by
 cases r with
 |cons r1 r2 =>
  cases r2 with
  |cons r3 r4=>cases r4;exact⟨_,_,rfl,r1,r3⟩
theorem JZ:nU X (.builtin "abs") (λxs H Q=>∃i,xs=[.int i]/\Q (.int (if i<0 then -i else i)) H):=by
 intro pins s σ H xs us Q I r h
 obtain⟨i,rfl,q⟩:=h
 obtain⟨u,rfl,t,rfl⟩:=vals1 r
 exact TK.cH (ba _) (call_abs_int λu tk hup=>⟨.int (if i<0 then -i else i),H,I.tok _,⟨_,rfl⟩,q⟩)
theorem JY:nU X (.builtin "ord") (λxs H Q=>∃x,xs=[.str x]/\x.length=1/\Q (.int (x.cps.getD 0 0:Nat)) H):=by
 intro pins s σ H xs us Q I r h
 obtain⟨x,rfl,hz,q⟩:=h
 obtain⟨u,rfl,t,rfl⟩:=vals1 r
 exact ord_of_one hz ⟨.int _,H,I.tok _,⟨_,rfl⟩,q⟩
noncomputable def PC(K:PySem.W.Frag)(x:V)(H:Hp)(n:Nat):Prop :=
 match x with
 | .str y=>y.length<=b_/\n=y.length
 | .F5 y=>y.size<=b_/\n=y.size
 | .ref p=>(∃xs,cA K H p xs/\n=xs.length)\/∃xs,dD K H p xs/\n=xs.length
 |_=>False
theorem aR:nU X (.builtin "len") (λxs H Q=>∃x n,xs=[x]/\PC X.K x H n/\Q (.int n) H):=by
 intro pins s σ H xs us Q I r h
 obtain⟨x,n,rfl,e,q⟩:=h
 obtain⟨u,rfl,rx⟩:=vals1 r
 have hl:=ur
 have hs:b_=16777216:=sizeLine_eq
 cases x with
 |str y =>
  obtain⟨t,rfl⟩:=rx
  obtain⟨hy,e'⟩:y.length<=b_/\n=y.length:=e
  subst e'
  exact len_str (by omega) ⟨.int _,H,I.tok _,⟨_,rfl⟩,q⟩
 |F5 y =>
  obtain⟨t,rfl⟩:=rx
  obtain⟨hy,e'⟩:y.size<=b_/\n=y.size:=e
  subst e'
  exact PySem.W.len_bytes (by omega) ⟨.int _,H,I.tok _,⟨_,rfl⟩,q⟩
 |ref p =>
  cases rx
  have e':(∃xs,cA X.K H p xs/\n=xs.length)\/∃xs,dD X.K H p xs/\n=xs.length:=e
  rcases e' with⟨xs,hx,e'⟩|⟨xs,hx,e'⟩
  ·subst e'
   obtain⟨its,r',pl,hz⟩:=I.list hx
   have hlen:=r'.length
   exact Calls.call_len_list pl.isList (by simp only[dq];omega) ⟨.int xs.length,H,I.tok _,⟨_,by simp only[dq];rw[hlen]⟩,q⟩
  ·subst e'
   obtain⟨its,r',pl,hz⟩:=I.tuple hx
   have hlen:=r'.length
   exact len_tuple pl (by simp only[dq];omega) ⟨.int xs.length,H,I.tok _,⟨_,by simp only[dq];rw[hlen]⟩,q⟩
 |_=>exact(show False from e).elim
end
end
section
structure Hr(h:dC)(x dx C:a6)(mA:bv->Option a9):Prop where
 obj:h.get? x=some (PySem.W.instObj C dx)
 ns:h.Ns1 dx mA
 ne:dx≠x
theorem zd{h:dC}{dx:a6}{mA:bv->Option a9}(n:h.Ns1 dx mA):∃od,h.get? dx=some od/\∀name,PySem.W.lookIn name od=some (mA name):=by
 obtain⟨o,es,ep,ho,hd,hk,_,hm⟩:=n
 refine⟨o,ho,λname=>?_⟩
 have e:=hm name
 unfold nsFind findBy at e
 rw[←Array.find?_toList]at e
 unfold PySem.W.lookIn
 rw[hd]
 dsimp only
 split
 ·rename_i y q
  rw[q]at e
  exact congrArg some e
 ·rename_i q
  rw[q]at e
  have a:es.toList.any (·.refKey)=false:=by
   rw[List.any_eq_false]
   intro y hy
   obtain⟨z,t,hkey⟩:=hk y (Array.mem_toList_iff.mp hy)
   simp[DictEntry.refKey,hkey]
  have a':¬es.toList.any (·.refKey)=true:=by rw[a];exact bt
  rw[if_neg a']
  exact congrArg some e
theorem Hr.look{h:dC}{x dx C:a6}{mA:bv->Option a9}(I:Hr h x dx C mA):∃od,PySem.W.InstAt h x (PySem.W.instObj C dx) C (some od)/\∀name,PySem.W.lookIn name od=some (mA name) :=
 let ⟨od,ho,hl⟩:=zd I.ns
 ⟨od,⟨I.obj,rfl,rfl,ho⟩,hl⟩
section
variable{prog:bo}{w:df}{A:dL}{E:a9->bc->Prop}{s:bc}{K:PySem.W.Frag}{x dx C f:a6}{mA:bv->Option a9}{name:bv}{v:a9}
theorem get_map{expr:Bool}{Q:a9->bc->Prop}(X:K.In s.heap)(I:Hr s.heap x dx C mA)(hg:PySem.W.plainGet K C name=true)(hh:PySem.W.hasDictIn K C=true)
  (ha:PySem.W.findIn K (.ref C) name=some none) (hv:mA name=some v) (hv':PySem.W.handedIn v=true) (h:Q v { s with toks:=s.toks+1 }) :
  cf (model prog w) A (getAttr (.ref x) name expr) Q E s:=by
 obtain⟨od,J,hl⟩:=I.look
 exact PySem.W.get_value X J (PySem.W.plainGet_of hg).1 (PySem.W.findObj_own hh ha rfl (by rw[hl,hv])) hv' h
theorem K5{ns:List bv}{Q:Unit->bc->Prop}(X:K.In s.heap)(I:Hr s.heap x dx C mA)
  (hs:PySem.W.findIn K (.ref C) "__setattr__" =some (some (.builtin "object.__setattr__"))) (hp:PySem.W.plainOver K C=true) (ht:PySem.W.takerIn K C name=some none) (hh:PySem.W.hasDictIn K C=true)
  (hw:PySem.Within mA ns) (hsz:ns.length<=b_)
  (h:∀h',Hr h' x dx C (λy=>if y=name then some v else mA y)->l_ dx s.heap h'->Q () { s with heap:=h',toks:=s.toks+2 }) :
  cf (model prog w) A (setAttr (.ref x) name v) Q E s:=by
 obtain⟨od,J,hl⟩:=I.look
 refine PySem.W.set_plain X J hs (PySem.W.osa_open (s:={ s with toks:=s.toks+1 }) (r:=none) X J hp ht λb=>?_)
 obtain⟨cd,hc,hd'⟩:=PySem.W.any_some hh
 have hx:s.heap.get? x=some ⟨.ref C,some dx,.plain,#[]⟩:=I.obj
 refine a5 (bi (a5 (a5 (wpAny_loadPart hx (a5 (PySem.W.Looks.here (s:={ s with toks:=s.toks+1 }) (PySem.W.looks_clsIn X hc) ?_))))))
 rw[hd']
 refine bi (a:=some dx) (a5 (bi (a5 ?_)))
 refine wpAny_nsSet1 (s:={ s with toks:=s.toks+1 }) I.ns λh' hn2 hs2=>?_
 obtain⟨oD,esD,Zn,RZ,Sb,Sd⟩:=hn2.count (PySem.Within.cons name v hw)
 refine a5 (wpAny_lookBehind RZ (by rw[Sb];exact pastItsLine_dict (bn Sd (by rw[d_];omega))) ?_)
 exact bi (h _ ⟨(hs2.2 _ (Ne.symm I.ne)).trans I.obj,hn2,I.ne⟩ hs2)
theorem Ja{R:Result->bc->Prop}{vs:List a9}{kw:List (bv×a9)}(X:K.In s.heap)(hm:PySem.W.makesIn K C=true)
  (hi:PySem.W.findIn K (.ref C) "__init__" =some (some (.ref f))) (hf:PySem.W.typeIn K (.ref f)=some (.type "function"))
  (h:codeAny (model prog w) (A.under (.builtin "type.__call__" ⟨.ref C::vs,kw⟩)) (.call (.ref f) ⟨.ref (s.heap.objs.size+1)::vs,kw⟩) (PySem.W.InitBack (s.heap.objs.size+1) R)
   { s with heap:=(s.heap.push PySem.W.emptyDict).push (PySem.W.instObj C s.heap.objs.size) }) :
  codeAny (model prog w) A (.call (.ref C) ⟨vs,kw⟩) R s:=by
 obtain⟨hh,g,d,t,os⟩:=s
 exact PySem.W.make_core (PySem.W.makes_of X hm) (PySem.W.looks_findIn X hi) (λself=>PySem.W.bind_fn X self hf) (.inl rfl) h
end
noncomputable def aC(f:bv)(v:V):List (bv×V)->List (bv×V)
 |[]=>[(f,v)]
 |(g,x)::r=>if g=f then(g,v)::r else(g,x)::aC f v r
theorem av(f g:bv)(v:V):∀fs:List (bv×V),(aC f v fs).lookup g=if g=f then some v else fs.lookup g
 |[]=>by
  show hJ g [(f,v)]=_
  by_cases h:g=f
  ·have hb:(g==f)=true:=beq_iff_eq.mpr h
   simp only[hJ,hb,if_pos h]
  ·have hb:(g==f)=false:=beq_eq_false_iff_ne.mpr h
   simp only[hJ,hb,if_neg h]
 |(k,x)::r=>by
  have ih:=av f g v r
  rw[show aC f v ((k,x)::r)=(if k=f then(k,v)::r else(k,x)::aC f v r) from rfl]
  by_cases hk:k=f
  ·rw[if_pos hk]
   by_cases h:g=k
   ·have hb:(g==k)=true:=beq_iff_eq.mpr h
    simp only[hJ,hb,if_pos (h.trans hk)]
   ·have hb:(g==k)=false:=beq_eq_false_iff_ne.mpr h
    simp only[hJ,hb,if_neg (λe:g=f=>h (e.trans hk.symm))]
  ·rw[if_neg hk]
   by_cases h:g=k
   ·have hb:(g==k)=true:=beq_iff_eq.mpr h
    simp only[hJ,hb,if_neg (λe:g=f=>hk (h.symm.trans e))]
   ·have hb:(g==k)=false:=beq_eq_false_iff_ne.mpr h
    simp only[hJ,hb]
    exact ih
theorem oN(f:bv)(v:V):∀fs:List (bv×V),f∈(aC f v fs).map (·.1)/\∀g,g∈fs.map (·.1)->g∈(aC f v fs).map (·.1)
 |[]=>⟨by simp[aC],λg h=>by simp at h⟩
 |(k,x)::r=>by
  obtain⟨i1,i2⟩:=oN f v r
  rw[show aC f v ((k,x)::r)=(if k=f then(k,v)::r else(k,x)::aC f v r) from rfl]
  by_cases hk:k=f
  ·rw[if_pos hk]
   subst hk
   exact⟨by simp,λg h=>by simpa using h⟩
  ·rw[if_neg hk]
   refine⟨?_,λg h=>?_⟩
   ·rw[eJ]
    exact b0 _ i1
   ·rw[eJ]at h ⊢
    rcases cm.mp h with e|e
    ·exact cm.mpr (.inl e)
    ·exact b0 _ (i2 g e)
theorem qj(f:bv)(v:V):∀fs:List (bv×V),(aC f v fs).length<=fs.length+1
 |[]=>by simp[aC]
 |(k,x)::r=>by
  have ih:=qj f v r
  rw[show aC f v ((k,x)::r)=(if k=f then(k,v)::r else(k,x)::aC f v r) from rfl]
  by_cases hk:k=f
  ·rw[if_pos hk,d_,d_];omega
  ·rw[if_neg hk,d_,d_];omega
theorem ow.some_of{v:V}{o:Option a9}(r:ow (some v) o):∃u,o=some u/\RelV v u:=by
 cases o with
 |none=>exact(show False from r).elim
 |some u=>exact⟨u,rfl,r⟩
theorem GZ{v:V}{u:a9}(r:RelV v u):PySem.W.handedIn u=true:=by
 cases v with
 |jy=>cases (show u=Value.none from r);rfl
 |bl b=>cases (show u=Value.bool b from r);rfl
 |int i=>obtain⟨t,e⟩:=(show ∃t,u=Value.int i t from r);cases e;rfl
 |str x=>obtain⟨t,e⟩:=(show ∃t,u=Value.str x t from r);cases e;rfl
 |F5 b=>obtain⟨t,e⟩:=(show ∃t,u=Value.bytes b t from r);cases e;rfl
 |O3 b=>obtain⟨t,e⟩:=(show ∃t,u=Value.float b t from r);cases e;rfl
 |ref a=>cases (show u=Value.ref a from r);rfl
 |ty n=>cases (show u=Value.type n from r);rfl
section
variable{P:bo}{w:df}{H H':Hp}{h h':dC}{a C dx:a6}{fs fs':List (bv×V)}
theorem Ay(hok:oA P w H h)(e:H a=some (.ins C dx fs)):∃mA,Hr h a dx C mA/\(∀f,ow (fs.lookup f) (mA f))/\PySem.Within mA (fs.map (·.1))/\fs.length<=1000/\H dx=some (.own a):=by
 obtain⟨d,z,ne,ob,mA,n,r,q⟩:=(show bY P w H h a (.ins C dx fs) from hok a _ e)
 exact⟨mA,⟨ob,n,ne⟩,r,q,z,d⟩
end
structure Ma(K:PySem.W.Frag)(C:a6):Prop where
 pg:PySem.W.plainGet K C wn=true
 hd:PySem.W.hasDictIn K C=true
 po:PySem.W.plainOver K C=true
 sa:PySem.W.findIn K (.ref C) "__setattr__" =some (some (.builtin "object.__setattr__"))
theorem Ma.get{K:PySem.W.Frag}{C:a6}(c:Ma K C)(f:bv):PySem.W.plainGet K C f=true:=c.pg
noncomputable def bR(K:PySem.W.Frag)(C:a6)(f:bv):Prop:=PySem.W.findIn K (.ref C) f=some none
theorem bR.HY{K:PySem.W.Frag}{C:a6}{f:bv}(n:bR K C f):PySem.W.takerIn K C f=some none:=by
 unfold PySem.W.takerIn
 rw[show PySem.W.findIn K (.ref C) f=some none from n]
 rfl
section
variable{X:Cx}{pins:List (a6×lv)}{σ:St}{H:Hp}{s:bc}{a C dx:a6}{fs:List (bv×V)}{f:bv}{v:V}{A:dL}{E:a9->bc->Prop}
theorem Ey{b:Bool}{Q:a9->bc->Prop}(I:Inv X pins σ H s)(e:H a=some (.ins C dx fs))(c:Ma X.K C)(n:bR X.K C f)(l:fs.lookup f=some v)
  (h:∀u s',Inv X pins σ H s'->RelV v u->Q u s'):cf (model X.prog X.w) A (getAttr (.ref a) f b) Q E s:=by
 obtain⟨mA,O,r,_,_,_⟩:=Ay I.hok e
 obtain⟨u,hu,ru⟩:=ow.some_of (v:=v) (o:=mA f) (by rw[←l];exact r f)
 exact get_map I.rD O (c.get f) c.hd n hu (GZ ru) (h u _ (I.tok _) ru)
theorem DQ{y:V}{u:a9}{Q:Unit->bc->Prop}(I:Inv X pins σ H s)(e:H a=some (.ins C dx fs))(c:Ma X.K C)(n:bR X.K C f)(hl:fs.length<1000)(ry:RelV y u)
  (h:∀s',Inv X pins σ (upd H a (.ins C dx (aC f y fs))) s'->Q () s'):cf (model X.prog X.w) A (setAttr (.ref a) f u) Q E s:=by
 obtain⟨mA,O,r,wi,_,ho⟩:=Ay I.hok e
 have hz:(fs.map (·.1)).length<=b_:=by rw[a_,sizeLine_eq];omega
 refine K5 I.rD O c.sa c.po n.HY c.hd wi hz λh' O' sb=>h _ ?_
 have hd:∃o,h'.get? dx=some o:=let ⟨o,_,_,e',_⟩:=O'.ns;⟨o,e'⟩
 refine I.write (x:=a) (e:=dx) (by rw[e];exact True.intro) (.inr ho) (λb q hb z=>(sb.2 b hb).trans z) hd ?_
 refine⟨by rw[aq O.ne];exact ho,?_,O.ne,O'.obj,_,O'.ns,λg=>?_,λg hg=>?_⟩
 ·have:=qj f y fs;omega
 ·show ow ((aC f y fs).lookup g) (if g=f then some u else mA g)
  rw[av]
  by_cases q:g=f
  ·rw[if_pos q,if_pos q];exact ry
  ·rw[if_neg q,if_neg q];exact r g
 ·by_cases q:g=f
  ·rw[q];exact(oN f y fs).1
  ·refine(oN f y fs).2 g (wi g λz=>hg ?_)
   show(if g=f then some u else mA g)=none
   rw[if_neg q];exact z
theorem Inv.made(I:Inv X pins σ H s):Inv X pins σ (upd (upd H s.heap.objs.size (.own (s.heap.objs.size+1))) (s.heap.objs.size+1) (.ins C s.heap.objs.size []))
  { s with heap:=(s.heap.push PySem.W.emptyDict).push (PySem.W.instObj C s.heap.objs.size) }:=by
 have e1:(s.heap.push PySem.W.emptyDict).get? s.heap.objs.size=some PySem.W.emptyDict:=bp s.heap rfl
 have e2:((s.heap.push PySem.W.emptyDict).push (PySem.W.instObj C s.heap.objs.size)).get? (s.heap.objs.size+1)=some (PySem.W.instObj C s.heap.objs.size):=by
  have:=bp (s.heap.push PySem.W.emptyDict) (o:=PySem.W.instObj C s.heap.objs.size) rfl
  rwa [hV]at this
 have e3:(s.heap.push PySem.W.emptyDict).Ns s.heap.objs.size (λ_=>none):=⟨PySem.W.emptyDict,#[],_,e1,rfl,(λe he=>absurd he (by simp)),λ_=>rfl⟩
 have I1:=I.laid (a:=s.heap.objs.size) (o:=.own (s.heap.objs.size+1)) (h':=s.heap.push PySem.W.emptyDict) (t':=s.toks) (λb u q=>a8 _ q) (ba _) ⟨_,e1⟩
 refine I1.laid (a:=s.heap.objs.size+1) (o:=.ins C s.heap.objs.size []) (t':=s.toks) (λb u q=>a8 _ q) (Nat.le_of_eq (hV _ _)) ?_
 have ne:s.heap.objs.size≠s.heap.objs.size+1:=dy (ib _)
 refine⟨by rw[aq ne,ah],em _,ne,e2,λ_=>none,(Heap.Ns1.of_empty e3).at λo q=>a8 _ q,λ_=>True.intro,λy hy=>absurd rfl hy⟩
theorem L0{prog:bo}{w:df}{env:Env}{e:Expr}{f:bv}{pos:re}{s:bc}{Q:a9->bc->Prop}(hb:attributeBase e f env (eval e env)=eval e env)
  (h:cf (model prog w) A (eval e env) (λo s₁=>cf (model prog w) A (getAttr o f true) Q E s₁) E s):cf (model prog w) A (eval (.Attribute e f pos) env) Q E s :=
 Attribute_any_ h (by rw[arm_eval_Attribute,hb])
end
noncomputable def VL(K:PySem.W.Frag)(ta:TE)(f:bv):TE:=λσ H Q=>ta σ H λx H1=>∃a C dx fs v,x= .ref a/\H1 a=some (.ins C dx fs)/\Ma K C/\bR K C f/\fs.lookup f=some v/\Q v H1
noncomputable def VS(K:PySem.W.Frag)(ta tv:TE)(f:bv):TS:=λD σ H=>tv σ H λy H1=>ta σ H1 λx H2=>∃a C dx fs,x= .ref a/\H2 a=some (.ins C dx fs)/\Ma K C/\bR K C f/\fs.length<1000 ∧
 D.nx σ (upd H2 a (.ins C dx (aC f y fs)))
section
variable{X:Cx}{o e value:Expr}{f:bv}{pos pos' tpos:re}{ta tv:TE}
theorem cX(he:PE X e ta)(hb:attributeBase e f X.env (eval e X.env)=eval e X.env):PE X (.Attribute e f pos) (VL X.K ta f):=by
 intro pins s σ H Q I h
 refine L0 hb (gg (he pins s σ H _ I h) λu s1 ⟨x,H1,I1,rx,a,C,dx,fs,v,ex,ea,c,n,l,q⟩=>?_)
 subst ex
 obtain rfl:u=Value.ref a:=rx
 exact Ey I1 ea c n l λu' s2 I2 ru=>⟨v,H1,I2,ru,q⟩
theorem lT(ha:PE X o ta)(hv:PE X value tv)(hs:swapsWith value (some (.Attribute o f pos')) pos.line X.env=pure false):PS X (.Assign [.Attribute o f pos'] value pos) (VS X.K ta tv f):=by
 intro pins s σ H D I h
 refine plainObj_wpAny_Assign_Attribute (gg (hv pins s σ H _ I h) λu s1 ⟨y,H1,I1,ry,q⟩=>gg (ha pins s1 σ H1 _ I1 q) λov s2 ⟨x,H2,I2,rx,a,C,dx,fs,ex,ea,c,n,l,q2⟩=>?_) hs
 subst ex
 obtain rfl:ov=Value.ref a:=rx
 exact DQ I2 ea c n l ry λs3 I3=>⟨σ,_,I3,q2⟩
end
section
variable{X:Cx}{pins:List (a6×lv)}{σ:St}{H:Hp}{s:bc}{A:dL}{E:a9->bc->Prop}{Q:a9->bc->Prop}{c:a9}{b:Bool}
inductive tE(K:PySem.W.Frag)(H:Hp):V->a9->Prop where
 |jy:tE K H .jy (.type "NoneType")
 |bl (x:Bool):tE K H (.bl x) (.type "bool")
 |int (i:Int):tE K H (.int i) (.type "int")
 |str (x:bv):tE K H (.str x) (.type "str")
 |O3 (x:UInt64):tE K H (.O3 x) (.type "float")
 |lst {a:a6} {xs:List V} (e:H a=some (.lst xs)):tE K H (.ref a) (.type "list")
 |EC {a:a6} {o:lv} {xs:List V} (e:H a=some (.EC o (.lst xs))):tE K H (.ref a) (.type "list")
 |tup {a:a6} {xs:List V} (e:H a=some (.tup xs)):tE K H (.ref a) (.type "tuple")
 |dK {a:a6} {kvs:List (Key×V)} (e:H a=some (.dK kvs)):tE K H (.ref a) (.type "dict")
 |dT {a:a6} {kvs:List (List Key×V)} (e:H a=some (.dT kvs)):tE K H (.ref a) (.type "dict")
 |ins {a C dx:a6} {fs:List (bv×V)} (e:H a=some (.ins C dx fs)) (cl:Ma K C) (ha:PySem.W.findIn K (.ref C) "__class__" =some (some (.builtin "object.__class__")))
   (hn:PySem.W.specialIn K (.builtin "object.__class__") "__get__" =some (some (.builtin "getset_descriptor.__get__"))) (htk:PySem.W.takesIn K (.builtin "object.__class__")=some true)
   (hm:PySem.W.mroIn K C (.type "object")=some true):tE K H (.ref a) (.ref C)
theorem GU{x:V}{u t:a9}(I:Inv X pins σ H s)(rx:RelV x u)(ty:tE X.K H x t)(e:PySem.W.kitOne X.K t c=some b)(h:∀tk,Q (.bool b) { s with toks:=tk }):
  cf (model X.prog X.w) A (call (.builtin "isinstance") [u,c]) Q E s:=by
 cases ty with
 |jy=>cases (show u=Value.none from rx);exact PySem.W.kia_one PySem.W.kitx_none I.rD True.intro e (λz=>nomatch z) h
 |bl y=>cases (show u=Value.bool y from rx);exact PySem.W.kia_one PySem.W.kitx_bool I.rD True.intro e (λz=>nomatch z) h
 |int i=>obtain⟨t,q⟩:=(show ∃t,u=Value.int i t from rx);cases q;exact PySem.W.kia_one PySem.W.kitx_int I.rD True.intro e (λz=>nomatch z) h
 |str y=>obtain⟨t,q⟩:=(show ∃t,u=Value.str y t from rx);cases q;exact PySem.W.kia_one PySem.W.kitx_str I.rD True.intro e (λz=>nomatch z) h
 |O3 y=>obtain⟨t,q⟩:=(show ∃t,u=Value.float y t from rx);cases q;exact PySem.W.kia_one PySem.W.kitx_float I.rD True.intro e (λz=>nomatch z) h
 | @lst a xs ea =>
  cases (show u=Value.ref a from rx)
  obtain⟨_,_,n,_,h1⟩:=(show bY X.prog X.w H s.heap a (.lst xs) from I.hok a _ ea)
  exact PySem.W.kia_one PySem.W.kitx_list I.rD ⟨_,h1,rfl⟩ e (λz=>nomatch z) h
 | @EC a ob xs ea =>
  cases (show u=Value.ref a from rx)
  obtain⟨_,_,_,n,_,h1⟩:=(show bY X.prog X.w H s.heap a (.EC ob (.lst xs)) from I.hok a _ ea)
  exact PySem.W.kia_one PySem.W.kitx_list I.rD ⟨_,h1,rfl⟩ e (λz=>nomatch z) h
 | @tup a xs ea =>
  cases (show u=Value.ref a from rx)
  obtain⟨_,_,_,p⟩:=(show bY X.prog X.w H s.heap a (.tup xs) from I.hok a _ ea)
  obtain⟨o,h1,h2,_⟩:=p
  exact PySem.W.kia_one PySem.W.kitx_tuple I.rD ⟨o,h1,h2⟩ e (λz=>nomatch z) h
 | @dK a kvs ea =>
  cases (show u=Value.ref a from rx)
  obtain⟨_,_,vs,_,p⟩:=(show bY X.prog X.w H s.heap a (.dK kvs) from I.hok a _ ea)
  obtain⟨o,es,ep,h1,h2,_⟩:=p
  exact PySem.W.kia_one PySem.W.kitx_dict I.rD ⟨o,h1,h2.1⟩ e (λz=>nomatch z) h
 | @dT a kvs ea =>
  cases (show u=Value.ref a from rx)
  obtain⟨_,_,xs,_,o,es,ep,h1,h2,_⟩:=(show bY X.prog X.w H s.heap a (.dT kvs) from I.hok a _ ea)
  exact PySem.W.kia_one PySem.W.kitx_dict I.rD ⟨o,h1,h2.1⟩ e (λz=>nomatch z) h
 | @ins a C dx fs ea cl ha hn htk hm =>
  cases (show u=Value.ref a from rx)
  obtain⟨mA,O,_⟩:=Ay I.hok ea
  obtain⟨od,J,_⟩:=O.look
  exact PySem.W.kia_one (PySem.W.kitx_own (cl.get _) cl.hd ha hn htk hm) I.rD J e (λz=>nomatch z) h
end
end
section
structure jT(k:Nat)(A:dL):Prop where
 hd:A.handled=none
 dp:A.depth+3*k+5<recursionLimit
 un:A.units+16*k+200<cLine
theorem jT.mono{j k:Nat}{A:dL}(r:jT k A)(h:j<=k):jT j A:=⟨r.hd,by have:=r.dp;omega,by have:=r.un;omega⟩
theorem jT.deeper{k:Nat}{A:dL}(r:jT (k+1) A)(env:Env):jT k (A.deeper env) :=
 ⟨r.hd,by have:=r.dp;show A.depth+1+3*k+5<_;omega,by have:=r.un;show A.units+3+16*k+200<_;omega⟩
theorem Et{A:dL}{C:a6}{us:List a9}{kw:List (bv×a9)}:(A.under (.builtin "type.__call__" ⟨.ref C::us,kw⟩)).depth=A.depth+1:=by
 first|rfl|simp[Around.under,Code.weight,Code.isCreation,Code.isGuard,Code.isCaller,Code.frames,Code.isFrame,guardIds]
theorem Es{A:dL}{C:a6}{us:List a9}{kw:List (bv×a9)}:(A.under (.builtin "type.__call__" ⟨.ref C::us,kw⟩)).units=A.units+1:=by
 first|rfl|simp[Around.under,Code.cUnits,Code.frames,Code.isFrame]
theorem jT.make{k:Nat}{A:dL}(r:jT (k+1) A)(C:a6)(us:List a9)(kw:List (bv×a9)):jT k (A.under (.builtin "type.__call__" ⟨.ref C::us,kw⟩)) :=
 ⟨r.hd,by have:=r.dp;rw[Et];omega,by have:=r.un;rw[Es];omega⟩
theorem jT.depth{k:Nat}{A:dL}(r:jT k A):A.depth<recursionLimit:=by have:=r.dp;omega
theorem jT.units{k:Nat}{A:dL}(r:jT k A):A.units+64<cLine:=by have:=r.un;omega
noncomputable def VF:TA:=λ_ H Q=>Q [] H
noncomputable def QA(ta:TE)(tr:TA):TA:=λσ H Q=>ta σ H λx H1=>tr σ H1 λxs H2=>Q (x::xs) H2
section
variable{X:Cx}{e:Expr}{es:List Expr}{te:TE}{t:TA}{pos:re}
theorem af:PA X [] VF:=λ_ _ _ _ H Q I h=>Calls.spliced_nil ⟨[],H,I,.nil,h⟩
theorem aa(ha:PE X e te)(hr:PA X es t)(hs:eh (e::es) X.env=(false,eval e X.env)::eh es X.env:=by rfl):PA X (e::es) (QA te t):=by
 intro pos pins s σ H Q I h
 rw[hs]
 show cf _ _ (spliced ((false,eval e X.env)::backTo pos (eh es X.env))) _ _ s
 refine rh (gg (ha pins s σ H _ I h) λu s1 ⟨x,H1,I1,r1,q1⟩=>?_)
 exact gg (hr pos pins s1 σ H1 _ I1 q1) λus s2 ⟨xs,H2,I2,r2,q2⟩=>⟨x::xs,H2,I2,.cons r1 r2,q2⟩
noncomputable def Vz(t:TA):TE:=λσ H Q=>t σ H λxs H1=>xs.length<=b_/\∀p,H1 p=none->Q (.ref p) (upd H1 p (.tup xs))
noncomputable def VH(t:TA):TE:=λσ H Q=>t σ H λxs H1=>xs.length<=b_/\∀p,H1 p=none->Q (.ref p) (upd H1 p (.lst xs))
theorem bG{x1}(h:PA X es t):PE X (.Tuple es x1 pos) (Vz t):=by
 intro pins s σ H Q I hq
 refine wpAny_Tuple_spliced (gg (h pos pins s σ H _ I hq) λus s1 ⟨xs,H1,I1,r,z,q⟩=>⟨by rw[←r.length];exact z,?_⟩)
 have hf:H1 s1.heap.objs.size=none:=I1.hok.fresh (ba _)
 refine⟨.ref s1.heap.objs.size,upd H1 s1.heap.objs.size (.tup xs),I1.laid (t':=s1.toks) (λb u e=>a8 _ e) (ba _) ?_,rfl,q _ hf⟩
 exact⟨z,us,r,⟨_,bp _ rfl,rfl,_,rfl⟩⟩
theorem kD(h:PA X es t):PE X (.List es pos) (VH t):=by
 intro pins s σ H Q I hq
 refine wpAny_List_spliced (gg (h pos pins s σ H _ I hq) λus s1 ⟨xs,H1,I1,r,z,q⟩=>⟨by rw[←r.length];exact z,?_⟩)
 have hf:H1 s1.heap.objs.size=none:=I1.hok.fresh (ba _)
 refine⟨.ref s1.heap.objs.size,upd H1 s1.heap.objs.size (.lst xs),I1.laid (t':=s1.toks) (λb u e=>a8 _ e) (ba _) ?_,rfl,q _ hf⟩
 exact⟨z,us,0,r,bp _ rfl⟩
end
noncomputable abbrev Sp:=List V->Hp->VK->XK->Prop
noncomputable abbrev HH:=List Env->Hp->bc->XK->a9->bc->Prop
structure E4(P:bo)(w:df)(K:PySem.W.Frag)(mg:bv->Option a9)(base:dC)(A:dL)(outer:List Env)(s:bc)(H:Hp):Prop where
 frames:A.frames=some outer
 mod:Mod K mg base
 bs:∀b o,base.get? b=some o->s.heap.get? b=some o/\H b=none
 LZ:base.objs.size<=s.heap.objs.size
 uw:s.heap.FunFrames base outer
 O2:∀b∈frs outer,H b=none
 hok:oA P w H s.heap
 bare:AllBare s.gens
 tk:ER mg s.toks
noncomputable def CE(outer:List Env)(P:bo)(w:df)(H:Hp)(s:bc)(Q:VK)(u:a9)(s':bc):Prop :=
 ∃v H',s'.os=s.os/\AllBare s'.gens/\Un (frs outer) [] H H' s.heap s'.heap/\oA P w H' s'.heap/\RelV v u/\s.toks<=s'.toks/\Q v H'
noncomputable def CR(CX:HH)(outer:List Env)(P:bo)(w:df)(H:Hp)(s:bc)(Q:VK)(E:XK)(r:Result)(s':bc):Prop :=
 match r with
 | .ok (.ret u)=>CE outer P w H s Q u s'
 | .ok _=>False
 | .error e=>CX outer H s E e s'
structure aI(P:bo)(w:df)(K:PySem.W.Frag)(mg:bv->Option a9)(base:dC)(CX:HH)(k:Nat)(f:a6)(fd:db)(ps:List bv)(sp:Sp):Prop where
 len:∀vs H Q E,sp vs H Q E->vs.length=ps.length
 run:∀(A:dL) (outer:List Env) (s:bc) (H:Hp) (args:Args) (us:List a9) (vs:List V) (Q:VK) (E:XK),jT k A->E4 P w K mg base A outer s H->BindsTo s fd args (ps.zip us)->Vals vs us->sp vs H Q E →
  codeAny (model P w) A (.call (.ref f) args) (CR CX outer P w H s Q E) s
theorem E4.make{P:bo}{w:df}{K:PySem.W.Frag}{mg:bv->Option a9}{base:dC}{A:dL}{outer:List Env}{s:bc}{H:Hp}(e:E4 P w K mg base A outer s H)(C:a6)(us:List a9)(kw:List (bv×a9)):
  E4 P w K mg base (A.under (.builtin "type.__call__" ⟨.ref C::us,kw⟩)) outer s H:=⟨by first|exact e.frames|(simpa[Around.under,Code.envs,Code.isFrame,pushEnvs]using e.frames),e.mod,e.bs,e.LZ,e.uw,e.O2,e.hok,e.bare,e.tk⟩
section
variable{X:Cx}{pins:List (a6×lv)}{σ:St}{H:Hp}{s s':bc}
theorem Inv.O6(I:Inv X pins σ H s):E4 X.prog X.w X.K X.mg X.base X.A X.stack s H :=
 ⟨I.ok.frames,I.ok.mod,I.bs,bn I.ok.LZ I.sz,I.stack,I.zT,I.hok,I.bare,I.tk⟩
theorem Inv.after{Q:VK}{u:a9}(I:Inv X pins σ H s)(h:CE X.stack X.prog X.w H s Q u s'):EP X pins σ Q u s':=by
 obtain⟨v,H',os,bare,un,hok,r,tt,q⟩:=h
 obtain⟨hh,g,d,t,os'⟩:=s'
 obtain rfl:os'=s.os:=os
 exact⟨v,H',I.call (h':=hh) (g':=g) (d':=d) (t':=t) (ch:=[]) un hok bare (λb z=>absurd z (by simp)) (bn I.up tt),r,q⟩
end
noncomputable def QB(sp:Sp)(Dt:List V)(E:XK)(t:TA):TE:=λσ H Q=>t σ H λvs H1=>sp (vs++Dt) H1 Q E
noncomputable def Qx(C:a6)(sp:Sp)(Dt:List V)(E:XK)(t:TA):TE:=λσ H Q=>t σ H λvs H1=>∀x dx,H1 x=none->H1 dx=none->dx≠x →
 sp (.ref x::(vs++Dt)) (upd (upd H1 dx (.own x)) x (.ins C dx [])) (λv H2=>v= .jy/\Q (.ref x) H2) E
noncomputable def Binds(K:PySem.W.Frag)(fd:db)(ps:List bv)(ds:List a9):Prop :=
 ∀(s:bc) (us:List a9),K.In s.heap->(us++ds).length=ps.length->BindsTo s fd ⟨us,[]⟩ (ps.zip (us++ds))
theorem Binds.all{K:PySem.W.Frag}{fd:db}{ps:List bv}(h:∀us:List a9,us.length=ps.length->bindArgs fd ⟨us,[]⟩=pure (ps.zip us)):Binds K fd ps []:=λs us _ hl=>by
 rw[eP]at hl ⊢
 exact .of_eq (h us hl)
noncomputable def Passes(CX:HH)(X:Cx)(E:XK):Prop:=∀(pins:List (a6×lv)) (σ:St) (H:Hp) (s:bc) (e:a9) (s':bc),Inv X pins σ H s->CX X.stack H s E e s'->X.xe e s'
section
variable{X:Cx}{CX:HH}{k:Nat}{f C:a6}{fd:db}{ps:List bv}{sp:Sp}{Dt:List V}{ds:List a9}{E:XK}{x m:bv}{p pos apos:re}{e o:Expr}{es:List Expr}{ta:TE}{t:TA}
theorem N3{pins:List (a6×lv)}{σ:St}{H:Hp}{s:bc}{Q:VK}{us:List a9}{vs:List V}(F:aI X.prog X.w X.K X.mg X.base CX k f fd ps sp)(hr:jT k X.A)(hb:Binds X.K fd ps ds)(hd:Vals Dt ds)(hx:Passes CX X E)
  (I:Inv X pins σ H s) (r:Vals vs us) (h:sp (vs++Dt) H Q E):cf (model X.prog X.w) X.A (call (.ref f) us) (EP X pins σ Q) X.xe s:=by
 have r2:Vals (vs++Dt) (us++ds):=r.append hd
 have hl:(us++ds).length=ps.length:=by rw[←r2.length];exact F.len _ _ _ _ h
 refine wq (rk (F.run X.A X.stack s H ⟨us,[]⟩ (us++ds) (vs++Dt) Q E hr I.O6 (hb s us I.rD hl) r2 h) λr s' hq=>?_)
 cases r with
 |error e=>exact hx pins σ H s e s' I hq
 |ok fl =>
  cases fl with
  |ret u=>exact I.after hq
  |next=>exact km hq
  |brk=>exact km hq
  |cont=>exact km hq
theorem az(F:aI X.prog X.w X.K X.mg X.base CX k f fd ps sp)(hr:jT k X.A)(hg:Gl X x)(hm:X.mg x=some (.ref f))(hk:PySem.W.keepIn X.K (.ref f)=true)(hb:Binds X.K fd ps ds)(hd:Vals Dt ds)(hx:Passes CX X E)
  (ha:PA X (e::es) t) (hdb:(x==("__debug__" :bv))=false:=by decide) (he:eh (e::es) X.env=(false,eval e X.env)::eh es X.env:=by rfl) (hpl:(backTo pos (eh es X.env)).any (·.1)=false:=by rfl) :
  PE X (.Call (.Name x p) (e::es) [] pos) (QB sp Dt E t):=by
 intro pins s σ H Q I h
 refine mI (qP I hg hm ?_ hdb)
 refine PySem.W.callWith_K (h₀:=X.base) I.ok.mod.OA hk (gg (ha pos pins s σ H _ I h) λus s1 ⟨vs,H1,I1,r,q⟩=>⟨I1.rD,?_⟩) he hpl
 exact N3 F hr hb hd hx I1 r q
structure Mk(K:PySem.W.Frag)(C f:a6):Prop where
 makes:PySem.W.makesIn K C=true
 init:PySem.W.findIn K (.ref C) "__init__" =some (some (.ref f))
 fn:PySem.W.isFn K (.ref f)=true
 kp:PySem.W.keepIn K (.ref C)=true
theorem Iq{pins:List (a6×lv)}{σ:St}{H:Hp}{s:bc}{Q:VK}{us:List a9}{vs:List V}(M:Mk X.K C f)(F:aI X.prog X.w X.K X.mg X.base CX k f fd ps sp)(hr:jT (k+1) X.A)(hb:Binds X.K fd ps ds)(hd:Vals Dt ds)
  (hx:Passes CX X E) (I:Inv X pins σ H s) (r:Vals vs us)
  (h:∀x dx,H x=none->H dx=none->dx≠x->sp (.ref x::(vs++Dt)) (upd (upd H dx (.own x)) x (.ins C dx [])) (λv H2=>v= .jy/\Q (.ref x) H2) E) :
  cf (model X.prog X.w) X.A (call (.ref C) us) (EP X pins σ Q) X.xe s:=by
 have hq:=h (s.heap.objs.size+1) s.heap.objs.size (I.hok.fresh (gc _)) (I.hok.fresh (ba _)) (dy (ib _))
 have I2:=Inv.made (C:=C) I
 have r2:Vals (V.ref (s.heap.objs.size+1)::(vs++Dt)) (Value.ref (s.heap.objs.size+1)::(us++ds)):=.cons rfl (r.append hd)
 have hl:(Value.ref (s.heap.objs.size+1)::us++ds).length=ps.length:=by
  have e:=r2.length
  rw[F.len _ _ _ _ hq]at e
  exact e.symm
 refine wq (Ja (f:=f) I.rD M.makes M.init (beq_iff_eq.mp M.fn) (rk (F.run _ X.stack _ _ ⟨Value.ref (s.heap.objs.size+1)::us,[]⟩ (Value.ref (s.heap.objs.size+1)::(us++ds)) _ _ E (hr.make C us [])
  (I2.O6.make C us []) (hb _ (Value.ref (s.heap.objs.size+1)::us) I2.rD hl) r2 hq) λr s' hq'=>?_))
 cases r with
 |error e=>exact hx pins σ _ _ e s' I2 hq'
 |ok fl =>
  cases fl with
  |ret u =>
   obtain⟨v,H',I3,rv,ev,q3⟩:=I2.after hq'
   subst ev
   exact⟨rv,⟨V.ref (s.heap.objs.size+1),H',I3,rfl,q3⟩⟩
  |next=>exact km hq'
  |brk=>exact km hq'
  |cont=>exact km hq'
theorem Ac(M:Mk X.K C f)(F:aI X.prog X.w X.K X.mg X.base CX k f fd ps sp)(hr:jT (k+1) X.A)(hg:Gl X x)(hm:X.mg x=some (.ref C))(hb:Binds X.K fd ps ds)(hd:Vals Dt ds)(hx:Passes CX X E)
  (ha:PA X (e::es) t) (hdb:(x==("__debug__" :bv))=false:=by decide) (he:eh (e::es) X.env=(false,eval e X.env)::eh es X.env:=by rfl) (hpl:(backTo pos (eh es X.env)).any (·.1)=false:=by rfl) :
  PE X (.Call (.Name x p) (e::es) [] pos) (Qx C sp Dt E t):=by
 intro pins s σ H Q I h
 refine mI (qP I hg hm ?_ hdb)
 refine PySem.W.callWith_K (h₀:=X.base) I.ok.mod.OA M.kp (gg (ha pos pins s σ H _ I h) λus s1 ⟨vs,H1,I1,r,q⟩=>⟨I1.rD,?_⟩) he hpl
 exact Iq M F hr hb hd hx I1 r q
end
section
variable{X:Cx}{CX:HH}{k:Nat}{f C:a6}{fd:db}{ps ks:List bv}{sp:Sp}{E:XK}{x m:bv}{p pos apos kpos:re}{e o:Expr}{es:List Expr}{kws:List Keyword}{te ta:TE}{t tk:TA}{nm:Option bv}
variable{g:List a9->List a9->List a9}{gV:List V->List V->List V}
end
structure aE(N P:List bv)(sc:lL):Prop where
 kind:sc.kind= .function
 co:sc.isCoroutine=false
 gen:sc.isGenerator=false
 nd:N.Nodup
 pre:N.take P.length=P
 par:∀x∈P,sc.names.lookup x=some .local\/sc.names.lookup x=some .cell
 Og:∀y∈sc.names,y.2≠ .free
theorem zC{kindOf:bv->Option oP}{x:bv}:∀{binds:List (bv×a9)} {m:bv->Option a9},(∀v,(x,v)∉binds)->bindL kindOf binds m x=m x
 |[],_,_=>rfl
 |(n,v)::r,m,h=>by
  unfold bindL
  rw[zC λw hw=>h w (b0 _ hw)]
  split
  ·have:x≠n:=by rintro rfl;exact h v cw
   simp[this]
  ·rfl
theorem zE{kindOf:bv->Option oP}{x:bv}:∀{binds:List (bv×a9)} {m:bv->Option a9},(∀v,(x,v)∉binds)->bindC kindOf binds m x=m x
 |[],_,_=>rfl
 |(n,v)::r,m,h=>by
  unfold bindC
  rw[zE λw hw=>h w (b0 _ hw)]
  split
  ·rfl
  ·have:x≠n:=by rintro rfl;exact h v cw
   simp[this]
theorem zD{kindOf:bv->Option oP}{x:bv}{v:a9}:∀{P:List bv} {vs:List a9} {i:Nat} {m:bv->Option a9},P.Nodup->P[i]? =some x->vs[i]? =some v->kindOf x=some .local →
  bindL kindOf (P.zip vs) m x=some v
 |[],_,_,_,_,h,_,_=>by simp at h
 |_::_,[],_,_,_,_,h,_=>by simp at h
 |p::P,w::vs,0,m,nd,h1,h2,hk=>by
  simp at h1 h2;subst h1;subst h2
  show bindL kindOf ((p,w)::P.zip vs) m p=_
  unfold bindL
  rw[zC λv hv=>(vk.mp nd).1 (List.of_mem_zip hv).1,if_pos hk]
  simp
 |p::P,w::vs,i+1,m,nd,h1,h2,hk=>by
  show bindL kindOf ((p,w)::P.zip vs) m x=_
  unfold bindL
  exact zD (i:=i) (vk.mp nd).2 (by simpa using h1) (by simpa using h2) hk
theorem zF{kindOf:bv->Option oP}{x:bv}{v:a9}:∀{P:List bv} {vs:List a9} {i:Nat} {m:bv->Option a9},P.Nodup->P[i]? =some x->vs[i]? =some v->kindOf x≠some .local →
  bindC kindOf (P.zip vs) m x=some v
 |[],_,_,_,_,h,_,_=>by simp at h
 |_::_,[],_,_,_,_,h,_=>by simp at h
 |p::P,w::vs,0,m,nd,h1,h2,hk=>by
  simp at h1 h2;subst h1;subst h2
  show bindC kindOf ((p,w)::P.zip vs) m p=_
  unfold bindC
  rw[zE λv hv=>(vk.mp nd).1 (List.of_mem_zip hv).1,if_neg hk]
  simp
 |p::P,w::vs,i+1,m,nd,h1,h2,hk=>by
  show bindC kindOf ((p,w)::P.zip vs) m x=_
  unfold bindC
  exact zF (i:=i) (vk.mp nd).2 (by simpa using h1) (by simpa using h2) hk
noncomputable def start(N:List bv)(vs:List V):St:=vs.map some++vT (N.length-vs.length) none
noncomputable def uB(CX:HH)(P:bo)(w:df)(K:PySem.W.Frag)(mg:bv->Option a9)(base:dC)(N:List bv)(qual:bv)(scope:lL)(f:a6)(cd:a9)(A:dL)(outer:List Env)(s:bc)(H:Hp)(E:XK):Cx where
 prog:=P
 w:=w
 K:=K
 mg:=mg
 base:=base
 A:=A.deeper (envOfC qual scope s.heap.objs.size f cd)
 N:=N
 s₀:=s
 H₀:=H
 env:=envOfC qual scope s.heap.objs.size f cd
 outer:=outer
 stack:=envOfC qual scope s.heap.objs.size f cd::outer
 ex:=[]
 calm:=true
 fn:=λ_=>true
 pn:=[]
 xe:=λe s'=>cf (model P w) (A.deeper (envOfC qual scope s.heap.objs.size f cd)) (leaving (envOfC qual scope s.heap.objs.size f cd) e) (λ_ s''=>CX outer H s E e s'') (λe' s''=>CX outer H s E e' s'') s'
theorem CW{sc:lL}{n:Nat}{x:bv}(h:sc.names.lookup x=some .cell):∃c,(cellsFrom n sc.names []).lookup x=some c:=by
 have q:=PySem.W.cellsFrom_some sc.names n [] (.inl h)
 exact pi.mp q
theorem GV{CX:HH}{P:bo}{w:df}{K:PySem.W.Frag}{mg:bv->Option a9}{base:dC}{N ps:List bv}{qual:bv}{scope:lL}{f:a6}{cd:a9}{A:dL}{outer:List Env}{s s1:bc}{H:Hp}{E:XK}{us:List a9}{vs:List V}
  (S:aE N ps scope) (hd:A.handled=none) (e0:E4 P w K mg base A outer s H) (hl:vs.length=ps.length) (r:Vals vs us)
  (x:InCallC s s.heap.objs.size (bindL (envOfC qual scope s.heap.objs.size f cd).kindOf (ps.zip us) λ_=>none) (cellsFrom (s.heap.objs.size+1) scope.names []) (bindC (envOfC qual scope s.heap.objs.size f cd).kindOf (ps.zip us) λ_=>none) s1) (hup:s.toks<=s1.toks) :
  Inv (uB CX P w K mg base N qual scope f cd A outer s H E) [] (start N vs) H s1:=by
 have hpl:ps.length<=N.length:=by have:=congrArg List.length S.pre;rw[mx]at this;omega
 obtain⟨h1,tk,rfl,hk⟩:=x.done
 have htk:s.toks<=tk:=hup
 have Wc:∀b:a6,b∉(uB CX P w K mg base N qual scope f cd A outer s H E).ex:=λb z=>absurd (show b∈([]:List a6) from z) (by simp)
 refine⟨⟨e0.mod,S.kind,rfl,rfl,ba _,λy z c h1 h2=>?_,λy hy=>?_,λy c _ h=>?_,λ_=>hd,Around.frames_deeper e0.frames,.inr ⟨rfl,rfl⟩,λb z=>absurd z (Wc b),e0.bs,e0.LZ,λb _ _=>Wc b,λb z=>absurd z (Wc b),e0.uw,e0.O2,e0.tk⟩,
  rfl,e0.bare,Un.kept hk,⟨_,x.toInCall.ns,λi y v h1 h2 h3=>?_⟩,λy c h=>⟨_,x.cell y c h⟩,e0.hok.fresh (ba _),λy c h=>?_,λp hp=>absurd (show p∈([]:List (a6×lv)) from hp) (by simp),e0.hok.kept hk,?_,htk⟩
 ·exact name_of_addr x.apart (PySem.mem_of_lookup h1) (PySem.mem_of_lookup h2)
 ·have hy:scope.names.lookup y=some .cell\/scope.names.lookup y=some .free:=hy
  rcases hy with hy|hy
  ·exact CW hy
  ·exact absurd rfl (S.Og _ (PySem.mem_of_lookup hy))
 ·exact rg (x.above y c (PySem.mem_of_lookup h))
 ·have hi:i<vs.length:=by
   unfold start at h2
   by_cases hi:i<vs.length
   ·exact hi
   ·rw[mM (by simpa using hi)]at h2
    rw[pE]at h2
    split at h2<;>cases h2
  have ha:vs[i]? =some v:=by
   unfold start at h2
   rw[ot (by simpa using hi),cx]at h2
   cases e:vs[i]? with
   |none=>rw[e]at h2;cases h2
   |some a=>rw[e]at h2;cases h2;rfl
  obtain⟨u,hu,rv⟩:=r.get ha
  have hp:ps[i]? =some y:=by
   rw[←S.pre,List.getElem?_take_of_lt (by omega)];exact h1
  have Yq:ps.Nodup:=by rw[←S.pre];exact S.nd.sublist (List.take_sublist _ _)
  refine⟨u,rv,?_⟩
  rcases S.par y (cb hp)with k|k
  ·exact .inl ⟨k,zD Yq hp hu k⟩
  ·obtain⟨c,e⟩:=CW (n:=s.heap.objs.size+1) k
   refine .inr ⟨.inl k,c,e,?_⟩
   have q:=x.cell y c e
   rw[zF Yq hp hu (by show scope.names.lookup y≠_;rw[k];decide)]at q
   exact q
 ·exact e0.hok.fresh (rg (x.above y c (PySem.mem_of_lookup h)))
 ·unfold start
  show _=N.length
  rw[ce,a_,lw]
  omega
theorem JK{CX:HH}{P:bo}{w:df}{K:PySem.W.Frag}{mg:bv->Option a9}{base:dC}{k:Nat}{f:a6}{name qual:bv}{params:ui}{body:List gl}{scope:lL}{dV kV doc pm cdv ct oc:a9}{an od:Option a6}
  {osl:Array (Option a9)} {N ps:List bv} {sp:Sp} (lk:K.lookup f=some ⟨oc,od,.func (PySem.W.fnOf name qual params body scope dV kV doc pm an cdv ct),osl⟩) (hcd:PySem.W.codeIn K cdv qual=true) (S:aE N ps scope)
  (len:∀vs H Q E,sp vs H Q E->vs.length=ps.length)
  (hbody:∀(A:dL) (outer:List Env) (s:bc) (H:Hp) (vs:List V) (Q:VK) (E:XK),jT k (A.deeper (envOfC qual scope s.heap.objs.size f cdv))->sp vs H Q E →
   ∃t,Bt (uB CX P w K mg base N qual scope f cdv A outer s H E) body t/\t { nx:=λ_ H'=>Q .jy H',rt:=Q } (start N vs) H) :
  aI P w K mg base CX (k+1) f (PySem.W.fnOf name qual params body scope dV kV doc pm an cdv ct) ps sp:=by
 refine⟨len,λA outer s H args us vs Q E hr e0 hb r HE=>?_⟩
 have hl:=len _ _ _ _ HE
 have KX:K.In s.heap:=e0.mod.OA.keeps λb o e=>(e0.bs b o e).1
 have lim:s.heap.NoLimit:=e0.mod.nolimit.keeps λb o e=>(e0.bs b o e).1
 have hkind:∀y∈ps.zip us,scope.names.lookup y.1=some .local\/(scope.names.lookup y.1=some .cell/\((cellsFrom (s.heap.objs.size+1) scope.names []).lookup y.1).isSome=true):=λ⟨n,v⟩ hy=>by
  rcases S.par n (List.of_mem_zip hy).1 with q|q
  ·exact .inl q
  ·exact .inr ⟨q,PySem.W.cellsFrom_some _ _ _ (.inl q)⟩
 refine TK.EI (ba _) ?_
 refine codeAny_call_function hr.depth (KX _ _ lk) rfl S.co S.gen rfl (PySem.W.codeRec_of KX hcd) (hb _ _ _ _ ?_)
 refine TK.cH (ba _) (wpAny_newFunctionEnv_cells S.kind hkind λenv he s1 x hup=>?_)
 subst he
 refine⟨lim.keeps x.toInCall.keep,codeAny_func ?_⟩
 obtain⟨t,ht,hq⟩:=hbody A outer s H vs Q E (hr.deeper _) HE
 have I:Inv (uB CX P w K mg base N qual scope f cdv A outer s H E) [] (start N vs) H s1:=GV S hr.hd e0 hl r x hup
 refine gd (ht [] s1 (start N vs) H _ I hq) (λfl s' hs WI=>?_) λe s' hs=>gd hs (λ_ _ z _=>z) λ_ _ z _=>z
 have fin:∀{σ':St} {H':Hp} {v:V} {u:a9},Inv (uB CX P w K mg base N qual scope f cdv A outer s H E) [] σ' H' s'->RelV v u->Q v H'->CE outer P w H s Q u s' :=
  λ{σ' H' v u} J rv q=>⟨v,H',J.os,J.bare,J.base,J.hok,rv,WI,q⟩
 cases fl with
 |ret u =>
  obtain⟨v,σ',H',J,rv,q⟩:=hs
  exact fin J rv q
 |next =>
  obtain⟨σ',H',J,q⟩:=hs
  exact fin (v:=V.jy) (u:=Value.none) J rfl q
 |brk =>
  obtain⟨_,_,_,q⟩:=hs
  exact km q
 |cont =>
  obtain⟨_,_,_,q⟩:=hs
  exact km q
end
section
section
variable{X:Cx}{x:bv}{p pos:re}{e:Expr}{es:List Expr}{t:TA}{id T:String}{r:List V->Hp->VK->Prop}
noncomputable def X4(r:List V->Hp->VK->Prop)(t:TA):TE:=λσ H Q=>t σ H λvs H1=>r vs H1 Q
theorem aA (hc:nU X (.builtin id) r)(hg:Gl X x)(hm:X.mg x=none)(hv:bootBuiltins x=some (.builtin id))(ha:PA X (e::es) t)(hn:x≠ "__name__" :=by decide)(hdb:(x==("__debug__" :bv))=false:=by decide)
  (he:eh (e::es) X.env=(false,eval e X.env)::eh es X.env:=by rfl) (hpl:(backTo pos (eh es X.env)).any (·.1)=false:=by rfl):PE X (.Call (.Name x p) (e::es) [] pos) (X4 r t):=by
 intro pins s σ H Q I h
 refine mI (qk I hg hm hv ?_ hn hdb)
 exact PyProof.Rows.callWith_builtin1 (gg (ha pos pins s σ H _ I h) λus s1 ⟨vs,H1,I1,r1,q1⟩=>hc pins s1 σ H1 vs us Q I1 r1 q1) he hpl
theorem oM (hc:nU X (.type T) r)(hg:Gl X x)(hm:X.mg x=none)(hv:bootBuiltins x=some (.type T))(ha:PA X (e::es) t)(hn:x≠ "__name__" :=by decide)(hdb:(x==("__debug__" :bv))=false:=by decide)
  (he:eh (e::es) X.env=(false,eval e X.env)::eh es X.env:=by rfl) (hpl:(backTo pos (eh es X.env)).any (·.1)=false:=by rfl):PE X (.Call (.Name x p) (e::es) [] pos) (X4 r t):=by
 intro pins s σ H Q I h
 refine mI (qk I hg hm hv ?_ hn hdb)
 exact k_ (gg (ha pos pins s σ H _ I h) λus s1 ⟨vs,H1,I1,r1,q1⟩=>hc pins s1 σ H1 vs us Q I1 r1 q1) he hpl
end
end
end L2
namespace HT
open PySem PyProof.Rows
theorem Iu(A:dL)(s:bc)(a:Int)(t:wT)(c:Int)(u:wT)(prog:bo)(w:df)(E:a9->bc->Prop)(Q:a9->bc->Prop)(h:Q (.bool (decide (a<c))) s):
  cf (model prog w) A (richCompare .Lt (.int a t) (.int c u)) Q E s :=
 (PyProof.Rows.lt_int h:cf (model prog w) A (compareOp .Lt (.int a t) (.int c u)) Q E s)
section
open PySem.SeqAt
open PySem.AutoSeq1 (wpAny_loadPart')
open PySem.MeetsSeq PySem.MeetsSeq2 PySem.MeetsSeq3
end
section
variable{prog:bo}{w:df}{A:dL}{E:a9->bc->Prop}{s:bc}
end
end HT
namespace L2
open PySem PySem.Spec PyProof.Rows
section
section
variable{X:Cx}{e:Expr}{te:TE}{lo hi:Option Expr}{tl th:TO}{pos p2:re}
end
end
section
noncomputable def LD(n:Nat)(i:Int):Option Nat:=if 0<=i then(if i<n then some i.toNat else none)else if -(n:Int)<=i then some (i+n).toNat else none
noncomputable def G9{α:Type}(xs:List α)(i:Int):Option α:=(LD xs.length i).bind λj=>xs[j]?
theorem FO{n:Nat}{i:Int}{j:Nat}(h:LD n i=some j):seqIndex? i n=some j/\j<n/\ -(n:Int)<=i/\i<n:=by
 unfold LD at h
 by_cases h0:0<=i
 ·rw[if_pos h0]at h
  by_cases h1:i<n
  ·rw[if_pos h1]at h
   have e:i.toNat=j:=dn h
   exact⟨by rw[seqIndex_of h0 h1,e],by omega,by omega,h1⟩
  ·rw[if_neg h1]at h;cases h
 ·rw[if_neg h0]at h
  by_cases h1: -(n:Int)<=i
  ·rw[if_pos h1]at h
   have e:(i+n).toNat=j:=dn h
   exact⟨by rw[seqIndex_neg (by omega) h1,e],by omega,h1,by omega⟩
  ·rw[if_neg h1]at h;cases h
theorem AR{α:Type}{xs:List α}{i:Int}{v:α}(h:G9 xs i=some v):∃j,seqIndex? i xs.length=some j/\xs[j]? =some v/\j<xs.length/\ -(xs.length:Int)<=i/\i<xs.length:=by
 unfold G9 at h
 cases e:LD xs.length i with
 |none=>rw[e]at h;cases h
 |some j =>
  rw[e]at h
  obtain⟨h1,h2,h3,h4⟩:=FO e
  exact⟨j,h1,h,h2,h3,h4⟩
theorem gW{α:Type}{xs:List α}{j:Nat}{v:α}(h:xs[j]? =some v):G9 xs (j:Int)=some v:=by
 have hj:j<xs.length:=(bj.mp h).1
 have e:LD xs.length (j:Int)=some j:=by
  unfold LD
  rw[if_pos (by omega),if_pos (by omega)];simp
 unfold G9;rw[e];exact h
noncomputable def L6(b:Expr):Prop:=∀o i,subscripted b false o i=operate [o,i] (getItem o i)
noncomputable def SO(X:Cx)(r:R2):Prop :=
 ∀(value slice:Expr) (pins:List (a6×lv)) (s:bc) (σ:St) (H:Hp) (x y:V) (v u:a9) (Q:VK),Inv X pins σ H s->RelV x v->RelV y u->r x y H Q →
  subscripted slice false v u=operate [v,u] (getItem v u)->cf (model X.prog X.w) X.A (subscriptTail value slice v u) (EP X pins σ Q) X.xe s
noncomputable def XS(X:Cx)(id:String)(r:V->List V->Hp->VK->Prop):Prop :=
 ∀(pins:List (a6×lv)) (s:bc) (σ:St) (H:Hp) (x:V) (xs:List V) (v:a9) (us:List a9) (Q:VK),Inv X pins σ H s->RelV x v->Vals xs us->r x xs H Q →
  cf (model X.prog X.w) X.A (call (.builtin id) (v::us)) (EP X pins σ Q) X.xe s
section
variable{X:Cx}{a b:Expr}{ta tb:TE}{pos:re}
theorem bw{r:R2}(hr:SO X r)(ha:PE X a ta)(hb:PE X b tb)(hs:L6 b):PE X (.Subscript a b pos) (Te r ta tb):=by
 intro pins s σ H Q I h
 exact Subscript_ (Pw ha hb I h λv u s2 x y H2 I2 rx ry q=>hr a b pins s2 σ H2 x y v u Q I2 rx ry q (hs _ _))
noncomputable def VX(K:PySem.W.Frag):R2:=λx y H Q=>∃p xs i v,x= .ref p/\y= .int i/\cA K H p xs/\G9 xs i=some v/\Q v H
noncomputable def QT(K:PySem.W.Frag):R2:=λx y H Q=>∃p xs i v,x= .ref p/\y= .int i/\dD K H p xs/\G9 xs i=some v/\Q v H
noncomputable def VW:R2:=λx y H Q=>∃z i c,x= .str z/\y= .int i/\z.length<=b_/\G9 z.cps.toList i=some c/\Q (.str ⟨#[c]⟩) H
theorem dP:SO X (VX X.K):=by
 intro value slice pins s σ H x y v u Q I rx ry h hs
 obtain⟨p,xs,i,z,rfl,rfl,hq,he,q⟩:=h
 cases rx
 obtain⟨t,rfl⟩:=ry
 obtain⟨its,r,pl,hz⟩:=I.list hq
 obtain⟨j,h1,h2,h3,h4,h5⟩:=AR he
 obtain⟨w,ew,rw'⟩:=r.get h2
 have hl:=r.length
 have hn:=ur
 have fin:EP X pins σ Q w s:=⟨z,H,I,rw',q⟩
 by_cases h0:0<=i
 ·have hj:i.toNat=j:=by
   rw[seqIndex_of h0 h5]at h1
   exact dn h1
  exact item_listR pl.isList h0 (by omega) (by rw[hj];simpa using ew) fin hs
 ·have hj:(i+(its.toArray.size:Int)).toNat=j:=by
   rw[seqIndex_neg (by omega) h4]at h1
   rw[dq,←hl]
   exact dn h1
  exact r0 (x:=w) pl.isList.typeIs slot_list_getitem.lookup
   (wpAny_getItem_list_neg (Q:=λr s'=>r=w/\EP X pins σ Q r s') pl.isList (by omega) (by rw[dq]<;>omega) (by omega) (by rw[hj];simpa using ew) ⟨rfl,fin⟩) hs
theorem b7:SO X (QT X.K):=by
 intro value slice pins s σ H x y v u Q I rx ry h hs
 obtain⟨p,xs,i,z,rfl,rfl,hq,he,q⟩:=h
 cases rx
 obtain⟨t,rfl⟩:=ry
 obtain⟨its,r,pl,hz⟩:=I.tuple hq
 obtain⟨j,h1,h2,h3,h4,h5⟩:=AR he
 obtain⟨w,ew,rw'⟩:=r.get h2
 have hl:=r.length
 have hn:=ur
 have fin:EP X pins σ Q w s:=⟨z,H,I,rw',q⟩
 exact r0 (x:=w) pl.typeIs slot_tuple_getitem.lookup
  (getItem_tuple (j:=j) (Q:=λr s'=>r=w/\EP X pins σ Q r s') pl (by omega) (by omega) (by rw[dq,←hl];exact h1) (by simpa using ew) ⟨rfl,fin⟩) hs
theorem uu:SO X VW:=by
 intro value slice pins s σ H x y v u Q I rx ry h hs
 obtain⟨z,i,c,rfl,rfl,hz,he,q⟩:=h
 obtain⟨t,rfl⟩:=rx
 obtain⟨t',rfl⟩:=ry
 obtain⟨j,h1,h2,h3,h4,h5⟩:=AR he
 have hl:z.cps.toList.length=z.length:=by simp[Str.length]
 rw[hl]at h1 h4 h5
 have hn:=ur
 exact tail_any (typeIs_str s z t) slot_str_getitem.lookup (getItem_str (c:=c) (by
  have e1:decide (i< -(2 ^ 63:Int))=false:=decide_eq_false (by omega)
  have e2:decide (i>=2 ^ 63)=false:=decide_eq_false (by omega)
  rw[e1,e2,Bool.or_false]) (by rw[h1];simpa using h2) ⟨.str ⟨#[c]⟩,H,I.tok _,⟨_,rfl⟩,q⟩) hs
theorem Er(its:List a9)(n j:Nat)(u:a9):wt (·.setIfInBounds j u) { cls:=.type "list",data:=.seq its.toArray n }={ cls:=.type "list",data:=.seq (its.set j u).toArray n }:=by
 simp[wt]
theorem Inv.lst{pins:List (a6×lv)}{σ:St}{H:Hp}{s:bc}{p:a6}{xs:List V}(I:Inv X pins σ H s)(h:H p=some (.lst xs)):
  ∃(its:List a9) (n:Nat),Vals xs its/\s.heap.get? p=some { cls:=.type "list",data:=.seq its.toArray n }/\xs.length<=b_:=by
 obtain⟨z,its,n,r,e⟩:=I.hok p _ h
 exact⟨its,n,r,e,z⟩
theorem Inv.Om{pins:List (a6×lv)}{σ:St}{H:Hp}{s:bc}{p:a6}{xs ys:List V}{its its':List a9}{n n':Nat}{f:lv->lv}(I:Inv X pins σ H s)(h:H p=some (.lst xs))
  (ho:s.heap.get? p=some { cls:=.type "list",data:=.seq its.toArray n }) (hf:f { cls:=.type "list",data:=.seq its.toArray n }={ cls:=.type "list",data:=.seq its'.toArray n' }) (r:Vals ys its') (hz:ys.length<=b_) (t:Nat) (ht:s.toks<=t:=by first|exact ba _|exact gc _|assumption|omega) :
  Inv X pins σ (upd H p (.lst ys)) { s with heap:=s.heap.update p f,toks:=t }:=by
 have e:(s.heap.update p f).get? p=some { cls:=.type "list",data:=.seq its'.toArray n' }:=by
  rw[f_ f ho (by rw[hf]<;>rfl),hf]
 refine I.write (x:=p) (e:=p) (by rw[h];trivial) (.inl rfl) (λb u hb q=>(fw _ _ (Ne.symm hb)).trans q) ⟨_,e⟩ ?_
 exact⟨hz,its',n',r,e⟩
noncomputable def QS:V->V->V->Hp->(Hp->Prop)->Prop:=λo i v H Q=>∃p xs k j,o= .ref p/\i= .int k/\H p=some (.lst xs)/\LD xs.length k=some j/\Q (upd H p (.lst (xs.set j v)))
theorem set_list:SH X QS:=by
 intro pins s σ H o i v ov iv u Q I ro ri rv h
 obtain⟨p,xs,k,j,rfl,rfl,hp,hj,q⟩:=h
 cases ro
 obtain⟨t,rfl⟩:=ri
 obtain⟨its,n,r,ho,hz⟩:=I.lst hp
 obtain⟨h1,h2,h3,h4⟩:=FO hj
 have hl:=r.length
 have hn:=ur
 have I':Inv X pins σ (upd H p (.lst (xs.set j v))) { s with heap:=s.heap.update p (wt (·.setIfInBounds j u)) } :=
  I.Om hp ho (Er its n j u) (r.set rv j) (by rw[si];exact hz) s.toks
 by_cases h0:0<=k
 ·have hk:k.toNat=j:=by
   rw[seqIndex_of h0 h4]at h1
   exact dn h1
  exact PySem.W.ki_setAt ho h0 (by omega) (by rw[dq,←hl];exact h4) (by rw[hk];exact⟨_,I',q⟩)
 ·have hk:(k+(its.toArray.size:Int)).toNat=j:=by
   rw[seqIndex_neg (by omega) h3]at h1
   rw[dq,←hl]
   exact dn h1
  exact PySem.W.ki_setBack ho (by omega) (by rw[dq,←hl];exact h3) (by omega) (by rw[hk];exact⟨_,I',q⟩)
noncomputable def uS:V->Bool
 | .jy=>true
 | .bl _=>true
 | .int _=>true
 | .str _=>true
 |_=>false
noncomputable def LW:V->V->Bool
 | .jy,.jy=>true
 | .bl a,.bl b=>a==b
 | .bl a,.int b=>(if a then 1 else 0)==b
 | .int a,.bl b=>a==(if b then 1 else 0)
 | .int a,.int b=>a==b
 | .str a,.str b=>a==b
 |_,_=>false
theorem O5{A:dL}{s:bc}{y x:V}{u v:a9}(ry:RelV y u)(rx:RelV x v)(fy:uS y=true)(fx:uS x=true):SeqAt.EqAt A s u v (LW y x):=by
 cases y with
 |jy =>
  cases ry
  cases x with
  |jy=>cases rx;exact SeqAt.EqAt.same _
  |bl b=>cases rx;exact SeqAt.EqAt.none_bool b
  |int b=>obtain⟨t,rfl⟩:=rx;exact SeqAt.EqAt.none_int b t
  |str b=>obtain⟨t,rfl⟩:=rx;exact SeqAt.EqAt.none_str b t
  |_=>exact absurd (show false=true from fx) bt
 |bl a =>
  cases ry
  cases x with
  |jy=>cases rx;exact SeqAt.EqAt.bool_none a
  |bl b=>cases rx;exact SeqAt.EqAt.bool_bool a b
  |int b=>obtain⟨t,rfl⟩:=rx;exact SeqAt.EqAt.bool_int a b t
  |str b=>obtain⟨t,rfl⟩:=rx;exact SeqAt.EqAt.bool_str a b t
  |_=>exact absurd (show false=true from fx) bt
 |int a =>
  obtain⟨t',rfl⟩:=ry
  cases x with
  |jy=>cases rx;exact SeqAt.EqAt.int_none a t'
  |bl b=>cases rx;exact SeqAt.EqAt.int_bool a t' b
  |int b=>obtain⟨t,rfl⟩:=rx;exact SeqAt.EqAt.int_int a t' b t
  |str b=>obtain⟨t,rfl⟩:=rx;exact SeqAt.EqAt.int_str a t' b t
  |_=>exact absurd (show false=true from fx) bt
 |str a =>
  obtain⟨t',rfl⟩:=ry
  cases x with
  |jy=>cases rx;exact SeqAt.EqAt.str_none a t'
  |bl b=>cases rx;exact SeqAt.EqAt.str_bool a t' b
  |int b=>obtain⟨t,rfl⟩:=rx;exact SeqAt.EqAt.str_int a t' b t
  |str b=>obtain⟨t,rfl⟩:=rx;exact SeqAt.EqAt.str_str a t' b t
  |_=>exact absurd (show false=true from fx) bt
 |_=>exact absurd (show false=true from fy) bt
noncomputable def LX(x:V)(u:a9):Bool:=match u with
 | .none=>LW .jy x
 | .bool b=>LW (.bl b) x
 | .int i _=>LW (.int i) x
 | .str z _=>LW (.str z) x
 |_=>false
theorem JO{x y:V}{u:a9}(r:RelV y u)(f:uS y=true):LX x u=LW y x:=by
 cases y with
 |jy=>cases r;rfl
 |bl b=>cases r;rfl
 |int i=>obtain⟨t,rfl⟩:=r;rfl
 |str z=>obtain⟨t,rfl⟩:=r;rfl
 |_=>exact absurd (show false=true from f) bt
theorem AS{x:V}:∀{xs:List V} {us:List a9},Vals xs us->xs.all uS=true->us.any (LX x)=xs.any λy=>LW y x
 |_,_,.nil,_=>rfl
 |y::xs,u::us,.cons r t,f=>by
  rw[List.all_cons,ii]at f
  rw[ul,ul,JO r f.1,AS t f.2]
theorem w9{A:dL}{s:bc}{x:V}{v:a9}(rx:RelV x v)(fx:uS x=true):∀{xs:List V} {us:List a9},Vals xs us->xs.all uS=true->∀u∈us,SeqAt.EqAt A s u v (LX x u)
 |_,_,.nil,_=>λu hu=>by cases hu
 |y::xs,u::us,.cons r t,f=>λu' hu=>by
  rw[List.all_cons,ii]at f
  rcases cm.mp hu with rfl|hu
  ·rw[JO r f.1];exact O5 r rx f.1 fx
  ·exact w9 rx fx t f.2 u' hu
noncomputable def LF(x:V)(xs:List V):Bool:=xs.any λy=>LW y x
noncomputable def ZL(K:PySem.W.Frag)(neg:Bool):R2:=λx y H Q=>∃p xs,y= .ref p/\(cA K H p xs\/dD K H p xs)/\uS x=true/\xs.all uS=true/\Q (.bl (if neg then !LF x xs else LF x xs)) H
theorem sL:vG X (compareOp .NotIn) (ZL X.K true):=by
 intro pins s σ H x y v u Q I rx ry h
 obtain⟨p,xs,rfl,hq,fx,fs,q⟩:=h
 cases ry
 rcases hq with hq|hq
 ·obtain⟨its,r,pl,hz⟩:=I.list hq
  refine SeqAt.notIn_listAt (LX x) pl.isList (λw hw=>w9 rx fx r fs w (by simpa using hw)) ⟨.bl _,H,I,rfl,?_⟩
  rw[show its.toArray.any (LX x)=its.any (LX x) by simp,AS r fs]
  exact q
 ·obtain⟨its,r,pl,hz⟩:=I.tuple hq
  refine SeqAt.notIn_tupleAt (LX x) pl (λw hw=>w9 rx fx r fs w (by simpa using hw)) ⟨.bl _,H,I,rfl,?_⟩
  rw[show its.toArray.any (LX x)=its.any (LX x) by simp,AS r fs]
  exact q
theorem Af:vG X (compareOp .NotIn) (λx y H Q=>∃i j,x= .str i/\y= .str j/\Q (.bl (!(!(Builtin.Str.occurrences j i 0 j.length 1).isEmpty))) H):=by
 intro pins s σ H x y v u Q I rx ry h
 obtain⟨i,j,rfl,rfl,q⟩:=h
 obtain⟨t,rfl⟩:=rx
 obtain⟨t',rfl⟩:=ry
 exact notIn_str ⟨.bl _,H,I,rfl,q⟩
theorem AL:nU X (.builtin "len") (λxs H Q=>∃z,xs=[.str z]/\z.length<=b_/\Q (.int z.length) H):=by
 intro pins s σ H xs us Q I r h
 obtain⟨z,rfl,hz,q⟩:=h
 obtain⟨u,rfl,t,rfl⟩:=vals1 r
 have hn:=ur
 exact len_str (by omega) ⟨.int z.length,H,I.tok _,⟨_,rfl⟩,q⟩
theorem rF:nU X (.type "tuple") (λxs H Q=>∃p ys,xs=[.ref p]/\((cA X.K H p ys/\∀l,H l=none->Q (.ref l) (upd H l (.tup ys)))\/(dD X.K H p ys/\Q (.ref p) H))):=by
 intro pins s σ H xs us Q I r h
 obtain⟨p,ys,rfl,h⟩:=h
 obtain⟨u,rfl,rx⟩:=vals1 r
 cases rx
 rcases h with⟨hq,q⟩|⟨hq,q⟩
 ·obtain⟨its,r',pl,hz⟩:=I.list hq
  have hlen:=r'.length
  refine call_tuple_list pl.isList (λh' kp=>?_) (by simp only[dq]<;>omega)
  have I1:Inv X pins σ H { s with heap:=h' }:=I.kept (t':=s.toks) kp
  have I2:Inv X pins σ (upd H h'.objs.size (.tup ys)) { s with heap:=h'.push { cls:=.type "tuple",data:=.seq its.toArray } } :=
   I1.laid (t':=s.toks) (λb o e=>a8 _ e) (ba _) (show bY X.prog X.w _ _ _ (.tup ys) from⟨hz,its,r',IsTup.new _ _⟩)
  exact⟨.ref h'.objs.size,_,I2,rfl,q _ (I1.hok.fresh (ba _))⟩
 ·obtain⟨its,r',pl,hz⟩:=I.tuple hq
  exact call_tuple_same pl ⟨.ref p,H,I,rfl,q⟩
noncomputable def X3(K:PySem.W.Frag)(T:String)(x:V)(H:Hp):Prop:=match x with
 | .str _=>T= "str"
 | .int _=>T= "int"
 | .ref p=>(T= "list" /\∃xs,cA K H p xs)\/(T= "tuple" /\∃o,K.lookup p=some o/\o.cls= .type "tuple" /\o.dict=none) ∨
   (T= "dict" /\((∃kvs,H p=some (.dK kvs))\/∃kvs,H p=some (.dT kvs)))\/(T= "set" /\∃S n,H p=some (.set S n))
 |_=>False
theorem HV{pins:List (a6×lv)}{σ:St}{H:Hp}{s:bc}{T:String}{x:V}{v:a9}(I:Inv X pins σ H s)(r:RelV x v)(ty:X3 X.K T x H):
  s.TypeIs v T/\∀a,v= .ref a->∃ob,s.heap.get? a=some ob/\ob.dict=none:=by
 cases x with
 |str z =>
  obtain⟨t,rfl⟩:=r
  cases (show T= "str" from ty)
  exact⟨typeIs_str s z t,λ_ e=>nomatch e⟩
 |int i =>
  obtain⟨t,rfl⟩:=r
  cases (show T= "int" from ty)
  exact⟨typeIs_int s i t,λ_ e=>nomatch e⟩
 |ref p =>
  cases r
  rcases ty with⟨rfl,xs,hq⟩|⟨rfl,o,hk,hc,hd⟩|⟨rfl,hk⟩|⟨rfl,S,n,hk⟩
  ·obtain⟨its,_,pl,_⟩:=I.list hq
   refine⟨pl.isList.typeIs,λa e=>?_⟩
   cases e
   obtain⟨o,n,e,c,hd,_⟩:=pl
   exact⟨o,e,hd⟩
  ·refine⟨⟨o,I.rD p o hk,hc⟩,λa e=>?_⟩
   cases e
   exact⟨o,I.rD _ o hk,hd⟩
  ·have z:∃o,s.heap.get? p=some o/\o.ExactDict:=by
    rcases hk with⟨kvs,hk⟩|⟨kvs,hk⟩
    ·obtain⟨_,_,_,_,o,_,_,e,ex,_⟩:=I.hok p _ hk
     exact⟨o,e,ex⟩
    ·obtain⟨_,_,_,_,o,_,_,e,ex,_⟩:=I.hok p _ hk
     exact⟨o,e,ex⟩
   obtain⟨o,e,ex⟩:=z
   refine⟨⟨o,e,ex.1⟩,λa e2=>?_⟩
   cases e2
   exact⟨o,e,ex.2.1⟩
  ·obtain⟨o,_,_,_,e,ex,_⟩:=I.hok p _ hk
   refine⟨⟨o,e,ex.1⟩,λa e2=>?_⟩
   cases e2
   exact⟨o,e,ex.2.1⟩
 |_=>exact km ty
noncomputable def ZF(K:PySem.W.Frag)(T:String)(r:V->List V->Hp->VK->Prop)(to:TE)(t:TA):TE:=λσ H Q=>to σ H λx H1=>X3 K T x H1/\t σ H1 λxs H2=>r x xs H2 Q
variable{o e:Expr}{es:List Expr}{to:TE}{t:TA}{name:bv}{apos cpos:re}{T id:String}{r:V->List V->Hp->VK->Prop}
theorem nN (pa:PlainAttrs T)(slot:Slot T name id)(hty:typeOf (.builtin id)=pure (.type "method_descriptor"))(hm:XS X id r)(ho:PE X o to)(ha:PA X (e::es) t)
  (hbase:attributeBase o name X.env (eval o X.env)=eval o X.env:=by rfl)
  (hfew:((backTo cpos (eh (e::es) X.env)).all (λx=>!x.1)&&(backToKw cpos (keywordEach [] X.env)).all (λx=>x.1.isSome)
   && decide ((e::es).length+([]:List Keyword).length+(if([]:List Keyword).isEmpty then 0 else 1)<30))=true:=by rfl)
  (hline:(apos.endLine==cpos.line)=true:=by rfl) (hs:eh (e::es) X.env=(false,eval e X.env)::eh es X.env:=by rfl) (hplain:(backTo cpos (eh es X.env)).any (·.1)=false:=by rfl) :
  PE X (.Call (.Attribute o name apos) (e::es) [] cpos) (ZF X.K T r to t):=by
 intro pins s σ H Q I h
 refine wpAny_Call_method_late hbase hfew hline rfl (gg (ho pins s σ H _ I h) λv s1 ⟨x,H1,I1,r1,ty,q1⟩=>?_)
 obtain⟨h1,h2⟩:=HV I1 r1 ty
 refine⟨T,id,pa,slot,hty,h1,h2,?_⟩
 have hA:=ha cpos pins s1 σ H1 _ I1 q1
 rw[hs]at hA ⊢
 refine Calls.callWith_builtin (by show(false||(backTo cpos (eh es X.env)).any (·.1))=false;rw[hplain]<;>rfl) (tI ?_)
 exact gg hA λus s2 ⟨vs,H2,I2,r2,q2⟩=>hm pins s2 σ H2 x vs v us Q I2 r1 r2 q2
end
end
section
noncomputable def Zu(X:Cx)(id:String)(r:V->List V->Hp->VK->Prop):Prop :=
 ∀(pins:List (a6×lv)) (s:bc) (σ:St) (H:Hp) (x:V) (xs:List V) (v:a9) (us:List a9) (Q:VK),Inv X pins σ H s->RelV x v->Vals xs us->r x xs H Q →
  cf (model X.prog X.w) X.A (call (.builtin id) (v::us)) (EP X pins σ Q) X.xe s
theorem Vals.one:∀{x:V} {us:List a9},Vals [x] us->∃u,us=[u]/\RelV x u
 |_,_,.cons r .nil=>⟨_,rfl,r⟩
section
variable{X:Cx}{pins:List (a6×lv)}{σ:St}{H:Hp}{s:bc}{l b:a6}{xs ys zs:List V}
theorem Inv.Q7{its its':List a9}{n:Nat}{f:Array a9->Array a9}{t':Nat}(I:Inv X pins σ H s)(hH:H l=some (.lst xs))
  (e:s.heap.get? l=some { cls:=.type "list",data:=.seq its.toArray n }) (hf:f its.toArray=its'.toArray) (hv:Vals ys its') (hz:ys.length<=b_) (ht:s.toks<=t':=by first|exact ba _|exact gc _|assumption|omega) :
  Inv X pins σ (upd H l (.lst ys)) { s with heap:=s.heap.update l (wt f),toks:=t' }:=by
 have q:=PySem.IsL.update e f
 rw[hf]at q
 refine I.write (x:=l) (e:=l) (by rw[hH];exact trivial) (.inl rfl) (λb' u hb hu=>(fw s.heap (wt f) (Ne.symm hb)).trans hu) ⟨_,q⟩ ?_
 exact⟨hz,its',_,hv,q⟩
theorem Inv.Wk{its:List a9}{t':Nat}(I:Inv X pins σ H s)(hv:Vals ys its)(hz:ys.length<=b_)(ht:s.toks<=t':=by first|exact ba _|exact gc _|assumption|omega):
  Inv X pins σ (upd H s.heap.objs.size (.lst ys)) { s with heap:=s.heap.push { cls:=.type "list",data:=.seq its.toArray },toks:=t' } :=
 I.laid (λ_ _ q=>a8 _ q) (ba _) ⟨hz,its,0,hv,bp _ rfl⟩
theorem Inv.fresh(I:Inv X pins σ H s):H s.heap.objs.size=none:=I.hok.fresh (ba _)
theorem Inv.Oo(I:Inv X pins σ H s)(hH:H l=some (.lst xs)):xs.length<=b_/\∃(its:List a9) (n:Nat),Vals xs its/\xs.length=its.length/\s.heap.get? l=some { cls:=.type "list",data:=.seq its.toArray n }:=by
 obtain⟨z,its,n,r,e⟩:=I.hok l _ hH
 exact⟨z,its,n,r,r.length,e⟩
theorem IT{n:Nat}(h:n<=b_):ut n=false:=by
 unfold ut
 exact decide_eq_false (by omega)
end
section
variable{X:Cx}
noncomputable def La:V->List V->Hp->VK->Prop:=λx vs H Q=>∃l xs y,x= .ref l/\vs=[y]/\H l=some (.lst xs)/\xs.length<b_/\Q .jy (upd H l (.lst (xs++[y])))
theorem iU:Zu X "list.append" La:=by
 intro pins s σ H x vs v us Q I rx rv h
 obtain⟨l,xs,y,rfl,rfl,hH,hz,q⟩:=h
 cases rx
 obtain⟨u,rfl,ru⟩:=rv.one
 obtain⟨z,its,n,r,hl,e⟩:=I.Oo hH
 refine call_meets F.slot_list_append ⟨_,e,rfl⟩ F.entry_list_append (F.args_list_append_2 _ _) (PySem.list_append l its.toArray n u (by rw[dq];omega)) ⟨e,?_⟩
 refine⟨.jy,_,I.Q7 (its':=its++[u]) hH e (by simp) (r.append (.cons ru .nil)) ?_,rfl,q⟩
 rw[ce,on]
 omega
noncomputable def K9:V->List V->Hp->VK->Prop:=λx vs H Q=>∃l b xs zs,x= .ref l/\vs=[.ref b]/\H l=some (.lst xs)/\H b=some (.lst zs)/\xs.length+zs.length<=b_/\Q .jy (upd H l (.lst (xs++zs)))
theorem qM:Zu X "list.extend" K9:=by
 intro pins s σ H x vs v us Q I rx rv h
 obtain⟨l,b,xs,zs,rfl,rfl,hH,hB,hz,q⟩:=h
 cases rx
 obtain⟨u,rfl,ru⟩:=rv.one
 cases ru
 obtain⟨z,its,n,r,hl,e⟩:=I.Oo hH
 obtain⟨z2,its2,n2,r2,hl2,e2⟩:=I.Oo hB
 have hsz:its.toArray.size+its2.toArray.size<=b_:=by rw[dq,dq];omega
 have R4:¬(!its.toArray.isEmpty&&ut (its.toArray.size+its2.toArray.size))=true:=by
  rw[IT hsz,Bool.and_false]
  exact bt
 refine call_meets F.slot_list_extend ⟨_,e,rfl⟩ F.entry_list_extend (F.args_list_extend_2 _ _)
  (AutoSeq1.list_extend_list_list_0 l its.toArray n b its2.toArray n2 R4 (by rw[dq];omega) (by omega)) ⟨e,e2,?_⟩
 refine⟨.jy,_,I.Q7 (its':=its++its2) hH e (by simp) (r.append r2) ?_,rfl,q⟩
 rw[ce]
 omega
end
section
variable{prog:bo}{w:df}{A:dL}{E:a9->bc->Prop}{s:bc}
end
section
variable{X:Cx}
end
end
section
section
variable{κ:Type}[DecidableEq κ]
noncomputable def lW(kvs:List (κ×V))(k:κ):Option V:=(kvs.find? λkv=>decide (kv.1=k)).map (·.2)
noncomputable def putK(kvs:List (κ×V))(k:κ)(v:V):List (κ×V) :=
 if(kvs.any λkv=>decide (kv.1=k))=true then kvs.map (λkv=>if kv.1=k then(kv.1,v)else kv)else kvs++[(k,v)]
theorem iD{p:κ×V}{r:List (κ×V)}{k:κ}(e:p.1=k):lW (p::r) k=some p.2:=by simp[lW,i5,e]
theorem iE{p:κ×V}{r:List (κ×V)}{k:κ}(e:¬p.1=k):lW (p::r) k=lW r k:=by simp[lW,i5,e]
theorem su(k:κ):∀kvs:List (κ×V),(kvs.any λkv=>decide (kv.1=k))=(lW kvs k).isSome
 |[]=>rfl
 |p::r=>by
  rw[ul]
  by_cases e:p.1=k
  ·simp only[iD e,decide_eq_true e,Bool.true_or,Option.isSome_some]
  ·rw[iE e,decide_eq_false e,Bool.false_or];exact su k r
theorem BA(k j:κ)(y:V):∀kvs:List (κ×V),lW (kvs.map λkv=>if kv.1=k then(kv.1,y)else kv) j=(lW kvs j).map λx=>if j=k then y else x
 |[]=>rfl
 |p::r=>by
  have ih:=BA k j y r
  rw[eJ]
  by_cases h:p.1=k
  ·rw[if_pos h]
   by_cases e:p.1=j
   ·rw[iD (p:=(p.1,y)) e,iD e,Option.map_some,if_pos (e.symm.trans h)]
   ·rw[iE (p:=(p.1,y)) e,iE e,ih]
  ·rw[if_neg h]
   by_cases e:p.1=j
   ·rw[iD (p:=p) e,iD e,Option.map_some,if_neg (λz=>h (e.trans z))]
   ·rw[iE (p:=p) e,iE e,ih]
theorem yQ(k j:κ)(y:V):∀kvs:List (κ×V),lW kvs k=none->lW (kvs++[(k,y)]) j=if j=k then some y else lW kvs j
 |[],_=>by
  by_cases e:k=j
  ·rw[if_pos e.symm];exact iD (p:=(k,y)) e
  ·rw[if_neg (λz=>e z.symm)];exact iE (p:=(k,y)) e
 |p::r,hn=>by
  rw[ww]
  have hk:¬p.1=k:=λz=>by rw[iD z]at hn;cases hn
  rw[iE hk]at hn
  have ih:=yQ k j y r hn
  by_cases e:p.1=j
  ·rw[iD e,iD e,if_neg (λz=>hk (e.trans z))]
  ·rw[iE e,iE e,ih]
theorem By(kvs:List (κ×V))(k j:κ)(y:V):lW (putK kvs k y) j=if j=k then some y else lW kvs j:=by
 unfold putK
 by_cases a:(kvs.any λkv=>decide (kv.1=k))=true
 ·rw[if_pos a,BA]
  rw[su]at a
  by_cases e:j=k
  ·obtain⟨x,hx⟩:=pi.mp a
   rw[if_pos e,e,hx,Option.map_some,if_pos rfl]
  ·rw[if_neg e]
   cases lW kvs j with
   |none=>rfl
   |some x=>rw[Option.map_some,if_neg e]
 ·rw[if_neg a]
  refine yQ k j y kvs ?_
  rw[su]at a
  cases q:lW kvs k with
  |none=>rfl
  |some x=>rw[q]at a;exact(a rfl).elim
theorem nO(kvs:List (κ×V))(k:κ)(v:V):(putK kvs k v).length<=kvs.length+1:=by
 unfold putK
 split
 ·rw[a_];omega
 ·rw[ce,d_,List.length_nil];omega
theorem ow.zo{o:Option V}{u:Option a9}(r:ow o u):o.isSome=u.isSome:=by
 cases o with
 |none=>cases u with
  |none=>rfl
  |some _=>exact(show False from r).elim
 |some _=>cases u with
  |none=>exact(show False from r).elim
  |some _=>rfl
theorem KV.val{kvs:List (κ×V)}{vs:List (κ×a9)}(r:KV kvs vs)(k:κ):ow (lW kvs k) (valueAt vs k):=by
 unfold KV at r
 induction r with
 |nil=>exact True.intro
 | @cons p q ps qs h t ih =>
  obtain⟨h1,h2⟩:=h
  by_cases e:p.1=k
  ·have e':q.1=k:=h1.symm.trans e
   have b:valueAt (q::qs) k=some q.2:=by simp[valueAt,i5,e']
   rw[iD e,b];exact h2
  ·have e':¬q.1=k:=λz=>e (h1.trans z)
   have b:valueAt (q::qs) k=valueAt qs k:=by simp[valueAt,i5,e']
   rw[iE e,b];exact ih
theorem KV.any{kvs:List (κ×V)}{vs:List (κ×a9)}(r:KV kvs vs)(k:κ):(kvs.any λkv=>decide (kv.1=k))=vs.any λkv=>decide (kv.1=k):=by
 unfold KV at r
 induction r with
 |nil=>rfl
 |cons h t ih=>rw[ul,ul,ih,h.1]
theorem KV.repl{kvs:List (κ×V)}{vs:List (κ×a9)}(r:KV kvs vs)(k:κ){y:V}{u:a9}(ry:RelV y u):
  KV (kvs.map λkv=>if kv.1=k then(kv.1,y)else kv) (vs.map λkv=>if kv.1=k then(kv.1,u)else kv):=by
 unfold KV at r ⊢
 induction r with
 |nil=>exact .nil
 | @cons p q ps qs h t ih =>
  rw[eJ,eJ]
  refine .cons ?_ ih
  obtain⟨h1,h2⟩:=h
  by_cases e:p.1=k
  ·rw[if_pos e,if_pos (h1.symm.trans e)];exact⟨h1,ry⟩
  ·rw[if_neg e,if_neg (λz=>e (h1.trans z))];exact⟨h1,h2⟩
theorem KV.put{kvs:List (κ×V)}{vs:List (κ×a9)}(r:KV kvs vs)(k:κ){y:V}{u:a9}(ry:RelV y u):KV (putK kvs k y) (stored vs k u):=by
 unfold putK stored
 rw[r.any k]
 by_cases e:(vs.any λkv=>decide (kv.1=k))=true
 ·rw[if_pos e,if_pos e];exact r.repl k ry
 ·rw[if_neg e,if_neg e];exact Paired.snoc r ⟨rfl,ry⟩
theorem KV.length{kvs:List (κ×V)}{vs:List (κ×a9)}(r:KV kvs vs):kvs.length=vs.length:=Paired.length r
end
theorem Jr{P:bo}{w:df}{k:Key}{u:a9}(r:RelV (kV k) u):(bX P w).is k u=true:=by
 cases k with
 |inl i=>obtain⟨t,e⟩:=(show ∃t,u=Value.int i t from r);subst e;exact Ck P w i t
 |inr x=>obtain⟨t,e⟩:=(show ∃t,u=Value.str x t from r);subst e;exact qg P w x t
theorem zm{P:bo}{w:df}:∀{ks:List Key} {us:List a9},Vals (ks.map kV) us->ItemsAre (bX P w) ks us
 |[],_,r=>by rw[List.map_nil]at r;cases r;exact .nil
 |k::ks,_,r=>by
  rw[eJ]at r
  cases r with
  |cons h t=>exact .cons (Jr h) (zm t)
noncomputable abbrev KT(H:Hp):List (List Key×V)->List (List Key×a6×a9)->Prop:=Paired λp q=>p.1=q.1/\H q.2.1=some (.tup (p.1.map kV))/\RelV p.2 q.2.2
theorem KT.val{H:Hp}{kvs:List (List Key×V)}{xs:List (List Key×a6×a9)}(r:KT H kvs xs)(k:List Key):ow (lW kvs k) ((atKey xs k).map (·.2)):=by
 induction r with
 |nil=>exact True.intro
 | @cons p q ps qs h t ih =>
  obtain⟨h1,_,h2⟩:=h
  by_cases e:p.1=k
  ·have e':q.1=k:=h1.symm.trans e
   have b:atKey (q::qs) k=some q.2:=by simp[atKey,i5,e']
   rw[iD e,b];exact h2
  ·have e':¬q.1=k:=λz=>e (h1.trans z)
   have b:atKey (q::qs) k=atKey qs k:=by simp[atKey,i5,e']
   rw[iE e,b];exact ih
theorem KT.repl{H:Hp}{kvs:List (List Key×V)}{xs:List (List Key×a6×a9)}(r:KT H kvs xs)(k:List Key){y:V}{u:a9}(ry:RelV y u):
  KT H (kvs.map λkv=>if kv.1=k then(kv.1,y)else kv) (xs.map (putAt k u)):=by
 induction r with
 |nil=>exact .nil
 | @cons p q ps qs h t ih =>
  rw[eJ,eJ]
  refine .cons ?_ ih
  obtain⟨h1,h2,h3⟩:=h
  unfold putAt
  by_cases e:p.1=k
  ·rw[if_pos e,if_pos (h1.symm.trans e)];exact⟨h1,h2,ry⟩
  ·rw[if_neg e,if_neg (λz=>e (h1.trans z))];exact⟨h1,h2,h3⟩
theorem KT.put{H:Hp}{kvs:List (List Key×V)}{xs:List (List Key×a6×a9)}(r:KT H kvs xs)(k:List Key){b:a6}{y:V}{u:a9}(hb:H b=some (.tup (k.map kV)))(ry:RelV y u):
  KT H (putK kvs k y) (storedH xs k b u):=by
 have e:(kvs.any λkv=>decide (kv.1=k))=(atKey xs k).isSome:=by
  rw[su,(r.val k).zo,Option.isSome_map]
 unfold putK storedH
 rw[e]
 by_cases q:(atKey xs k).isSome=true
 ·rw[if_pos q,if_pos q];exact r.repl k ry
 ·rw[if_neg q,if_neg q];exact Paired.snoc r ⟨rfl,hb,ry⟩
theorem KT.keeps{H H':Hp}{kvs:List (List Key×V)}{xs:List (List Key×a6×a9)}(r:KT H kvs xs)(ht:∀b ys,H b=some (.tup ys)->H' b=some (.tup ys)):KT H' kvs xs :=
 Paired.gO r λ_ _ z=>⟨z.1,ht _ _ z.2.1,z.2.2⟩
section
variable{P:bo}{w:df}{H:Hp}{h:dC}{a:a6}
theorem Mq{u:HO}(ok:oA P w H h)(e:Rd H a u):bY P w H h a u:=e.ok ok
theorem JR{kvs:List (Key×V)}(ok:oA P w H h)(e:Rd H a (.dK kvs)):kvs.length<=b_/\(a==sysModules)=false/\∃vs,KV kvs vs/\h.DictOf (bX P w) a vs :=
 show bY P w H h a (.dK kvs) from Mq ok e
theorem Sq{kvs:List (Key×V)}(ok:oA P w H h)(e:H a=some (.dK kvs)):kvs.length<=b_/\(a==sysModules)=false/\∃vs,KV kvs vs/\h.DictOf (bX P w) a vs:=JR ok (.inl e)
theorem xy{ks:List Key}(ok:oA P w H h)(e:H a=some (.tup (ks.map kV))):(tupleKind (bX P w)).is h ks a:=by
 obtain⟨_,its,r,o,h1,h2,n,h3⟩:=(show bY P w H h a (.tup (ks.map kV)) from ok a _ e)
 exact⟨o,its.toArray,n,h1,h2,h3,by simpa using zm r⟩
theorem JP{kvs:List (List Key×V)}(ok:oA P w H h)(e:Rd H a (.dT kvs)):kvs.length<=b_/\(a==sysModules)=false ∧
  ∃xs,KT H kvs xs/\h.DictOfH (tupleKind (bX P w)) a xs:=by
 obtain⟨z,y,xs,r,o,es,ep,h1,h2,h3,h4,h5⟩:=(show bY P w H h a (.dT kvs) from Mq ok e)
 refine⟨z,y,xs,r,o,es,ep,h1,h2,h3,h4,λx hx=>?_,h5⟩
 have all:∀{l:List (List Key×V)} {m:List (List Key×a6×a9)},KT H l m->∀x∈m,(tupleKind (bX P w)).is h x.1 x.2.1:=by
  intro l m q
  induction q with
  |nil=>intro x hx;exact nomatch hx
  | @cons p q ps qs hq t ih =>
   intro x hx
   rcases cm.mp hx with e|hx
   ·subst e
    exact xy ok (by rw[←hq.1];exact hq.2.1)
   ·exact ih x hx
 exact all r x hx
theorem So{kvs:List (List Key×V)}(ok:oA P w H h)(e:H a=some (.dT kvs)):kvs.length<=b_/\(a==sysModules)=false ∧
  ∃xs,KT H kvs xs/\h.DictOfH (tupleKind (bX P w)) a xs:=JP ok (.inl e)
end
noncomputable def Dq(H:Hp)(a:a6)(y:V)(r:Option V):Prop :=
 (∃kvs k,Rd H a (.dK kvs)/\y=kV k/\r=lW kvs k)\/∃kvs k b,Rd H a (.dT kvs)/\y= .ref b/\H b=some (.tup (k.map kV))/\r=lW kvs k
noncomputable def Hx(H:Hp)(a:a6)(y v:V)(H':Hp):Prop :=
 (∃kvs k,H a=some (.dK kvs)/\y=kV k/\kvs.length<b_/\H'=upd H a (.dK (putK kvs k v))) ∨
 ∃kvs k b,H a=some (.dT kvs)/\y= .ref b/\H b=some (.tup (k.map kV))/\kvs.length<b_/\H'=upd H a (.dT (putK kvs k v))
theorem Dq.t{H:Hp}{a b:a6}{kvs:List (List Key×V)}{k:List Key}(e:H a=some (.dT kvs))(eb:H b=some (.tup (k.map kV))):Dq H a (.ref b) (lW kvs k):=.inr ⟨kvs,k,b,.inl e,rfl,eb,rfl⟩
theorem Hx.t{H:Hp}{a b:a6}{kvs:List (List Key×V)}{k:List Key}{v:V}(e:H a=some (.dT kvs))(eb:H b=some (.tup (k.map kV)))(hl:kvs.length<b_):
  Hx H a (.ref b) v (upd H a (.dT (putK kvs k v))):=.inr ⟨kvs,k,b,e,rfl,eb,hl,rfl⟩
section
variable{X:Cx}{pins:List (a6×lv)}{σ:St}{H:Hp}{s:bc}{a:a6}{y v:V}{u r:a9}{o:Option V}{A:dL}{E:a9->bc->Prop}
theorem Inv.big(I:Inv X pins σ H s):sysModules<s.heap.objs.size:=by
 have h:cn<s.heap.objs.size:=(I.mod.glob.keeps I.bk).lt
 exact Nat.lt_trans (by decide) h
theorem G2{Q:a9->bc->Prop}(hu:A.units+1<cLine)(I:Inv X pins σ H s)(g:Dq H a y (some v))(ry:RelV y u)(h:∀w' s',Inv X pins σ H s'->RelV v w'->Q w' s'):
  cf (model X.prog X.w) A (getItem (.ref a) u) Q E s:=by
 rcases g with⟨kvs,k,e,ey,l⟩|⟨kvs,k,b,e,ey,eb,l⟩
 ·subst ey
  obtain⟨z,hd,vs,rel,dd⟩:=JR I.hok e
  obtain⟨w',hw,rw'⟩:=ow.some_of (v:=v) (o:=valueAt vs k) (by rw[l];exact rel.val k)
  exact wpAny_getItem_of (Jr ry) dd.mapOf hw (h w' _ (I.tok _) rw')
 ·subst ey
  cases (show u=Value.ref b from ry)
  obtain⟨z,hd,xs,rel,dd⟩:=JP I.hok e
  obtain⟨w',hw,rw'⟩:=ow.some_of (v:=v) (o:=(atKey xs k).map (·.2)) (by rw[l];exact rel.val k)
  obtain⟨p,hp,hp2⟩:=gN.mp hw
  refine vx (tupleKind_room_in1 hu) (xy I.hok eb) dd hp ?_
  rw[hp2]
  exact h w' _ (I.tok _) rw'
theorem AG{h':dC}{t':Nat}{ob:HO}(I:Inv X pins σ H s)(mu:SM (H a))(hs:l_ a s.heap h')(he:∃q,h'.get? a=some q)(new:bY X.prog X.w (upd H a ob) h' a ob)(ht:s.toks<=t':=by first|exact ba _|exact gc _|assumption|omega):
  Inv X pins σ (upd H a ob) { s with heap:=h',toks:=t' } :=
 I.write (x:=a) (e:=a) mu (.inl rfl) (λb q hb z=>(hs.2 b hb).trans z) he new
theorem O8{P:bo}{w:df}{H':Hp}{h':dC}{kvs:List (Key×V)}{vs:List (Key×a9)}(z:kvs.length<=b_)(hd:(a==sysModules)=false)(rel:KV kvs vs)(dd:h'.DictOf (bX P w) a vs):
  bY P w H' h' a (.dK kvs):=⟨z,hd,vs,rel,dd⟩
theorem G1{H':Hp}{Q:Unit->bc->Prop}(hu:A.units+1<cLine)(I:Inv X pins σ H s)(g:Hx H a y v H')(ry:RelV y u)(rv:RelV v r)(h:∀s',Inv X pins σ H' s'->Q () s'):
  cf (model X.prog X.w) A (setItem (.ref a) u r) Q E s:=by
 rcases g with⟨kvs,k,e,ey,l,eH⟩|⟨kvs,k,b,e,ey,eb,l,eH⟩
 ·subst ey eH
  obtain⟨z,hd,vs,rel,dd⟩:=Sq I.hok e
  have hz:vs.length<=b_:=by rw[←rel.length];exact z
  have hl:(putK kvs k v).length<=b_:=by have:=nO kvs k v;omega
  refine wpAny_setItem_pairs (hsz:=hz) (Jr ry) dd λh' Qe hs=>h _ ?_
  have he:∃q,h'.get? a=some q:=let ⟨q,_,_,hq,_⟩:=Qe;⟨q,hq⟩
  exact AG I (by rw[e];exact True.intro) hs he (O8 hl hd (rel.put k rv) Qe)
 ·subst ey eH
  cases (show u=Value.ref b from ry)
  obtain⟨z,hd,xs,rel,dd⟩:=So I.hok e
  have hz:xs.length<=b_:=by rw[←Paired.length rel];exact z
  have hl:(putK kvs k v).length<=b_:=by have:=nO kvs k v;omega
  refine wpAny_setItem_heap (hsz:=hz) (tupleKind_room_in1 hu) (xy I.hok eb) dd λh' Qe hs=>h _ ?_
  obtain⟨q,es,ep,hq,h2,h3,h4,_,h5⟩:=Qe
  refine AG I (by rw[e];exact True.intro) hs ⟨q,hq⟩ ⟨hl,hd,_,(rel.put k eb rv).keeps λc ys ec=>?_,q,es,ep,hq,h2,h3,h4,h5⟩
  rw[aq (qe ec e (λz=>nomatch z))]
  exact ec
end
section
variable{X:Cx}{pins:List (a6×lv)}{σ:St}{H:Hp}{s:bc}{a:a6}{kvs:List (Key×V)}{k:Key}{u:a9}{A:dL}{E:a9->bc->Prop}
end
noncomputable def Pz(i:Expr):Prop:=∀ov iv,subscripted i false ov iv=operate [ov,iv] (getItem ov iv)
theorem vM{prog:bo}{w:df}{A:dL}{E:a9->bc->Prop}{s:bc}{env:Env}{value slice:Expr}{pos:re}{T id:String}{Q:a9->bc->Prop}
  (hl:typeLookup (.type T) "__getitem__" =pure (some (.builtin id))) (hs:Pz slice)
  (h:cf (model prog w) A (eval value env) (λo s₁=>cf (model prog w) A (eval slice env) (λi s₂=>s₂.TypeIs o T/\cf (model prog w) A (getItem o i) Q E s₂) E s₁) E s) :
  cf (model prog w) A (eval (.Subscript value slice pos) env) Q E s:=by
 refine Subscript_ (gd h (λo s₁ h₁=>gd h₁ (λi s₂ h₂=>?_) λ_ _ x=>x) λ_ _ x=>x)
 obtain⟨hT,h₂⟩:=h₂
 unfold subscriptTail
 refine a5 ?_
 rw[getitemInPython_of_ne hT.not_modules]
 refine a5 (vl hT hl ?_)
 have fin:cf (model prog w) A (subscripted slice false o i) (λr s₃=>cf (model prog w) A (letTemporaryGo value o r >>= λ_=>pure r) Q E s₃) E s₂:=by
  rw[hs o i]
  exact wpAny_operating (gd h₂ (λr s₃ h₃=>a5 (wpAny_letTemporaryGo (bi h₃))) λ_ _ x=>x)
 first
  |exact bi (a5 fin)
  |exact a5 (bi (a5 fin))
  |exact a5 fin
theorem CO{X:Cx}{pins:List (a6×lv)}{σ:St}{H:Hp}{s:bc}{a:a6}{y:V}{o:Option V}(I:Inv X pins σ H s)(g:Dq H a y o):s.TypeIs (.ref a) "dict" :=by
 rcases g with⟨kvs,k,e,_,_⟩|⟨kvs,k,b,e,_,_,_⟩
 ·obtain⟨_,_,vs,_,dd⟩:=JR I.hok e
  exact dd.typeIs
 ·obtain⟨_,_,xs,_,dd⟩:=JP I.hok e
  exact dd.typeIs
noncomputable def Qz(td ty:TE):TE:=λσ H Q=>td σ H λx H1=>ty σ H1 λy H2=>∃a v,x= .ref a/\Dq H2 a y (some v)/\Q v H2
noncomputable def QM(td ty tv:TE):TS:=λD σ H=>tv σ H λv H1=>td σ H1 λx H2=>ty σ H2 λy H3=>∃a H4,x= .ref a/\Hx H3 a y v H4/\D.nx σ H4
section
variable{X:Cx}{o i e value:Expr}{pos pos' tpos:re}{td ty tv:TE}
theorem Ad(hu:X.A.units+1<cLine)(ho:PE X o td)(hi:PE X i ty)(hs:Pz i):PE X (.Subscript o i pos) (Qz td ty):=by
 intro pins s σ H Q I h
 refine vM PySem.F.slot_dict_getitem.lookup hs (gg (ho pins s σ H _ I h) λu s1 ⟨x,H1,I1,rx,q1⟩=>gg (hi pins s1 σ H1 _ I1 q1) λiv s2 ⟨y,H2,I2,ry,a,v,ex,g,q2⟩=>?_)
 subst ex
 obtain rfl:u=Value.ref a:=rx
 exact⟨CO I2 g,G2 hu I2 g ry λw' s3 I3 rw'=>⟨v,H2,I3,rw',q2⟩⟩
theorem Fx(hu:X.A.units+1<cLine)(ho:PE X o td)(hi:PE X i ty)(hv:PE X value tv)(hs:swapsWith value (some (.Subscript o i pos')) pos.line X.env=pure false):
  PS X (.Assign [.Subscript o i pos'] value pos) (QM td ty tv):=by
 intro pins s σ H D I h
 refine wpAny_Assign_Subscript (gg (hv pins s σ H _ I h) λr s1 ⟨v,H1,I1,rv,q1⟩=>gg (ho pins s1 σ H1 _ I1 q1) λu s2 ⟨x,H2,I2,rx,q2⟩=>gg (hi pins s2 σ H2 _ I2 q2) λiv s3 ⟨y,H3,I3,ry,a,H4,ex,g,q3⟩=>?_) hs
 subst ex
 obtain rfl:u=Value.ref a:=rx
 exact G1 hu I3 g ry rv λs4 I4=>⟨σ,H4,I4,q3⟩
end
theorem JQ{P:bo}{w:df}{H:Hp}(h:dC)(hb:sysModules<h.objs.size):bY P w H (h.push { cls:=.type "dict",data:=.dict #[] }) h.objs.size (.dT []) :=
 ⟨em _,beq_eq_false_iff_ne.mpr (Ne.symm (dy hb)),[],.nil,_,#[],0,bp _ rfl,⟨rfl,rfl,rfl⟩,rfl,rfl,List.nodup_nil⟩
noncomputable def NU:TE:=λ_ H Q=>∀p,H p=none->Q (.ref p) (upd H p (.dT []))
section
variable{X:Cx}{pos:re}
theorem B7:PE X (.Dict [] [] pos) NU:=λpins s σ H Q I h =>
 wpAny_Dict_empty ⟨.ref s.heap.objs.size,_,I.laid (a:=s.heap.objs.size) (o:=.dT []) (t':=s.toks) (λ_ _ q=>a8 _ q) (ba _) (JQ s.heap I.big),rfl,h _ (I.hok.fresh (ba _))⟩
end
section
variable{X:Cx}{pins:List (a6×lv)}{σ:St}{H:Hp}{s:bc}{a:a6}{y d:V}{u r:a9}{o:Option V}{A:dL}{E:a9->bc->Prop}
end
section
variable{X:Cx}{o e f:Expr}{apos cpos:re}{td ty tx:TE}
end
section
variable{X:Cx}{pins:List (a6×lv)}{σ:St}{H:Hp}{s:bc}{a:a6}{kvs:List (Key×V)}{A:dL}{E:a9->bc->Prop}
end
section
variable{X:Cx}{pins:List (a6×lv)}{σ:St}{H:Hp}{s:bc}{a:a6}{y:V}{u:a9}{A:dL}{E:a9->bc->Prop}
end
end
end L2
namespace XY
open PySem PySem.W PySem.Calls PyProof.Rows
theorem vt{P:Params}{h:dC}:∀(ns:List Int) (vs:List a9),WellAll P h vs (ns.map WData.int)->IntsAre vs ns:=by
 intro ns
 induction ns with
 |nil =>
  intro vs w
  rw[List.map_nil]at w
  cases w
  exact .nil
 |cons n ns ih =>
  intro vs w
  rw[eJ]at w
  cases w with
  |cons a b =>
   cases a
   exact .cons _ _ (ih _ b)
theorem Gm{l:OpenLaw}{n:Nat}(hn:l.most=some n){P:Params}{h:dC}{args:List WData}{vals:List a9}
  (hpre:l.row.toRowW.claim.pre args=true) (hwl:WellAll P h vals args) :
  ∃a vs ns,vals=[Value.ref a]/\args=[WData.list (ns.map WData.int)]/\h.get? a=some { cls:=.type "list",data:=.seq vs.toArray }/\IntsAre vs ns/\ns.length<=n:=by
 have hsh:WShape.hasAll [] args [.list .int]=true:=(pre_splitW hpre).1
 have hc:l.pre.holds [] { args:=args }=true:=(pre_splitW hpre).2
 obtain⟨d,r,rfl,h1,h2⟩:=hasAllW_cons hsh
 obtain rfl:=hasAllW_nil h2
 obtain⟨xs,rfl,h3⟩:=hasW_list h1
 obtain⟨ns,rfl⟩:=items_int h3
 have hlen:ns.length<=n:=by
  unfold OpenLaw.pre at hc
  have h4:(WTm.not (.lt (.lit (.int (n:Int))) (.len (.arg 0)))).holds [] { args:=[.list (ns.map .int)] }=true:=by
   have h4:=(holds_andW hc).1
   rw[hn]at h4
   exact h4
  have h5:=condW_of h4 (w_not (w_lt w_lit (w_len_list (w_arg rfl))))
  rw[a_]at h5
  refine Nat.le_of_not_lt λq=>?_
  have q':(n:Int)<((ns.length:Nat):Int):=by omega
  first
   |(rw[decide_eq_true q']at h5;exact absurd h5 (by decide))
   |(simp at h5;omega)
 cases hwl with
 |cons w1 w2 =>
  cases w2
  cases w1 with
  |list ho hall=>exact⟨_,_,ns,rfl,rfl,ho,vt ns _ hall,hlen⟩
theorem Gs(l:OpenLaw)(args:List WData):l.row.toRowW.claim.post args (.bool true) args=true :=
 postW_of (r:=l.row.toRowW) (X:=(true==true))
  (show WShape.has [] (.bool true) .bool=true by first|rfl|decide|simp[WShape.has,WShape.arms,WShape.armsAll])
  (show(WTm.eq .res (.lit (.bool true))).value [] { args:=args,res:=some (.bool true),after:=args }=some (.bool (true==true)) from w_eq_bool (w_res rfl) w_lit) rfl
section
variable{prog:bo}{w:df}{A:dL}{E:a9->bc->Prop}{s:bc}{K:Frag}
end
end XY
namespace L2
open PySem PySem.Spec PyProof.Rows
section
theorem yP:∀{vs:List a9} {ns:List Int},IntsAre vs ns->Vals (ns.map V.int) vs
 |_,_,.nil=>.nil
 |_,_,.cons n t h=>.cons ⟨t,rfl⟩ (yP h)
end
section
end
section
noncomputable def inClass(s:gl)(j:Nat):gl:=match s with
 | .ClassDef _ _ _ body _ _ _ _ _ _ _=>body.getD j (.Pass ⟨0,0,0,0⟩)
 |_=>.Pass ⟨0,0,0,0⟩
noncomputable def gj(s:gl):ui:=match s with
 | .FunctionDef _ a _ _ _ _ _ _ _ _=>a
 |_=>{ posonlyargs:=[],args:=[],vararg:=none,kwonlyargs:=[],kw_defaults:=[],kwarg:=none,defaults:=[] }
noncomputable def dW(s:gl):List gl:=match s with
 | .FunctionDef _ _ b _ _ _ _ _ _ _=>b
 |_=>[]
noncomputable def ay(s:gl):lL:=match s with
 | .FunctionDef _ _ _ _ _ _ sc _ _ _=>sc
 |_=>{ kind:=.function,names:=[],isGenerator:=false,isCoroutine:=false }
noncomputable abbrev cB:HH:=λ_ _ _ _ _ _=>False
noncomputable abbrev E0:XK:=λ_ _ _=>False
theorem aQ{X:Cx}:Passes cB X E0:=λ_ _ _ _ _ _ _ h=>h.elim
structure KI(K:PySem.W.Frag)(x qual:bv)(st:gl)(f:a6)(fd:db):Prop where
 ex:∃(oc:a9) (od:Option a6) (dV kV doc pm:a9) (an:Option a6) (cdv ct:a9) (osl:Array (Option a9)),
  fd=PySem.W.fnOf x qual (gj st) (dW st) (ay st) dV kV doc pm an cdv ct/\K.lookup f=some ⟨oc,od,.func fd,osl⟩/\PySem.W.codeIn K cdv qual=true
 kp:PySem.W.keepIn K (.ref f)=true
section
variable{P:bo}{w:df}{K:PySem.W.Frag}{mg:bv->Option a9}{base:dC}
theorem KI.ok{x qual:bv}{st:gl}{f:a6}{fd:db}{N ps:List bv}{k:Nat}{sp:Sp}(F:KI K x qual st f fd)(S:aE N ps (ay st))(len:∀vs H Q E,sp vs H Q E->vs.length=ps.length)
  (hbody:∀(cdv:a9) (A:dL) (outer:List Env) (s:bc) (H:Hp) (vs:List V) (Q:VK) (E:XK),jT k (A.deeper (envOfC qual (ay st) s.heap.objs.size f cdv))->sp vs H Q E →
   ∃t,Bt (uB cB P w K mg base N qual (ay st) f cdv A outer s H E).PM (dW st) t/\t { nx:=λ_ H'=>Q .jy H',rt:=Q } (start N vs) H):aI P w K mg base cB (k+1) f fd ps sp:=by
 obtain⟨oc,od,dV,kV,doc,pm,an,cdv,ct,osl,rfl,lk,hcd⟩:=F.ex
 refine JK lk hcd S len λA outer s H vs Q E hr HE=>?_
 obtain⟨t,h,q⟩:=hbody cdv A outer s H vs Q E hr HE
 exact⟨t,h.PM,q⟩
theorem ux{x qual:bv}{st:gl}{f:a6}{oc:a9}{od an:Option a6}{osl:Array (Option a9)}{dV kV doc pm cdv ct:a9}(l:K.lookup f=some ⟨oc,od,.func (PySem.W.fnOf x qual (gj st) (dW st) (ay st) dV kV doc pm an cdv ct),osl⟩)
  (c:PySem.W.codeIn K cdv qual=true) (k:PySem.W.keepIn K (.ref f)=true):KI K x qual st f (PySem.W.fnOf x qual (gj st) (dW st) (ay st) dV kV doc pm an cdv ct):=⟨⟨oc,od,dV,kV,doc,pm,an,cdv,ct,osl,rfl,l,c⟩,k⟩
end
theorem Cw{A:dL}{k:Nat}(hr:jT k A):A.units+1<cLine:=cr (Nat.add_le_add_left (by decide:1<=64) _) hr.units
section
variable{X:Cx}
theorem pv (i:Nat){x:bv}{pos:re}(hN:X.N[i]? =some x:=by rfl)(hv:T4 X.env.scope x:=by first|exact Or.inl rfl|exact Or.inr (Or.inl rfl)|exact Or.inr (Or.inr rfl))(hd:(x==("__debug__" :bv))=false:=by decide)
  (hcd:(x==("__classdict__" :bv))=false:=by decide):PE X (.Name x pos) (Qo i):=N9 hN hv hd hcd
end
theorem gP{A B:Prop}(h:B):if false=true then A else B:=by
 rw[if_neg bt]
 exact h
theorem pO{A B:Prop}(h:A):if true=true then A else B:=by
 rw[if_pos rfl]
 exact h
noncomputable def ai(H H':Hp):Prop:=∀b o,H b=some o->H' b=some o
theorem ai.refl(H:Hp):ai H H:=λ_ _ h=>h
theorem ai.trans{H H1 H2:Hp}(a:ai H H1)(b:ai H1 H2):ai H H2:=λc o h=>b c o (a c o h)
theorem ai.free{H H':Hp}(e:ai H H'){l:a6}(h:H' l=Option.none):H l=Option.none:=by
 cases q:H l with
 |none=>rfl
 |some o =>
  rw[e l o q]at h
  cases h
theorem ai.seq{K:PySem.W.Frag}{H H':Hp}{a:a6}{xs:List V}(e:ai H H')(h:cA K H a xs):cA K H' a xs:=by
 rcases h with(h|⟨o,h⟩)|h
 ·exact .inl (.inl (e _ _ h))
 ·exact .inl (.inr ⟨o,e _ _ h⟩)
 ·exact .inr h
section
variable{κ:Type}[DecidableEq κ]
end
end
end L2
namespace GP
theorem Ls{α:Type}:∀{l:List α},l.length=1->∃a,l=[a]
 |[a],_=>⟨a,rfl⟩
theorem Cr{α:Type}{n:Nat}:∀{l:List α},l.length=n+1->∃a r,l=a::r/\r.length=n
 |a::r,h=>⟨a,r,rfl,Nat.succ.inj h⟩
theorem Ou{α:Type}{l:List α}(h:l.length=2):∃a b,l=[a,b]:=by
 obtain⟨a,r,rfl,k⟩:=Cr h
 obtain⟨b,rfl⟩:=Ls k
 exact⟨a,b,rfl⟩
theorem Jl{α:Type}{l:List α}(h:l.length=3):∃a b c,l=[a,b,c]:=by
 obtain⟨a,r,rfl,k⟩:=Cr h
 obtain⟨b,c,rfl⟩:=Ou k
 exact⟨a,b,c,rfl⟩
theorem Lr{α:Type}{l:List α}(h:l.length=4):∃a b c d,l=[a,b,c,d]:=by
 obtain⟨a,r,rfl,k⟩:=Cr h
 obtain⟨b,c,d,rfl⟩:=Jl k
 exact⟨a,b,c,d,rfl⟩
theorem Jk{α:Type}{l:List α}(h:l.length=5):∃a b c d e,l=[a,b,c,d,e]:=by
 obtain⟨a,r,rfl,k⟩:=Cr h
 obtain⟨b,c,d,e,rfl⟩:=Lr k
 exact⟨a,b,c,d,e,rfl⟩
theorem Rc{α:Type}{l:List α}(h:l.length=6):∃a b c d e f,l=[a,b,c,d,e,f]:=by
 obtain⟨a,r,rfl,k⟩:=Cr h
 obtain⟨b,c,d,e,f,rfl⟩:=Jk k
 exact⟨a,b,c,d,e,f,rfl⟩
end GP
namespace L2
open PySem PySem.Spec PyProof.Rows
section
section
variable{X:Cx}
theorem zB:∀{bs:List Bool} {us:List a9},Vals (bs.map V.bl) us->∀(i:Nat) (v:a9),us[i]? =some v->∃b,bs[i]? =some b/\v= .bool b
 |[],_,r,i,v,e=>by
  cases r
  simp at e
 |b::bs,_,r,i,v,e=>by
  cases r with
  |cons r1 r2 =>
   cases i with
   |zero =>
    simp at e
    subst e
    exact⟨b,rfl,r1⟩
   |succ i =>
    obtain⟨c,h1,h2⟩:=zB r2 i v (by simpa using e)
    exact⟨c,by simpa using h1,h2⟩
theorem DW(bs:List Bool):((dk bs.length).all λi=>(bs[i]?).getD true)=bs.all id:=by
 rw[vi,p_,p_]
 constructor
 ·intro h b hb
  obtain⟨i,hi,rfl⟩:=ll hb
  have:=h i (md.mpr hi)
  simpa only[a7 hi,Option.getD_some,id]using this
 ·intro h i hi
  have hi':=md.mp hi
  simpa only[a7 hi',Option.getD_some,id]using h _ (g0 hi')
theorem uU(hc:X.calm=true):nU X (.builtin "all") (λxs H Q=>∃(l:a6) (bs:List Bool),xs=[.ref l]/\cA X.K H l (bs.map V.bl)/\Q (.bl (bs.all id)) H):=by
 intro pins s σ H xs us Q I r h
 obtain⟨l,bs,rfl,hl,q⟩:=h
 obtain⟨u,rfl,ru⟩:=vals1 r
 cases ru
 obtain⟨its,rv,p,hz⟩:=I.list hl
 have pl:s.heap.IsList l its.toArray:=p.isList
 have hlt:l<s.heap.objs.size:=by obtain⟨_,e,_⟩:=pl;exact ca e
 have hlen:bs.length=its.length:=by rw[←rv.length,a_]
 refine TK.cH (ba s.toks) ?_
 refine call_all_walk (mi pl ?_)
 refine⟨s.heap.objs.size,[s.heap.objs.size,l],[s.heap.objs.size],its.toArray.size,_,_,λi=>(bs[i]?).getD true,rfl,Walks.list (A:=X.A.in1) (I.ok.hd hc) _ l (dy hlt) its.toArray,
  ⟨⟨_,bp _ rfl,rfl,rfl⟩,pl.push _⟩,λi v s' Q' E' hP hQ=>?_,λh' tk hk hup=>?_⟩
 ·obtain⟨b,e,rfl⟩:=zB rv i v (by simpa using hP)
  simp only[e,Option.getD_some]at hQ
  exact js hQ
 ·have e:((dk its.toArray.size).all λi=>(bs[i]?).getD true)=bs.all id:=by
   rw[dq,←hlen];exact DW bs
  rw[e]
  refine⟨.bl (bs.all id),H,I.kept (t':=tk) (λb x e=>hk b x (λhm=>?_) (a8 _ e)),rfl,q⟩
  rw[c_.mp hm]at e
  exact g_ _ (ca e)
end
theorem Fz{X:Cx}{K':PySem.W.Frag}{es:List Expr}{k:Nat}{t:MR}{n:Nat}{pos:re}(hK:X.K=K')(hc:X.calm=true)(h:SI X es t)
  (hn:(assignEach es X.env).length=n:=by rfl) (hst:(assignEach es X.env).findIdx? (·.1)=none:=by rfl):PG X (.Tuple es k pos) (Sj K' n t):=by
 subst hK
 exact o8 hc h hn hst
noncomputable def VG(t u:TS):TS:=λD σ H=>∃Mid:St->Hp->Prop,t { D with nx:=Mid } σ H/\∀ σ' H',Mid σ' H'->u D σ' H'
theorem bL{X:Cx}{st:gl}{rest:List gl}{t u:TS}(h1:PS X st t)(h2:Bt X rest u):Bt X (st::rest) (VG t u):=by
 intro pins s σ H D I h
 obtain⟨Mid,h,hm⟩:=h
 refine wpAny_execs_cons (gg (h1 pins s σ H { D with nx:=Mid } I h) λf s1 q=>?_)
 cases f with
 |next =>
  obtain⟨σ',H',I',q⟩:=q
  exact h2 pins s1 σ' H' D I' (hm σ' H' q)
 |ret v=>exact q
 |brk=>exact q
 |cont=>exact q
noncomputable def gA(X:Cx)(scope:lL)(cl:List (bv×a6))(C:a6)(N:List bv)(s:bc)(H:Hp)(ex:List a6)(pn:List (a6×lv))(E:a9->bc->Prop):Cx :=
 { X with N:=N,s₀:=s,H₀:=H,env:=compEnvC scope cl C X.env,outer:=X.stack,ex:=ex,fn:=λx=>scope.names.lookup x==some .cell,pn:=pn,xe:=E }
structure cQ(X:Cx)(scope:lL)(cl:List (bv×a6))(N:List bv)(nV:St->St):Prop where
 clos:closureFor scope X.env=pure cl
 kind:scope.kind= .function
 cell:∀y∈scope.names,y.2= .cell->cl.lookup y.1=none
 names:∀y∈scope.names,y.2= .local->scope.names.lookup y.1=some .local
 sub:∀x c,cl.lookup x=some c->X.env.cells.lookup x=some c
 has:∀x,((relabel scope X.env).names.lookup x=some .cell\/(relabel scope X.env).names.lookup x=some .free)->scope.names.lookup x=some .cell\/∃c,cl.lookup x=some c
 len:∀ σ,(nV σ).length=N.length
 fv:∀(σ:St) (i:Nat) (x:bv) (v:V),N[i]? =some x->(nV σ)[i]? =some (some v)->T4 (relabel scope X.env) x →
  ∃(j:Nat) (c:a6),X.N[j]? =some x/\σ[j]? =some (some v)/\X.env.kindOf x=some .cell/\((relabel scope X.env).names.lookup x=some .cell\/(relabel scope X.env).names.lookup x=some .free)/\cl.lookup x=some c
structure Kr(cl EK:List (bv×a6))(scope:lL)(n:Nat)(h₁:dC):Prop where
 look:∀x c,EK.lookup x=some c->(n<c/\h₁.IsCell c none)\/cl.lookup x=some c
 inj:∀x y c,n<c->EK.lookup x=some c->EK.lookup y=some c->(∀x,cl.lookup x≠some c)->x=y
 keep:∀x c,cl.lookup x=some c->EK.lookup x=some c
 own:∀x,scope.names.lookup x=some .cell->∃c,EK.lookup x=some c
theorem iB:∀(names:List (bv×oP)) (n:Nat) (acc:List (bv×a6)),cellsFrom n names acc=cellsFrom n names []++acc
 |[],_,_=>rfl
 |(y,k)::r,n,acc=>by
  unfold cellsFrom
  split
  ·rw[iB r _ ((y,n)::acc),iB r _ [(y,n)],im];rfl
  ·exact iB r n acc
theorem om:∀(names:List (bv×oP)) (n:Nat) (acc:List (bv×a6)) (x:bv) (c:a6),(x,c)∈cellsFrom n names acc->(x,so)∈names\/(x,c)∈acc
 |[],_,_,_,_,h=>.inr h
 |(y,k)::r,n,acc,x,c,h=>by
  unfold cellsFrom at h
  split at h
  next hk =>
   rcases om r _ _ x c h with z|z
   ·exact .inl (b0 _ z)
   ·rcases cm.mp z with e|e
    ·cases e
     have hk':k= .cell:=by simpa using hk
     rw[hk']
     exact .inl cw
    ·exact .inr e
  next=>exact(om r _ _ x c h).imp (b0 _) id
theorem JW{X:Cx}{scope:lL}{cl:List (bv×a6)}{N:List bv}{nV:St->St}(S:cQ X scope cl N nV){M:Model}{A:dL}{E:a9->bc->Prop}{s:bc}{Q:Env->bc->Prop}
  (h:∀EK h₁,Kr cl EK scope s.heap.objs.size h₁->h₁.Ns s.heap.objs.size (λ_=>none)->(∀b o,s.heap.get? b=some o->h₁.get? b=some o)->Q { compEnvC scope EK s.heap.objs.size X.env with scope:=scope } { s with heap:=h₁ }) :
  cf M A (newFunctionEnv scope X.env.globals cl [] X.env.qual none .none (some X.env)) Q E s:=by
 simp only[newFunctionEnv,Option.isSome_some,if_true]
 refine a5 (wpAny_alloc ?_)
 refine a5 (wpAny_layCells _ (λname kind cells=>by cases hkc:kind==so<;>simp[hkc]) _ _ _ _ ?_)
 have hz:(s.heap.push { cls:=.type "dict",data:=.dict #[] }).objs.size=s.heap.objs.size+1:=hV ..
 have ok:=cellsFrom_ok scope.names (s.heap.push { cls:=.type "dict",data:=.dict #[] }) (s.heap.objs.size+1) [] ⟨λ_ _ hm=>(nomatch hm),List.Pairwise.nil⟩ (by rw[hz];exact ba _)
 simp only[List.forIn_nil]
 refine a5 (bi (bi (h (cellsFrom (s.heap.push { cls:=.type "dict",data:=.dict #[] }).objs.size scope.names cl) _ ⟨λx c e=>?_,λx y c _ ex ey hn=>?_,λx c e=>?_,λx e=>?_⟩ ((Heap.Ns.new s.heap (.type "dict")).keeps λb o e=>pushCells_keeps _ _ _ _ e) λb o e=>pushCells_keeps _ _ _ _ (a8 _ e))))
 ·rw[iB,List.lookup_append]at e
  cases q:(cellsFrom (s.heap.push { cls:=.type "dict",data:=.dict #[] }).objs.size scope.names []).lookup x with
  |none=>rw[q]at e;exact .inr e
  |some d =>
   rw[q]at e
   cases e
   exact .inl ((ok.empty x c (mem_of_lookup q)).symm)
 ·rw[iB,List.lookup_append]at ex ey
  cases qx:(cellsFrom (s.heap.push { cls:=.type "dict",data:=.dict #[] }).objs.size scope.names []).lookup x with
  |none=>rw[qx]at ex;exact absurd ex (hn x)
  |some d =>
   rw[qx]at ex
   cases ex
   cases qy:(cellsFrom (s.heap.push { cls:=.type "dict",data:=.dict #[] }).objs.size scope.names []).lookup y with
   |none=>rw[qy]at ey;exact absurd ey (hn y)
   |some d =>
    rw[qy]at ey
    cases ey
    exact name_of_addr ok.apart (mem_of_lookup qx) (mem_of_lookup qy)
 ·rw[iB,List.lookup_append]
  cases q:(cellsFrom (s.heap.push { cls:=.type "dict",data:=.dict #[] }).objs.size scope.names []).lookup x with
  |none=>exact e
  |some d =>
   rcases om _ _ _ _ _ (mem_of_lookup q)with z|z
   ·rw[S.cell _ z rfl]at e;cases e
   ·cases z
 ·exact pi.mp (PySem.W.cellsFrom_some _ _ _ (.inl e))
theorem cQ.plain{X:Cx}{scope:lL}{N:List bv}(hfree:∀x∈scope.names,x.2≠ .free)(kind:scope.kind= .function)(_:∀y∈scope.names,y.2= .cell->(y.1,e_)∉scope.names)
  (names:∀y∈scope.names,y.2= .local->scope.names.lookup y.1=some .local):cQ X scope [] N (λ_=>vT N.length none):=by
 have hr:(relabel scope X.env).names=scope.names:=by
  unfold relabel
  exact map_eq_self λx hx=>by
   obtain⟨n,k⟩:=x
   have:(k==e_)=false:=by simpa using hfree _ hx
   simp[this]
 refine⟨closureFor_none hfree,kind,λ_ _ _=>rfl,names,λx c e=>by simp at e,λx hx=>?_,λσ=>lw,λσ i x v _ e _=>?_⟩
 ·rw[hr]at hx
  rcases hx with hx|hx
  ·exact .inl hx
  ·exact absurd rfl (hfree _ (PySem.mem_of_lookup hx))
 ·rw[pE]at e
  split at e
  ·cases e
  ·cases e
noncomputable def oS(look:bv->Option a6):List (bv×oP)->List (bv×a6)->List (bv×a6)
 |[],acc=>acc
 |(n,k)::r,acc=>if(k==e_)=true then(match look n with|some a=>oS look r ((n,a)::acc)|none=>oS look r acc)else oS look r acc
theorem pF{env:Env}:∀(names:List (bv×oP)) (acc:List (bv×a6)),(∀x∈names,x.2= .free->∃a,env.cells.lookup x.1=some a) →
  (forIn names acc (λ(x:bv×oP) (r:List (bv×a6))=>match x with|(name,kind)=>if(kind==e_)=true then do let c ←cellOf env name;pure (ForInStep.yield ((name,c)::r))else pure (ForInStep.yield r)):Sem (List (bv×a6)))=pure (oS (env.cells.lookup ·) names acc)
 |[],acc,_=>rfl
 |(n,k)::r,acc,h=>by
  rw[List.forIn_cons]
  dsimp only
  unfold oS
  by_cases hk:(k==e_)=true
  ·obtain⟨a,ha⟩:=h (n,k) cw (by simpa using hk)
   have ha':env.cells.lookup n=some a:=ha
   rw[if_pos hk,if_pos hk,ha']
   have hc:cellOf env n=pure a:=by unfold cellOf;rw[ha']
   rw[hc]
   exact pF r _ λx hx=>h x (b0 _ hx)
  ·rw[if_neg hk,if_neg hk]
   exact pF r _ λx hx=>h x (b0 _ hx)
theorem sZ{look:bv->Option a6}:∀(names:List (bv×oP)) (acc:List (bv×a6)),(∀x c,acc.lookup x=some c->look x=some c)->∀x c,(oS look names acc).lookup x=some c->look x=some c
 |[],acc,h=>h
 |(n,k)::r,acc,h=>by
  unfold oS
  by_cases hk:(k==e_)=true
  ·rw[if_pos hk]
   cases e:look n with
   |none=>exact sZ r acc h
   |some a =>
    refine sZ r _ λx c q=>?_
    rw[kx]at q
    by_cases hx:(x==n)=true
    ·rw[hx]at q
     have:x=n:=by simpa using hx
     rw[this,e]
     exact q
    ·have hx':(x==n)=false:=by simpa using hx
     rw[hx']at q
     exact h x c q
  ·rw[if_neg hk]
   exact sZ r acc h
theorem pG{look:bv->Option a6}:∀(names:List (bv×oP)) (acc:List (bv×a6)) (x:bv),(∃c,acc.lookup x=some c)->∃c,(oS look names acc).lookup x=some c
 |[],_,_,h=>h
 |(n,k)::r,acc,x,h=>by
  unfold oS
  by_cases hk:(k==e_)=true
  ·rw[if_pos hk]
   cases e:look n with
   |none=>exact pG r acc x h
   |some a =>
    refine pG r _ x ?_
    rw[kx]
    cases hx:x==n with
    |true=>exact⟨a,rfl⟩
    |false=>exact h
  ·rw[if_neg hk]
   exact pG r acc x h
theorem qp{look:bv->Option a6}:∀(names:List (bv×oP)) (acc:List (bv×a6)) (x:bv),(x,e_)∈names->(∃a,look x=some a)->∃c,(oS look names acc).lookup x=some c
 |[],_,_,h,_=>by cases h
 |(n,k)::r,acc,x,h,ha=>by
  unfold oS
  rcases cm.mp h with e|e
  ·obtain⟨a,ha⟩:=ha
   have e1:x=n:=congrArg Prod.fst e
   have e2:k=e_:=(congrArg Prod.snd e).symm
   subst e1 e2
   rw[if_pos (by decide),ha]
   refine pG r _ x ⟨a,?_⟩
   rw[kx]
   simp
  ·by_cases hk:(k==e_)=true
   ·rw[if_pos hk]
    cases e2:look n with
    |none=>exact qp r acc x e ha
    |some a=>exact qp r _ x e ha
   ·rw[if_neg hk]
    exact qp r acc x e ha
theorem tu{look:bv->Option a6}:∀(names:List (bv×oP)) (acc:List (bv×a6)) (x:bv) (c:a6),(oS look names acc).lookup x=some c->(x,e_)∈names\/acc.lookup x=some c
 |[],_,_,_,h=>.inr h
 |(n,k)::r,acc,x,c,h=>by
  unfold oS at h
  by_cases hk:(k==e_)=true
  ·rw[if_pos hk]at h
   cases e:look n with
   |none=>rw[e]at h;exact(tu r acc x c h).imp (b0 _) id
   |some a =>
    rw[e]at h
    rcases tu r _ x c h with z|z
    ·exact .inl (b0 _ z)
    ·rw[kx]at z
     cases hx:x==n with
     |true =>
      have e1:x=n:=by simpa using hx
      have e2:k= .free:=by simpa using hk
      rw[e1,e2]
      exact .inl cw
     |false=>rw[hx]at z;exact .inr z
  ·rw[if_neg hk]at h
   exact(tu r acc x c h).imp (b0 _) id
theorem o7{env:Env}:∀{names:List (bv×oP)} {x:bv} {k:oP},
  (names.map λ(n,k)=>if(k==e_&&env.scope.kind== .function&&env.kindOf n==some .cell)then(n,so)else(n,k)).lookup x=some k →
  (k= .cell\/k= .free)->names.lookup x=some .cell\/(x,e_)∈names
 |[],_,_,h,_=>by simp at h
 |(n,j)::r,x,k,h,hk=>by
  rw[eJ,kx]at h
  rw[kx]
  by_cases hj:(j==e_&&env.scope.kind== .function&&env.kindOf n==some .cell)=true
  ·simp only[hj,if_true]at h
   by_cases hx:(x==n)=true
   ·have e:x=n:=by simpa using hx
    have ej:j= .free:=by
     rw[ii,ii]at hj
     simpa using hj.1.1
    rw[e,←ej]
    exact .inr cw
   ·have hx':(x==n)=false:=by simpa using hx
    rw[hx']at h ⊢
    exact(o7 h hk).imp id (b0 _)
  ·simp only[hj]at h
   by_cases hx:(x==n)=true
   ·have e:x=n:=by simpa using hx
    rw[e]at h
    simp at h
    subst h
    rw[hx]
    rcases hk with q|q
    ·rw[q];exact .inl rfl
    ·rw[e,←q]
     exact .inr cw
   ·have hx':(x==n)=false:=by simpa using hx
    simp[hx']at h
    rw[hx']
    exact(o7 (by simpa using h) hk).imp id (b0 _)
noncomputable def Tg(nt:Nat)(ix:List Nat)(σ:St):St:=vT nt none++ix.map λj=>(σ[j]?).join
theorem cQ.free{X:Cx}{scope:lL}{N:List bv}{nt:Nat}{ix:List Nat}(kind:scope.kind= .function)(cell:∀y∈scope.names,y.2= .cell->(y.1,e_)∉scope.names)
  (names:∀y∈scope.names,y.2= .local->scope.names.lookup y.1=some .local) (hf:∀y∈scope.names,y.2= .free->X.env.kindOf y.1=some .cell)
  (hl:N.length=nt+ix.length) (hx:∀(k j:Nat),ix[k]? =some j->∃x,N[nt+k]? =some x/\X.N[j]? =some x/\(x,e_)∈scope.names/\(relabel scope X.env).names.lookup x=some .cell) (ok:X.Ok) :
  ∃cl,cQ X scope cl N (Tg nt ix):=by
 have hcl:∀y∈scope.names,y.2= .free->∃a,X.env.cells.lookup y.1=some a:=λy hy hk=>ok.has y.1 (.inl (hf y hy hk))
 refine⟨oS (X.env.cells.lookup ·) scope.names [],?_,kind,λy hy hk=>?_,names,sZ scope.names [] (λx c e=>by simp at e),λx h=>?_,λσ=>?_,λσ i x v e1 e2 e3=>?_⟩
 ·have z:=pF scope.names [] hcl
  unfold closureFor
  dsimp only
  rw[z]
  rfl
 ·cases q:(oS (X.env.cells.lookup ·) scope.names []).lookup y.1 with
  |none=>rfl
  |some c =>
   rcases tu _ _ _ _ q with z|z
   ·exact absurd z (cell y hy hk)
   ·cases z
 ·have hm:scope.names.lookup x=some .cell\/(x,e_)∈scope.names:=by
   rcases h with h|h
   ·exact o7 h (.inl rfl)
   ·exact o7 h (.inr rfl)
  exact hm.imp id λhm=>qp scope.names [] x hm (hcl _ hm rfl)
 ·unfold Tg
  rw[ce,lw,a_,hl]
 ·unfold Tg at e2
  by_cases hi:i<nt
  ·rw[ot (by rw[lw];exact hi),pE]at e2
   split at e2
   ·cases e2
   ·cases e2
  ·rw[mM (by rw[lw];omega),lw,cx]at e2
   cases ej:ix[i-nt]? with
   |none=>rw[ej]at e2;cases e2
   |some j =>
    rw[ej]at e2
    have TY:(σ[j]?).join=some v:=dn e2
    obtain⟨x',n1,n2,n3,n4⟩:=hx (i-nt) j ej
    rw[show nt+(i-nt)=i by omega,e1]at n1
    cases n1
    obtain⟨c,hc⟩:=qp (look:=(X.env.cells.lookup ·)) scope.names [] x n3 (hcl _ n3 rfl)
    refine⟨j,c,n2,?_,hf _ n3 rfl,.inl n4,hc⟩
    cases es:σ[j]? with
    |none=>rw[es]at TY;cases TY
    |some o=>rw[es]at TY;rw[show o=some v from TY]
noncomputable def Kp(a b:St):Prop:=∀(i:Nat) (v:V),a[i]? =some (some v)->b[i]? =some (some v)
theorem Kp.rep(n:Nat)(b:St):Kp (vT n none) b:=λi v e=>by
 rw[pE]at e
 split at e
 ·cases e
 ·cases e
noncomputable def BI(wi:TI)(g:TG)(te:TE)(nV:St->St):TE:=λσ H Q=>wi σ H λJ H1=>∀l,H1 l=none->∃W:Nat->Nat->List V->Hp->Prop,(∃m,W 0 m [] (upd H1 l (.lst []))) ∧
 ∀i m ys H2,W i m ys H2->(J.stop i H2/\Q (.ref l) H2) ∨
  (J.go i H2/\∀x H3,J.Bs i H2 x H3->g x (nV σ) H3 λyN H4=>Kp (nV σ) yN/\te yN H4 λy H5=>H5 l=some (.lst ys)/\ys.length<b_/\∃m',m'<m/\W (i+1) m' (ys++[y]) (upd H5 l (.lst (ys++[y]))))
theorem Inv.Me{X:Cx}{pins:List (a6×lv)}{σ:St}{H:Hp}{s:bc}(I:Inv X pins σ H s):Inv X [] σ H s:=I.z7 λ_ hp=>nomatch hp
section
variable{X:Cx}{pins:List (a6×lv)}{σ:St}{H:Hp}{s:bc}{scope:lL}{cl:List (bv×a6)}{N:List bv}{nV:St->St}{fp:List a6}{h₁:dC}{m:bv->Option a9}{E:a9->bc->Prop}
theorem Ju{EK:List (bv×a6)}(S:cQ X scope cl N nV)(G:Kr cl EK scope s.heap.objs.size h₁)(I:Inv X pins σ H s)(hf:∀b∈fp,qz X pins H b/\b<s.heap.objs.size)(kp:∀b o,s.heap.get? b=some o->h₁.get? b=some o)(hns:h₁.Ns s.heap.objs.size m)(t':Nat)(ht:s.toks<=t':=by first|exact ba _|exact gc _|assumption|omega):
  Inv (gA X scope EK s.heap.objs.size N s H fp (X.pn++pins) E) [] (nV σ) H { s with heap:=h₁,toks:=t' }:=by
 have Q0:∀b,b≠X.env.locals->b∉X.fs->b∉frs X.stack:=λb h1 h2 z=>by
  rcases cm.mp (I.tX b z)with q|q
  ·exact h1 q
  ·exact h2 q
 have Ph:∀x c,cl.lookup x=some c->c<s.heap.objs.size:=λx c e=>by
  obtain⟨v,o,ho,_⟩:=I.cell x c (S.sub x c e)
  exact ca ho
 refine⟨⟨I.mod,S.kind,I.ok.glob,I.ok.blt,ba _,λx y c a b=>?_,λx h=>(S.has x h).elim (G.own x) λ⟨c,e⟩=>⟨c,G.keep x c e⟩,λx c z e=>?_,I.ok.hd,I.ok.frames,.inl rfl,λb hb=>?_,I.bs,bn I.ok.LZ I.sz,λb o e hb=>?_,λb hb=>?_,I.stack,I.zT,I.tk⟩,
  rfl,I.bare,Un.kept kp,⟨m,hns,λi x v e1 e2 e3=>?_⟩,λx c e=>?_,I.hok.fresh (ba _),λx c e=>(G.look x c e).elim (λz=>I.hok.fresh (rg z.1)) λz=>I.nQ x c (S.sub x c z),λp hp=>?_,I.hok.kept kp,S.len σ,ht⟩
 ·by_cases hc:s.heap.objs.size<c
  ·exact G.inj x y c hc a b λz e=>Nat.lt_asymm hc (Ph z c e)
  ·exact I.ok.inj x y c (S.sub x c ((G.look x c a).elim (λz=>absurd z.1 hc) id)) (S.sub y c ((G.look y c b).elim (λz=>absurd z.1 hc) id))
 ·rcases G.look x c e with q|q
  ·exact rg q.1
  ·have z2:(scope.names.lookup x==some so)=true:=z
   have z':scope.names.lookup x=some .cell:=by simpa using z2
   rw[S.cell _ (mem_of_lookup z') rfl]at q
   cases q
 ·obtain⟨⟨_,_,_,_,f4,_⟩,lt⟩:=hf b hb
  exact⟨dy lt,λx c e=>(G.look x c e).elim (λz=>ma (Nat.lt_trans lt z.1)) λz=>f4 x c (S.sub x c z)⟩
 ·obtain⟨⟨f0,_,_,f3,_⟩,_⟩:=hf b hb
  rcases f3 with z|z
  ·exact I.ok.IU b o e z
  ·exact absurd (cq (ca e) (bn I.ok.LZ z)) (g_ _)
 ·obtain⟨⟨_,f1,f2,_⟩,_⟩:=hf b hb
  exact Q0 b f1 f2
 ·obtain⟨j,c,n1,n2,n3,n4,n5⟩:=S.fv σ i x v e1 e2 e3
  obtain⟨mX,_,hl⟩:=I.loc
  obtain⟨u,r,l⟩:=hl j x v n1 n2 (.inr (.inl n3))
  refine⟨u,r,.inr ⟨n4,c,G.keep x c n5,?_⟩⟩
  rcases l with⟨k,_⟩|⟨_,c',ec,o,ho,hd⟩
  ·have k':X.env.scope.names.lookup x=some .local:=k
   have Yu:X.env.scope.names.lookup x=some .cell:=n3
   rw[k']at Yu;cases Yu
  ·have q:=S.sub x c n5
   rw[q]at ec;cases ec
   exact⟨o,kp _ _ ho,hd⟩
 ·rcases G.look x c e with z|z
  ·exact⟨none,z.2⟩
  ·obtain⟨v,o,ho,hd⟩:=I.cell x c (S.sub x c z)
   exact⟨v,o,kp _ _ ho,hd⟩
 ·have Tz:p∈X.pn++pins:=by
   rcases eM.mp hp with z|z
   ·exact z
   ·cases z
  obtain⟨a,b,c,d,e⟩:=I.pin p Tz
  exact⟨kp _ _ a,b,dy (ca a),Q0 _ c d,e⟩
end
end
section
inductive Cp where
 |lst (a:a6)|tup (a:a6)|txt (x:bv)
noncomputable def ff(x:bv):List V:=x.cps.toList.map λc=>V.str ⟨#[c]⟩
noncomputable def Cp.val:Cp->V
 | .lst a=>.ref a
 | .tup a=>.ref a
 | .txt x=>.str x
noncomputable def Cp.at(K:PySem.W.Frag)(H:Hp):Cp->List V->Prop
 | .lst a=>cA K H a
 | .tup a=>dD K H a
 | .txt x=>λxs=>xs=ff x
noncomputable def Cp.Ds(h:dC)(it:a6)(i:Nat):Cp->Prop
 | .lst a=>h.IsListIter it a i
 | .tup a=>h.IsTupleIter it a i
 | .txt x=>∃t,h.IsStrIter it (strIterType x) x t i
noncomputable def Cp.src(h:dC):Cp->List V->Prop
 | .lst a=>λxs=>∃its,Vals xs its/\h.IsList a its.toArray
 | .tup a=>λxs=>∃its,Vals xs its/\h.IsTuple a its.toArray
 | .txt x=>λxs=>xs=ff x
noncomputable def Cp.off(b:a6):Cp->Prop
 | .lst a=>a≠b
 | .tup a=>a≠b
 | .txt _=>True
section
variable{X:Cx}{pins:List (a6×lv)}{σ:St}{H:Hp}{s:bc}{c d:Cp}{xs ys:List V}
theorem Cp.oX(I:Inv X pins σ H s)(h:c.at X.K H xs):c.src s.heap xs:=by
 cases c with
 |lst a=>obtain⟨its,r,p,_⟩:=I.list h;exact⟨its,r,p.isList⟩
 |tup a=>obtain⟨its,r,p,_⟩:=I.tuple h;exact⟨its,r,p⟩
 |txt x=>exact h
theorem Cp.EO(I:Inv X pins σ H s)(h:c.at X.K H xs)(h':c.at X.K H ys):xs=ys:=by
 cases c with
 |lst a=>exact I.xw h h'
 |tup a=>exact I.yS h h'
 |txt x=>exact(show xs=ff x from h).trans (show ys=ff x from h').symm
theorem Cp.nZ {h:dC}{b:a6}{o:lv}{T:String}(hs:c.src h xs)(hb:h.get? b=some o)(hc:o.cls= .type T)(n1:T≠ "list")(n2:T≠ "tuple"):c.off b:=by
 cases c with
 |lst a =>
  obtain⟨its,_,o',ho,hc',_⟩:=hs
  intro e
  rw[e,hb]at ho
  cases ho
  rw[hc]at hc'
  injection hc' with q
  exact n1 q
 |tup a =>
  obtain⟨its,_,o',ho,hc',_⟩:=hs
  intro e
  rw[e,hb]at ho
  cases ho
  rw[hc]at hc'
  injection hc' with q
  exact n2 q
 |txt x=>trivial
theorem Cp.FF{h:dC}{b:a6}(hs:c.src h xs)(hb:h.objs.size<=b):c.off b:=by
 cases c with
 |lst a =>
  obtain⟨its,_,o',ho,_⟩:=hs
  exact dy (cq (ca ho) hb)
 |tup a =>
  obtain⟨its,_,o',ho,_⟩:=hs
  exact dy (cq (ca ho) hb)
 |txt x=>trivial
theorem Cp.k8{h h':dC}{b:a6}(hs:c.src h xs)(hx:wP b h h')(ho:c.off b):c.src h' xs:=by
 cases c with
 |lst a=>obtain⟨its,r,p⟩:=hs;exact⟨its,r,p.extBut hx ho⟩
 |tup a=>obtain⟨its,r,p⟩:=hs;exact⟨its,r,p.extBut hx ho⟩
 |txt x=>exact hs
theorem Cp.Ic{h h':dC}(hs:c.src h xs)(hx:∀b o,h.get? b=some o->h'.get? b=some o):c.src h' xs:=by
 cases c with
 |lst a=>obtain⟨its,r,o,ho,q⟩:=hs;exact⟨its,r,o,hx _ _ ho,q⟩
 |tup a=>obtain⟨its,r,o,ho,q⟩:=hs;exact⟨its,r,o,hx _ _ ho,q⟩
 |txt x=>exact hs
theorem Cp.j7{h:dC}{it:a6}{i:Nat}(q:c.Ds h it i):∃o T vs,h.get? it=some o/\o.cls= .type T/\o.data= .fields vs/\T≠ "list" /\T≠ "tuple" :=by
 cases c with
 |lst a=>obtain⟨o,ho,hc,hd⟩:=q;exact⟨o,_,_,ho,hc,hd,by decide,by decide⟩
 |tup a=>obtain⟨o,ho,hc,hd⟩:=q;exact⟨o,_,_,ho,hc,hd,by decide,by decide⟩
 |txt x =>
  obtain⟨t,o,ho,hc,hd⟩:=q
  refine⟨o,_,_,ho,hc,hd,?_,?_⟩
  ·unfold strIterType;split<;>decide
  ·unfold strIterType;split<;>decide
theorem Cp.jh{h h':dC}{it:a6}{i:Nat}(q:c.Ds h it i)(e:∀o,h.get? it=some o->h'.get? it=some o):c.Ds h' it i:=by
 cases c with
 |lst a=>obtain⟨o,ho,r⟩:=q;exact⟨o,e _ ho,r⟩
 |tup a=>obtain⟨o,ho,r⟩:=q;exact⟨o,e _ ho,r⟩
 |txt x=>obtain⟨t,o,ho,r⟩:=q;exact⟨t,o,e _ ho,r⟩
end
section
variable{prog:bo}{w:df}{A:dL}{E:a9->bc->Prop}{s:bc}{c d:Cp}{xs ys:List V}
theorem sQ{it t:a6}{i:Nat}{items}{x:a9}{Q:a9->bc->Prop}(hit:s.heap.IsTupleIter it t i)
  (ht:s.heap.IsTuple t items) (hx:items[i]? =some x)
  (hQ:∀h',h'.IsTupleIter it t (i+1)->l_ it s.heap h'->Q x { s with heap:=h' }) :
  cf (model prog w) A (fg (.ref it)) Q E s:=by
 obtain⟨o,ho,hc,hd⟩:=id hit
 obtain⟨ol,KC,_,nl,hdl⟩:=ht
 unfold fg
 refine a5 (kz (name:=bd "__next__") hit.typeIs m_
  (kA m_ hit.typeIs F.entry_tuple_iterator_next ?_ (F.args_tuple_iterator_next_1 _)))
 show cf _ _ (field (.ref it) 0 >>= _) _ _ s
 refine a5 (ik ho hd (x:=.ref t) rfl ?_)
 show cf _ _ (if(Value.ref t==Value.none)=true then _ else _) _ _ s
 rw[if_neg (show ¬((Value.ref t==Value.none)=true) from bt)]
 show cf _ _ (field (.ref it) 1 >>= _) _ _ s
 refine a5 (ik ho hd (x:=.int i 0) rfl ?_)
 show cf _ _ (seqItems? (.ref t) >>= _) _ _ s
 refine a5 (h_ KC hdl ?_)
 simp only[o0,hx]
 refine a5 (nz ho hd (by simp) (bi ⟨x,rfl,bi (hQ _ ?_ (il ..))⟩))
 exact⟨_,f_ _ ho (oo (kn hd _)),(Obj.cls_mapFields ..).trans hc,by
  rw[kn hd];simp[rawInt]⟩
theorem uo{it t:a6}{i:Nat}{items}{Q:a9->bc->Prop}(hh:A.handled=none)
  (hit:s.heap.IsTupleIter it t i) (ht:s.heap.IsTuple t items) (hx:items[i]? =none)
  (hE:∀h' e,wP it s.heap h'->(∃o,h'.get? e=some o/\o.cls= .type "StopIteration")->E (.ref e) { s with heap:=h' }) :
  cf (model prog w) A (fg (.ref it)) Q E s:=by
 obtain⟨o,ho,hc,hd⟩:=id hit
 obtain⟨ol,KC,_,nl,hdl⟩:=ht
 unfold fg
 refine a5 (kz (name:=bd "__next__") hit.typeIs m_
  (kA m_ hit.typeIs F.entry_tuple_iterator_next ?_ (F.args_tuple_iterator_next_1 _)))
 show cf _ _ (field (.ref it) 0 >>= _) _ _ s
 refine a5 (ik ho hd (x:=.ref t) rfl ?_)
 show cf _ _ (if(Value.ref t==Value.none)=true then _ else _) _ _ s
 rw[if_neg (show ¬((Value.ref t==Value.none)=true) from bt)]
 show cf _ _ (field (.ref it) 1 >>= _) _ _ s
 refine a5 (ik ho hd (x:=.int i 0) rfl ?_)
 show cf _ _ (seqItems? (.ref t) >>= _) _ _ s
 refine a5 (h_ KC hdl ?_)
 simp only[o0,hx]
 refine a5 (wpAny_rule (a5 (nz ho hd (by simp) ?_)))
 show cf _ _ (newExc (.type "StopIteration") [] >>= _) _ _ _
 refine a5 ?_
 simp only[newExc,newTuple]
 refine a5 (lh ?_ (by size_fits))
 refine a5 (m:=firstArgMember _ _) (wpAny_of_eq (a:=Value.none) (by first|rfl|(simp only[firstArgMember];rfl)) ?_)
 refine lh ?_ (by size_fits)
 simp only[raiseNew]
 refine a5 (wpAny_handled ?_)
 first|rw[show A.in1.handled=none from hh]|rw[hh]
 refine a5 (bi (wpAny_throw ?_))
 exact hE _ _ (((il ..).extBut.push _).push _) ⟨_,bp _ rfl,rfl⟩
theorem signs_get{x:bv}{i:Nat}{v:V}(h:(ff x)[i]? =some v):∃k,x.cps[i]? =some k/\v= .str ⟨#[k]⟩:=by
 unfold ff at h
 rw[cx]at h
 cases e:x.cps.toList[i]? with
 |none=>rw[e]at h;cases h
 |some k =>
  rw[e]at h
  exact⟨k,by simpa using e,(dn h).symm⟩
theorem Gk{x:bv}{i:Nat}(h:(ff x)[i]? =none):x.cps[i]? =none:=by
 unfold ff at h
 rw[cx]at h
 cases e:x.cps.toList[i]? with
 |none=>simpa using e
 |some k=>rw[e]at h;cases h
theorem Cp.item{it:a6}{i:Nat}{x:V}{Q:a9->bc->Prop}(hit:c.Ds s.heap it i)(hs:c.src s.heap xs)(hx:xs[i]? =some x)
  (hQ:∀u h' tk,RelV x u->c.Ds h' it (i+1)->l_ it s.heap h'->Q u { s with heap:=h',toks:=tk }) :
  cf (model prog w) A (fg (.ref it)) Q E s:=by
 cases c with
 |lst a =>
  obtain⟨its,r,p⟩:=hs
  obtain⟨u,hu,ru⟩:=r.get hx
  exact wpAny_nextOf_list_item hit p (x:=u) (by simpa using hu) λh' q sb=>hQ u h' s.toks ru q sb
 |tup a =>
  obtain⟨its,r,p⟩:=hs
  obtain⟨u,hu,ru⟩:=r.get hx
  exact sQ hit p (x:=u) (by simpa using hu) λh' q sb=>hQ u h' s.toks ru q sb
 |txt x' =>
  obtain⟨t,q⟩:=hit
  rw[show xs=ff x' from hs]at hx
  obtain⟨k,hk,rfl⟩:=signs_get hx
  unfold strIterType at q
  by_cases ha:(x'.cps.all (·<128))=true
  ·rw[if_pos ha]at q
   exact wpAny_nextOf_ascii_item q hk λh' q' sb=>hQ _ h' _ ⟨_,rfl⟩ ⟨t,by unfold strIterType;rw[if_pos ha];exact q'⟩ sb
  ·rw[if_neg ha]at q
   exact wpAny_nextOf_wide_item q hk λh' q' sb=>hQ _ h' _ ⟨_,rfl⟩ ⟨t,by unfold strIterType;rw[if_neg ha];exact q'⟩ sb
theorem Cp.fin{it:a6}{i:Nat}{Q:a9->bc->Prop}(hh:A.handled=none)(hit:c.Ds s.heap it i)(hs:c.src s.heap xs)(hx:xs[i]? =none)
  (hE:∀h' e,wP it s.heap h'->(∃o,h'.get? e=some o/\o.cls= .type "StopIteration")->E (.ref e) { s with heap:=h' }) :
  cf (model prog w) A (fg (.ref it)) Q E s:=by
 cases c with
 |lst a =>
  obtain⟨its,r,p⟩:=hs
  exact wpAny_nextOf_list_end hh hit p (by simpa using r.none_of hx) hE
 |tup a =>
  obtain⟨its,r,p⟩:=hs
  exact uo hh hit p (by simpa using r.none_of hx) hE
 |txt x' =>
  obtain⟨t,q⟩:=hit
  rw[show xs=ff x' from hs]at hx
  have hk:=Gk hx
  unfold strIterType at q
  by_cases ha:(x'.cps.all (·<128))=true
  ·rw[if_pos ha]at q
   exact wpAny_nextOf_ascii_end hh q hk hE
  ·rw[if_neg ha]at q
   exact wpAny_nextOf_wide_end hh q hk hE
structure xP(z TI TO i1 i2:a6):Prop where
 TIz:TI≠z
 TOz:TO≠z
 i1z:i1≠z
 i2z:i2≠z
 TITO:TI≠TO
 TIi1:TI≠i1
 TIi2:TI≠i2
 TOi1:TO≠i1
 TOi2:TO≠i2
 i12:i1≠i2
structure F8(h:dC)(z TI TO i1 i2:a6)(c d:Cp)(f0:a9)(i:Nat):Prop where
 zz:IsZip h z TI TO f0
 ti:wS h TI (.ref i1) (.ref i2)
 to:∃a b,wS h TO a b
 h1:c.Ds h i1 i
 h2:d.Ds h i2 i
 c1:c.off TO
 c2:d.off TO
theorem HJ{z TI TO i1 i2:a6}{i:Nat}{x y:V}{Q:Option a9->bc->Prop}(D:xP z TI TO i1 i2)(Z:F8 s.heap z TI TO i1 i2 c d .none i)
  (sc:c.src s.heap xs) (sd:d.src s.heap ys) (hx:xs[i]? =some x) (hy:ys[i]? =some y)
  (hQ:∀u v h' tk,RelV x u->RelV y v->F8 h' z TI TO i1 i2 c d (rawInt s.heap.objs.size) (i+1)->wS h' s.heap.objs.size u v →
   (∀b o,b≠z->b≠TO->b≠i1->b≠i2->s.heap.get? b=some o->h'.get? b=some o)->Q (some (.ref s.heap.objs.size)) { s with heap:=h',toks:=tk }) :
  cf (model prog w) A (pyNext (.ref z)) Q E s:=by
 obtain⟨hz,hTI,⟨a,b,hTO⟩,h1,h2,c1,c2⟩:=id Z
 have hT:s.TypeIs (.ref z) "zip" :=⟨_,hz,rfl⟩
 obtain⟨V1,T1,_,hi1,Sx,_,Q6,Q5⟩:=Cp.j7 h1
 obtain⟨Yl,T2,_,hi2,ci2,_,n21,n22⟩:=Cp.j7 h2
 have cz:c.off z:=Cp.nZ sc hz rfl (by decide) (by decide)
 have dz:d.off z:=Cp.nZ sd hz rfl (by decide) (by decide)
 have ci:c.off i1:=Cp.nZ sc hi1 Sx Q6 Q5
 have di:d.off i1:=Cp.nZ sd hi1 Sx Q6 Q5
 unfold pyNext
 refine a5 (wpAny_attempt (kz (name:=bd "__next__") hT F.slot_zip_next
  (kA F.slot_zip_next hT F.entry_zip_next ?_ (F.args_zip_next_1 _))))
 show cf _ _ (field (.ref z) 2 >>= _) _ _ _
 refine a5 (ik hz rfl (x:=.bool false) rfl ?_)
 show cf _ _ (field (.ref z) 3 >>= _) _ _ _
 refine a5 (ik hz rfl (x:=.ref TI) rfl ?_)
 refine a5 (h_ hTI rfl ?_)
 show cf _ _ (ka (.ref z) >>= _) _ _ _
 refine a5 ?_
 unfold ka
 refine a5 (ik hz rfl (x:=.none) rfl (bi ?_))
 simp only[if_true]
 refine a5 (wpAny_rule ?_)
 refine a5 (ik hz rfl (x:=.ref TO) rfl ?_)
 refine a5 (n0 hz (by simp) λh₁ uO hs₁=>?_)
 replace uO:IsZip h₁ z TI TO .ellipsis:=uO
 refine a5 ?_
 simp only[List.zipIdx_cons,List.zipIdx_nil,List.forIn_cons,List.forIn_nil]
 refine a5 (a5 (wpAny_onRaise ?_))
 show cf _ _ (fg (.ref i1) >>= _) _ _ _
 refine a5 (Cp.item (c:=c) (Cp.jh h1 λo e=>hs₁.extBut _ _ D.i1z e) (Cp.k8 sc hs₁.extBut cz) hx λu h₂ tk₂ ru MM hs₂=>bi ?_)
 have xD:wS h₂ TO a b:=hs₂.extBut _ _ D.TOi1 (hs₁.extBut _ _ D.TOz hTO)
 refine a5 (h_ xD rfl ?_)
 refine a5 (wpAny_updateSeq_pair xD λh₃ AB nP=>?_)
 replace AB:wS h₃ TO u b:=AB
 refine a5 (tJ (bi ?_))
 refine a5 (a5 (wpAny_onRaise ?_))
 show cf _ _ (fg (.ref i2) >>= _) _ _ _
 refine a5 (Cp.item (c:=d) (Cp.jh h2 λo e=>nP.extBut _ _ D.TOi2.symm (hs₂.extBut _ _ D.i12.symm (hs₁.extBut _ _ D.i2z e))) (Cp.k8 (Cp.k8 (Cp.k8 sd hs₁.extBut dz) hs₂.extBut di) nP.extBut c2) hy λv h₄ tk₄ rv Sh uQ=>bi ?_)
 have JG:wS h₄ TO u b:=uQ.extBut _ _ D.TOi2 AB
 refine a5 (h_ JG rfl ?_)
 refine a5 (wpAny_updateSeq_pair JG λh₅ AA uP=>?_)
 replace AA:wS h₅ TO u v:=AA
 refine a5 (tJ (bi (bi ?_)))
 refine a5 (h_ AA rfl ?_)
 refine a5 (wpAny_newTuple ?_)
 have hsz:h₅.objs.size=s.heap.objs.size:=by rw[uP.1,uQ.1,nP.1,hs₂.1,hs₁.1]
 have MB:IsZip h₅ z TI TO .ellipsis:=uP.extBut _ _ D.TOz.symm (uQ.extBut _ _ D.i2z.symm (nP.extBut _ _ D.TOz.symm (hs₂.extBut _ _ D.i1z.symm uO)))
 have MJ:∀e o,e≠z->e≠TO->e≠i1->e≠i2->s.heap.get? e=some o->h₅.get? e=some o:=λe o e1 e2 e3 e4 q =>
  uP.extBut _ _ e2 (uQ.extBut _ _ e4 (nP.extBut _ _ e2 (hs₂.extBut _ _ e3 (hs₁.extBut _ _ e1 q))))
 have Si:c.Ds h₅ i1 (i+1):=Cp.jh MM λo e=>uP.extBut _ _ D.TOi1.symm (uQ.extBut _ _ D.i12 (nP.extBut _ _ D.TOi1.symm e))
 have Sg:d.Ds h₅ i2 (i+1):=Cp.jh Sh λo e=>uP.extBut _ _ D.TOi2.symm e
 have RL:z<h₅.objs.size:=ca MB
 show cf _ _ (Builtin.SmallTypes.ownedTupleHandOut (.ref z) (.ref h₅.objs.size) >>= _) _ _ _
 refine a5 ?_
 unfold Builtin.SmallTypes.ownedTupleHandOut
 have RK:IsZip (h₅.push { cls:=.type "tuple",data:=.seq #[u,v] }) z TI TO .ellipsis:=a8 _ MB
 refine a5 (n0 RK (by simp) λWz Jw MG=>?_)
 replace Jw:IsZip Wz z TI TO (rawInt h₅.objs.size):=Jw
 refine n0 Jw (by simp) λLG FT MF=>?_
 replace FT:IsZip LG z TI TO (rawInt h₅.objs.size):=FT
 have up:∀e o,e≠z->h₅.get? e=some o->LG.get? e=some o:=λe o e1 q=>MF.extBut _ _ e1 (MG.extBut _ _ e1 (a8 _ q))
 have ML:wS LG h₅.objs.size u v:=MF.extBut _ _ (ma RL) (MG.extBut _ _ (ma RL) (bp _ rfl))
 rw[hsz]at FT ML
 refine bi ⟨_,rfl,bi ?_⟩
 show Q (some (.ref h₅.objs.size)) _
 rw[hsz]
 exact hQ u v LG _ ru rv ⟨FT,up _ _ D.TIz (MJ _ _ D.TIz D.TITO D.TIi1 D.TIi2 hTI),⟨_,_,up _ _ D.TOz AA⟩,Cp.jh Si λo e=>up _ o D.i1z e,Cp.jh Sg λo e=>up _ o D.i2z e,c1,c2⟩ ML
  λe o e1 e2 e3 e4 q=>up e o e1 (MJ e o e1 e2 e3 e4 q)
theorem KL{z TI TO i1 i2:a6}{i:Nat}{Q:Option a9->bc->Prop}(hh:A.handled=none)(D:xP z TI TO i1 i2)(Z:F8 s.heap z TI TO i1 i2 c d .none i)
  (sc:c.src s.heap xs) (sd:d.src s.heap ys) (hend:xs[i]? =none\/ys[i]? =none)
  (hQ:∀h' tk,(∀b o,b≠z->b≠TO->b≠i1->b≠i2->s.heap.get? b=some o->h'.get? b=some o)->Q none { s with heap:=h',toks:=tk }) :
  cf (model prog w) A (pyNext (.ref z)) Q E s:=by
 obtain⟨hz,hTI,⟨a,b,hTO⟩,h1,h2,c1,c2⟩:=id Z
 have hT:s.TypeIs (.ref z) "zip" :=⟨_,hz,rfl⟩
 obtain⟨V1,T1,_,hi1,Sx,_,Q6,Q5⟩:=Cp.j7 h1
 have cz:c.off z:=Cp.nZ sc hz rfl (by decide) (by decide)
 have dz:d.off z:=Cp.nZ sd hz rfl (by decide) (by decide)
 have ci:c.off i1:=Cp.nZ sc hi1 Sx Q6 Q5
 have di:d.off i1:=Cp.nZ sd hi1 Sx Q6 Q5
 have stop:∀(h':dC) (e:a6) (tk:Nat),(∃o,h'.get? e=some o/\o.cls= .type "StopIteration")->(∀b o,b≠z->b≠TO->b≠i1->b≠i2->s.heap.get? b=some o->h'.get? b=some o) →
   cf (model prog w) A (isInstance (.ref e) (.type "StopIteration") >>= λb=>if b=true then pure (none:Option a9)else throw (.ref e)) Q E { s with heap:=h',toks:=tk }:=by
  intro h' e tk he hk
  obtain⟨o,ho,hc⟩:=he
  refine a5 (qr (T:= "StopIteration") (b:=true) ⟨o,ho,hc⟩ isSubtype_stop ?_)
  exact bi (hQ _ _ hk)
 unfold pyNext
 refine a5 (wpAny_attempt (kz (name:=bd "__next__") hT F.slot_zip_next
  (kA F.slot_zip_next hT F.entry_zip_next ?_ (F.args_zip_next_1 _))))
 show cf _ _ (field (.ref z) 2 >>= _) _ _ _
 refine a5 (ik hz rfl (x:=.bool false) rfl ?_)
 show cf _ _ (field (.ref z) 3 >>= _) _ _ _
 refine a5 (ik hz rfl (x:=.ref TI) rfl ?_)
 refine a5 (h_ hTI rfl ?_)
 show cf _ _ (ka (.ref z) >>= _) _ _ _
 refine a5 ?_
 unfold ka
 refine a5 (ik hz rfl (x:=.none) rfl (bi ?_))
 simp only[if_true]
 refine a5 (wpAny_rule ?_)
 refine a5 (ik hz rfl (x:=.ref TO) rfl ?_)
 refine a5 (n0 hz (by simp) λh₁ uO hs₁=>?_)
 replace uO:IsZip h₁ z TI TO .ellipsis:=uO
 refine a5 ?_
 simp only[List.zipIdx_cons,List.zipIdx_nil,List.forIn_cons,List.forIn_nil]
 refine a5 (a5 (wpAny_onRaise ?_))
 show cf _ _ (fg (.ref i1) >>= _) _ _ _
 cases hx:xs[i]? with
 |none =>
  refine a5 (Cp.fin (c:=c) hh (Cp.jh h1 λo e=>hs₁.extBut _ _ D.i1z e) (Cp.k8 sc hs₁.extBut cz) hx λh₂ e hs₂ he=>?_)
  obtain⟨oe,OQ,hce⟩:=he
  have MD:IsZip h₂ z TI TO .ellipsis:=hs₂ _ _ D.i1z.symm uO
  have Xa:e≠z:=λx=>by subst x;rw[MD]at OQ;cases OQ;simp at hce
  refine n0 MD (by simp) λh₃ _ nP=>?_
  exact stop h₃ e _ ⟨oe,nP.extBut _ _ Xa OQ,hce⟩ λk o c1 _ c3 _ x=>nP.extBut _ _ c1 (hs₂ _ _ c3 (hs₁.extBut _ _ c1 x))
 |some x =>
  have hy:ys[i]? =none:=by rcases hend with h|h;rw[hx]at h;cases h;exact h
  refine a5 (Cp.item (c:=c) (Cp.jh h1 λo e=>hs₁.extBut _ _ D.i1z e) (Cp.k8 sc hs₁.extBut cz) hx λu h₂ tk₂ ru MM hs₂=>bi ?_)
  have xD:wS h₂ TO a b:=hs₂.extBut _ _ D.TOi1 (hs₁.extBut _ _ D.TOz hTO)
  refine a5 (h_ xD rfl ?_)
  refine a5 (wpAny_updateSeq_pair xD λh₃ AB nP=>?_)
  refine a5 (tJ (bi ?_))
  refine a5 (a5 (wpAny_onRaise ?_))
  show cf _ _ (fg (.ref i2) >>= _) _ _ _
  refine a5 (Cp.fin (c:=d) hh (Cp.jh h2 λo e=>nP.extBut _ _ D.TOi2.symm (hs₂.extBut _ _ D.i12.symm (hs₁.extBut _ _ D.i2z e))) (Cp.k8 (Cp.k8 (Cp.k8 sd hs₁.extBut dz) hs₂.extBut di) nP.extBut c2) hy λh₄ e uQ he=>?_)
  obtain⟨oe,OQ,hce⟩:=he
  have MC:IsZip h₄ z TI TO .ellipsis:=uQ _ _ D.i2z.symm (nP.extBut _ _ D.TOz.symm (hs₂.extBut _ _ D.i1z.symm uO))
  have Xa:e≠z:=λx=>by subst x;rw[MC]at OQ;cases OQ;simp at hce
  refine n0 MC (by simp) λh₅ _ uP=>?_
  exact stop h₅ e _ ⟨oe,uP.extBut _ _ Xa OQ,hce⟩ λk o c1 c2 c3 c4 x=>uP.extBut _ _ c1 (uQ _ _ c4 (nP.extBut _ _ c2 (hs₂.extBut _ _ c3 (hs₁.extBut _ _ c1 x))))
noncomputable def Cp.dN(t:wT):Cp->lv
 | .lst a=>{ cls:=.type "list_iterator",data:=.fields #[.ref a,.int 0 0] }
 | .tup a=>{ cls:=.type "tuple_iterator",data:=.fields #[.ref a,.int 0 0] }
 | .txt x=>{ cls:=.type (strIterType x),data:=.fields #[.str x t,.int 0 0] }
noncomputable def Cp.value(t:wT):Cp->a9
 | .lst a=>.ref a
 | .tup a=>.ref a
 | .txt x=>.str x t
theorem Cp.value_of{u:a9}(r:RelV c.val u):∃t,u=c.value t:=by
 cases c with
 |lst a=>exact⟨0,r⟩
 |tup a=>exact⟨0,r⟩
 |txt x=>exact r
theorem Cp.iter{t:wT}{Q:a9->bc->Prop}(hs:c.src s.heap xs)(hQ:Q (.ref s.heap.objs.size) { s with heap:=s.heap.push (c.dN t) }):cf (model prog w) A (pyIter (c.value t)) Q E s:=by
 cases c with
 |lst a=>obtain⟨its,_,p⟩:=hs;exact mi p hQ
 |tup a=>obtain⟨its,_,p⟩:=hs;exact mB p hQ
 |txt x=>exact v0 hQ
theorem Cp.FP{t:wT}{h:dC}{it:a6}(e:h.get? it=some (c.dN t)):c.Ds h it 0:=by
 cases c with
 |lst a=>exact⟨_,e,rfl,rfl⟩
 |tup a=>exact⟨_,e,rfl,rfl⟩
 |txt x=>exact⟨t,_,e,rfl,rfl⟩
noncomputable abbrev S7(h:dC)(o1:lv):dC:=h.push o1
noncomputable abbrev S6(h:dC)(o1 o2:lv):dC:=(S7 h o1).push o2
noncomputable abbrev S5(h:dC)(o1 o2:lv):dC:=(S6 h o1 o2).push { cls:=.type "tuple",data:=.seq #[.ref h.objs.size,.ref (S7 h o1).objs.size] }
noncomputable abbrev S4(h:dC)(o1 o2:lv):dC:=(S5 h o1 o2).push { cls:=.type "tuple",data:=.seq #[.none,.none] }
noncomputable abbrev PF(h:dC)(o1 o2:lv):dC:=(S4 h o1 o2).push { cls:=.type "zip",data:=.fields #[.none,.bool false,.bool false,.ref (S6 h o1 o2).objs.size,.ref (S5 h o1 o2).objs.size] }
theorem GG(c d:Cp)(t1 t2:wT)(xs ys:List V):
  Meets (Builtin.«zip.__new__» ⟨[.type "zip",c.value t1,d.value t2],[]⟩) (λ_ R s=>c.src s.heap xs/\d.src s.heap ys ∧
   R (.ok (.ret (.ref (S4 s.heap (c.dN t1) (d.dN t2)).objs.size))) { s with heap:=PF s.heap (c.dN t1) (d.dN t2) }) :=
 .of_wp λprog w A R s h=>by
  obtain⟨hp,g,dd,tk,os⟩:=s;obtain⟨hl1,hl2,h⟩:=h
  have hsub:=sub_zip
  have Qa:c.src (Shared.heap ⟨hp,g,dd,tk,os⟩) xs:=hl1
  have P9:d.src (Shared.heap ⟨hp.push (c.dN t1),g,dd,tk,os⟩) ys:=Cp.Ic hl2 λb o e=>a8 _ e
  wp_walk using Cp.iter (t:=t1) Qa,Cp.iter (t:=t2) P9
  exact⟨_,rfl,h⟩
theorem G4{t1 t2:wT}{Q:a9->bc->Prop}(sc:c.src s.heap xs)(sd:d.src s.heap ys)
  (h:∀h',IsZip h' (s.heap.objs.size+4) (s.heap.objs.size+2) (s.heap.objs.size+3) .none->wS h' (s.heap.objs.size+2) (.ref s.heap.objs.size) (.ref (s.heap.objs.size+1)) →
   wS h' (s.heap.objs.size+3) .none .none->c.Ds h' s.heap.objs.size 0->d.Ds h' (s.heap.objs.size+1) 0->(∀b o,s.heap.get? b=some o->h'.get? b=some o)->Q (.ref (s.heap.objs.size+4)) { s with heap:=h' }) :
  cf (model prog w) A (call (.type "zip") [c.value t1,d.value t2]) Q E s:=by
 refine callType_new F.called_zip (by decide) (F.typeCall_zip_2 _ _) (F.newCall_zip_2 _ _) (λobj=>F.args_object_init_3 obj _ _) F.entry_zip_new
  (GG c d t1 t2 xs ys) ⟨sc,sd,?_⟩
 have z1:(S7 s.heap (c.dN t1)).objs.size=s.heap.objs.size+1:=hV ..
 have z2:(S6 s.heap (c.dN t1) (d.dN t2)).objs.size=s.heap.objs.size+2:=by rw[hV,z1]
 have z3:(S5 s.heap (c.dN t1) (d.dN t2)).objs.size=s.heap.objs.size+3:=by rw[hV,z2]
 have z4:(S4 s.heap (c.dN t1) (d.dN t2)).objs.size=s.heap.objs.size+4:=by rw[hV,z3]
 have it1:(c.dN t1).isFreed=false:=by cases c<;>rfl
 have it2:(d.dN t2).isFreed=false:=by cases d<;>rfl
 have g5:(PF s.heap (c.dN t1) (d.dN t2)).get? (S4 s.heap (c.dN t1) (d.dN t2)).objs.size=some _:=bp _ rfl
 have g4:(PF s.heap (c.dN t1) (d.dN t2)).get? (S5 s.heap (c.dN t1) (d.dN t2)).objs.size=some _:=a8 _ (bp _ rfl)
 have g3:(PF s.heap (c.dN t1) (d.dN t2)).get? (S6 s.heap (c.dN t1) (d.dN t2)).objs.size=some _:=a8 _ (a8 _ (bp _ rfl))
 have g2:(PF s.heap (c.dN t1) (d.dN t2)).get? (S7 s.heap (c.dN t1)).objs.size=some _:=a8 _ (a8 _ (a8 _ (bp _ it2)))
 have g1:(PF s.heap (c.dN t1) (d.dN t2)).get? s.heap.objs.size=some _:=a8 _ (a8 _ (a8 _ (a8 _ (bp _ it1))))
 show _/\_
 rw[z2,z3,z4]at g5
 rw[z1,z2]at g3
 rw[z3]at g4
 rw[z1]at g2
 rw[z4]
 exact⟨⟨_,g5,rfl⟩,h _ g5 g3 g4 (Cp.FP g1) (Cp.FP g2) λb o x =>
  a8 _ (a8 _ (a8 _ (a8 _ (a8 _ x))))⟩
end
section
variable{X:Cx}{pins:List (a6×lv)}{σ:St}{H:Hp}{s:bc}
theorem Inv.moved{h':dC}{t':Nat}{ch:List a6}(I:Inv X pins σ H s)(k:∀b o,b∉ch->s.heap.get? b=some o->h'.get? b=some o)(hf:∀b∈ch,qz X pins H b)(ht:s.toks<=t':=by first|exact ba _|exact gc _|assumption|omega):Inv X pins σ H { s with heap:=h',toks:=t' }:=by
 have Mw:∀b u,H b=some u->b∉ch:=λb u e z=>by rw[(hf b z).1]at e;cases e
 refine I.step (g':=s.gens) (d':=s.drawn) (ch:=ch) (λb hb=>?_) (λb o _ _ hc e _=>k b o hc e) (λb o _ _ hc e _=>⟨o.slots,k b o hc e⟩) (λ_ _ _ _ n=>n)
  (λb o hc e=>⟨o,k b o hc e⟩) (λ_ _ e=>e) (λ_ _ _ e=>e) (λb ps e=>⟨#[],by rw[e];simp⟩) (λm hm=>?_) (λb u e=>?_) I.bare (bn I.up ht)
 ·obtain⟨_,h1,_,h3,h4,h5⟩:=hf b hb
  exact⟨h3,h1,h4,h5⟩
 ·obtain⟨o,es,ep,ho,r⟩:=hm
  exact⟨o,es,ep,k _ o (λz=>(hf _ z).2.1 rfl) ho,r⟩
 ·refine(I.hok b u e).stay (λc v hc q=>k c v ?_ q) (λ_ q=>q) λ_ _ q=>q
  rcases hc with z|z
  ·rw[z];exact Mw b u e
  ·exact Mw c _ z
theorem Inv.Mf{a:a6}{o:HO}(I:Inv X pins σ H s)(hf:qz X pins H a)(new:bY X.prog X.w (upd H a o) s.heap a o):Inv X pins σ (upd H a o) s:=by
 have hn:=hf.1
 have e:s={ s with heap:=s.heap,gens:=s.gens,drawn:=s.drawn,toks:=s.toks }:=rfl
 rw[e]
 refine I.step (ch:=[a]) (λb hb=>?_) (λ_ _ _ _ _ e _=>e) (λ_ o _ _ _ e _=>⟨o.slots,e⟩) (λb _ hc _ n=>?_)
  (λ_ o _ e=>⟨o,e⟩) (λb _ e=>?_) (λb _ _ e=>?_) (λb ps e=>⟨#[],?_⟩) (λ_ hm=>hm) (λb u q=>?_) I.bare I.up
 ·have eb:b=a:=by simpa using hb
  subst eb
  obtain⟨_,h1,_,h3,h4,h5⟩:=hf
  exact⟨h3,h1,h4,h5⟩
 ·rw[aq (λz=>hc (by simp[z]))];exact n
 ·rw[aq (aO e hn)];exact e
 ·rw[aq (aO e hn)];exact e
 ·rw[aq (aO e hn),e];simp
 ·by_cases hb:b=a
  ·subst hb;rw[ah]at q;cases q;exact new
  ·rw[aq hb]at q
   exact(I.hok b u q).stay (λc v _ r=>r) (λc r=>by rw[aq (aO r hn)];exact r) λc xs r=>by rw[aq (aO r hn)];exact r
noncomputable def SQ(K:PySem.W.Frag)(c d:Cp):It :=
 ⟨λi H=>∃xs ys x y,c.at K H xs/\d.at K H ys/\xs[i]? =some x/\ys[i]? =some y,
  λi H v H'=>∃p x y,v= .ref p/\H p=none/\H'=upd H p (.tup [x,y])/\∀xs ys,c.at K H xs->d.at K H ys->xs[i]? =some x/\ys[i]? =some y,
  λi H=>∃xs ys,c.at K H xs/\d.at K H ys/\(xs.length<=i\/ys.length<=i)⟩
theorem HW{P:bo}{w:df}{K:PySem.W.Frag}{elts:List Expr}{k:Nat}{pos:re}{c d:Cp}{z TI TO i1 i2:a6}(D:xP z TI TO i1 i2):
  Turn P w K (.Tuple elts k pos) (SQ K c d) [z,TI,TO,i1,i2] z (λi h=>F8 h z TI TO i1 i2 c d .none i) where
 mem:=by simp
 obj:=λi h Z b hb=>by
  obtain⟨hz,hTI,⟨a,b',hTO⟩,h1,h2,_,_⟩:=Z
  obtain⟨V1,T1,v1,hi1,_,d1,_⟩:=Cp.j7 h1
  obtain⟨Yl,T2,v2,hi2,_,d2,_⟩:=Cp.j7 h2
  simp only[cm,fA,or_false]at hb
  rcases hb with rfl|rfl|rfl|rfl|rfl
  ·exact⟨_,hz,λv q=>by cases q⟩
  ·exact⟨_,hTI,λv q=>by cases q⟩
  ·exact⟨_,hTO,λv q=>by cases q⟩
  ·exact⟨_,hi1,λv q=>by rw[d1]at q;cases q⟩
  ·exact⟨_,hi2,λv q=>by rw[d2]at q;cases q⟩
 keep:=λi h h' Z kp=>by
  obtain⟨hz,hTI,⟨a,b',hTO⟩,h1,h2,o1,o2⟩:=Z
  exact⟨kp z (by simp) _ hz,kp TI (by simp) _ hTI,⟨a,b',kp TO (by simp) _ hTO⟩,Cp.jh h1 λo e=>kp i1 (by simp) o e,Cp.jh h2 λo e=>kp i2 (by simp) o e,o1,o2⟩
 item:=by
  intro X hP hw hK hc i pins s σ H E I hf Z hg
  subst hP hw hK
  obtain⟨xs,ys,x,y,hx,hy,ex,ey⟩:=hg
  have sc:=Cp.oX I hx
  have sd:=Cp.oX I hy
  refine TK.cH (ba s.toks) (HJ D Z sc sd ex ey λu v h' tk ru rv Z' hp kk hup=>⟨_,rfl,?_⟩)
  refine wpAny_letOwnedTupleGo_zip Z'.zz λh'' WB sb=>?_
  have hnz:s.heap.objs.size≠z:=ma (ca Z.zz)
  have k2:∀b o,b∉[z,TI,TO,i1,i2]->s.heap.get? b=some o->h''.get? b=some o:=λb o hb e=>by
   simp only[cm,fA,or_false,not_or]at hb
   exact sb.extBut _ _ hb.1 (kk b o hb.1 hb.2.2.1 hb.2.2.2.1 hb.2.2.2.2 e)
  have I1:Inv X pins σ H { s with heap:=h'',toks:=tk }:=I.moved k2 hf
  have hn:H s.heap.objs.size=none:=I.fresh
  have Xx:qz X pins H s.heap.objs.size:=I.xF (ba _) hn
  have hp2:wS h'' s.heap.objs.size u v:=sb.extBut _ _ hnz hp
  have I2:Inv X pins σ (upd H s.heap.objs.size (.tup [x,y])) { s with heap:=h'',toks:=tk } :=
   I1.Mf Xx ⟨aw,[u,v],.cons ru (.cons rv .nil),⟨_,hp2,rfl,_,rfl⟩⟩
  refine⟨.ref s.heap.objs.size,_,I2,rfl,⟨_,x,y,rfl,hn,rfl,λxs' ys' hx' hy'=>?_⟩,?_,λb hb=>?_⟩
  ·rw[Cp.EO I hx' hx,Cp.EO I hy' hy];exact⟨ex,ey⟩
  ·obtain⟨_,hTI,⟨a,b',hTO⟩,h1,h2,o1,o2⟩:=Z'
   exact⟨WB,sb.extBut _ _ D.TIz hTI,⟨a,b',sb.extBut _ _ D.TOz hTO⟩,Cp.jh h1 λo e=>sb.extBut _ _ D.i1z e,Cp.jh h2 λo e=>sb.extBut _ _ D.i2z e,o1,o2⟩
  ·have lt:b<s.heap.objs.size:=by
    obtain⟨hz,hTI,⟨a,b',hTO⟩,h1,h2,_,_⟩:=Z
    obtain⟨V1,T1,v1,hi1,_,d1,_⟩:=Cp.j7 h1
    obtain⟨Yl,T2,v2,hi2,_,d2,_⟩:=Cp.j7 h2
    simp only[cm,fA,or_false]at hb
    rcases hb with rfl|rfl|rfl|rfl|rfl
    ·exact ca hz
    ·exact ca hTI
    ·exact ca hTO
    ·exact ca hi1
    ·exact ca hi2
   rw[aq (dy lt)]
   exact(hf b hb).1
 done:=by
  intro X hP hw hK hc i pins s σ H E I hf Z hg
  subst hP hw hK
  obtain⟨xs,ys,hx,hy,he⟩:=hg
  refine TK.cH (ba s.toks) (KL (I.ok.hd hc) D Z (Cp.oX I hx) (Cp.oX I hy) (he.imp (λq=>sT q) λq=>sT q) λh' tk kk hup=>⟨rfl,?_⟩)
  exact I.moved (λb o hb e=>by
   simp only[cm,fA,or_false,not_or]at hb
   exact kk b o hb.1 hb.2.2.1 hb.2.2.2.1 hb.2.2.2.2 e) hf
 self:=λ_ _ _ _ _ Z h=>wpAny_pyIter_zip Z.zz h
theorem Dv(n:Nat):xP (n+4) (n+2) (n+3) n (n+1):=by
 have ne:∀{a b:Nat},a<b->a≠b:=λh=>dy h
 exact⟨ne (by omega),ne (by omega),ne (by omega),ne (by omega),ne (by omega),(ne (by omega)).symm,(ne (by omega)).symm,(ne (by omega)).symm,(ne (by omega)).symm,ne (by omega)⟩
noncomputable def Wv(K:PySem.W.Frag)(ta:TA):TI:=λσ H R=>ta σ H λvs H1=>∃c d xs ys,vs=[c.val,d.val]/\c.at K H1 xs/\d.at K H1 ys/\R (SQ K c d) H1
theorem D4 {a b:Expr}{ta:TA}{p pos:re}{elts:List Expr}{k:Nat}{tpos:re}(hc:X.calm=true)(hg:Gl X "zip")(hm:X.mg "zip" =none)(ha:PA X [a,b] ta)
  (hs:eh [a,b] X.env=[(false,eval a X.env),(false,eval b X.env)]:=by rfl) (hs2:eh [b] X.env=[(false,eval b X.env)]:=by rfl) :
  PI X (.Tuple elts k tpos) (.Call (.Name "zip" p) [a,b] [] pos) (Wv X.K ta):=by
 intro pins s σ H R I h
 refine Call_ (qk I hg hm boot_zip (k_ (gg (ha pos pins s σ H _ I h) λus s1 ⟨vs,H1,I1,r1,q1⟩=>?_) (by rw[hs,hs2]) (by rw[hs2];rfl)))
 obtain⟨c,d,xs,ys,e,hx,hy,q⟩:=q1
 subst e
 obtain⟨u,v,rfl,ru,rv⟩:=vals2 r1
 obtain⟨t1,rfl⟩:=Cp.value_of ru
 obtain⟨t2,rfl⟩:=Cp.value_of rv
 have sc:=Cp.oX I1 hx
 have sd:=Cp.oX I1 hy
 refine G4 sc sd λh' hz hTI hTO h1 h2 kk=>wpAny_pyIter_zip hz ?_
 have D:xP (s1.heap.objs.size+4) (s1.heap.objs.size+2) (s1.heap.objs.size+3) s1.heap.objs.size (s1.heap.objs.size+1) :=
  Dv _
 refine⟨_,[s1.heap.objs.size+4,s1.heap.objs.size+2,s1.heap.objs.size+3,s1.heap.objs.size,s1.heap.objs.size+1],_,_,H1,rfl,I1.kept (t':=s1.toks) kk,HW D,
  ⟨hz,hTI,⟨_,_,hTO⟩,h1,h2,Cp.FF sc (i_ _ 3),Cp.FF sd (i_ _ 3)⟩,λb hb=>?_,q⟩
 have le:s1.heap.objs.size<=b:=by
  simp only[cm,fA,or_false]at hb
  rcases hb with rfl|rfl|rfl|rfl|rfl
  ·exact i_ _ _
  ·exact i_ _ _
  ·exact i_ _ _
  ·exact ba _
  ·exact i_ _ _
 exact I1.xF le (I1.hok.fresh le)
end
end
section
noncomputable def SS(x:bv):It:=⟨λi _=>i<x.cps.size,λi H v H'=>H'=H/\∃k,x.cps[i]? =some k/\v= .str ⟨#[k]⟩,λi _=>x.cps.size<=i⟩
section
variable{prog:bo}{w:df}{A:dL}{E:a9->bc->Prop}{s:bc}
theorem pK{it:a6}{x:bv}{t:wT}{i k:Nat}{Q:Option a9->bc->Prop}(hit:s.heap.IsStrIter it (strIterType x) x t i)(hx:x.cps[i]? =some k)
  (hQ:∀h',h'.IsStrIter it (strIterType x) x t (i+1)->l_ it s.heap h'->Q (some (.str ⟨#[k]⟩ s.toks)) { s with heap:=h',toks:=s.toks+1 }):cf (model prog w) A (pyNext (.ref it)) Q E s:=by
 unfold strIterType at hit hQ
 by_cases ha:(x.cps.all (·<128))=true
 ·rw[if_pos ha]at hit hQ
  exact wpAny_pyNext_ascii_item hit hx hQ
 ·rw[if_neg ha]at hit hQ
  exact wpAny_pyNext_wide_item hit hx hQ
theorem qa{it:a6}{x:bv}{t:wT}{i:Nat}{Q:Option a9->bc->Prop}(hh:A.handled=none)(hit:s.heap.IsStrIter it (strIterType x) x t i)(hx:x.cps[i]? =none)
  (hQ:∀h',wP it s.heap h'->Q none { s with heap:=h' }):cf (model prog w) A (pyNext (.ref it)) Q E s:=by
 unfold strIterType at hit
 by_cases ha:(x.cps.all (·<128))=true
 ·rw[if_pos ha]at hit
  exact wpAny_pyNext_ascii_end hh hit hx hQ
 ·rw[if_neg ha]at hit
  exact wpAny_pyNext_wide_end hh hit hx hQ
theorem qc{it:a6}{x:bv}{t:wT}{i:Nat}{Q:a9->bc->Prop}(hit:s.heap.IsStrIter it (strIterType x) x t i)(h:Q (.ref it) s):cf (model prog w) A (pyIter (.ref it)) Q E s:=by
 unfold strIterType at hit
 by_cases ha:(x.cps.all (·<128))=true
 ·rw[if_pos ha]at hit
  exact wpAny_pyIter_striter_ascii hit h
 ·rw[if_neg ha]at hit
  exact wpAny_pyIter_striter_wide hit h
end
theorem tV(x:bv):["enumerate","zip","dict_itemiterator","dict_reverseitemiterator","odict_iterator","itertools.zip_longest","itertools.pairwise"].contains (strIterType x)=false:=by
 unfold strIterType
 split<;>decide
theorem BC{P:bo}{w:df}{K:PySem.W.Frag}{tg:Expr}(x:bv)(t:wT)(it:a6):Turn P w K tg (SS x) [it] it (λi h=>h.IsStrIter it (strIterType x) x t i) where
 mem:=by simp
 obj:=λi h st b hb=>by
  have e:b=it:=by simpa using hb
  subst e
  obtain⟨o,e,c,d⟩:=st
  exact⟨o,e,λv z=>by rw[d]at z;cases z⟩
 keep:=λi h h' st k=>by
  obtain⟨o,e,r⟩:=st
  exact⟨o,k it (by simp) o e,r⟩
 item:=by
  intro X hP hw hK hc i pins s σ H E I hf st hg
  subst hP hw hK
  have hi:i<x.cps.size:=hg
  obtain⟨f0,f1,f2,f3,f4,f5⟩:=hf it (by simp)
  refine pK st (k:=x.cps[i]) (by simp[hi]) λh' st' sb=>?_
  have I1:Inv X pins σ H { s with heap:=h',toks:=s.toks+1 }:=I.turned (λb o hb e=>(sb.2 b hb).trans e) f0 f1 f3 f4 f5
  obtain⟨o,e,c,d⟩:=id st'
  exact⟨_,rfl,CB (s:={ s with heap:=h',toks:=s.toks+1 }) e c d (tV x) ⟨.str ⟨#[x.cps[i]]⟩,H,I1,⟨_,rfl⟩,⟨rfl,_,by simp[hi],rfl⟩,st',λb hb=>(hf b hb).1⟩⟩
 done:=by
  intro X hP hw hK hc i pins s σ H E I hf st hg
  subst hP hw hK
  have hi:x.cps.size<=i:=hg
  obtain⟨f0,f1,f2,f3,f4,f5⟩:=hf it (by simp)
  exact qa (I.ok.hd hc) st (by simp[hi]) λh' eb=>⟨rfl,I.turned (t':=s.toks) (λb o hb e=>eb b o hb e) f0 f1 f3 f4 f5⟩
 self:=λ_ _ _ _ _ st h=>qc st h
section
variable{X:Cx}{tg:Expr}
noncomputable def Ww(tl:TE):TI:=λσ H R=>tl σ H λv H1=>∃x,v= .str x/\R (SS x) H1
theorem ID{l:Expr}{tl:TE}(hl:PE X l tl):PI X tg l (Ww tl):=by
 intro pins s σ H R I h
 refine gg (hl pins s σ H _ I h) λv s1 ⟨y,H1,I1,r1,q1⟩=>?_
 obtain⟨x,e,q⟩:=q1
 subst e
 obtain⟨t,rfl⟩:=r1
 refine v0 ?_
 refine⟨s1.heap.objs.size,[s1.heap.objs.size],_,_,H1,rfl,I1.kept (t':=s1.toks) λb o e=>a8 _ e,BC x t _,⟨_,bp _ rfl,rfl,rfl⟩,λb hb=>?_,q⟩
 have e:b=s1.heap.objs.size:=by simpa using hb
 subst e
 exact I1.xF (ba _) (I1.hok.fresh (ba _))
theorem LR{x:bv}{g:TG}{tb:TS}{D:Ends}{σ:St}{H:Hp}(Pv:Nat->St->Hp->Prop)(h0:Pv 0 σ H)
  (hs:∀i k σ H,x.cps[i]? =some k->Pv i σ H->g (.str ⟨#[k]⟩) σ H λσ2 H2=>tb { D with nx:=Pv (i+1),ct:=Pv (i+1),bk:=D.nx } σ2 H2) (hd:∀ σ H,Pv x.cps.size σ H->D.nx σ H) :
  ∃W:Nat->Nat->St->Hp->Prop,(∃m,W 0 m σ H)/\∀i m σ H,W i m σ H →
   ((SS x).stop i H/\D.nx σ H)\/((SS x).go i H/\∃N:St->Hp->Prop,(∀ σ' H',N σ' H'->∃m',m'<m/\W (i+1) m' σ' H')/\∀y H',(SS x).Bs i H y H'->g y σ H' λσ2 H2=>tb { D with nx:=N,ct:=N,bk:=D.nx } σ2 H2):=by
 refine⟨λi m σ H=>m=x.cps.size-i/\i<=x.cps.size/\Pv i σ H,⟨x.cps.size,by simp,em _,h0⟩,?_⟩
 rintro i m σ H ⟨rfl,hi,p⟩
 by_cases hlt:i<x.cps.size
 ·refine .inr ⟨hlt,Pv (i+1),λσ' H' p'=>⟨x.cps.size-(i+1),by omega,rfl,hlt,p'⟩,λy H' q=>?_⟩
  obtain⟨e,k,ek,rfl⟩:=q
  subst e
  exact hs i k σ _ ek p
 ·have e:i=x.cps.size:=by omega
  subst e
  exact .inl ⟨ba _,hd σ H p⟩
theorem FY{K:PySem.W.Frag}{c d:Cp}{xs ys:List V}{g:TG}{tb:TS}{D:Ends}{σ:St}{H:Hp}(Pv:Nat->St->Hp->Prop)(h0:Pv 0 σ H)(hl:∀i σ H,i<=min xs.length ys.length->Pv i σ H->c.at K H xs/\d.at K H ys)
  (hs:∀i x y p σ H,xs[i]? =some x->ys[i]? =some y->H p=none->Pv i σ H->g (.ref p) σ (upd H p (.tup [x,y])) λσ2 H2=>tb { D with nx:=Pv (i+1),ct:=Pv (i+1),bk:=D.nx } σ2 H2)
  (hd:∀ σ H,Pv (min xs.length ys.length) σ H->D.nx σ H) :
  ∃W:Nat->Nat->St->Hp->Prop,(∃m,W 0 m σ H)/\∀i m σ H,W i m σ H →
   ((SQ K c d).stop i H/\D.nx σ H)\/((SQ K c d).go i H/\∃N:St->Hp->Prop,(∀ σ' H',N σ' H'->∃m',m'<m/\W (i+1) m' σ' H')/\∀y H',(SQ K c d).Bs i H y H'->g y σ H' λσ2 H2=>tb { D with nx:=N,ct:=N,bk:=D.nx } σ2 H2):=by
 refine⟨λi m σ H=>m=min xs.length ys.length-i/\i<=min xs.length ys.length/\Pv i σ H,⟨min xs.length ys.length,by simp,em _,h0⟩,?_⟩
 rintro i m σ H ⟨rfl,hi,p⟩
 obtain⟨zx,zy⟩:=hl i σ H hi p
 by_cases hlt:i<min xs.length ys.length
 ·have h1:i<xs.length:=by omega
  have h2:i<ys.length:=by omega
  refine .inr ⟨⟨xs,ys,xs[i],ys[i],zx,zy,by simp[h1],by simp[h2]⟩,Pv (i+1),λσ' H' p'=>⟨min xs.length ys.length-(i+1),by omega,rfl,hlt,p'⟩,λv H' q=>?_⟩
  obtain⟨a,x,y,rfl,ha,rfl,e⟩:=q
  obtain⟨e1,e2⟩:=e xs ys zx zy
  exact hs i x y a σ H e1 e2 ha p
 ·have e:i=min xs.length ys.length:=by omega
  subst e
  refine .inl ⟨⟨xs,ys,zx,zy,?_⟩,hd σ H p⟩
  rcases Nat.le_total xs.length ys.length with q|q
  ·exact .inl (by rw[Nat.min_eq_left q];exact ba _)
  ·exact .inr (by rw[Nat.min_eq_right q];exact ba _)
end
end
section
noncomputable def Cp.adr:Cp->List a6
 | .lst a=>[a]
 | .tup a=>[a]
 | .txt _=>[]
theorem Cp.Lg{c:Cp}{b:a6}(h:c.off b):b∉c.adr:=by
 cases c with
 |lst a =>
  intro z
  have q:b=a:=by simpa[Cp.adr]using z
  exact h q.symm
 |tup a =>
  intro z
  have q:b=a:=by simpa[Cp.adr]using z
  exact h q.symm
 |txt x=>intro z;cases z
theorem Cp.K3{c:Cp}{xs:List V}{h h':dC}(hs:c.src h xs)(k:∀b∈c.adr,∀o,h.get? b=some o->h'.get? b=some o):c.src h' xs:=by
 cases c with
 |lst a=>obtain⟨its,r,o,ho,q⟩:=hs;exact⟨its,r,o,k a (by simp[Cp.adr]) _ ho,q⟩
 |tup a=>obtain⟨its,r,o,ho,q⟩:=hs;exact⟨its,r,o,k a (by simp[Cp.adr]) _ ho,q⟩
 |txt x=>exact hs
theorem Cp.draws{prog:bo}{w:df}{A:dL}{c:Cp}{xs:List V}(hh:A.handled=none)(it:a6):
  Draws prog w A it (it::c.adr) xs.length (λi v=>∃x,xs[i]? =some x/\RelV x v) (λi h=>c.Ds h it i/\c.src h xs) where
 live:=λi h st=>by
  obtain⟨o,_,_,ho,_⟩:=Cp.j7 st.1
  exact⟨o,ho⟩
 frame:=λi h h' st k=>⟨Cp.jh st.1 λo e=>k it (by simp) o e,Cp.K3 st.2 λb hb o e=>k b (b0 _ hb) o e⟩
 item:=λi s Q E hi st hQ=>by
  obtain⟨o,T,_,ho,hc,_,n1,n2⟩:=Cp.j7 st.1
  have off:c.off it:=Cp.nZ st.2 ho hc n1 n2
  refine Cp.item st.1 st.2 (x:=xs[i]) (by simp[hi]) λu h' tk ru q sb=>?_
  exact hQ u h' tk ⟨_,by simp[hi],ru⟩ ⟨q,Cp.k8 st.2 sb.extBut off⟩ sb
 done:=λs Q E st hE=>Cp.fin hh st.1 st.2 (by simp) hE
noncomputable def SW(K:PySem.W.Frag)(c:Cp):It :=
 ⟨λi H=>∃xs x,c.at K H xs/\xs[i]? =some x,
  λi H v H'=>∃p x,v= .ref p/\H p=none/\H'=upd H p (.tup [.int (i:Int),x])/\∀xs,c.at K H xs->xs[i]? =some x,
  λi H=>∃xs,c.at K H xs/\xs.length<=i⟩
theorem Gi{P:bo}{w:df}{K:PySem.W.Frag}{elts:List Expr}{k:Nat}{pos:re}{c:Cp}{e it:a6}(hei:e≠it):
  Turn P w K (.Tuple elts k pos) (SW K c) [e,it] e (λi h=>(∃old,IsEnum h e it i old)/\c.Ds h it i) where
 mem:=by simp
 obj:=λi h Z b hb=>by
  obtain⟨⟨old,he⟩,hi⟩:=Z
  obtain⟨o,_,vs,ho,_,d,_⟩:=Cp.j7 hi
  simp only[cm,fA,or_false]at hb
  rcases hb with rfl|rfl
  ·exact⟨_,he,λv q=>by cases q⟩
  ·exact⟨_,ho,λv q=>by rw[d]at q;cases q⟩
 keep:=λi h h' Z kp=>by
  obtain⟨⟨old,he⟩,hi⟩:=Z
  exact⟨⟨old,kp e (by simp) _ he⟩,Cp.jh hi λo q=>kp it (by simp) o q⟩
 item:=by
  intro X hP hw hK hc i pins s σ H E I hf Z hg
  subst hP hw hK
  obtain⟨xs,x,hx,ex⟩:=hg
  obtain⟨⟨old,he⟩,hi⟩:=id Z
  have sc:=Cp.oX I hx
  have V2:c.off e:=Cp.nZ sc he rfl (by decide) (by decide)
  have hlt:i<xs.length:=(bj.mp ex).1
  have hh:X.A.in1.handled=none:=I.ok.hd hc
  refine TK.cH (ba s.toks) (wpAny_pyNext_enum_itemD (Cp.draws (c:=c) (xs:=xs) hh it) he ⟨hi,sc⟩ hlt hei (λz=>?_) λu h' tk hP ho st' hT hsz kk hup=>⟨_,rfl,?_⟩)
  ·rcases cm.mp z with q|q
   ·exact hei q
   ·exact Cp.Lg V2 q
  ·obtain⟨x',ex',ru⟩:=hP
   rw[ex]at ex'
   cases ex'
   refine wpAny_letOwnedTupleGo_enum ho λh'' Xc sb=>?_
   have hne:s.heap.objs.size≠e:=ma (ca he)
   have k2:∀b o,b∉[e,it]->s.heap.get? b=some o->h''.get? b=some o:=λb o hb q=>by
    simp only[cm,fA,or_false,not_or]at hb
    exact sb.extBut _ _ hb.1 (kk b o hb.1 hb.2 q)
   have I1:Inv X pins σ H { s with heap:=h'',toks:=tk+1 }:=I.moved k2 hf (by have z:s.toks<=tk+1:=hup;exact z)
   have hn:H s.heap.objs.size=none:=I.fresh
   have Xx:qz X pins H s.heap.objs.size:=I.xF (ba _) hn
   have hp2:h''.get? s.heap.objs.size=some { cls:=.type "tuple",data:=.seq #[.int i tk,u] }:=sb.extBut _ _ hne hT
   have I2:Inv X pins σ (upd H s.heap.objs.size (.tup [.int (i:Int),x])) { s with heap:=h'',toks:=tk+1 } :=
    I1.Mf Xx ⟨aw,[.int i tk,u],.cons ⟨_,rfl⟩ (.cons ru .nil),⟨_,hp2,rfl,_,rfl⟩⟩
   refine⟨.ref s.heap.objs.size,_,I2,rfl,⟨_,x,rfl,hn,rfl,λxs' hx'=>?_⟩,⟨⟨_,Xc⟩,Cp.jh st'.1 λo q=>sb.extBut _ _ (Ne.symm hei) q⟩,λb hb=>?_⟩
   ·rw[Cp.EO I hx' hx];exact ex
   ·obtain⟨o,_,vs,hoi,_⟩:=Cp.j7 hi
    have lt:b<s.heap.objs.size:=by
     have hb':=hb
     simp only[cm,fA,or_false]at hb'
     rcases hb' with rfl|rfl
     ·exact ca he
     ·exact ca hoi
    rw[aq (dy lt)]
    exact(hf b hb).1
 done:=by
  intro X hP hw hK hc i pins s σ H E I hf Z hg
  subst hP hw hK
  obtain⟨xs,hx,hle⟩:=hg
  obtain⟨⟨old,he⟩,hi⟩:=Z
  have hh:X.A.in1.handled=none:=I.ok.hd hc
  have hT:s.TypeIs (.ref e) "enumerate" :=⟨_,he,rfl⟩
  unfold pyNext
  refine a5 (wpAny_attempt (kz (name:=bd "__next__") hT F.slot_enumerate_next
   (kA F.slot_enumerate_next hT F.entry_enumerate_next ?_ (F.args_enumerate_next_1 _))))
  show cf _ _ (field (.ref e) 2 >>= _) _ _ _
  refine a5 (ik he rfl (x:=.ref it) rfl ?_)
  refine a5 (Cp.fin hh hi (Cp.oX I hx) (sT hle) λh' y eb hy=>?_)
  obtain⟨o,ho,hcl⟩:=hy
  refine a5 (qr (T:= "StopIteration") (b:=true) ⟨o,ho,hcl⟩ isSubtype_stop ?_)
  refine bi ⟨rfl,I.moved (t':=s.toks) (ch:=[e,it]) (λb o hb q=>eb b o ?_ q) hf⟩
  simp only[cm,fA,or_false,not_or]at hb
  exact hb.2
 self:=λ_ _ _ _ _ Z h=>by
  obtain⟨⟨old,he⟩,_⟩:=Z
  exact wpAny_pyIter_enum he h
section
variable{prog:bo}{w:df}{A:dL}{E:a9->bc->Prop}{s:bc}
set_option maxHeartbeats 1000000 in
theorem xg(l:a6)(items:Array a9)(n:Nat)(dct:Option a6)(sl:Array (Option a9)):
  Meets (Builtin.«enumerate.__new__» ⟨[.type "enumerate",.ref l],[]⟩) (λ_ R s=>s.heap.get? l=some { cls:=.type "tuple",dict:=dct,data:=.seq items n,slots:=sl } ∧
   R (.ok (.ret (.ref (s.heap.push { cls:=.type "tuple_iterator",data:=.fields #[.ref l,.int 0 0] }).objs.size)))
    { s with heap:=(s.heap.push { cls:=.type "tuple_iterator",data:=.fields #[.ref l,.int 0 0] }).push { cls:=.type "enumerate",data:=.fields #[.none,.bool false,.ref s.heap.objs.size,rawInt 0,.none,.none] } }) :=
 .of_wp λprog w A R s h=>by
  obtain⟨hp,g,d,tk,os⟩:=s;obtain⟨hl,h⟩:=h
  have hsub:=sub_enumerate
  have hL:Heap.IsTuple (Shared.heap ⟨hp,g,d,tk,os⟩) l items:=⟨_,hl,rfl,n,rfl⟩
  wp_walk using pj hl
  refine wpAny_stack_any λst=>bi ?_
  split
  ·rename_i c _ _ _ _ _
   cases (c==Value.type "enumerate")
   ·wp_walk using pj hl,mB hL
    exact⟨_,rfl,h⟩
   ·wp_walk using pj hl,mB hL
    exact⟨_,rfl,h⟩
  ·wp_walk using pj hl,mB hL
   exact⟨_,rfl,h⟩
theorem yC{l:a6}{items:Array a9}{Q:a9->bc->Prop}(hL:s.heap.IsTuple l items)
  (h:∀h',IsEnum h' (s.heap.objs.size+1) s.heap.objs.size 0 .none->h'.IsTupleIter s.heap.objs.size l 0 →
   (∀b o,s.heap.get? b=some o->h'.get? b=some o)->Q (.ref (s.heap.objs.size+1)) { s with heap:=h' }) :
  cf (model prog w) A (call (.type "enumerate") [.ref l]) Q E s:=by
 obtain⟨⟨c,dct,dt,sl⟩,hl,hc,n,hd⟩:=hL
 replace hc:c= .type "tuple" :=hc
 replace hd:dt= .seq items n:=hd
 subst hc hd
 refine callType_new F.called_enumerate (by decide) (F.typeCall_enumerate_1 _) (F.newCall_enumerate_1 _) (λobj=>F.args_object_init_2 obj _) F.entry_enumerate_new
  (xg l items n dct sl) ⟨hl,?_⟩
 have hz:(s.heap.push { cls:=.type "tuple_iterator",data:=.fields #[.ref l,.int 0 0] }).objs.size=s.heap.objs.size+1:=hV ..
 show _/\_
 rw[hz]
 have he:IsEnum ((s.heap.push { cls:=.type "tuple_iterator",data:=.fields #[.ref l,.int 0 0] }).push
   { cls:=.type "enumerate",data:=.fields #[.none,.bool false,.ref s.heap.objs.size,rawInt 0,.none,.none] }) (s.heap.objs.size+1) s.heap.objs.size 0 .none:=by
  have:=bp (s.heap.push { cls:=.type "tuple_iterator",data:=.fields #[.ref l,.int 0 0] })
   (o:={ cls:=.type "enumerate",data:=.fields #[.none,.bool false,.ref s.heap.objs.size,rawInt 0,.none,.none] }) rfl
  rw[hz]at this;exact this
 exact⟨⟨_,he,rfl⟩,h _ he ⟨_,a8 _ (bp _ rfl),rfl,rfl⟩ λb o x=>a8 _ (a8 _ x)⟩
theorem EL{c:Cp}{xs:List V}{t:wT}{Q:a9->bc->Prop}(sc:c.src s.heap xs)
  (h:∀h',IsEnum h' (s.heap.objs.size+1) s.heap.objs.size 0 .none->c.Ds h' s.heap.objs.size 0->(∀b o,s.heap.get? b=some o->h'.get? b=some o)->Q (.ref (s.heap.objs.size+1)) { s with heap:=h' }) :
  cf (model prog w) A (call (.type "enumerate") [c.value t]) Q E s:=by
 cases c with
 |lst a=>obtain⟨its,_,p⟩:=sc;exact call_enumerate_list p λh' a b _ k=>h h' a b k
 |tup a=>obtain⟨its,_,p⟩:=sc;exact yC p λh' a b k=>h h' a b k
 |txt x=>exact call_enumerate_str λh' a b _ k=>h h' a ⟨t,b⟩ k
end
section
variable{X:Cx}
noncomputable def RJ(K:PySem.W.Frag)(ta:TA):TI:=λσ H R=>ta σ H λvs H1=>∃c xs,vs=[c.val]/\c.at K H1 xs/\R (SW K c) H1
theorem Fy {a:Expr}{ta:TA}{p pos:re}{elts:List Expr}{k:Nat}{tpos:re}(hg:Gl X "enumerate")(hm:X.mg "enumerate" =none)(ha:PA X [a] ta)
  (hs:eh [a] X.env=[(false,eval a X.env)]:=by rfl):PI X (.Tuple elts k tpos) (.Call (.Name "enumerate" p) [a] [] pos) (RJ X.K ta):=by
 intro pins s σ H R I h
 refine Call_ (qk I hg hm boot_enumerate (k_ (gg (ha pos pins s σ H _ I h) λus s1 ⟨vs,H1,I1,r1,q1⟩=>?_) hs rfl))
 obtain⟨c,xs,e,hx,q⟩:=q1
 subst e
 obtain⟨u,rfl,ru⟩:=vals1 r1
 obtain⟨t,rfl⟩:=Cp.value_of ru
 have sc:=Cp.oX I1 hx
 refine EL sc λh' he hi kk=>wpAny_pyIter_enum he ?_
 have hei:s1.heap.objs.size+1≠s1.heap.objs.size:=ma (ib _)
 refine⟨_,[s1.heap.objs.size+1,s1.heap.objs.size],_,_,H1,rfl,I1.kept (t':=s1.toks) kk,Gi hei,⟨⟨_,he⟩,hi⟩,λb hb=>?_,q⟩
 have le:s1.heap.objs.size<=b:=by
  simp only[cm,fA,or_false]at hb
  rcases hb with rfl|rfl
  ·exact i_ _ _
  ·exact ba _
 exact I1.xF le (I1.hok.fresh le)
theorem CF{K:PySem.W.Frag}{c:Cp}{xs:List V}{g:TG}{tb:TS}{D:Ends}{σ:St}{H:Hp}(Pv:Nat->St->Hp->Prop)(h0:Pv 0 σ H)(hl:∀i σ H,i<=xs.length->Pv i σ H->c.at K H xs)
  (hs:∀(i:Nat) x p σ H,xs[i]? =some x->H p=none->Pv i σ H->g (.ref p) σ (upd H p (.tup [.int (i:Int),x])) λσ2 H2=>tb { D with nx:=Pv (i+1),ct:=Pv (i+1),bk:=D.nx } σ2 H2)
  (hd:∀ σ H,Pv xs.length σ H->D.nx σ H) :
  ∃W:Nat->Nat->St->Hp->Prop,(∃m,W 0 m σ H)/\∀i m σ H,W i m σ H →
   ((SW K c).stop i H/\D.nx σ H)\/((SW K c).go i H/\∃N:St->Hp->Prop,(∀ σ' H',N σ' H'->∃m',m'<m/\W (i+1) m' σ' H')/\∀y H',(SW K c).Bs i H y H'->g y σ H' λσ2 H2=>tb { D with nx:=N,ct:=N,bk:=D.nx } σ2 H2):=by
 refine⟨λi m σ H=>m=xs.length-i/\i<=xs.length/\Pv i σ H,⟨xs.length,by simp,em _,h0⟩,?_⟩
 rintro i m σ H ⟨rfl,hi,p⟩
 have zx:=hl i σ H hi p
 by_cases hlt:i<xs.length
 ·refine .inr ⟨⟨xs,xs[i],zx,by simp[hlt]⟩,Pv (i+1),λσ' H' p'=>⟨xs.length-(i+1),by omega,rfl,hlt,p'⟩,λv H' q=>?_⟩
  obtain⟨a,x,rfl,ha,rfl,e⟩:=q
  exact hs i x a σ H (e xs zx) ha p
 ·have e:i=xs.length:=by omega
  subst e
  exact .inl ⟨⟨xs,zx,ba _⟩,hd σ H p⟩
end
end
section
set_option maxRecDepth 100000
noncomputable def met(val:Nat->bv)(i:Nat):List bv:=((dk i).map val).foldl wx []
theorem wZ(val:Nat->bv):met val 0=[]:=rfl
theorem qh(val:Nat->bv)(i:Nat):met val (i+1)=wx (met val i) (val i):=by
 unfold met;rw[mn,du,v_];rfl
theorem rm(val:Nat->bv):∀i,(met val i).length<=i
 | 0=>by rw[wZ];exact ba _
 |i+1=>by
  rw[qh]
  have ih:=rm val i
  unfold wx
  split
  ·omega
  ·rw[ce,on];omega
theorem sR(σ:List bv)(v k:bv):(wx σ v).any (·==k)=(σ.any (·==k)||decide (k=v)):=by
 unfold wx
 by_cases h:σ.any (·==v)=true
 ·rw[if_pos h]
  by_cases e:k=v
  ·subst e;rw[h];simp
  ·simp[e]
 ·rw[if_neg h,List.any_append]
  by_cases e:k=v
  ·subst e;simp
  ·have hb:(v==k)=false:=by simpa[beq_iff_eq]using(λh':v=k=>e h'.symm)
   simp[hb,e]
theorem pL(σ:List bv)(v:bv):(wx σ v).length=if σ.any (·==v)then σ.length else σ.length+1:=by
 unfold wx;split<;>simp
section
variable{prog:bo}{w:df}{A:dL}{R:Result->bc->Prop}{I:a6}{fp wr:List a6}{G:Array GenState->Array GenState->Prop}{n:Nat}{P:Nat->a9->Prop}{St:Nat->bc->Prop}
theorem zX(W:WalksS prog w A.in1 I fp wr G n P St)(S:a6)(hSf:S∉fp)(val:Nat->bv)(hval:∀i v,P i v->∃t,v= .str (val i) t)(hb:n+1<scanBound):
  ∀(k i:Nat) (s:bc),n-i=k->i<=n->St i s->s.heap.SetOf (strKind prog w) S (λk'=>(met val i).any (·==k')) (met val i).length →
   (∀s',Moved (S::wr) G s s'->s'.heap.SetOf (strKind prog w) S (λk'=>(met val n).any (·==k')) (met val n).length->R (.ok (.ret .none)) s') →
   codeAny (model prog w) A (.builtin "set.update.loop" ⟨[.ref S,.ref I],[]⟩) R s:=by
 have Y6:S∉wr:=λh=>hSf (W.sub _ h)
 have hsub:∀b∈wr,b∈S::wr:=λb hb=>b0 _ hb
 intro k
 induction k with
 |zero =>
  intro i s hk hi hst hS hR
  have hin:i=n:=by omega
  subst hin
  refine sk PyProof.Rows.F.entry_set_update_loop ?_
  rw[o_ mr _]
  show cf _ A.in1 (pyNext (.ref I) >>= _) _ _ s
  refine a5 (W.done s _ _ hst λs' hm=>?_)
  show cf _ A.in1 (ret Value.none) _ _ s'
  exact bi (hR s' (hm.mono hsub) (by
   obtain⟨o,es,ep,t,ho,rest⟩:=hS
   exact⟨o,es,ep,t,hm.heap S _ Y6 ho,rest⟩))
 |succ k ih =>
  intro i s hk hi hst hS hR
  have hlt:i<n:=by omega
  refine sk PyProof.Rows.F.entry_set_update_loop ?_
  rw[o_ mr _]
  show cf _ A.in1 (pyNext (.ref I) >>= _) _ _ s
  refine a5 (W.item i s _ _ hlt hst λv s' hP WM hm=>?_)
  obtain⟨t,rfl⟩:=hval i v hP
  have hS':s'.heap.SetOf (strKind prog w) S (λk'=>(met val i).any (·==k')) (met val i).length:=by
   obtain⟨o,es,ep,tb,ho,rest⟩:=hS
   exact⟨o,es,ep,tb,hm.heap S _ Y6 ho,rest⟩
  show cf _ A.in1 (holding [Value.str (val i) t] (setAdd S (.str (val i) t)) >>= _) _ _ s'
  refine a5 (j_ ?_)
  unfold setAdd
  refine j_ ?_
  refine a5 ((strKind prog w).pyHash (k:=val i) (strKind_is _ _ _ _) ?_)
  have hroom:(met val i).length+1<scanBound:=by have:=rm val i;omega
  refine wpAny_setAddHashed_of (knd:=strKind prog w) (s:={ s' with toks:=s'.toks+1 }) (strKind_is _ _ _ _) rfl hS' hroom λh' RT Xi=>?_
  have hSi:h'.SetOf (strKind prog w) S (λk'=>(met val (i+1)).any (·==k')) (met val (i+1)).length :=
   SetOf_congr Xi (λk'=>by rw[qh,sR]) (by rw[qh,pL])
  refine bi ⟨wE mr _,ih (i+1) _ (by omega) hlt (W.frame _ s' _ _ WM (gc _) λb hb o e=>?_) hSi λs'' WZ Xj=>?_⟩
  ·rw[RT.2 b (λh:b=S=>hSf (by rw[←h];exact hb))];exact e
  ·refine hR s'' (Moved.trans W.gtrans ((hm.mono hsub).then_heap (gc _) λb o hb e=>?_) WZ) Xj
   rw[RT.2 b (λh:b=S=>hb (by rw[h];exact cw))];exact e
end
noncomputable def lY(x:bv)(i:Nat):bv:=⟨#[x.cps.getD i 0]⟩
theorem Gf{prog:bo}{w:df}{A:dL}(hh:A.handled=none)(I:a6)(x:bv)(t:wT):
  Walks prog w A I [I] [I] x.cps.size (λi v=>∃u,v= .str (lY x i) u) (λi h=>h.IsStrIter I (strIterType x) x t i) where
 sub:=λ_ hb=>hb
 frame:=λ_ _ _ st hk=>let ⟨o,ho,r⟩:=st;⟨o,hk I (by simp) o ho,r⟩
 item:=λi s Q E hi st hQ=>by
  refine pK st (k:=x.cps.getD i 0) (by simp[hi]) λh' GX hs'=>?_
  exact hQ _ h' (s.toks+1) ⟨_,rfl⟩ GX λb o hb e=>hs'.extBut b o (λh=>hb (by simp[h])) e
 done:=λs Q E st hQ=>qa hh st (by simp) λh' he'=>hQ h' s.toks λb o hb e=>he' b o (λh=>hb (by simp[h])) e
 self:=λ_ _ _ _ st hQ=>qc st hQ
theorem zS:isSubtype (.type "str") (.type "set")=pure false:=by rw[isSubtype_type];kernel_rfl
theorem rK:isSubtype (.type "str") (.type "frozenset")=pure false:=by rw[isSubtype_type];kernel_rfl
section
variable{prog:bo}{w:df}{A:dL}{E:a9->bc->Prop}{s:bc}
set_option maxHeartbeats 3200000 in
theorem AK{x:bv}{t:wT}{Q:a9->bc->Prop}(hh:A.handled=none)(hb:x.cps.size+1<scanBound)
  (h:∀(h':dC) (tk:Nat),h'.SetOf (strKind prog w) s.heap.objs.size (λk'=>(met (lY x) x.cps.size).any (·==k')) (met (lY x) x.cps.size).length →
   (∀b o,b<s.heap.objs.size->s.heap.get? b=some o->h'.get? b=some o)->Q (.ref s.heap.objs.size) { s with heap:=h',toks:=tk }) :
  cf (model prog w) A (call (.type "set") [.str x t]) Q E s:=by
 obtain⟨c,tl,aau⟩:=F.called_set.mro
 have hmade:=F.called_set.made
 have hsub:=F.called_set.sub
 refine wq (codeAny_of_tree ?_)
 show cf _ _ (callAny (.type "set") _) _ _ _
 refine bi ⟨Code.quiet_builtin _ (by decide +kernel),sk F.entry_type_call ?_⟩
 rw[Around.under_plain (weight_type_call_type "set" [.str x t] []) rfl]
 have h1:=F.called_set.notType
 have h2:=F.called_set.canCreate
 have hct:=F.typeCall_set_1 (.str x t)
 repeat (any_goals (first|assumption|wp_step))
 refine rk (code_set_new_1 (.str x t) (E:=E) (Q₁:=λobj s₁=>∃led:Bool,obj= .ref s.heap.objs.size/\s₁={ s with heap:=s.heap.push { cls:=.type "set",dict:=none,data:=.set #[] 0 (.fresh 0 0 led) } }) λled=>⟨led,rfl,rfl⟩) λr s₁ hr=>?_
 cases r with
 |error e=>exact hr
 |ok fl =>
  cases fl with
  |ret obj =>
   obtain⟨led,rfl,rfl⟩:=hr
   have hS:(s.heap.push { cls:=.type "set",dict:=none,data:=.set #[] 0 (.fresh 0 0 led) }).get? s.heap.objs.size=some { cls:=.type "set",dict:=none,data:=.set #[] 0 (.fresh 0 0 led) }:=bp _ rfl
   have hT:Shared.TypeIs { s with heap:=s.heap.push { cls:=.type "set",dict:=none,data:=.set #[] 0 (.fresh 0 0 led) } } (.ref s.heap.objs.size) "set" :=⟨_,hS,rfl⟩
   have hli:=F.called_set.init.lookup
   have hbi:=F.called_set.init.bind (.ref s.heap.objs.size)
   repeat (any_goals (first|assumption|wp_step))
   refine rk (codeAny_call_builtin (R:=wants (λr s₂=>r= .none/\∃h' tk,s₂={ s with heap:=h',toks:=tk } ∧
     h'.SetOf (strKind prog w) s.heap.objs.size (λk'=>(met (lY x) x.cps.size).any (·==k')) (met (lY x) x.cps.size).length ∧
     (∀b o,b<s.heap.objs.size->s.heap.get? b=some o->h'.get? b=some o)) E) F.called_set.init.plain F.entry_set_init (check_set_init_1 hT ?_)) λr₂ s₂ JA=>?_
   ·have aaj:=zS
    have aak:=rK
    have hne:(Value.type "str" ==Value.type "dict")=false:=by decide
    unfold Builtin.«set.__init__» noKeywords Builtin.Frozenset.updateFrom
    generalize hPI:pyIter=PI
    wp_walk
    subst hPI
    refine v0 ?_
    refine a5 (wpAny_runValue ?_)
    have hh3:A.in1.in1.in1.handled=none:=by simp[hh]
    have hSf:s.heap.objs.size∉[(s.heap.push { cls:=.type "set",dict:=none,data:=.set #[] 0 (.fresh 0 0 led) }).objs.size]:=by
     rw[hV];simp only[c_]
     exact dy (ib _)
    refine zX ((Gf hh3 _ x t).toS) s.heap.objs.size hSf (lY x) (λi v hv=>hv) hb (x.cps.size-0) 0 _ (by omega) (em _)
     ⟨_,bp _ rfl,rfl,rfl⟩ ?hS0 ?hR
    case hS0 =>
     have hget:((s.heap.push { cls:=.type "set",dict:=none,data:=.set #[] 0 (.fresh 0 0 led) }).push { cls:=.type (strIterType x),data:=.fields #[.str x t,.int 0 0] }).get? s.heap.objs.size
       = some { cls:=.type "set",dict:=none,data:=.set #[] 0 (.fresh 0 0 led) }:=a8 _ hS
     exact SetOf_congr ((setObjOf_fresh (knd:=strKind prog w) led).setOf hget (by unfold scanBound;omega)) (λ_=>rfl) rfl
    case hR =>
     intro s' hm hS'
     obtain⟨h',g',d',tk',os'⟩:=s'
     have eg:g'=s.gens:=hm.gens
     have ed:d'=s.drawn:=hm.drawn
     have eo:os'=s.os:=hm.os
     subst eg;subst ed;subst eo
     show cf _ _ _ _ _ _
     refine bi ?_
     show cf _ _ (ret Value.none) _ _ _
     refine bi ⟨rfl,h',tk',rfl,hS',λb o hb e=>?_⟩
     have hb1:b≠s.heap.objs.size:=dy hb
     have hb2:b≠(s.heap.push { cls:=.type "set",dict:=none,data:=.set #[] 0 (.fresh 0 0 led) }).objs.size:=by
      rw[hV];exact dy (Nat.lt_succ_of_lt hb)
     exact hm.heap b o (by simp only[cm,c_,fA,or_false,not_or];exact⟨hb1,hb2⟩) (a8 _ (a8 _ e))
   ·cases r₂ with
    |error e=>exact JA
    |ok Sn =>
     cases Sn with
     |ret r =>
      obtain⟨rfl,h',tk,rfl,hS',hk'⟩:=JA
      repeat (any_goals (first|assumption|wp_step))
      exact h _ _ hS' hk'
     |_=>exact JA.elim
  |_=>exact hr.elim
end
end
section
noncomputable def QH(P:bo)(w:df)(a:a6)(n:Nat):HO:=.ext λh=>∃S,h.SetOf (strKind P w) a S n
section
variable{X:Cx}
theorem G6(hc:X.calm=true):nU X (.type "set") (λxs H Q=>∃x,xs=[.str x]/\x.cps.size+1<scanBound/\∀p,H p=none->Q (.ref p) (upd H p (QH X.prog X.w p (met (lY x) x.cps.size).length))):=by
 intro pins s σ H xs us Q I r h
 obtain⟨x,rfl,hb,q⟩:=h
 obtain⟨u,rfl,t,rfl⟩:=vals1 r
 refine TK.cH (ba s.toks) (AK (I.ok.hd hc) hb λh' tk hS kk hup=>?_)
 have hn:H s.heap.objs.size=none:=I.fresh
 have k:∀b o,s.heap.get? b=some o->h'.get? b=some o:=λb o e=>kk b o (ca e) e
 refine⟨.ref s.heap.objs.size,_,I.laid (t':=tk) k (ba _) ?_,rfl,q _ hn⟩
 refine⟨⟨_,hS⟩,?_,λh1 h2 p e=>?_⟩
 ·obtain⟨o,_,_,_,ho,_⟩:=hS
  exact⟨o,ho⟩
 ·obtain⟨S,o,es,ep,t,ho,rest⟩:=p
  exact⟨S,o,es,ep,t,e o ho,rest⟩
theorem yz:nU X (.builtin "len") (λxs H Q=>∃p n,xs=[.ref p]/\H p=some (QH X.prog X.w p n)/\Q (.int (n:Nat)) H):=by
 intro pins s σ H xs us Q I r h
 obtain⟨p,n,rfl,hp,q⟩:=h
 obtain⟨u,rfl,ru⟩:=vals1 r
 cases ru
 obtain⟨⟨S,o,es,ep,t,ho,hex,hd,_,_,hz,hf,hn⟩,_⟩:=I.hok p _ hp
 subst hn
 have:es.size<4096:=hz
 exact call_len_set ho hex hd hf (by omega) ⟨.int es.size,H,I.tok _,⟨_,rfl⟩,q⟩
noncomputable def Bg(i:Int):Prop:=i.natAbs<2 ^ 9000
theorem Bg.log{i:Int}(h:Bg i):i.natAbs.log2<9000:=by
 rcases Nat.eq_zero_or_pos i.natAbs with h0|hp
 ·rw[h0];decide
 ·exact(Nat.log2_lt (by omega)).mpr h
theorem Bg.bits{i:Int}(h:Bg i):Builtin.Int.intBits i<=2 ^ 20:=by
 have:=h.log
 unfold Builtin.Int.intBits
 split
 ·exact em _
 ·exact bn (show i.natAbs.log2+1<=9000 by omega) (by decide)
theorem Lf:vG X (binaryOp .Mult) (rI (λi j=>Bg i/\Bg j) λi j=>.int (i*j)):=QX λ_ _ _ _ _ _ _ hc q=>mul_int q (IntMulOk.of_bits hc.1.bits hc.2.bits)
end
end
section
noncomputable def T5(K:PySem.W.Frag)(c:Cp):It :=
 ⟨λi H=>∃xs x,c.at K H xs/\xs[i]? =some x,λi H x H'=>H'=H/\∀xs,c.at K H xs->xs[i]? =some x,λi H=>∃xs,c.at K H xs/\xs.length<=i⟩
theorem Turn.conv{P:bo}{w:df}{K:PySem.W.Frag}{tg:Expr}{J J':It}{fp:List a6}{it:a6}{tn:Nat->dC->Prop}(T:Turn P w K tg J fp it tn)
  (hg:∀i H,J'.go i H->J.go i H) (hy:∀i H x H',J.Bs i H x H'->J'.Bs i H x H') (hs:∀i H,J'.stop i H->J.stop i H):Turn P w K tg J' fp it tn where
 mem:=T.mem
 obj:=T.obj
 keep:=T.keep
 item:=λX hP hw hK hc i pins s σ H E I hf st g=>gd (T.item X hP hw hK hc i pins s σ H E I hf st (hg i H g)) (λr s1 ⟨u,hr,h⟩=>⟨u,hr,gd h (λ_ s2 ⟨x,H',I',r',y,t',n'⟩=>⟨x,H',I',r',hy i H x H' y,t',n'⟩) λ_ _ z=>z⟩) λ_ _ z=>z
 done:=λX hP hw hK hc i pins s σ H E I hf st g=>T.done X hP hw hK hc i pins s σ H E I hf st (hs i H g)
 self:=T.self
theorem signs_length(x:bv):(ff x).length=x.cps.size:=by simp[ff]
theorem signs_at{x:bv}{i k:Nat}(h:x.cps[i]? =some k):(ff x)[i]? =some (.str ⟨#[k]⟩):=by
 unfold ff
 rw[cx]
 have e:x.cps.toList[i]? =some k:=by simpa using h
 rw[e]
 rfl
section
variable{X:Cx}{tg:Expr}
noncomputable def iCp(K:PySem.W.Frag)(tl:TE):TI:=λσ H R=>tl σ H λv H1=>∃c xs,v=Cp.val c/\c.at K H1 xs/\R (T5 K c) H1
theorem B6{l:Expr}{tl:TE}(hl:PE X l tl):PI X tg l (iCp X.K tl):=by
 intro pins s σ H R I h
 refine gg (hl pins s σ H _ I h) λv s1 ⟨y,H1,I1,r1,q1⟩=>?_
 obtain⟨c,xs,e,hq,q⟩:=q1
 subst e
 have Xw:∀b∈[s1.heap.objs.size],qz X pins H1 b:=λb hb=>by
  have e:b=s1.heap.objs.size:=by simpa using hb
  subst e
  exact I1.xF (ba _) (I1.hok.fresh (ba _))
 cases c with
 |lst a =>
  cases (show v=Value.ref a from r1)
  obtain⟨its,rv,p,hz⟩:=I1.list hq
  refine mi p.isList ?_
  exact⟨s1.heap.objs.size,[s1.heap.objs.size],_,_,H1,rfl,I1.kept (t':=s1.toks) λb o e=>a8 _ e,yR a _,⟨_,bp _ rfl,rfl,rfl⟩,Xw,q⟩
 |tup a =>
  cases (show v=Value.ref a from r1)
  obtain⟨its,rv,p,hz⟩:=I1.tuple hq
  refine mB (show s1.heap.IsTuple a its.toArray from p) ?_
  exact⟨s1.heap.objs.size,[s1.heap.objs.size],_,_,H1,rfl,I1.kept (t':=s1.toks) λb o e=>a8 _ e,wk a _,⟨_,bp _ rfl,rfl,rfl⟩,Xw,q⟩
 |txt x =>
  obtain⟨t,rfl⟩:=(show ∃t,v=Value.str x t from r1)
  refine v0 ?_
  refine⟨s1.heap.objs.size,[s1.heap.objs.size],_,_,H1,rfl,I1.kept (t':=s1.toks) λb o e=>a8 _ e,(BC x t _).conv ?_ ?_ ?_,⟨_,bp _ rfl,rfl,rfl⟩,Xw,q⟩
  ·rintro i H ⟨xs,y,hx,e⟩
   rw[show xs=ff x from hx]at e
   have:=(bj.mp e).1
   rw[signs_length]at this
   exact this
  ·rintro i H y H' ⟨rfl,k,e,rfl⟩
   refine⟨rfl,λxs hx=>?_⟩
   rw[show xs=ff x from hx]
   exact signs_at e
  ·rintro i H ⟨xs,hx,e⟩
   rw[show xs=ff x from hx,signs_length]at e
   exact e
theorem JJ{K:PySem.W.Frag}{c:Cp}{xs:List V}{g:TG}{tb:TS}{D:Ends}{σ:St}{H:Hp}(Pv:Nat->St->Hp->Prop)(h0:Pv 0 σ H)(hl:∀i σ H,i<=xs.length->Pv i σ H->c.at K H xs)
  (hs:∀i x σ H,xs[i]? =some x->Pv i σ H->g x σ H λσ2 H2=>tb { D with nx:=Pv (i+1),ct:=Pv (i+1),bk:=D.nx } σ2 H2) (hd:∀ σ H,Pv xs.length σ H->D.nx σ H) :
  ∃W:Nat->Nat->St->Hp->Prop,(∃m,W 0 m σ H)/\∀i m σ H,W i m σ H →
   ((T5 K c).stop i H/\D.nx σ H)\/((T5 K c).go i H/\∃N:St->Hp->Prop,(∀ σ' H',N σ' H'->∃m',m'<m/\W (i+1) m' σ' H')/\∀x H',(T5 K c).Bs i H x H'->g x σ H' λσ2 H2=>tb { D with nx:=N,ct:=N,bk:=D.nx } σ2 H2):=by
 refine⟨λi m σ H=>m=xs.length-i/\i<=xs.length/\Pv i σ H,⟨xs.length,by simp,em _,h0⟩,?_⟩
 rintro i m σ H ⟨rfl,hi,p⟩
 have q:=hl i σ H hi p
 by_cases hlt:i<xs.length
 ·refine .inr ⟨⟨xs,xs[i],q,by simp[hlt]⟩,Pv (i+1),λσ' H' p'=>⟨xs.length-(i+1),by omega,rfl,hlt,p'⟩,λx H' y=>?_⟩
  obtain⟨e,y⟩:=y
  subst e
  exact hs i x σ _ (y xs q) p
 ·have e:i=xs.length:=by omega
  subst e
  exact .inl ⟨⟨xs,q,ba _⟩,hd σ H p⟩
end
end
end L2
namespace pQ
noncomputable def lo(a b:Int):Int×Int:=(a / (eQ a b:Int),b / (eQ a b:Int))
theorem pC(a:Int){b:Int}(hb:0<b):0<(eQ a b:Int):=by
 have:0<eQ a b:=Int.gcd_pos_of_ne_zero_right a (by omega)
 omega
theorem Ez(a:Int){b:Int}(hb:0<b):(eQ a b:Int)<=b:=Int.le_of_dvd hb (mm ..)
theorem Jf(a:Int){b:Int}(hb:0<b):0<(lo a b).2 :=
 n_ hb (jp (pC a hb)) (mm ..)
theorem lo_le(a:Int){b:Int}(hb:0<b):(lo a b).2<=b:=by
 have h:=pC a hb
 exact Int.ediv_le_self _ (jp hb)
theorem Jg(a:Int){b:Int}(hb:0<b):eQ (lo a b).1 (lo a b).2=1 :=
 Int.gcd_ediv_gcd_ediv_gcd (Int.gcd_pos_of_ne_zero_right a (by omega))
theorem Eu(a b:Int):(lo a b).1*(eQ a b:Int)=a:=Int.ediv_mul_cancel (wy ..)
theorem Je(a b:Int):(lo a b).2*(eQ a b:Int)=b:=Int.ediv_mul_cancel (mm ..)
theorem Jh(a b:Int):(lo a b).1*b=a*(lo a b).2:=by
 have h1:=Eu a b
 have h2:=Je a b
 generalize (lo a b).1=x at *
 generalize (lo a b).2=y at *
 generalize (eQ a b:Int)=g at *
 rw[←h1,←h2,Int.mul_assoc,Int.mul_comm y g]
theorem JH(a b:Int):eQ b (a % b)=eQ a b:=by
 have e:a=a % b+b*(a / b):=(Int.emod_add_mul_ediv a b).symm
 have h:eQ (a % b+b*(a / b)) b=eQ (a % b) b:=Int.gcd_add_mul_left_left ..
 rw[←e]at h
 rw[h,Int.gcd_comm]
theorem LQ(a:Int):(if a<0 then -a else a)=(eQ a 0:Int):=by
 rw[Int.gcd_zero_right]
 split<;>omega
end pQ
namespace GP
open PySem L2 pQ
section
noncomputable abbrev cG:=Int×Int
noncomputable def ki(f:cG):cG:=lo f.1 f.2
theorem ai.upd{H:Hp}{q:a6}{o:HO}(h:H q=none):ai H (L2.upd H q o):=λb u e=>by rw[aq (aO e h)];exact e
theorem ai.at{H H2:Hp}{t:a6}{o:HO}(e:ai H H2)(h:H t=none):ai H (L2.upd H2 t o):=λb u q=>by rw[aq (aO q h)];exact e b u q
theorem ai.tup{K:PySem.W.Frag}{H H':Hp}{a:a6}{xs:List V}(e:ai H H')(h:dD K H a xs):dD K H' a xs:=by
 rcases h with(h|⟨o,h⟩)|h
 ·exact .inl (.inl (e _ _ h))
 ·exact .inl (.inr ⟨o,e _ _ h⟩)
 ·exact .inr h
theorem ai.cp{K:PySem.W.Frag}{H H':Hp}{c:Cp}{xs:List V}(e:ai H H')(h:c.at K H xs):c.at K H' xs:=by
 cases c with
 |lst a=>exact ai.seq e h
 |tup a=>exact ai.tup e h
 |txt x=>exact h
noncomputable def kh(K:PySem.W.Frag)(H:Hp)(p:a6)(f:cG):Prop:=dD K H p [.int f.1,.int f.2]
theorem kh.same{K:PySem.W.Frag}{H H':Hp}{p:a6}{f:cG}(e:ai H H')(h:kh K H p f):kh K H' p f:=ai.tup e h
noncomputable def j9(K:PySem.W.Frag)(H:Hp)(c:Cp)(fs:List cG):Prop:=∃ps:List a6,c.at K H (ps.map V.ref)/\Paired (kh K H) ps fs
theorem j9.same{K:PySem.W.Frag}{H H':Hp}{c:Cp}{fs:List cG}(e:ai H H')(h:j9 K H c fs):j9 K H' c fs:=by
 obtain⟨ps,a,b⟩:=h
 exact⟨ps,ai.cp e a,Paired.gO b λ_ _ z=>z.same e⟩
noncomputable def MU(K:PySem.W.Frag)(H:Hp)(c:Cp)(rows:List (List cG)):Prop:=∃cs:List Cp,c.at K H (cs.map Cp.val)/\Paired (j9 K H) cs rows
theorem Paired.at{α β:Type}{F:α->β->Prop}:∀{l₁:List α} {l₂:List β} {i:Nat} {x:α},Paired F l₁ l₂->l₁[i]? =some x->∃y,l₂[i]? =some y/\F x y
 |_,_,i,_,.nil,e=>by simp at e
 |_,_,0,_,.cons r _,e=>by simp at e;subst e;exact⟨_,rfl,r⟩
 |_,_,i+1,x,.cons _ t,e=>by
  obtain⟨y,h1,h2⟩:=Paired.at (i:=i) (x:=x) t (by simpa using e)
  exact⟨y,by simpa using h1,h2⟩
theorem Paired.len{α β:Type}{F:α->β->Prop}{l₁:List α}{l₂:List β}(h:Paired F l₁ l₂):l₁.length=l₂.length:=Paired.length h
theorem Paired.snoc{α β:Type}{F:α->β->Prop}{x:α}{y:β}:∀{l₁:List α} {l₂:List β},Paired F l₁ l₂->F x y->Paired F (l₁++[x]) (l₂++[y])
 |_,_,.nil,h=>.cons h .nil
 |_,_,.cons r t,h=>.cons r (Paired.snoc t h)
theorem take_snoc{α:Type}{l:List α}{i:Nat}{x:α}(h:l[i]? =some x):l.take (i+1)=l.take i++[x]:=by
 rw[List.take_add_one,h];rfl
theorem rz{α β:Type}{l:List α}{f:α->β}{i:Nat}{x:α}(h:l[i]? =some x):(l.map f).take (i+1)=(l.map f).take i++[f x]:=take_snoc (by rw[cx,h];rfl)
theorem Ax{i j:Int}{A B:Prop}(h1:i≠j->A)(h2:i=j->B):if(!decide (V.int i=V.int j))=true then A else B:=by
 by_cases h:i=j
 ·rw[lG,if_neg (by simp[h])];exact h2 h
 ·rw[lG,if_pos (by simp[h])];exact h1 h
theorem oi{i j:Int}{A B:Prop}(h1:i=j->A)(h2:i≠j->B):if(decide (V.int i=V.int j))=true then A else B:=by
 by_cases h:i=j
 ·rw[lG,if_pos (by simp[h])];exact h1 h
 ·rw[lG,if_neg (by simp[h])];exact h2 h
theorem cI{p:Prop}[Decidable p]{A B:Prop}(h1:p->A)(h2:¬p->B):if(decide p)=true then A else B:=by
 by_cases h:p
 ·rw[if_pos (decide_eq_true h)];exact h1 h
 ·rw[if_neg (by rw[decide_eq_false h];exact bt)];exact h2 h
theorem Jt{A B:Prop}(h:A):if(!false)=true then A else B:=by
 rw[if_pos (show(!false)=true from rfl)];exact h
theorem Cv{A B:Prop}(h:B):if(!true)=true then A else B:=by
 rw[if_neg (by decide)];exact h
structure Dn(K:PySem.W.Frag)(mg:bv->Option a9)(x:bv)(st:gl)(ps:List bv)(f:a6)(fd:db):Prop where
 fn:KI K x x st f fd
 b:Binds K fd ps []
 m:mg x=some (.ref f)
theorem ae{X:Cx}{k n:Nat}{f:a6}{fd:db}{ps:List bv}{sp:Sp}{x:bv}{st:gl}{e:Expr}{es:List Expr}{t:TA}{p pos:re}(F:aI X.prog X.w X.K X.mg X.base cB k f fd ps sp)(hr:jT n X.A)(D:Dn X.K X.mg x st ps f fd)(ha:PA X (e::es) t)(hg:Gl X x:=by exact rfl)(hn:k<=n:=by decide)(hdb:(x==("__debug__" :bv))=false:=by decide)(he:eh (e::es) X.env=(false,eval e X.env)::eh es X.env:=by rfl)(hpl:(backTo pos (eh es X.env)).any (·.1)=false:=by rfl):PE X (.Call (.Name x p) (e::es) [] pos) (QB sp [] E0 t):=az F (hr.mono hn) hg D.m D.fn.kp D.b .nil aQ ha hdb he hpl
theorem ag{X:Cx}{x:bv}{e:Expr}{te:TE}{pos pos':re}(i:Nat)(hN:X.N.Nodup)(he:PE X e te)(hi:X.N[i]? =some x:=by rfl)(hx:Loc X.env.scope x:=by exact Or.inl rfl)(hs:swapsWith e (some (.Name x pos')) pos.line X.env=pure false:=by rfl)(hf:X.fn x=true\/X.env.scope.names.lookup x=some .local:=by first|exact .inl rfl|exact .inr rfl|assumption):PS X (.Assign [.Name x pos'] e pos) (K2 te (FW i)):=aD hN hi hx he hs hf
theorem al{X:Cx}{x:bv}{pos:re}(i:Nat)(hN:X.N.Nodup)(hi:X.N[i]? =some x:=by rfl)(hx:Loc X.env.scope x:=by exact Or.inl rfl)(hf:X.fn x=true\/X.env.scope.names.lookup x=some .local:=by first|exact .inl rfl|exact .inr rfl|assumption):PG X (.Name x pos) (FW i):=aL hN hi hx hf
noncomputable def Fi:Sp:=λvs H Q _=>∃a b:Int,vs=[.int a,.int b]/\0<=b/\Q (.int (eQ a b)) H
noncomputable def lm(a b:Int):Int:=a / (eQ a b:Int)*b
noncomputable def Ml(K:PySem.W.Frag):Sp:=λvs H Q _=>∃(p:a6) (f:cG),vs=[.ref p]/\kh K H p f/\0<f.2/\f.2<1073741824 ∧
 ∀q,H q=none->Q (.ref q) (L2.upd H q (.tup [.int (ki f).1,.int (ki f).2]))
noncomputable def De(f:cG):Prop:=1<=f.2/\f.2<1073741824
noncomputable def rN(K:PySem.W.Frag):Sp:=λvs H Q _=>∃(p:a6) (f:cG),vs=[.ref p]/\kh K H p f/\De f ∧
 ∀q,H q=none->Q (.ref q) (L2.upd H q (.tup [.int (ki f).1,.int (ki f).2]))
noncomputable def uI(K:PySem.W.Frag):Sp:=λvs H Q _=>∃(c:Cp) (fs:List cG),vs=[c.val]/\j9 K H c fs/\(∀f∈fs,De f)/\fs.length<=1000 ∧
 ∀q H',ai H H'->H q=none->j9 K H' (.tup q) (fs.map ki)->Q (.ref q) H'
noncomputable def cF(o m:Int)(rows:List (List cG)):Int:=(rows.flatten.map (·.2)).foldl lm (lm o m)
noncomputable def lH(fo fm:cG)(rows:List (List cG)):List Int:=fo.2::fm.2::rows.flatten.map (·.2)
noncomputable def BO(K:PySem.W.Frag):Sp:=λvs H Q _=>∃(P o m:a6) (rows:List (List cG)) (fo fm:cG),vs=[.ref P,.ref o,.ref m]/\MU K H (.tup P) rows/\kh K H o fo/\kh K H m fm ∧
 rows.length<=12/\(∀r∈rows,r.length<=12)/\∀l H',ai H H'->H l=none->H' l=some (.lst ((lH fo fm rows).map V.int))->Q (.ref l) H'
noncomputable def qS(p:List Int×Int)(b:Int):List Int×Int:=if b / (eQ p.2 b:Int)>1 then(p.1++[b / (eQ p.2 b:Int)],p.2*(b / (eQ p.2 b:Int)))else p
noncomputable def oQ(ns:List Int):List Int×Int:=ns.foldl qS ([],1)
noncomputable def oq(n:Int):Prop:=0<n/\n<1073741824
noncomputable def yU(K:PySem.W.Frag):Sp:=λvs H Q _=>∃(l:a6) (ns:List Int),vs=[.ref l]/\cA K H l (ns.map V.int)/\ns.length<=1000/\(∀n∈ns,oq n) ∧
 ∀q H',ai H H'->H q=none->H' q=some (.lst ((oQ ns).1.map V.int))->Q (.ref q) H'
noncomputable def q8(fs:List Int):Int:=fs.foldl (·*·) 1
noncomputable def Ih(K:PySem.W.Frag):Sp:=λvs H Q _=>∃(l:a6) (fs:List Int),vs=[.ref l]/\cA K H l (fs.map V.int)/\(∀n∈fs,oq n)/\Q (.int (q8 fs)) H
noncomputable def wz(K:PySem.W.Frag):Sp:=λvs H Q _=>∃(p:a6) (f:cG) (u:Int),vs=[.ref p,.int u]/\kh K H p f/\De f/\Bg f.1/\Bg (u / f.2)/\Q (.int (f.1*(u / f.2))) H
theorem Oq{b:Int}:lm 1 b=b:=by
 unfold lm
 rw[Int.gcd_one_left]
 simp
theorem Ot{a b:Int}:lm a b=a*(b / (eQ a b:Int)):=by
 unfold lm
 rw[←Int.mul_ediv_assoc' b (wy a b),Int.mul_ediv_assoc a (mm a b)]
structure Dp(p:List Int×Int)(ns:List Int):Prop where
 small:∀f∈p.1,oq f
 prod:q8 p.1=p.2
 unit:p.2=ns.foldl lm 1
 pos:0<p.2
 len:p.1.length<=ns.length
theorem rR(fs:List Int)(f:Int):q8 (fs++[f])=q8 fs*f:=by
 unfold q8
 rw[v_]
 rfl
theorem F1{u b:Int}(hb:oq b):0<b / (eQ u b:Int)/\b / (eQ u b:Int)<=b:=by
 have g1:=pC u hb.1
 exact⟨n_ hb.1 (jp g1) (mm u b),Int.ediv_le_self _ (jp hb.1)⟩
theorem Dp.step{p:List Int×Int}{ns:List Int}{b:Int}(h:Dp p ns)(hb:oq b):Dp (qS p b) (ns++[b]):=by
 obtain⟨d1,d2⟩:=F1 (u:=p.2) hb
 have e:(ns++[b]).foldl lm 1=p.2*(b / (eQ p.2 b:Int)):=by
  rw[v_,←h.unit]
  exact Ot
 unfold qS
 split
 ·next h1 =>
  refine⟨λf hf=>?_,?_,e.symm,Int.mul_pos h.pos d1,?_⟩
  ·rcases eM.mp hf with hf|hf
   ·exact h.small f hf
   ·rw[c_.mp hf]
    exact⟨d1,Int.lt_of_le_of_lt d2 hb.2⟩
  ·rw[rR,h.prod]
  ·rw[ce,ce]
   exact Nat.add_le_add_right h.len 1
 ·next h1 =>
  have e1:b / (eQ p.2 b:Int)=1:=by omega
  refine⟨h.small,h.prod,?_,h.pos,?_⟩
  ·rw[e,e1,Int.mul_one]
  ·rw[ce]
   exact bn h.len (i_ _ _)
theorem xK(ns:List Int)(b:Int):oQ (ns++[b])=qS (oQ ns) b:=by
 unfold oQ
 rw[v_]
 rfl
theorem uA{ns:List Int}(h:∀n∈ns,oq n):∀i,i<=ns.length->Dp (oQ (ns.take i)) (ns.take i)
 | 0,_=>by
  rw[List.take_zero]
  exact⟨λf hf=>(by cases hf),rfl,rfl,(by decide),ba _⟩
 |i+1,hi=>by
  have e:=a7 (l:=ns) (i:=i) hi
  rw[take_snoc e,xK]
  exact(uA h i (rg hi)).step (h _ (g0 hi))
theorem LU{ns:List Int}(h:∀n∈ns,oq n):Dp (oQ ns) ns:=by
 have z:=uA h ns.length (ba _)
 rw[my]at z
 exact z
theorem BB(fo fm:cG)(rows:List (List cG)):(lH fo fm rows).foldl lm 1=cF fo.2 fm.2 rows:=by
 unfold lH cF
 rw[vu,vu,Oq]
end
section
structure Dm(K:PySem.W.Frag)(x qual:bv)(st:gl)(ps:List bv)(f:a6)(fd:db):Prop where
 fn:KI K x qual st f fd
 b:Binds K fd ps []
noncomputable def Dat(H H':Hp):Prop:=∀b u,(∀C dx fs,u≠HO.ins C dx fs)->H b=some u->H' b=some u
theorem Dat.of{H H':Hp}(e:ai H H'):Dat H H':=λb u _ h=>e b u h
theorem Dat.trans{H H' MW:Hp}(e:Dat H H')(f:Dat H' MW):Dat H MW:=λb u n h=>f b u n (e b u n h)
theorem Dat.set{H:Hp}{x C dx:a6}{fs fs':List (bv×V)}(h:H x=some (.ins C dx fs)):Dat H (L2.upd H x (.ins C dx fs')):=λb u n e=>by
 rw[aq (λz=>by subst z;rw[h]at e;cases e;exact n _ _ _ rfl)];exact e
theorem Dat.tup{K:PySem.W.Frag}{H H':Hp}{a:a6}{xs:List V}(e:Dat H H')(h:dD K H a xs):dD K H' a xs:=by
 rcases h with(h|⟨o,h⟩)|h
 ·exact .inl (.inl (e _ _ (λ_ _ _ z=>by cases z) h))
 ·exact .inl (.inr ⟨o,e _ _ (λ_ _ _ z=>by cases z) h⟩)
 ·exact .inr h
theorem Dat.lst{K:PySem.W.Frag}{H H':Hp}{a:a6}{xs:List V}(e:Dat H H')(h:cA K H a xs):cA K H' a xs:=by
 rcases h with(h|⟨o,h⟩)|h
 ·exact .inl (.inl (e _ _ (λ_ _ _ z=>by cases z) h))
 ·exact .inl (.inr ⟨o,e _ _ (λ_ _ _ z=>by cases z) h⟩)
 ·exact .inr h
theorem Dat.cp{K:PySem.W.Frag}{H H':Hp}{c:Cp}{xs:List V}(e:Dat H H')(h:c.at K H xs):c.at K H' xs:=by
 cases c with
 |lst a=>exact Dat.lst e h
 |tup a=>exact Dat.tup e h
 |txt x=>exact h
theorem kh.dat{K:PySem.W.Frag}{H H':Hp}{p:a6}{f:cG}(e:Dat H H')(h:kh K H p f):kh K H' p f:=Dat.tup e h
theorem j9.dat{K:PySem.W.Frag}{H H':Hp}{c:Cp}{fs:List cG}(e:Dat H H')(h:j9 K H c fs):j9 K H' c fs:=by
 obtain⟨ps,a,b⟩:=h
 exact⟨ps,Dat.cp e a,Paired.gO b λ_ _ z=>z.dat e⟩
noncomputable def AU(K:PySem.W.Frag)(H:Hp)(P:a6)(rows:List (List cG)):Prop:=∃qs:List a6,dD K H P (qs.map V.ref)/\Paired (λq r=>j9 K H (.tup q) r) qs rows
theorem AU.dat{K:PySem.W.Frag}{H H':Hp}{P:a6}{rows:List (List cG)}(e:Dat H H')(h:AU K H P rows):AU K H' P rows:=by
 obtain⟨cs,a,b⟩:=h
 exact⟨cs,Dat.tup e a,Paired.gO b λ_ _ z=>z.dat e⟩
theorem rS{α β γ:Type}{F:γ->β->Prop}{g:α->γ}:∀{l₁:List α} {l₂:List β},Paired (λa b=>F (g a) b) l₁ l₂->Paired F (l₁.map g) l₂
 |_,_,.nil=>.nil
 |_,_,.cons r t=>.cons r (rS t)
theorem AU.Z8{K:PySem.W.Frag}{H:Hp}{P:a6}{rows:List (List cG)}(h:AU K H P rows):MU K H (.tup P) rows:=by
 obtain⟨qs,a,b⟩:=h
 refine⟨qs.map Cp.tup,?_,rS b⟩
 rw[kb]
 exact a
theorem JU{K:PySem.W.Frag}{H:Hp}{c:Cp}{xs:List V}(h:c.at K H xs)(hx:∀x,c≠ .txt x):PC K c.val H xs.length:=by
 cases c with
 |lst a=>exact .inl ⟨_,h,rfl⟩
 |tup a=>exact .inr ⟨_,h,rfl⟩
 |txt x=>exact absurd rfl (hx x)
theorem j9.len{K:PySem.W.Frag}{H:Hp}{c:Cp}{fs:List cG}(h:j9 K H c fs)(hx:∀x,c≠ .txt x):PC K c.val H fs.length:=by
 obtain⟨ps,a,b⟩:=h
 have z:=JU a hx
 rw[a_,Paired.len b]at z
 exact z
noncomputable def pB(n:Nat):Bool:=(decide ((32:Int)<=(n:Int))&&decide ((n:Int)<=126))&& !LF (.int n) [.int 34,.int 37,.int 45]
noncomputable def zH(x:bv):Prop:=0<x.cps.size/\x.cps.size<=100/\(∀c∈x.cps.toList,pB c=true)/\x.cps.toList.Nodup
theorem pX{x:bv}(h:x.cps.toList.Nodup){i j a b:Nat}(hi:x.cps[i]? =some a)(hj:x.cps[j]? =some b)(hij:i≠j):a≠b:=by
 intro z
 subst z
 rw[←ft]at hi hj
 exact hij ((List.getElem?_inj (bj.mp hi).1 h).mp (hi.trans hj.symm))
theorem FJ(val:Nat->bv)(k:bv):∀i,(met val i).any (·==k)=true->∃j,j<i/\val j=k
 | 0,h=>by rw[wZ]at h;cases h
 |i+1,h=>by
  rw[qh,sR,Bool.or_eq_true]at h
  rcases h with h|h
  ·obtain⟨j,h1,h2⟩:=FJ val k i h
   exact⟨j,by omega,h2⟩
  ·exact⟨i,by omega,(of_decide_eq_true h).symm⟩
theorem Co{val:Nat->bv}{n:Nat}(h:∀i j,i<n->j<n->i≠j->val i≠val j):∀i,i<=n->(met val i).length=i
 | 0,_=>by rw[wZ];rfl
 |i+1,hi=>by
  rw[qh,pL]
  have e:¬((met val i).any (·==val i)=true):=λz=>by
   obtain⟨j,h1,h2⟩:=FJ val _ i z
   exact h j i (by omega) (by omega) (by omega) h2
  rw[if_neg e,Co h i (by omega)]
theorem GF{x:bv}(h:x.cps.toList.Nodup):(met (lY x) x.cps.size).length=x.cps.size:=by
 refine Co (n:=x.cps.size) (λi j hi hj hij z=>?_) _ (ba _)
 unfold lY at z
 have e1:x.cps[i]? =some (x.cps.getD i 0):=by simp[hi]
 have e2:x.cps[j]? =some (x.cps.getD j 0):=by simp[hj]
 refine pX h e1 e2 hij ?_
 have z2: #[x.cps.getD i 0]= #[x.cps.getD j 0]:=congrArg Str.cps z
 simpa using z2
noncomputable def BV:Sp:=λvs H Q _=>∃c:Nat,vs=[.str ⟨#[c]⟩]/\Q (.bl (pB c)) H
noncomputable def wB:Sp:=λvs H Q _=>∃x:bv,vs=[.str x]/\x.cps.size<=1000/\∀H',ai H H'->Q (.bl (x.cps.toList.all pB)) H'
noncomputable def sC:Sp:=λvs H Q _=>∃x:bv,vs=[.str x]/\zH x/\∀H',ai H H'->Q .jy H'
noncomputable def MT(c:Cp):Prop:=∀x,c≠ .txt x
noncomputable def Hs(K:PySem.W.Frag)(H:Hp)(c:Cp)(rows:List (List cG)):Prop:=MT c/\∃cs:List Cp,(∀d∈cs,MT d)/\c.at K H (cs.map Cp.val)/\Paired (j9 K H) cs rows
theorem Hs.dat{K:PySem.W.Frag}{H H':Hp}{c:Cp}{rows:List (List cG)}(e:Dat H H')(h:Hs K H c rows):Hs K H' c rows:=by
 obtain⟨n,cs,m,a,b⟩:=h
 exact⟨n,cs,m,Dat.cp e a,Paired.gO b λ_ _ z=>z.dat e⟩
noncomputable def KG(n:Nat)(rows:List (List cG)):Prop:=rows.length=n/\∀r∈rows,r.length=n
noncomputable def pW(K:PySem.W.Frag):Sp:=λvs H Q _=>∃(x:bv) (c:Cp) (rows:List (List cG)),vs=[.str x,c.val]/\Hs K H c rows/\x.cps.size<=100/\KG x.cps.size rows/\Q .jy H
noncomputable def KJ(rows:List (List cG))(i j:Nat)(f:cG):Prop:=∃r,rows[i]? =some r/\r[j]? =some f
noncomputable def keyOf(a b:Nat):List Key:=[.inr ⟨#[a]⟩,.inr ⟨#[b]⟩]
noncomputable def E5(kvs:List (List Key×V))(x:bv)(rows:List (List cG))(u:Int):Prop :=
 ∀i j a b f,x.cps[i]? =some a->x.cps[j]? =some b->KJ rows i j f->lW kvs (keyOf a b)=some (.int (f.1*(u / f.2)))
noncomputable def Sm(i:Int):Prop:=i.natAbs<2 ^ 200
noncomputable def Bu(i:Int):Prop:=i.natAbs<=2 ^ 4380
theorem Sm.bg{i:Int}(h:Sm i):Bg i:=cq h (ph (by decide) (by decide))
theorem Bu.bg{i:Int}(h:Bu i):Bg i:=cr h (Nat.pow_lt_pow_right (by decide) (by decide))
noncomputable def SK(u:Int)(f:cG):Prop:=De f/\Sm f.1/\Bu (u / f.2)
noncomputable def Fo(K:PySem.W.Frag):Sp:=λvs H Q _=>∃(x:bv) (P:a6) (u:Int) (rows:List (List cG)),vs=[.str x,.ref P,.int u]/\AU K H P rows/\x.cps.size<=100/\x.cps.toList.Nodup/\KG x.cps.size rows/\(∀r∈rows,∀f∈r,SK u f) ∧
 ∀d H' kvs,ai H H'->H d=none->H' d=some (.dT kvs)->E5 kvs x rows u->Q (.ref d) H'
noncomputable def jl(x:bv)(P o m:a6)(u:Int)(d:a6×a6):List (bv×V) :=
 aC "costs" (.ref d.1) (aC "unit" (.int u) (aC "factors" (.ref d.2) (aC "more" (.ref m) (aC "opening" (.ref o) (aC "pairs" (.ref P) (aC "signs" (.str x) []))))))
theorem CJ{x:bv}{P o m:a6}{u:Int}{d:a6×a6}:(jl x P o m u d).lookup ("signs" :bv)=some (.str x):=by
 unfold jl
 rw[av,if_neg (by decide +kernel),av,if_neg (by decide +kernel),av,if_neg (by decide +kernel),av,if_neg (by decide +kernel),av,if_neg (by decide +kernel),av,if_neg (by decide +kernel),av,if_pos rfl]
theorem yx{x:bv}{P o m:a6}{u:Int}{d:a6×a6}:(jl x P o m u d).lookup ("opening" :bv)=some (.ref o):=by
 unfold jl
 rw[av,if_neg (by decide +kernel),av,if_neg (by decide +kernel),av,if_neg (by decide +kernel),av,if_neg (by decide +kernel),av,if_pos rfl]
theorem EF{x:bv}{P o m:a6}{u:Int}{d:a6×a6}:(jl x P o m u d).lookup ("more" :bv)=some (.ref m):=by
 unfold jl
 rw[av,if_neg (by decide +kernel),av,if_neg (by decide +kernel),av,if_neg (by decide +kernel),av,if_pos rfl]
theorem yy{x:bv}{P o m:a6}{u:Int}{d:a6×a6}:(jl x P o m u d).lookup ("factors" :bv)=some (.ref d.2):=by
 unfold jl
 rw[av,if_neg (by decide +kernel),av,if_neg (by decide +kernel),av,if_pos rfl]
theorem xH{x:bv}{P o m:a6}{u:Int}{d:a6×a6}:(jl x P o m u d).lookup ("unit" :bv)=some (.int u):=by
 unfold jl
 rw[av,if_neg (by decide +kernel),av,if_pos rfl]
theorem CK{x:bv}{P o m:a6}{u:Int}{d:a6×a6}:(jl x P o m u d).lookup ("costs" :bv)=some (.ref d.1):=by
 unfold jl
 rw[av,if_pos rfl]
noncomputable def vB(x:bv)(P o m:a6)(u:Int)(d:a6×a6)(ou mu:Int):List (bv×V) :=
 aC "more_units" (.int mu) (aC "opening_units" (.int ou) (jl x P o m u d))
theorem xG {x:bv}{P o m:a6}{u:Int}{d:a6×a6}{ou mu:Int}{f:bv}(h1:¬f= "more_units")(h2:¬f= "opening_units"):(vB x P o m u d ou mu).lookup f=(jl x P o m u d).lookup f:=by
 unfold vB
 rw[av,if_neg h1,av,if_neg h2]
theorem rZ{x:bv}{P o m:a6}{u:Int}{d:a6×a6}{ou mu:Int}:(vB x P o m u d ou mu).lookup ("signs" :bv)=some (.str x):=(xG (by decide +kernel) (by decide +kernel)).trans CJ
theorem pD{x:bv}{P o m:a6}{u:Int}{d:a6×a6}{ou mu:Int}:(vB x P o m u d ou mu).lookup ("factors" :bv)=some (.ref d.2):=(xG (by decide +kernel) (by decide +kernel)).trans yy
theorem EE{x:bv}{P o m:a6}{u:Int}{d:a6×a6}{ou mu:Int}:(vB x P o m u d ou mu).lookup ("costs" :bv)=some (.ref d.1):=(xG (by decide +kernel) (by decide +kernel)).trans CK
theorem rE {x:bv}{P o m:a6}{u:Int}{d:a6×a6}{v:V}{f:bv}(h2:¬f= "opening_units"):(aC "opening_units" v (jl x P o m u d)).lookup f=(jl x P o m u d).lookup f:=by
 rw[av,if_neg h2]
theorem se{x:bv}{P o m:a6}{u:Int}{d:a6×a6}{ou mu:Int}:(vB x P o m u d ou mu).lookup ("opening_units" :bv)=some (.int ou):=by
 unfold vB
 rw[av,if_neg (by decide +kernel),av,if_pos rfl]
theorem vA{x:bv}{P o m:a6}{u:Int}{d:a6×a6}{ou mu:Int}:(vB x P o m u d ou mu).lookup ("more_units" :bv)=some (.int mu):=by
 unfold vB
 rw[av,if_pos rfl]
theorem I8{x:bv}{P o m:a6}:(aC "more" (.ref m) (aC "opening" (.ref o) (aC "pairs" (.ref P) (aC "signs" (.str x) []))):List (bv×V)).lookup ("pairs" :bv)=some (.ref P):=by
 rw[av,if_neg (by decide +kernel),av,if_neg (by decide +kernel),av,if_pos rfl]
theorem Eo{x:bv}{P o m:a6}:(aC "more" (.ref m) (aC "opening" (.ref o) (aC "pairs" (.ref P) (aC "signs" (.str x) []))):List (bv×V)).lookup ("opening" :bv)=some (.ref o):=by
 rw[av,if_neg (by decide +kernel),av,if_pos rfl]
theorem Lk{x:bv}{P o m:a6}:(aC "more" (.ref m) (aC "opening" (.ref o) (aC "pairs" (.ref P) (aC "signs" (.str x) []))):List (bv×V)).lookup ("more" :bv)=some (.ref m):=by
 rw[av,if_pos rfl]
theorem Ep{x:bv}{P o m fl:a6}:(aC "factors" (.ref fl) (aC "more" (.ref m) (aC "opening" (.ref o) (aC "pairs" (.ref P) (aC "signs" (.str x) [])))):List (bv×V)).lookup ("factors" :bv)=some (.ref fl):=by
 rw[av,if_pos rfl]
theorem I0{x:bv}{P o m fl:a6}{u:Int}:(aC "unit" (.int u) (aC "factors" (.ref fl) (aC "more" (.ref m) (aC "opening" (.ref o) (aC "pairs" (.ref P) (aC "signs" (.str x) []))))):List (bv×V)).lookup ("signs" :bv)=some (.str x):=by
 rw[av,if_neg (by decide +kernel),av,if_neg (by decide +kernel),av,if_neg (by decide +kernel),av,if_neg (by decide +kernel),av,if_neg (by decide +kernel),av,if_pos rfl]
theorem GB{x:bv}{P o m fl:a6}{u:Int}:(aC "unit" (.int u) (aC "factors" (.ref fl) (aC "more" (.ref m) (aC "opening" (.ref o) (aC "pairs" (.ref P) (aC "signs" (.str x) []))))):List (bv×V)).lookup ("pairs" :bv)=some (.ref P):=by
 rw[av,if_neg (by decide +kernel),av,if_neg (by decide +kernel),av,if_neg (by decide +kernel),av,if_neg (by decide +kernel),av,if_pos rfl]
theorem Lj{x:bv}{P o m fl:a6}{u:Int}:(aC "unit" (.int u) (aC "factors" (.ref fl) (aC "more" (.ref m) (aC "opening" (.ref o) (aC "pairs" (.ref P) (aC "signs" (.str x) []))))):List (bv×V)).lookup ("unit" :bv)=some (.int u):=by
 rw[av,if_pos rfl]
theorem aV{f:bv}{v:V}{fs:List (bv×V)}{n:Nat}(h:fs.length<=n):(aC f v fs).length<=n+1:=by
 have:=qj f v fs
 omega
structure nh(K:PySem.W.Frag)(C:a6)(H:Hp)(x:a6)(sg:bv)(rows:List (List cG))(fo fm:cG):Prop where
 sig:zH sg
 X6:KG sg.cps.size rows
 ok:∀r∈rows,∀f∈r,SK (cF fo.2 fm.2 rows) f
 IM:SK (cF fo.2 fm.2 rows) fo
 IP:SK (cF fo.2 fm.2 rows) fm
 pos:0<cF fo.2 fm.2 rows
 big:Bu (cF fo.2 fm.2 rows)
 ob:∃dx P o m,∃d:a6×a6,∃kvs,H x=some (.ins C dx (vB sg P o m (cF fo.2 fm.2 rows) d (fo.1*(cF fo.2 fm.2 rows / fo.2)) (fm.1*(cF fo.2 fm.2 rows / fm.2))))/\AU K H P rows/\kh K H o fo/\kh K H m fm/\H d.1=some (.dT kvs)/\E5 kvs sg rows (cF fo.2 fm.2 rows) ∧
  ∃fs:List Int,(∀f∈fs,oq f)/\q8 fs=cF fo.2 fm.2 rows/\H d.2=some (.lst (fs.map V.int))
theorem nh.same{K:PySem.W.Frag}{C:a6}{H H':Hp}{x:a6}{sg:bv}{rows:List (List cG)}{fo fm:cG}(e:ai H H')(h:nh K C H x sg rows fo fm):nh K C H' x sg rows fo fm:=by
 obtain⟨a,b,c,d,f,g,i,dx,P,o,m,dd,kvs,h1,h2,h3,h4,h5,h6,fs,h7,h8,h9⟩:=h
 exact⟨a,b,c,d,f,g,i,dx,P,o,m,dd,kvs,e _ _ h1,h2.dat (Dat.of e),h3.same e,h4.same e,e _ _ h5,h6,fs,h7,h8,e _ _ h9⟩
noncomputable def Kg(H:Hp)(x c:a6):Prop:=∀C dx fs,H x=some (.ins C dx fs)->fs.lookup ("factors" :bv)≠some (.ref c)
noncomputable def SJ(f:cG):Prop:=De f/\Sm f.1
noncomputable def yr(rows:List (List cG)):List (List cG):=rows.map λr=>r.map ki
noncomputable def Il(K:PySem.W.Frag)(C:a6):Sp:=λvs H Q _=>∃(x dx o m:a6) (sg:bv) (c:Cp) (rows:List (List cG)) (fo fm:cG),vs=[.ref x,.str sg,c.val,.ref o,.ref m]/\H x=some (.ins C dx [])/\zH sg/\sg.cps.size<=12 ∧
 Hs K H c rows/\KG sg.cps.size rows/\(∀r∈rows,∀f∈r,SJ f)/\kh K H o fo/\SJ fo/\kh K H m fm/\SJ fm ∧
 ∀H',nh K C H' x sg (yr rows) (ki fo) (ki fm)->(∀b u,H b=some u->b≠x->H' b=some u)->(∀c,H c≠none->Kg H' x c)->Q .jy H'
noncomputable def rM(K:PySem.W.Frag)(C:a6):Sp:=λvs H Q _=>∃(x:a6) (sg:bv) (rows:List (List cG)) (fo fm:cG) (i j a b:Nat) (f:cG),vs=[.ref x,.str ⟨#[a]⟩,.str ⟨#[b]⟩]/\nh K C H x sg rows fo fm ∧
 sg.cps[i]? =some a/\sg.cps[j]? =some b/\KJ rows i j f/\∀H',ai H H'->Q (.int (f.1*(cF fo.2 fm.2 rows / f.2))) H'
noncomputable def tZ(K:PySem.W.Frag)(C:a6):Sp:=λvs H Q _=>∃(x:a6) (sg:bv) (rows:List (List cG)) (fo fm:cG),vs=[.ref x]/\nh K C H x sg rows fo fm/\Q (.int (fo.1*(cF fo.2 fm.2 rows / fo.2))) H
noncomputable def DO(K:PySem.W.Frag)(C:a6):Sp:=λvs H Q _=>∃(x:a6) (sg:bv) (rows:List (List cG)) (fo fm:cG),vs=[.ref x]/\nh K C H x sg rows fo fm/\Q (.int (fm.1*(cF fo.2 fm.2 rows / fm.2))) H
noncomputable def t7(K:PySem.W.Frag)(C:a6):Sp:=λvs H Q _=>∃(x:a6) (n:Int) (sg:bv) (rows:List (List cG)) (fo fm:cG),vs=[.ref x,.int n]/\nh K C H x sg rows fo fm ∧
 ∀q H',ai H H'->H q=none->H' q=some (.tup [.int (ki (n,cF fo.2 fm.2 rows)).1,.int (ki (n,cF fo.2 fm.2 rows)).2])->Q (.ref q) H'
end
section
theorem jz{α β:Type}{l:List α}{g:α->β}{i:Nat}{y:β}(h:(l.map g)[i]? =some y):∃x,l[i]? =some x/\y=g x:=by
 rw[cx]at h
 cases e:l[i]? with
 |none=>rw[e]at h;cases h
 |some x=>rw[e]at h;exact⟨x,rfl,(dn h).symm⟩
noncomputable def kZ(kvs:List (List Key×V))(x:bv)(rows:List (List cG))(u:Int)(n m:Nat):Prop :=
 ∀i j a b f,(i<n\/(i=n/\j<m))->x.cps[i]? =some a->x.cps[j]? =some b->KJ rows i j f->lW kvs (keyOf a b)=some (.int (f.1*(u / f.2)))
theorem kZ.nil(x:bv)(rows:List (List cG))(u:Int):kZ [] x rows u 0 0:=λi j a b f h=>by omega
theorem GO{a b c d:Nat}(h:keyOf a b=keyOf c d):a=c/\b=d:=by
 unfold keyOf at h
 have h1:=(u_ h).1
 have h2:=(u_ (u_ h).2).1
 have e1:(⟨#[a]⟩:bv)=⟨#[c]⟩:=Sum.inr.inj h1
 have e2:(⟨#[b]⟩:bv)=⟨#[d]⟩:=Sum.inr.inj h2
 have z1: #[a]= #[c]:=congrArg Str.cps e1
 have z2: #[b]= #[d]:=congrArg Str.cps e2
 exact⟨by simpa using z1,by simpa using z2⟩
theorem kZ.put{kvs:List (List Key×V)}{x:bv}{rows:List (List cG)}{u:Int}{n m a b:Nat}{f:cG}(nd:x.cps.toList.Nodup)(h:kZ kvs x rows u n m)(ha:x.cps[n]? =some a)(hb:x.cps[m]? =some b)(hf:KJ rows n m f):
  kZ (putK kvs (keyOf a b) (.int (f.1*(u / f.2)))) x rows u n (m+1):=by
 intro i j c d g hij hc hd hg
 rw[By]
 by_cases e:i=n/\j=m
 ·obtain⟨rfl,rfl⟩:=e
  rw[ha]at hc
  rw[hb]at hd
  cases hc
  cases hd
  obtain⟨r,r1,r2⟩:=hf
  obtain⟨r',r3,r4⟩:=hg
  rw[r1]at r3
  cases r3
  rw[r2]at r4
  cases r4
  rw[if_pos rfl]
 ·have hne:¬keyOf c d=keyOf a b:=λz=>by
   obtain⟨z1,z2⟩:=GO z
   subst z1 z2
   refine e ⟨?_,?_⟩
   ·exact Decidable.byContradiction λq=>pX nd hc ha q rfl
   ·exact Decidable.byContradiction λq=>pX nd hd hb q rfl
  rw[if_neg hne]
  exact h i j c d g (by omega) hc hd hg
theorem kZ.row{kvs:List (List Key×V)}{x:bv}{rows:List (List cG)}{u:Int}{n m:Nat}(hm:x.cps.size<=m)(h:kZ kvs x rows u n m):kZ kvs x rows u (n+1) 0:=by
 intro i j a b f hij ha hb hf
 refine h i j a b f ?_ ha hb hf
 have:j<x.cps.size:=by
  rw[←ft]at hb
  have:=(bj.mp hb).1
  simpa using this
 omega
theorem kZ.all{kvs:List (List Key×V)}{x:bv}{rows:List (List cG)}{u:Int}{n:Nat}(hn:x.cps.size<=n)(h:kZ kvs x rows u n 0):E5 kvs x rows u:=by
 intro i j a b f ha hb hf
 refine h i j a b f (.inl ?_) ha hb hf
 have:i<x.cps.size:=by
  rw[←ft]at ha
  have:=(bj.mp ha).1
  simpa using this
 omega
theorem Ji{a b:Int}(ha:0<a)(hb:0<b):0<lm a b:=by
 have h:=pC a hb
 have:=n_ ha (jp h) (wy a b)
 exact Int.mul_pos this hb
theorem sf(a g:Int):(a / g).natAbs<=a.natAbs:=Int.natAbs_ediv_le_natAbs a g
theorem Jj(a b:Int):(lm a b).natAbs<=a.natAbs*b.natAbs:=by
 unfold lm
 rw[Int.natAbs_mul]
 exact Nat.mul_le_mul_right _ (sf a _)
theorem CH:∀(l:List Int) {u:Int},0<u->(∀b∈l,0<b)->0<l.foldl lm u
 |[],_,h,_=>h
 |b::l,_,h,hb=>CH l (Ji h (hb b cw)) λc hc=>hb c (b0 _ hc)
theorem CI{B:Nat}:∀(l:List Int) {u:Int},(∀b∈l,b.natAbs<=B)->(l.foldl lm u).natAbs<=u.natAbs*B ^ l.length
 |[],_,_=>by simp
 |b::l,u,h=>by
  have h1:=CI (B:=B) l (u:=lm u b) λc hc=>h c (b0 _ hc)
  have h2:=Jj u b
  have h3:=h b cw
  show(l.foldl lm (lm u b)).natAbs<=_
  refine bn h1 ?_
  rw[d_,Nat.pow_succ,Nat.mul_comm (B ^ l.length) B,←Nat.mul_assoc]
  exact Nat.mul_le_mul_right _ (bn h2 (Nat.mul_le_mul_left _ h3))
theorem xJ{n:Nat}:∀{rows:List (List cG)},(∀r∈rows,r.length=n)->rows.flatten.length=rows.length*n
 |[],_=>by simp
 |r::rows,h=>by
  rw[List.flatten_cons,ce,h r cw,xJ λr' hr=>h r' (b0 _ hr),d_,Nat.succ_mul,Nat.add_comm]
theorem De.abs{f:cG}(h:De f):f.2.natAbs<=2 ^ 30:=by
 obtain⟨h1,h2⟩:=h
 have:(2:Nat) ^ 30=1073741824:=by decide
 omega
theorem HS{rows:List (List cG)}{fo fm:cG}(ho:De fo)(hm:De fm)(h:∀r∈rows,∀f∈r,De f):0<cF fo.2 fm.2 rows:=by
 refine CH _ (Ji (by have:=ho.1;omega) (by have:=hm.1;omega)) λb hb=>?_
 obtain⟨f,hf,rfl⟩:=eI.mp hb
 obtain⟨r,hr,hfr⟩:=List.mem_flatten.mp hf
 have:=(h r hr f hfr).1
 omega
theorem HU{n:Nat}{rows:List (List cG)}{fo fm:cG}(hn:n<=12)(hs:KG n rows)(ho:De fo)(hm:De fm)(h:∀r∈rows,∀f∈r,De f):Bu (cF fo.2 fm.2 rows):=by
 have h1:(cF fo.2 fm.2 rows).natAbs<=(lm fo.2 fm.2).natAbs*(2 ^ 30) ^ (rows.flatten.map (·.2)).length:=by
  refine CI _ λb hb=>?_
  obtain⟨f,hf,rfl⟩:=eI.mp hb
  obtain⟨r,hr,hfr⟩:=List.mem_flatten.mp hf
  exact(h r hr f hfr).abs
 have h2:(lm fo.2 fm.2).natAbs<=2 ^ 30*2 ^ 30:=bn (Jj _ _) (q5 ho.abs hm.abs)
 have h3:(rows.flatten.map (·.2)).length<=144:=by
  rw[a_,xJ hs.2,hs.1]
  exact bn (q5 hn hn) (by decide)
 have h4:(2 ^ 30:Nat) ^ (rows.flatten.map (·.2)).length<=(2 ^ 30) ^ 144:=ph (by decide) h3
 have h5:(2 ^ 30:Nat)*2 ^ 30*(2 ^ 30) ^ 144<=2 ^ 4380:=by
  rw[←Nat.pow_mul,←Nat.pow_add,←Nat.pow_add]
  exact ph (by decide) (by decide)
 exact bn h1 (bn (q5 h2 h4) h5)
theorem qi{f:cG}(h:De f):De (ki f):=by
 obtain⟨h1,h2⟩:=h
 have h0:0<f.2:=by omega
 have p:=Jf f.1 h0
 have l:=lo_le f.1 h0
 exact⟨by show 1<=(lo f.1 f.2).2;omega,by show(lo f.1 f.2).2<_;omega⟩
theorem Lq{f:cG}(h:Sm f.1):Sm (ki f).1:=cr (sf _ _) h
theorem Bu.div{u:Int}(h:Bu u)(g:Int):Bu (u / g):=bn (sf _ _) h
theorem Lp{n:Nat}{rows:List (List cG)}(h:KG n rows):KG n (yr rows):=by
 refine⟨by unfold yr;rw[a_];exact h.1,λr hr=>?_⟩
 obtain⟨r',h',rfl⟩:=eI.mp hr
 rw[a_]
 exact h.2 r' h'
theorem Av{p:cG->Prop}{rows:List (List cG)}(h:∀r∈rows,∀f∈r,p (ki f)):∀r∈yr rows,∀f∈r,p f:=by
 intro r hr f hf
 obtain⟨r',h',rfl⟩:=eI.mp hr
 obtain⟨f',hf',rfl⟩:=eI.mp hf
 exact h r' h' f' hf'
theorem KJ.mem{rows:List (List cG)}{i j:Nat}{f:cG}(h:KJ rows i j f):∃r∈rows,f∈r:=by
 obtain⟨r,h1,h2⟩:=h
 exact⟨r,cb h1,cb h2⟩
end
section
theorem dD.off{K:PySem.W.Frag}{H:Hp}{l a:a6}{ys xs:List V}{o:HO}(hl:H l=some (.lst ys))(h:dD K H a xs):dD K (L2.upd H l o) a xs:=by
 rcases h with(h|⟨u,h⟩)|h
 ·exact .inl (.inl (by rw[aq (qe h hl (by intro z;cases z))];exact h))
 ·exact .inl (.inr ⟨u,by rw[aq (qe h hl (by intro z;cases z))];exact h⟩)
 ·exact .inr h
theorem j9.off{K:PySem.W.Frag}{H:Hp}{l q:a6}{ys:List V}{fs:List cG}{o:HO}(hl:H l=some (.lst ys))(h:j9 K H (.tup q) fs):j9 K (L2.upd H l o) (.tup q) fs:=by
 obtain⟨ps,a,b⟩:=h
 exact⟨ps,dD.off hl a,Paired.gO b λ_ _ z=>dD.off hl z⟩
noncomputable def Off(x:a6)(H H':Hp):Prop:=∀b u,H b=some u->b≠x->H' b=some u
theorem Off.of{x:a6}{H H':Hp}(e:ai H H'):Off x H H':=λb u h _=>e b u h
theorem Off.trans{x:a6}{H H' MW:Hp}(e:Off x H H')(f:Off x H' MW):Off x H MW:=λb u h n=>f b u (e b u h n) n
theorem Off.set{x:a6}{H:Hp}{o:HO}:Off x H (L2.upd H x o):=λb u h n=>by rw[aq n];exact h
theorem Off.dat{x C dx:a6}{fs:List (bv×V)}{H H':Hp}(hx:H x=some (.ins C dx fs))(e:Off x H H'):Dat H H':=λb u n h=>e b u h λz=>by
 subst z
 rw[hx]at h
 cases h
 exact n _ _ _ rfl
theorem Yh{a:bv}{x:V}:(aC a x []).length<1000:=cr (aV (ba 0)) (by decide)
theorem ZV{a b:bv}{x y:V}:(aC a x (aC b y [])).length<1000:=cr (aV (aV (ba 0))) (by decide)
theorem ZU{a b c:bv}{x y z:V}:(aC a x (aC b y (aC c z []))).length<1000:=cr (aV (aV (aV (ba 0)))) (by decide)
theorem ZT{a b c d:bv}{x y z w:V}:(aC a x (aC b y (aC c z (aC d w [])))).length<1000:=cr (aV (aV (aV (aV (ba 0))))) (by decide)
theorem ZS{a b c d e:bv}{x y z w v:V}:(aC a x (aC b y (aC c z (aC d w (aC e v []))))).length<1000:=cr (aV (aV (aV (aV (aV (ba 0)))))) (by decide)
theorem ZR{a b c d e g:bv}{x y z w v t:V}:(aC a x (aC b y (aC c z (aC d w (aC e v (aC g t [])))))).length<1000:=cr (aV (aV (aV (aV (aV (aV (ba 0))))))) (by decide)
theorem ZQ{x:bv}{P o m:a6}{u:Int}{d:a6×a6}:(jl x P o m u d).length<1000:=cr (aV (aV (aV (aV (aV (aV (aV (ba 0)))))))) (by decide)
theorem ZP{x:bv}{P o m:a6}{u:Int}{d:a6×a6}{a:bv}{v:V}:(aC a v (jl x P o m u d)).length<1000:=cr (aV (aV (aV (aV (aV (aV (aV (aV (ba 0))))))))) (by decide)
end
section
theorem F4{a b c:Int}(h:eQ a b=1)(d:a∣b*c):a∣c:=by
 have d':a.natAbs∣b.natAbs*c.natAbs:=by rw[←Int.natAbs_mul];exact Int.natAbs_dvd_natAbs.mpr d
 have h':Nat.Coprime a.natAbs b.natAbs:=h
 exact Int.natAbs_dvd_natAbs.mp (h'.dvd_of_dvd_mul_left d')
theorem Jd{x y x' y':Int}(hy:0<y)(hy':0<y')(h:eQ x y=1)(h':eQ x' y'=1)(e:x*y'=x'*y):x=x'/\y=y':=by
 have d1:y∣y':=F4 (b:=x) (by rw[Int.gcd_comm];exact h) (by rw[e];exact Int.dvd_mul_left _ _)
 have d2:y'∣y:=F4 (b:=x') (by rw[Int.gcd_comm];exact h') (by rw[←e];exact Int.dvd_mul_left _ _)
 have ey:=Int.dvd_antisymm (jp hy) (jp hy') d1 d2
 subst ey
 exact⟨Int.eq_of_mul_eq_mul_right (Int.ne_of_gt hy) e,rfl⟩
theorem JV{ov un b:Int}(hb:0<b)(hg:eQ ov un=1):eQ (ov / (eQ ov b:Int)) (un*(b / (eQ ov b:Int)))=1:=by
 have h1:eQ (ov / (eQ ov b:Int)) (b / (eQ ov b:Int))=1:=Jg ov hb
 have h2:eQ (ov / (eQ ov b:Int)) un=1:=by
  refine Nat.dvd_one.mp ?_
  rw[←hg]
  refine Int.dvd_gcd (Int.dvd_trans (wy ..) ?_) (mm ..)
  exact⟨_,(Eu ov b).symm⟩
 have z:Nat.Coprime (ov / (eQ ov b:Int)).natAbs (un.natAbs*(b / (eQ ov b:Int)).natAbs):=Nat.Coprime.mul_right h2 h1
 rw[←Int.natAbs_mul]at z
 exact z
theorem EH{ov un b n p:Int}(he:ov*p=n*un):ov / (eQ ov b:Int)*(p*b)=n*(un*(b / (eQ ov b:Int))):=by
 have h1:=Eu ov b
 have h2:=Je ov b
 unfold lo at h1 h2
 dsimp only at h1 h2
 generalize ov / (eQ ov b:Int)=x at *
 generalize b / (eQ ov b:Int)=y at *
 generalize (eQ ov b:Int)=g at *
 rw[←Int.mul_assoc n,←he,←h1,←h2]
 ac_rfl
theorem Q8{n U ov un:Int}(hU:0<U)(hun:0<un)(hg:eQ ov un=1)(he:ov*U=n*un):ki (n,U)=(ov,un):=by
 have c:=Jh n U
 have e:(lo n U).1*un=ov*(lo n U).2:=by
  refine Int.eq_of_mul_eq_mul_right (Int.ne_of_gt hU) ?_
  calc (lo n U).1*un*U=(lo n U).1*U*un:=by ac_rfl
   _=n*un*(lo n U).2:=by rw[c];ac_rfl
   _=ov*(lo n U).2*U:=by rw[←he];ac_rfl
 obtain⟨z1,z2⟩:=Jd (Jf n hU) hun (Jg n hU) hg e
 show lo n U=(ov,un)
 rw[←z1,←z2]
end
end GP
namespace L2
open PySem PySem.Spec PyProof.Rows
noncomputable def sW(scope:lL)(X:Cx):Bool:=scope.names.all λy=>(y.2 != e_)||(X.env.scope.names.lookup y.1==some so)
noncomputable def ixB(scope:lL)(X:Cx)(N:List bv)(nt:Nat)(ix:List Nat):Bool:=(dk ix.length).all λk=>match N[nt+k]?,ix[k]? with
 |some x,some j=>(X.N[j]? ==some x)&&(scope.names.contains (x,e_))&&((relabel scope X.env).names.lookup x==some so)
 |_,_=>false
theorem cQ.sW{X:Cx}{scope:lL}{N:List bv}{nt:Nat}{ix:List Nat}(kind:scope.kind= .function)(cell:∀y∈scope.names,y.2= .cell->(y.1,e_)∉scope.names)
  (names:∀y∈scope.names,y.2= .local->scope.names.lookup y.1=some .local) (hf:L2.sW scope X=true) (hl:N.length=nt+ix.length) (hx:ixB scope X N nt ix=true) (ok:X.Ok) :
  ∃cl,cQ X scope cl N (Tg nt ix):=by
 refine cQ.free kind cell names (λy hy hk=>?_) hl (λk j hj=>?_) ok
 ·have z:=p_.mp hf y hy
  rw[hk]at z
  have z2:X.env.scope.names.lookup y.1=some so:=by simpa using z
  exact z2
 ·have hk:k<ix.length:=(bj.mp hj).1
  have z:=p_.mp hx k (md.mpr hk)
  have hn:nt+k<N.length:=by omega
  rw[a7 hn,hj]at z
  simp only[ii]at z
  obtain⟨⟨z1,z2⟩,z3⟩:=z
  exact⟨_,a7 hn,by simpa using z1,by simpa using z2,by simpa using z3⟩
theorem Kp.DR{r:St}{v:Option V}:Kp (none::r) ((none::r).set 0 v):=λi x e=>by
 cases i with
 |zero=>cases e
 |succ i=>exact e
theorem bD{X:Cx}:nU X (.builtin "isinstance") (λxs H Q=>∃x n t b,xs=[x,.ty n]/\(tE X.K H x t\/∃a ys,x= .ref a/\dD X.K H a ys/\t= .type "tuple")/\PySem.W.kitOne X.K t (.type n)=some b/\Q (.bl b) H):=by
 intro pins s σ H xs us Q I r h
 obtain⟨x,n,t,b,rfl,ty,e,q⟩:=h
 obtain⟨u,w',rfl,rx,rn⟩:=vals2 r
 cases rn
 rcases ty with ty|⟨a,ys,rfl,hs,rfl⟩
 ·exact TK.cH (ba s.toks) (GU I rx ty e λtk hup=>⟨.bl b,H,I.tok _,rfl,q⟩)
 ·cases (show u=Value.ref a from rx)
  obtain⟨its,_,⟨o,h1,h2,_⟩,_⟩:=I.tuple hs
  exact TK.cH (ba s.toks) (PySem.W.kia_one PySem.W.kitx_tuple I.rD ⟨o,h1,h2⟩ e (λz=>nomatch z) λtk hup=>⟨.bl b,H,I.tok _,rfl,q⟩)
end L2
namespace GP
open PySem L2 pQ
theorem j6{K:PySem.W.Frag}{t:a9}:PySem.W.kitOne K t t=some true:=by unfold PySem.W.kitOne;rw[if_pos (by simp)]
theorem sV{K:PySem.W.Frag}:PySem.W.kitOne K (.type "int") (.type "bool")=some false:=by kernel_rfl
theorem sU{K:PySem.W.Frag}:PySem.W.kitOne K (.type "int") (.type "list")=some false:=by kernel_rfl
theorem rC{K:PySem.W.Frag}:PySem.W.kitOne K (.type "int") (.type "tuple")=some false:=by kernel_rfl
theorem uN{K:PySem.W.Frag}:PySem.W.kitOne K (.type "int") (.type "str")=some false:=by kernel_rfl
theorem m6{K:PySem.W.Frag}:PySem.W.kitOne K (.type "tuple") (.type "list")=some false:=by kernel_rfl
noncomputable def Wo(t:a6)(H:Hp):Hp:=λb=>if b=t then none else H b
theorem Wo.sub{t:a6}{H:Hp}:ai (Wo t H) H:=λb u h=>by
 unfold Wo at h
 by_cases e:b=t
 ·rw[if_pos e]at h;cases h
 ·rw[if_neg e]at h;exact h
theorem Wo.ne{t:a6}{H:Hp}{b:a6}{u:HO}(h:Wo t H b=some u):b≠t:=λe=>by
 unfold Wo at h
 rw[if_pos e]at h;cases h
theorem Wo.in{t:a6}{H:Hp}{b:a6}{u:HO}(n:b≠t)(h:H b=some u):Wo t H b=some u:=by
 unfold Wo
 rw[if_neg n];exact h
theorem Wo.free{t:a6}{H:Hp}{b:a6}(h:H b=none):Wo t H b=none:=by
 unfold Wo
 split
 ·rfl
 ·exact h
theorem Wo.set{t:a6}{H:Hp}{o:HO}:Wo t (L2.upd H t o)=Wo t H:=by
 funext b
 unfold Wo
 by_cases e:b=t
 ·rw[if_pos e,if_pos e]
 ·rw[if_neg e,if_neg e,aq e]
theorem Wo.same{t:a6}{H H':Hp}(e:ai H H'):ai (Wo t H) (Wo t H'):=λb u h=>Wo.in (Wo.ne h) (e b u (Wo.sub b u h))
theorem Wo.upd{t:a6}{H:Hp}{o:HO}:ai (Wo t H) (L2.upd H t o):=λb u h=>by rw[aq (Wo.ne h)];exact Wo.sub b u h
theorem wc{H:Hp}{t r:a6}{o:HO}(h:L2.upd H t o r=none):H r=none:=by
 by_cases e:r=t
 ·rw[e,ah]at h;cases h
 ·rw[aq e]at h;exact h
structure yM(K:PySem.W.Frag)(H:Hp)(s t:a6)(ns:List Int)(k:Int):Prop where
 sq:cA K (Wo t H) s (ns.map V.int)
 len:ns.length<=63
 at_:H t=some (.lst [.int k])
 k0:0<=k
theorem yM.QI{K:PySem.W.Frag}{H:Hp}{s t:a6}{ns:List Int}{k:Int}(c:yM K H s t ns k)(o:HO):cA K (L2.upd H t o) s (ns.map V.int):=ai.seq Wo.upd c.sq
theorem yM.same{K:PySem.W.Frag}{H H':Hp}{s t:a6}{ns:List Int}{k:Int}(c:yM K H s t ns k)(e:ai H H'):yM K H' s t ns k:=⟨ai.seq (Wo.same e) c.sq,c.len,e _ _ c.at_,c.k0⟩
theorem yM.step{K:PySem.W.Frag}{H:Hp}{s t:a6}{ns:List Int}{k k':Int}(c:yM K H s t ns k)(h:0<=k'):yM K (L2.upd H t (.lst [.int k'])) s t ns k':=⟨by rw[Wo.set];exact c.sq,c.len,ah,h⟩
theorem yM.off{K:PySem.W.Frag}{H H':Hp}{s t:a6}{ns:List Int}{k k':Int}(c:yM K H s t ns k)(e:ai (Wo t H) (Wo t H'))(h:H' t=some (.lst [.int k']))(h0:0<=k'):yM K H' s t ns k':=⟨ai.seq e c.sq,c.len,h,h0⟩
theorem xO{c:Int}(h1: -(10 ^ 40)<=c)(h2:c<=10 ^ 40):Sm c:=by
 have h:c.natAbs<=10 ^ 40:=by omega
 have h3:(10:Nat) ^ 40<2 ^ 200:=by decide
 exact cr h h3
noncomputable def KH(f:cG):Prop:=1<=f.2/\f.2<=999/\Sm f.1
theorem KH.h{f:cG}(h:KH f):SJ f:=⟨⟨h.1,by have:=h.2.1;omega⟩,h.2.2⟩
noncomputable def pU(K:PySem.W.Frag):Sp:=λvs H Q _=>∃(s t:a6) (ns:List Int) (k:Int),vs=[.ref s,.ref t]/\yM K H s t ns k/\k<=100000 ∧
 ∀m:Int,0<=m->m<1999999973->Q (.int m) (L2.upd H t (.lst [.int (k+1)]))
structure tM(K:PySem.W.Frag)(H:Hp)(l:a6)(rs:List a6)(rows:List (List cG)):Prop where
 len:rs.length=rows.length
 at_:H l=some (.lst (rs.map V.ref))
 nd:rs.Nodup
 nl:l∉rs
 row:∀(i:Nat) r row,rs[i]? =some r->rows[i]? =some row->∃ps:List a6,H r=some (.lst (ps.map V.ref))/\Paired (kh K H) ps row
theorem tM.same{K:PySem.W.Frag}{H H':Hp}{l:a6}{rs:List a6}{rows:List (List cG)}(e:ai H H')(h:tM K H l rs rows):tM K H' l rs rows :=
 ⟨h.len,e _ _ h.at_,h.nd,h.nl,λi r row h1 h2=>by
  obtain⟨ps,a,b⟩:=h.row i r row h1 h2
  exact⟨ps,e _ _ a,Paired.gO b λ_ _ z=>z.same e⟩⟩
theorem ue{α β:Type}{F:α->β->Prop}:∀{l₁:List α} {l₂:List β},l₁.length=l₂.length->(∀(i:Nat) x y,l₁[i]? =some x->l₂[i]? =some y->F x y)->Paired F l₁ l₂
 |[],[],_,_=>.nil
 |x::l₁,y::l₂,hl,h=>.cons (h 0 x y rfl rfl) (ue (by simpa using hl) λi a b h1 h2=>h (i+1) a b h1 h2)
theorem tM.We{K:PySem.W.Frag}{H:Hp}{l:a6}{rs:List a6}{rows:List (List cG)}(h:tM K H l rs rows):Hs K H (.lst l) rows:=by
 refine⟨λx z=>(by cases z),rs.map Cp.lst,λd hd x z=>?_,?_,?_⟩
 ·obtain⟨q,_,e⟩:=eI.mp hd
  rw[←e]at z
  cases z
 ·rw[kb]
  exact cA.of h.at_
 ·refine rS (ue h.len λi r row h1 h2=>?_)
  obtain⟨ps,a,b⟩:=h.row i r row h1 h2
  exact⟨ps,cA.of a,b⟩
end GP
namespace L2
open PySem PySem.Spec PyProof.Rows
section
noncomputable def tU(wi:TI)(g:TG)(tt:TT)(te:TE)(nV:St->St):TE:=λσ H Q=>wi σ H λJ H1=>∀l,H1 l=none->∃W:Nat->Nat->List V->Hp->Prop,(∃m,W 0 m [] (upd H1 l (.lst []))) ∧
 ∀i m ys H2,W i m ys H2->(J.stop i H2/\Q (.ref l) H2) ∨
  (J.go i H2/\∀x H3,J.Bs i H2 x H3->g x (nV σ) H3 λyN H4=>Kp (nV σ) yN/\tt yN H4 λb H5 =>
   if b=true then te yN H5 (λy H6=>H6 l=some (.lst ys)/\ys.length<b_/\∃m',m'<m/\W (i+1) m' (ys++[y]) (upd H6 l (.lst (ys++[y]))))else ∃m',m'<m/\W (i+1) m' ys H5)
theorem RE{A B:Prop}(h:if false=true then A else B):B:=by rw[if_neg bt]at h;exact h
theorem RD{A B:Prop}(h:if true=true then A else B):A:=by rw[if_pos rfl]at h;exact h
noncomputable def Zs(X:Cx)(ifs:List Expr)(t:TT):Prop :=
 ∀(pins:List (a6×lv)) (s:bc) (σ:St) (H:Hp) (Q:Bool->Hp->Prop),Inv X pins σ H s->t σ H Q->cf (model X.prog X.w) X.A (forIn ifs true λc r=>if r=true then do let ok ←isTrue c X.env (eval c X.env);pure (ForInStep.yield ok)else pure (ForInStep.yield r)) (TP X pins σ Q) X.xe s
set_option maxHeartbeats 2000000 in
theorem xM{X:Cx}{elt tg iter:Expr}{ifs:List Expr}{tt:TT}{scope:lL}{pos pos':re}{wi:TI}{g:TG}{te:TE}{N:List bv}{nV:St->St}(hc:X.calm=true)(hS:X.Ok->∃cl,cQ X scope cl N nV)(hi:PI X tg iter wi)
  (hg:∀cl C s H ex pn E,PG (gA X scope cl C N s H ex pn E) tg g) (he:∀cl C s H ex pn E,PE (gA X scope cl C N s H ex pn E) elt te) (ht:∀cl C s H ex pn E,Zs (gA X scope cl C N s H ex pn E) ifs tt) (hs:∀x,foldedSetIterable iter X.env x=pure x)
  {pins:List (a6×lv)} {s:bc} {σ:St} {H:Hp} {Q:VK} {use:Option (a9->Sem Unit)} {QQ:a9->bc->Prop} (I:Inv X pins σ H s) (h:tU wi g tt te nV σ H Q)
  (JC:∀(l C:a6) (mC:bv->Option a9) (H':Hp) (s':bc),Inv X pins σ H' s'->qz X pins H' C->s'.heap.Ns C mC->Q (.ref l) H'->compPost (model X.prog X.w) X.A X.xe use QQ (.ref l) C (.ok .next) s') :
  cf (model X.prog X.w) X.A (comprehension (.ListComp elt [⟨tg,iter,ifs,0⟩] scope pos) scope X.env pos' (newList []) false (eval iter X.env) use) QQ X.xe s:=by
 obtain⟨cl,S⟩:=hS I.ok
 refine wpAny_comprehension_free (use:=use) rfl hs S.clos S.kind S.names (gg (hi pins s σ H _ I h) λv s1 h1=>gg h1 λitv s2 h2=>?_)
 obtain⟨it,fp,tn,J,H2,e,I2,T,st2,f2,hq⟩:=h2
 subst e
 obtain⟨W,⟨m0,w0⟩,turn⟩:=hq _ I2.fresh
 refine lh (JW S λEK h₁ G OR kp=>?_)
 have I3:Inv X pins σ (upd H2 s2.heap.objs.size (.lst [])) { s2 with heap:=s2.heap.push { cls:=.type "list",data:=.seq ([]:List a9).toArray } }:=I2.Wk (t':=s2.toks) .nil (em _)
 have Mu:∀b o,s2.heap.get? b=some o->(s2.heap.push { cls:=.type "list",data:=.seq ([]:List a9).toArray }).get? b=some o:=λb o e=>a8 _ e
 have f3:∀b∈fp,qz X pins (upd H2 s2.heap.objs.size (.lst [])) b/\b<(s2.heap.push { cls:=.type "list",data:=.seq ([]:List a9).toArray }).objs.size:=λb hb=>by
  obtain⟨o,ho,_⟩:=T.obj _ _ st2 b hb
  have hlt:=ca ho
  obtain⟨f0,f1⟩:=f2 b hb
  exact⟨⟨by rw[aq (dy hlt)];exact f0,f1⟩,ca (Mu b o ho)⟩
 have st3:tn 0 h₁:=T.keep _ _ _ st2 λb _ o e=>kp b o (Mu b o e)
 generalize hR:(λr s'=>compPost (model X.prog X.w) X.A X.xe use QQ (.ref s2.heap.objs.size) (s2.heap.push { cls:=.type "list",data:=.seq ([]:List a9).toArray }).objs.size r s')=R
 generalize Cz:gA X scope EK (s2.heap.push { cls:=.type "list",data:=.seq ([]:List a9).toArray }).objs.size N { s2 with heap:=s2.heap.push { cls:=.type "list",data:=.seq ([]:List a9).toArray } }
  (upd H2 s2.heap.objs.size (.lst [])) fp (X.pn++pins) (notedBy (model X.prog X.w) X.A (compEnvC scope EK (s2.heap.push { cls:=.type "list",data:=.seq ([]:List a9).toArray }).objs.size X.env) λe s'=>R (.error e) s')=X'
 have I4:Inv X' [] (nV σ) (upd H2 s2.heap.objs.size (.lst [])) { s2 with heap:=h₁ }:=by
  subst Cz
  exact Ju (s:={ s2 with heap:=s2.heap.push { cls:=.type "list",data:=.seq ([]:List a9).toArray } }) S G I3 f3 kp OR s2.toks
 have PG':PG X' tg g:=by subst Cz;exact hg _ _ _ _ _ _ _
 have PE':PE X' elt te:=by subst Cz;exact he _ _ _ _ _ _ _
 have PT':Zs X' ifs tt:=by subst Cz;exact ht _ _ _ _ _ _ _
 have stat:∀{H':Hp},(∀b∈fp,H' b=none)->∀b∈fp,qz X' [] H' b:=λhn b hb=>by
  subst Cz
  obtain⟨⟨_,f1,fn,_,f4,f5⟩,lt⟩:=f3 b hb
  refine⟨hn b hb,dy lt,λz=>?_,.inl hb,λx c e=>(G.look x c e).elim (λz=>ma (Nat.lt_trans lt z.1)) λz=>f4 x c (S.sub x c z),λp hp=>f5 p ?_⟩
  ·rcases cm.mp (I3.tX b z)with q|q
   ·exact f1 q
   ·exact fn q
  ·rcases eM.mp hp with z|z
   ·exact z
   ·cases z
 have hp1:X'.prog=X.prog:=by subst Cz;rfl
 have hp2:X'.w=X.w:=by subst Cz;rfl
 have hp3:X'.K=X.K:=by subst Cz;rfl
 have YS:X'.calm=true:=by subst Cz;exact hc
 have KA:X'.A=X.A:=by subst Cz;rfl
 have RW:X'.env=compEnvC scope EK (s2.heap.push { cls:=.type "list",data:=.seq ([]:List a9).toArray }).objs.size X.env:=by subst Cz;rfl
 have Tw:X'.xe=notedBy (model X.prog X.w) X.A X'.env λe s'=>R (.error e) s':=by subst Cz;rfl
 have fin:∀{H':Hp} {s':bc},Inv X' [] (nV σ) H' s'->Q (.ref s2.heap.objs.size) H'->R (.ok .next) s':=by
  intro H' s' I5 q
  subst hR
  obtain⟨mC,YT,_⟩:=I5.loc
  rw[RW]at YT
  have hok:oA X.prog X.w H' s'.heap:=by
   have z:=I5.hok
   rw[hp1,hp2]at z
   exact z
  have u:Un (frs X.stack) fp (upd H2 s2.heap.objs.size (.lst [])) H' (s2.heap.push { cls:=.type "list",data:=.seq ([]:List a9).toArray }) s'.heap:=by
   have z:=I5.base
   subst Cz
   exact z
  have hC:H' (s2.heap.push { cls:=.type "list",data:=.seq ([]:List a9).toArray }).objs.size=none:=by
   have zf:=I5.free
   rw[RW]at zf
   exact zf
  refine JC _ _ mC H' s' (I3.MO (ch:=fp) (s':=s') (by have z:=I5.os;subst Cz;exact z) u hok I5.bare (λb hb=>?_) (by have z:=I5.up;subst Cz;exact bn I3.up z)) (I3.xF (ba _) hC) YT q
  obtain⟨⟨_,f1,_,f3',f4,f5⟩,_⟩:=f3 b hb
  exact⟨f3',f1,f4,f5⟩
 have loop:∀s3:bc,Inv X' [] (nV σ) (upd H2 s2.heap.objs.size (.lst [])) s3->tn 0 s3.heap →
   codeAny (model X.prog X.w) X.A (.compLoop (.ListComp elt [⟨tg,iter,ifs,0⟩] scope pos) 0 (.ref it) (.ref s2.heap.objs.size) X'.env) R s3:=by
  intro s3 J3 t3
  refine codeAny_loop rfl (λn s'=>∃i ys H',Inv X' [] (nV σ) H' s'/\tn i s'.heap/\(∀b∈fp,H' b=none)/\W i n ys H') ?_ m0 ⟨0,[],_,J3,t3,λb hb=>(f3 b hb).1.1,w0⟩
  rintro n s4 ⟨i,ys,H4,J4,t4,n4,w4⟩
  show cf _ _ ((compTurn (.ListComp elt [⟨tg,iter,ifs,0⟩] scope pos) 0 (.ref it) (.ref s2.heap.objs.size) X'.env).onRaise (λx=>do noteFrame x X'.env;theTreesLotGoes x)) _ _ s4
  refine wpAny_noted ?_
  rw[compTurn_list]
  refine a5 (sm (a5 ?_))
  rcases turn i n ys H4 w4 with⟨stop,q⟩|⟨go,step⟩
  ·have z:=T.done X' hp1 hp2 hp3 YS i [] s4 (nV σ) H4 (notedBy (model X.prog X.w) X.A X'.env λe s'=>R (.error e) s') J4 (stat n4) t4 stop
   rw[KA]at z
   refine gd z (λr s5 ⟨hr,J5⟩=>?_) λ_ _ x=>x
   subst hr
   exact bi (fin J5 q)
  ·have z:=T.item X' hp1 hp2 hp3 YS i [] s4 (nV σ) H4 (notedBy (model X.prog X.w) X.A X'.env λe s'=>R (.error e) s') J4 (stat n4) t4 go
   rw[KA]at z
   refine gd z (λr s5 ⟨u,hr,h5⟩=>?_) λ_ _ x=>x
   subst hr
   refine a5 (gd h5 (λ_ s6 ⟨x,H6,J6,r6,y6,t6,n6⟩=>?_) λ_ _ x=>x)
   have J6':=J6.pinned (stat n6) (T.obj _ _ t6)
   have zg:=PG' _ s6 (nV σ) H6 x u _ J6' r6 (step x H6 y6)
   rw[hp1,hp2,KA,Tw]at zg
   refine a5 (gd zg (λ_ s7 ⟨Du,H7,J7,k7,q7⟩=>?_) λ_ _ x=>x)
   have zt:=PT' _ s7 Du H7 _ J7 q7
   rw[hp1,hp2,KA,Tw]at zt
   refine a5 (gd zt (λok ZH h7b=>?_) λ_ _ x=>x)
   obtain⟨H7b,SN,Yc⟩:=h7b
   cases ok with
   |false =>
    obtain⟨m',hm,w8⟩:=RE Yc
    refine bi ⟨rfl,m',hm,i+1,ys,_,?_,?_,?_,w8⟩
    ·refine SN.Me.weak ?_ ?_
     ·rw[S.len,SN.len]
      subst Cz
      rfl
     ·exact k7
    ·exact T.keep _ _ _ t6 λb hb o e=>(SN.pin (b,o) (eD _ (eD _ (kI hb e)))).1
    ·intro b hb
     obtain⟨o,e,d⟩:=T.obj _ _ t6 b hb
     exact(SN.pin (b,o) (eD _ (eD _ (kI hb e)))).2.1
   |true =>
    have ze:=PE' _ ZH Du H7b _ SN (RD Yc)
    rw[hp1,hp2,KA,Tw]at ze
    refine a5 (a5 (gd ze (λyv s8 h8=>?_) λ_ _ x=>x))
    obtain⟨y,H8,J8,r8,e8,z8,m',hm,w8⟩:=h8
    have za:=iU (X:=X') _ s8 Du H8 (.ref s2.heap.objs.size) [y] (.ref s2.heap.objs.size) [yv] (λ_ H9=>H9=upd H8 s2.heap.objs.size (.lst (ys++[y]))) J8 rfl (.cons r8 .nil) ⟨_,ys,y,rfl,rfl,e8,z8,rfl⟩
    rw[hp1,hp2,KA,Tw]at za
    refine a5 (gd za (λ_ s9 h9=>?_) λ_ _ x=>x)
    obtain⟨_,H9,J9,_,e9⟩:=h9
    subst e9
    refine bi (bi ⟨rfl,m',hm,i+1,ys++[y],_,?_,?_,?_,w8⟩)
    ·refine J9.Me.weak ?_ ?_
     ·rw[S.len,J9.len]
      subst Cz
      rfl
     ·exact k7
    ·exact T.keep _ _ _ t6 λb hb o e=>(J9.pin (b,o) (eD _ (eD _ (kI hb e)))).1
    ·intro b hb
     obtain⟨o,e,d⟩:=T.obj _ _ t6 b hb
     exact(J9.pin (b,o) (eD _ (eD _ (kI hb e)))).2.1
 have l0:=loop _ I4 st3
 have l1:=codeAny_compStart_list l0 (T.self X.A 0 _ _ _ st3 l0)
 rw[RW]at l1
 subst hR
 exact l1
theorem zw{X:Cx}{elt tg iter:Expr}{scope:lL}{pos pos':re}{wi:TI}{g:TG}{te:TE}{N:List bv}{nV:St->St}(hc:X.calm=true)(hS:X.Ok->∃cl,cQ X scope cl N nV)(hi:PI X tg iter wi)
  (hg:∀cl C s H ex pn E,PG (gA X scope cl C N s H ex pn E) tg g) (he:∀cl C s H ex pn E,PE (gA X scope cl C N s H ex pn E) elt te) (hs:∀x,foldedSetIterable iter X.env x=pure x)
  {pins:List (a6×lv)} {s:bc} {σ:St} {H:Hp} {Q:VK} {use:Option (a9->Sem Unit)} {QQ:a9->bc->Prop} (I:Inv X pins σ H s) (h:BI wi g te nV σ H Q)
  (JC:∀(l C:a6) (mC:bv->Option a9) (H':Hp) (s':bc),Inv X pins σ H' s'->qz X pins H' C->s'.heap.Ns C mC->Q (.ref l) H'->compPost (model X.prog X.w) X.A X.xe use QQ (.ref l) C (.ok .next) s') :
  cf (model X.prog X.w) X.A (comprehension (.ListComp elt [⟨tg,iter,[],0⟩] scope pos) scope X.env pos' (newList []) false (eval iter X.env) use) QQ X.xe s:=by
 have e:BI wi g te nV=tU wi g (λ_ H Q=>Q true H) te nV:=by unfold BI tU;simp only[if_true]
 rw[e]at h
 exact xM hc hS hi hg he (λ_ _ _ _ _ _ _ pins s σ H Q I q=>bi ⟨H,I,q⟩) hs I h JC
theorem nM{X:Cx}{elt tg iter:Expr}{scope:lL}{pos:re}{wi:TI}{g:TG}{te:TE}{N:List bv}{nV:St->St}(hc:X.calm=true)(hS:X.Ok->∃cl,cQ X scope cl N nV)(hi:PI X tg iter wi)
  (hg:∀cl C s H ex pn E,PG (gA X scope cl C N s H ex pn E) tg g) (he:∀cl C s H ex pn E,PE (gA X scope cl C N s H ex pn E) elt te)
  (hs:∀x,foldedSetIterable iter X.env x=pure x:=by intro _;rfl):PE X (.ListComp elt [⟨tg,iter,[],0⟩] scope pos) (BI wi g te nV):=by
 intro pins s σ H Q I h
 rw[eval_ListComp]
 refine zw (use:=none) (QQ:=EP X pins σ Q) hc hS hi hg he hs I h ?_
 intro l C mC H' s' I' fp hn q
 exact⟨mC,hn,λh' sb=>⟨.ref l,H',I'.moved (ch:=[C]) (t':=s'.toks) (λb o hb e=>(sb.2 b (by simpa using hb)).trans e) (λb hb=>by rw[c_.mp hb];exact fp),rfl,q⟩⟩
theorem wI{X:Cx}{i:Nat}{y:bv}{py spos:re}{elt tg iter:Expr}{scope:lL}{pos:re}{wi:TI}{g:TG}{te:TE}{N:List bv}{nV:St->St}(hN:X.N.Nodup)(hi:X.N[i]? =some y)(hx:Loc X.env.scope y)
  (hc:X.calm=true) (hS:X.Ok->∃cl,cQ X scope cl N nV) (hit:PI X tg iter wi)
  (hg:∀cl C s H ex pn E,PG (gA X scope cl C N s H ex pn E) tg g) (he:∀cl C s H ex pn E,PE (gA X scope cl C N s H ex pn E) elt te)
  (hsw:swapsWith (.ListComp elt [⟨tg,iter,[],0⟩] scope pos) (some (.Name y py)) spos.line X.env=pure true:=by rfl)
  (hf:X.fn y=true\/X.env.scope.names.lookup y=some .local:=by first|exact .inl rfl|exact .inr rfl|assumption)
  (hs:∀x,foldedSetIterable iter X.env x=pure x:=by intro _;rfl):PS X (.Assign [.Name y py] (.ListComp elt [⟨tg,iter,[],0⟩] scope pos) spos) (K2 (BI wi g te nV) (FW i)):=by
 intro pins s σ H D I h
 rw[exec_Assign_Name_used _ _ _ _ hsw]
 refine a5 (sm (a5 ?_))
 show cf _ X.A (do let _ ←comprehension (.ListComp elt [⟨tg,iter,[],0⟩] scope pos) scope X.env _ (newList []) false (eval iter X.env) (some (assign (.Name y py) X.env))) _ _ s
 refine a5 (gd (zw (use:=some (assign (.Name y py) X.env)) (QQ:=λ_ s'=>SP X pins D .next s') hc hS hit hg he hs I h ?_) (λ_ s' hq=>bi (bi hq)) λ_ _ e=>e)
 intro l C mC H' s' I' fp hn q
 show cf _ X.A (assign (.Name y py) X.env (.ref l)) _ _ _
 refine wpAny_assign_Name (tW I' hN hi hx (v:=.ref l) rfl (λs2 I2 sb=>?_) hf)
 obtain⟨a,sb,ha⟩:=sb
 have nC:C≠a:=by
  obtain⟨_,f1,_,_,f4,_⟩:=fp
  rcases ha with z|z
  ·rw[z];exact f1
  ·exact λe=>f4 y a z e.symm
 refine⟨mC,hn.sameBut sb nC,λh' VR=>?_⟩
 refine⟨_,H',I2.moved (ch:=[C]) (t':=s2.toks) (λb o hb e=>(VR.2 b (by simpa using hb)).trans e) (λb hb=>?_),q⟩
 rw[c_.mp hb]
 exact fp
end
section
theorem Aw{X:Cx}{K':PySem.W.Frag}(hK:X.K=K'):SO X (QT K'):=by subst hK;exact b7
end
end L2
namespace GP
open PySem L2 pQ
section
theorem Wo.aq{t q:a6}{H:Hp}{o:HO}(n:q≠t):Wo t (L2.upd H q o)=L2.upd (Wo t H) q o:=by
 funext b
 by_cases e:b=q
 ·subst e
  rw[L2.ah]
  unfold Wo
  rw[if_neg n,L2.ah]
 ·rw[L2.aq e]
  unfold Wo
  split
  ·rfl
  ·rw[L2.aq e]
theorem Wo.step{t:a6}{H H':Hp}{o:HO}(e:ai (L2.upd H t o) H'):ai (Wo t H) (Wo t H'):=by
 have z:=Wo.same (t:=t) e
 rw[Wo.set]at z
 exact z
theorem Wo.back{t r:a6}{H H':Hp}{o:HO}(e:ai (Wo t H) (Wo t H'))(ht:H' t=some o)(h:H' r=none):H r=none:=by
 cases q:H r with
 |none=>rfl
 |some u =>
  have n:r≠t:=λz=>by rw[z,ht]at h;cases h
  have z:=Wo.sub _ _ (e r u (Wo.in n q))
  rw[h]at z
  cases z
theorem Paired.QG{α β:Type}{F:α->β->Prop}{x:α}{y:β}:∀{l₁:List α} {l₂:List β} (j:Nat),Paired F l₁ l₂->F x y->Paired F (l₁.set j x) (l₂.set j y)
 |_,_,_,.nil,_=>.nil
 |_,_,0,.cons r t,h=>.cons h t
 |_,_,j+1,.cons r t,h=>.cons r (Paired.QG j t h)
theorem tM.put{K:PySem.W.Frag}{H:Hp}{l r p:a6}{rs ps:List a6}{rows:List (List cG)}{row:List cG}{i j:Nat}{f:cG}(h:tM K H l rs rows)(hr:rs[i]? =some r)(OL:rows[i]? =some row)
  (hps:H r=some (.lst (ps.map V.ref))) (hp:Paired (kh K H) ps row) (hf:kh K H p f):tM K (L2.upd H r (.lst ((ps.map V.ref).set j (.ref p)))) l rs (rows.set i (row.set j f)):=by
 have Tn:l≠r:=λz=>h.nl (z▸cb hr)
 refine⟨by rw[si];exact h.len,by rw[L2.aq Tn];exact h.at_,h.nd,h.nl,λi' r' N4 h1 h2=>?_⟩
 have hi:i<rows.length:=(bj.mp OL).1
 by_cases e:i=i'
 ·subst e
  rw[hr]at h1
  cases h1
  rw[wa,if_pos rfl,if_pos hi]at h2
  cases h2
  refine⟨ps.set j p,by rw[L2.ah,List.map_set],?_⟩
  exact Paired.gO (Paired.QG j hp hf) λ_ _ z=>dD.off hps z
 ·rw[wa,if_neg e]at h2
  obtain⟨ps',a,b⟩:=h.row i' r' N4 h1 h2
  have n:r'≠r:=λz=>by
   subst z
   exact e ((List.getElem?_inj (bj.mp hr).1 h.nd).mp (hr.trans h1.symm))
  exact⟨ps',by rw[L2.aq n];exact a,Paired.gO b λ_ _ z=>dD.off hps z⟩
theorem tM.snoc{K:PySem.W.Frag}{H H':Hp}{l r:a6}{rs ps:List a6}{rows:List (List cG)}{row:List cG}(h:tM K H l rs rows)(e:ai H H')(hr:H r=none)(hps:H' r=some (.lst (ps.map V.ref)))(hp:Paired (kh K H') ps row):
  tM K (L2.upd H' l (.lst (rs.map V.ref++[.ref r]))) l (rs++[r]) (rows++[row]):=by
 have hl':=e _ _ h.at_
 have Tn:r≠l:=λz=>by rw[z,h.at_]at hr;cases hr
 have Z5:r∉rs:=λz=>by
  obtain⟨i,hi,ei⟩:=ll z
  have hi2:i<rows.length:=by rw[←h.len];exact hi
  obtain⟨ps',a,_⟩:=h.row i r rows[i] (by rw[a7 hi,ei]) (a7 hi2)
  rw[hr]at a
  cases a
 refine⟨by rw[ce,ce,h.len];rfl,by rw[L2.ah,du];rfl,?_,?_,λi r' N4 h1 h2=>?_⟩
 ·refine List.nodup_append.mpr ⟨h.nd,(by simp),λx hx y hy z=>?_⟩
  rw[c_.mp hy]at z
  exact Z5 (z▸hx)
 ·intro z
  rcases eM.mp z with z|z
  ·exact h.nl z
  ·exact Tn (c_.mp z).symm
 ·by_cases q:i<rs.length
  ·rw[ot q]at h1
   rw[ot (by rw[←h.len];exact q)]at h2
   obtain⟨ps',a,b⟩:=h.row i r' N4 h1 h2
   have n:r'≠l:=λz=>h.nl (z▸cb h1)
   exact⟨ps',by rw[L2.aq n];exact e _ _ a,Paired.gO b λ_ _ z=>dD.off hl' (z.same e)⟩
  ·have q':rs.length<=i:=Nat.le_of_not_lt q
   rw[mM q']at h1
   rw[mM (by rw[←h.len];exact q')]at h2
   have z:i-rs.length=0:=by
    have:=(bj.mp h1).1
    simp at this
    omega
   rw[z]at h1
   rw[←h.len,z]at h2
   cases h1
   cases h2
   exact⟨ps,by rw[L2.aq Tn];exact hps,Paired.gO hp λ_ _ z=>dD.off hl' z⟩
end
section
section
variable{K:PySem.W.Frag}{C:a6}{H0 H H':Hp}{t l x o m:a6}{rs:List a6}{sg:bv}{rows:List (List cG)}{fo fm:cG}{k:Int}
end
end
end GP
namespace L2
open PySem PySem.Spec PyProof.Rows
section
variable{X:Cx}
end
end L2
namespace GP
open PySem L2 pQ
section
noncomputable def TupAt(H:Hp)(q:a6)(f:cG):Prop:=H q=some (.tup [.int f.1,.int f.2])
theorem TupAt.same{H H':Hp}{q:a6}{f:cG}(e:ai H H')(h:TupAt H q f):TupAt H' q f:=e _ _ h
theorem TupAt.fr{K:PySem.W.Frag}{H:Hp}{q:a6}{f:cG}(h:TupAt H q f):kh K H q f:=dD.of h
noncomputable def IY(c:Nat):Prop:=c=112\/c=97\/c=98
noncomputable def Of(sg x:bv):Prop:=∀c∈x.cps.toList,c∈sg.cps.toList
theorem Pb{x:bv}{i c:Nat}(h:x.cps[i]? =some c):i<x.cps.size:=by
 rw[←ft]at h
 have:=(bj.mp h).1
 simpa using this
theorem qU{x:bv}{i c:Nat}(h:x.cps[i]? =some c):c∈x.cps.toList:=by
 rw[←ft]at h
 exact cb h
theorem j8{x:bv}{i c:Nat}(h:x.cps[i]? =some c):x.cps.toList[i]? =some c:=by
 rw[ft];exact h
theorem AH{x:bv}{i:Nat}(h:i<x.cps.size):∃c,x.cps[i]? =some c:=⟨x.cps[i],by simp[h]⟩
noncomputable def QV(sg:bv)(rows:List (List cG))(u:Int)(a b:Nat):Int :=
 match (rows[sg.cps.toList.idxOf a]?).bind (·[sg.cps.toList.idxOf b]?)with
 |some f=>f.1*(u / f.2)
 |none=>0
theorem IK{sg:bv}{rows:List (List cG)}{u:Int}{a b:Nat}(sq:KG sg.cps.size rows)(ha:a∈sg.cps.toList)(hb:b∈sg.cps.toList):
  ∃i j f,sg.cps[i]? =some a/\sg.cps[j]? =some b/\KJ rows i j f/\QV sg rows u a b=f.1*(u / f.2):=by
 have hi:=List.idxOf_lt_length_iff.mpr ha
 have hj:=List.idxOf_lt_length_iff.mpr hb
 have ei:sg.cps.toList[sg.cps.toList.idxOf a]? =some a:=by rw[a7 hi,List.getElem_idxOf hi]
 have ej:sg.cps.toList[sg.cps.toList.idxOf b]? =some b:=by rw[a7 hj,List.getElem_idxOf hj]
 have hi':sg.cps.toList.idxOf a<rows.length:=by rw[sq.1];simpa using hi
 have hj':sg.cps.toList.idxOf b<(rows[sg.cps.toList.idxOf a]).length:=by rw[sq.2 _ (g0 hi')];simpa using hj
 refine⟨_,_,(rows[sg.cps.toList.idxOf a])[sg.cps.toList.idxOf b],by rw[←ft];exact ei,by rw[←ft];exact ej,⟨_,a7 hi',a7 hj'⟩,?_⟩
 unfold QV
 rw[a7 hi']
 show(match (rows[sg.cps.toList.idxOf a])[sg.cps.toList.idxOf b]? with|some f=>f.1*(u / f.2)|none=>0)=_
 rw[a7 hj']
noncomputable def jU(u:Int)(f:cG):Int:=f.1*(u / f.2)
noncomputable def Fq(K:PySem.W.Frag)(C:a6):Sp:=λvs H Q _=>∃(x:a6) (sg:bv) (rows:List (List cG)) (fo fm:cG) (a b:bv),vs=[.ref x,.str a,.str b]/\nh K C H x sg rows fo fm ∧
 Q (.int (if a=b then jU (cF fo.2 fm.2 rows) fm else jU (cF fo.2 fm.2 rows) fo+jU (cF fo.2 fm.2 rows) fm)) H
end
section
theorem dD.wo{K:PySem.W.Frag}{H:Hp}{t a:a6}{ys xs:List V}(ht:H t=some (.lst ys))(h:dD K H a xs):dD K (Wo t H) a xs:=by
 rcases h with(h|⟨u,h⟩)|h
 ·exact .inl (.inl (Wo.in (qe h ht (by intro z;cases z)) h))
 ·exact .inl (.inr ⟨u,Wo.in (qe h ht (by intro z;cases z)) h⟩)
 ·exact .inr h
theorem nh.wo{K:PySem.W.Frag}{C:a6}{H:Hp}{t x:a6}{ys:List V}{sg:bv}{rows:List (List cG)}{fo fm:cG}(ht:H t=some (.lst ys))(nf:Kg H x t)(h:nh K C H x sg rows fo fm):nh K C (Wo t H) x sg rows fo fm:=by
 obtain⟨a,b,c,d,f,g,i,dx,P,o,m,dd,kvs,h1,⟨qs,h2,h2'⟩,h3,h4,h5,h6,fs,h7,h8,h9⟩:=h
 have n:dd.2≠t:=λz=>nf _ _ _ h1 (by rw[pD,z])
 refine⟨a,b,c,d,f,g,i,dx,P,o,m,dd,kvs,Wo.in (qe h1 ht (by intro z;cases z)) h1,⟨qs,dD.wo ht h2,Paired.gO h2' λq r z=>?_⟩,dD.wo ht h3,dD.wo ht h4,Wo.in (qe h5 ht (by intro z;cases z)) h5,h6,fs,h7,h8,Wo.in n h9⟩
 obtain⟨ps,z1,z2⟩:=z
 exact⟨ps,dD.wo ht z1,Paired.gO z2 λ_ _ y=>dD.wo ht y⟩
end
end GP
namespace L2
open PySem PySem.Spec PyProof.Rows
section
noncomputable def E3(h:dC)(φ:a6->Prop)(ea:a6)(cls:a9)(od:Option a6):Prop :=
 φ ea/\∃vs sl,h.get? ea=some ⟨cls,od,.fields vs,sl⟩/\(od=none->vs[2]? =some .none)/\(vs[1]? =some .none ∨
  ∃T oT ts,vs[1]? =some (.ref T)/\T≠ea/\φ T/\h.get? T=some oT/\oT.data= .fields ts/\3<ts.size)
noncomputable def Hw(h:dC)(φ:a6->Prop)(ea:a6)(cls:a9)(od:Option a6):Prop :=
 φ ea/\∃vs sl,h.get? ea=some ⟨cls,od,.fields vs,sl⟩/\(od=none->vs[2]? =some .none) ∧
  ∃T oT ts,vs[1]? =some (.ref T)/\T≠ea/\φ T/\h.get? T=some oT/\oT.data= .fields ts/\3<ts.size
theorem Hw.n{h:dC}{φ:a6->Prop}{ea:a6}{cls:a9}{od:Option a6}(x:Hw h φ ea cls od):E3 h φ ea cls od:=by
 obtain⟨p,vs,sl,e,c2,t⟩:=x
 exact⟨p,vs,sl,e,c2,.inr t⟩
theorem E3.to{h:dC}{φ ψ:a6->Prop}{ea:a6}{cls:a9}{od:Option a6}(x:E3 h φ ea cls od)(m:∀b,φ b->ψ b):E3 h ψ ea cls od:=by
 obtain⟨p,vs,sl,e,c2,t⟩:=x
 refine⟨m _ p,vs,sl,e,c2,?_⟩
 rcases t with t|⟨T,oT,ts,a,b,c,d⟩
 ·exact .inl t
 ·exact .inr ⟨T,oT,ts,a,b,m _ c,d⟩
structure nT(fr:List a6)(φ:a6->Prop)(h h':dC):Prop where
 keep:∀b o,h.get? b=some o->¬ φ b->b∉fr->h'.get? b=some o
 slot:∀b o,h.get? b=some o->¬ φ b->∃sl,h'.get? b=some { o with slots:=sl }
 there:∀b o,h.get? b=some o->∃o',h'.get? b=some o'
 size:h.objs.size<=h'.objs.size
theorem nT.refl{fr:List a6}{φ:a6->Prop}{h:dC}:nT fr φ h h:=⟨λ_ _ e _ _=>e,λ_ o e _=>⟨o.slots,e⟩,λ_ o e=>⟨o,e⟩,ba _⟩
theorem nT.trans{fr:List a6}{φ:a6->Prop}{h h1 h2:dC}(a:nT fr φ h h1)(b:nT fr φ h1 h2):nT fr φ h h2 where
 keep:=λc o e n f=>b.keep c o (a.keep c o e n f) n f
 slot:=λc o e n=>by
  obtain⟨sl,e1⟩:=a.slot c o e n
  obtain⟨HA,e2⟩:=b.slot c _ e1 n
  exact⟨HA,e2⟩
 there:=λc o e=>by
  obtain⟨o',e1⟩:=a.there c o e
  exact b.there c o' e1
 size:=bn a.size b.size
section
variable{M:Model}{A:dL}{E:a9->bc->Prop}{s:bc}{base:dC}{env e0:Env}{r:List Env}{L ea:a6}{φ:a6->Prop}{cls:a9}{od:Option a6}
theorem CD{Q:a9->bc->Prop}(hs:A.frames=some (e0::r))(hl:s.heap.FunFrames base (e0::r))(h0:e0.frame=some L)(he:env.frame=some L)
  (h:∀h',Heap.SlotsOnly ((e0::r).filterMap (·.frame)) s.heap h'->Q (.ref L) { s with heap:=h' }):cf M A (PySem.frameOf env) Q E s:=by
 unfold PySem.frameOf
 refine a5 (wpAny_frameEnvs hs ?_)
 rw[show((e0::r).dropWhile λx=>x.frame != env.frame)=e0::r by simp[List.dropWhile,h0,he]]
 unfold frameObject
 refine a5 (a5 (wpAny_readyFrames_fun hl λh1 k1=>bi ?_))
 rw[h0]
 exact bi (h h1 k1)
theorem zv{vs:Array a9}{sl:Array (Option a9)}{head:a9}{hadNext:Bool}{Q:Unit->bc->Prop}(hs:A.frames=some (e0::r))(hl:s.heap.FunFrames base (e0::r))(h0:e0.frame=some L)(hf:env.frame=some L)
  (pe:φ ea) (he:s.heap.get? ea=some ⟨cls,od,.fields vs,sl⟩) (h1:1<vs.size) (h2:od=none->vs[2]? =some .none) (new:∀b,s.heap.objs.size<=b->φ b)
  (q:∀h',nT (frs (e0::r)) φ s.heap h'->Hw h' φ ea cls od->Q () { s with heap:=h' }) :
  cf M A (do let a ←PySem.frameOf env;let pl ←entryPlaceOf L hadNext;let b ←EntryCells.newEntry head a .none (rawInt L) .none pl;setField (.ref ea) 1 b) Q E s:=by
 have Z6:ea∉(e0::r).filterMap (·.frame):=λhm=>by
  obtain⟨_,o,ho,nf⟩:=hl.mem hm
  rw[he]at ho
  cases ho
  exact nf vs rfl
 refine a5 (CD hs hl h0 hf λg k=>?_)
 refine a5 (wpAny_entryPlaceOf λpl pk=>?_)
 simp only[EntryCells.newEntry,newFields]
 refine a5 (lh ?_ (pk.sizeOk5 _ _ _ _ _))
 have e1:g.get? ea=some ⟨cls,od,.fields vs,sl⟩:=(k.2.1 ea Z6).trans he
 have ne:g.objs.size≠ea:=ma (ca e1)
 generalize hob:({ cls:=.type "traceback",dict:=none,data:=.fields ([head,.ref L,.none,rawInt L,.none]++(if pl.isEmpty then vT 6 Value.none else pl)).toArray }:lv)=ob
 have e2:=a8 (h:=g) ob e1
 refine nz e2 rfl h1 (q _ ⟨λb o e n f=>?_,λb o e n=>?_,λb o e=>?_,?_⟩ ⟨pe,_,sl,f_ _ e2 rfl,λz=>(Array.getElem?_setIfInBounds_ne (by decide)).trans (h2 z),g.objs.size,ob,_,?_,ne,new _ (Nat.le_of_eq k.1.symm),?_,by subst hob;rfl,?_⟩)
 ·have be:b≠ea:=λz=>n (z▸pe)
  rw[fw _ _ (Ne.symm be)]
  exact a8 _ ((k.2.1 b f).trans e)
 ·have be:b≠ea:=λz=>n (z▸pe)
  obtain⟨HA,e'⟩:=k.2.2 b o e
  refine⟨HA,?_⟩
  rw[fw _ _ (Ne.symm be)]
  exact a8 _ e'
 ·by_cases be:b=ea
  ·subst be
   exact⟨_,f_ _ e2 rfl⟩
  ·obtain⟨HA,e'⟩:=k.2.2 b o e
   exact⟨{ o with slots:=HA },(fw _ _ (Ne.symm be)).trans (a8 _ e')⟩
 ·rw[Heap.size_after_update,hV,k.1]
  exact gc _
 ·simp[h1]
 ·rw[fw _ _ (Ne.symm ne)]
  exact bp _ (by subst hob;rfl)
 ·rw[dq,ce]
  exact cq (by decide:3<5) (i_ _ _)
theorem IS{Q:Unit->bc->Prop}(hs:A.frames=some (e0::r))(hl:s.heap.FunFrames base (e0::r))(h0:e0.frame=some L)(hf:env.frame=some L)
  (x:E3 s.heap φ ea cls od) (new:∀b,s.heap.objs.size<=b->φ b) (q:∀h',nT (frs (e0::r)) φ s.heap h'->Hw h' φ ea cls od->Q () { s with heap:=h' }) :
  cf M A (noteFrame (.ref ea) env) Q E s:=by
 obtain⟨pe,vs,sl,he,c2,hv⟩:=x
 unfold noteFrame
 simp only[hf]
 rcases hv with h1|⟨T,oT,ts,h1,ne,pT,hT,hd,h3⟩
 ·refine a5 (ik he rfl h1 ?_)
  rw[if_neg (by decide)]
  exact zv hs hl h0 hf pe he (t5.mp h1).1 c2 new q
 ·have g3:ts[3]? =some ts[3]:=oy h3
  refine a5 (ik he rfl h1 ?_)
  rw[if_pos (show(Value.ref T != Value.none)=true by simp)]
  refine a5 (ik hT hd g3 ?_)
  by_cases e3:(ts[3]==rawInt L)=true
  ·rw[if_pos e3]
   exact bi (q s.heap nT.refl ⟨pe,vs,sl,he,c2,T,oT,ts,h1,ne,pT,hT,hd,h3⟩)
  ·rw[if_neg e3]
   refine a5 (nz hT hd h3 ?_)
   have other:∀b,b≠T->(s.heap.update T (sv (·.setIfInBounds 3 Value.none))).get? b=s.heap.get? b:=λb z=>fw _ _ (Ne.symm z)
   have n1:nT (frs (e0::r)) φ s.heap (s.heap.update T (sv (·.setIfInBounds 3 Value.none))):=by
    refine⟨λb o e n f=>(other b λz=>n (z▸pT)).trans e,λb o e n=>⟨o.slots,(other b λz=>n (z▸pT)).trans e⟩,λb o e=>?_,Nat.le_of_eq (Heap.size_after_update ..).symm⟩
    by_cases z:b=T
    ·subst z
     exact⟨_,f_ _ hT (oo (kn hd _))⟩
    ·exact⟨o,(other b z).trans e⟩
   refine zv (s:={ s with heap:=s.heap.update T (sv (·.setIfInBounds 3 Value.none)) }) hs (hl.of_keeps λb o e nf=>⟨o,(other b λz=>?_).trans e,rfl⟩) h0 hf pe ((other ea (Ne.symm ne)).trans he) (t5.mp h1).1 c2
    (λb hb=>new b (bn n1.size hb)) λh' n2 x2=>q h' (n1.trans n2) x2
   subst z
   rw[hT]at e
   cases e
   exact nf ts hd
theorem ED{fl:Option a6}{fr:List a6}{Q:Unit->bc->Prop}(x:Hw s.heap φ ea cls od)(q:∀h',nT fr φ s.heap h'->Hw h' φ ea cls od->Q () { s with heap:=h' }):
  cf M A (setFlight (.ref ea) fl) Q E s:=by
 obtain⟨pe,vs,sl,he,c2,T,oT,ts,h1,ne,pT,hT,hd,h3⟩:=x
 unfold setFlight
 refine a5 (ik he rfl h1 ?_)
 rw[if_pos (show(Value.ref T != Value.none)=true by simp)]
 have other:∀(f:lv->lv) b,b≠T->(s.heap.update T f).get? b=s.heap.get? b:=λf b z=>fw _ _ (Ne.symm z)
 refine nz hT hd h3 (q _ ⟨λb o e n f=>(other _ b λz=>n (z▸pT)).trans e,λb o e n=>⟨o.slots,(other _ b λz=>n (z▸pT)).trans e⟩,λb o e=>?_,Nat.le_of_eq (Heap.size_after_update ..).symm⟩
  ⟨pe,vs,sl,(other _ ea (Ne.symm ne)).trans he,c2,T,_,_,h1,ne,pT,f_ _ hT (oo (kn hd _)),kn hd _,by simp[h3]⟩)
 by_cases z:b=T
 ·subst z
  exact⟨_,f_ _ hT (oo (kn hd _))⟩
 ·exact⟨o,(other _ b z).trans e⟩
end
end
section
section
variable{X:Cx}{pins:List (a6×lv)}{σ:St}{H H':Hp}{s:bc}
noncomputable def SE(X:Cx)(pins:List (a6×lv))(H:Hp)(b:a6):Prop :=
 H b=none/\b≠X.env.locals/\b∉X.fs/\(X.s₀.heap.get? b=none\/b∈X.ex)/\(∀x c,X.env.cells.lookup x=some c->c≠b)/\∀p∈X.pn++pins,p.1≠b
theorem Inv.S8{b:a6}(I:Inv X pins σ H s)(hn:s.heap.get? b=none)(hH:H' b=none):SE X pins H' b:=by
 refine⟨hH,λz=>?_,λz=>?_,?_,λx c e z=>?_,λp hp z=>?_⟩
 ·obtain⟨m,⟨o,_,_,ho,_⟩,_⟩:=I.loc
  rw[←z,hn]at ho
  cases ho
 ·obtain⟨_,o,ho,_⟩:=I.uw.mem z
  rw[hn]at ho
  cases ho
 ·by_cases hx:b∈X.ex
  ·exact .inr hx
  ·left
   cases q:X.s₀.heap.get? b with
   |none=>rfl
   |some o =>
    obtain⟨o',e⟩:=I.base.there b o q hx
    rw[hn]at e
    cases e
 ·obtain⟨v,o,ho,_⟩:=I.cell x c e
  rw[z,hn]at ho
  cases ho
 ·have q:=(I.pin p hp).1
  rw[z,hn]at q
  cases q
theorem Inv.T6{b:a6}(I:Inv X pins σ H s)(hb:s.heap.objs.size<=b):SE X pins H b:=I.S8 (me hb) (I.hok.fresh hb)
theorem Un.noted{fs fr ex:List a6}{H₀:Hp}{h₀ h h':dC}{φ:a6->Prop}(u:Un fs ex H₀ H h₀ h)(n:nT fr φ h h')(new:∀b o,h₀.get? b=some o->b∉ex->¬ φ b)(hf:∀b o,h₀.get? b=some o->b∈fr->b∈fs):Un fs ex H₀ H h₀ h' where
 keep:=λb o e hn nf nx=>n.keep b o (u.keep b o e hn nf nx) (new b o e nx) λz=>nf (hf b o e z)
 slot:=λb o e hn hb nx=>by
  obtain⟨sl,e1⟩:=u.slot b o e hn hb nx
  obtain⟨HA,e2⟩:=n.slot b _ e1 (new b o e nx)
  exact⟨HA,e2⟩
 free:=u.free
 there:=λb o e nx=>by
  obtain⟨o',e1⟩:=u.there b o e nx
  exact n.there b o' e1
 tups:=u.tups
 uy:=u.uy
 uY:=u.uY
theorem oA.noted{P:bo}{w:df}{h h':dC}{fr:List a6}{φ:a6->Prop}(x:oA P w H h)(n:nT fr φ h h')(hφ:∀b,φ b->H b=none)(hf:∀b∈fr,H b=none):oA P w H h':=λa u e =>
 (x a u e).stay (λb v hb q=>by
  have nb:H b≠none:=λz=>by
   rcases hb with y|y
   ·rw[y,e]at z;cases z
   ·rw[y]at z;cases z
  exact n.keep b v q (λz=>nb (hφ b z)) λz=>nb (hf b z)) (λ_ q=>q) λ_ _ q=>q
theorem Inv.noted{h':dC}(I:Inv X pins σ H s)(n:nT (frs X.stack) (SE X pins H) s.heap h'):Inv X pins σ H { s with heap:=h' }:=by
 have cellK:∀x c,X.env.cells.lookup x=some c->∀v,s.heap.IsCell c v->h'.IsCell c v:=λx c e v ⟨o,ho,hd⟩=>by
  obtain⟨sl,q⟩:=n.slot c o ho λk=>k.2.2.2.2.1 x c e rfl
  exact⟨_,q,hd⟩
 refine⟨I.ok,I.os,I.bare,I.base.noted n (λb o e nx k=>?_) (λb o e z=>?_),?_,λx c e=>?_,I.free,I.nQ,λp hp=>?_,I.hok.noted n (λb k=>k.1) I.zT,I.len,I.up⟩
 ·rcases k.2.2.2.1 with z|z
  ·rw[e]at z;cases z
  ·exact nx z
 ·rcases cm.mp (I.tX b z)with q|q
  ·subst q
   exact absurd (cq (ca e) I.ok.above) (g_ _)
  ·exact q
 ·obtain⟨m,⟨o,es,ep,ho,rr⟩,hl⟩:=I.loc
  obtain⟨sl,q⟩:=n.slot _ o ho λk=>k.2.1 rfl
  refine⟨m,⟨_,es,ep,q,rr⟩,λi x v e1 e2 e3=>?_⟩
  obtain⟨u,rv,l⟩:=hl i x v e1 e2 e3
  refine⟨u,rv,?_⟩
  rcases l with l|⟨k,c,e,z⟩
  ·exact .inl l
  ·exact .inr ⟨k,c,e,cellK x c e _ z⟩
 ·obtain⟨v,z⟩:=I.cell x c e
  exact⟨v,cellK x c e v z⟩
 ·obtain⟨e,hn,ne,nf,d⟩:=I.pin p hp
  refine⟨n.keep p.1 p.2 e (λk=>k.2.2.2.2.2 p hp rfl) λz=>?_,hn,ne,nf,d⟩
  rcases cm.mp (I.tX _ z)with q|q
  ·exact ne q
  ·exact nf q
end
noncomputable def vR(P:bo)(w:df):HH:=λouter H s E e s'=>∃ea cls od H',e= .ref ea/\s'.os=s.os/\AllBare s'.gens/\s.toks<=s'.toks/\Un (frs outer) [] H H' s.heap s'.heap/\oA P w H' s'.heap ∧
 E3 s'.heap (λb=>s.heap.get? b=none/\H' b=none) ea cls od/\E cls od H'
noncomputable def Lets(X:Cx)(E:St->XK):Prop:=∀(pins:List (a6×lv)) (σ:St) (H:Hp) (s:bc) (ea:a6) (cls:a9) (od:Option a6),Inv X pins σ H s->E3 s.heap (SE X pins H) ea cls od->E σ cls od H->X.xe (.ref ea) s
theorem Lets.pass{X:Cx}{E:St->XK}{pins:List (a6×lv)}{σ:St}{H:Hp}{s s':bc}{e:a9}(L:Lets X E)(I:Inv X pins σ H s)(h:vR X.prog X.w X.stack H s (E σ) e s'):X.xe e s':=by
 obtain⟨ea,cls,od,H',rfl,os,bare,tt,un,hok,x,hE⟩:=h
 have I2:Inv X pins σ H' s':=I.MO (ch:=[]) os un hok bare (λb z=>nomatch z) (bn I.up tt)
 exact L pins σ H' s' ea cls od I2 (x.to λb k=>I.S8 k.1 k.2) hE
theorem Lets.passes{X:Cx}{E:XK}(L:Lets X λ_=>E):Passes (vR X.prog X.w) X E:=λ_ _ _ _ _ _ I h=>L.pass I h
section
variable{P:bo}{w:df}{K:PySem.W.Frag}{mg:bv->Option a9}{base:dC}
theorem pA{N:List bv}{qual:bv}{scope:lL}{f:a6}{cd:a9}{A:dL}{outer:List Env}{s:bc}{H:Hp}{E:XK}:Lets (uB (vR P w) P w K mg base N qual scope f cd A outer s H E) λ_=>E:=by
 intro pins σ H' s' ea cls od I x hE
 show cf _ _ (leaving _ (.ref ea)) _ _ s'
 unfold leaving
 refine a5 (IS I.ok.frames I.stack rfl rfl x (λb hb=>I.T6 hb) λh1 n1 x1=>?_)
 refine ED (fr:=frs (uB (vR P w) P w K mg base N qual scope f cd A outer s H E).stack) x1 λh2 n2 x2=>?_
 have I2:=I.noted (n1.trans n2)
 refine⟨ea,cls,od,H',rfl,I2.os,I2.bare,I2.up,I2.base,I2.hok,x2.n.to λb k=>⟨?_,k.1⟩,hE⟩
 rcases k.2.2.2.1 with z|z
 ·exact z
 ·exact nomatch z
theorem sJ{N:List bv}{qual:bv}{scope:lL}{f:a6}{cd:a9}{A:dL}{outer:List Env}{s:bc}{H:Hp}{E:XK}:
  PassesOwn (model P w) (uB (vR P w) P w K mg base N qual scope f cd A outer s H E).A (uB (vR P w) P w K mg base N qual scope f cd A outer s H E).env (uB (vR P w) P w K mg base N qual scope f cd A outer s H E).xe:=PassesOwn.leaving
theorem KI.Od{x qual:bv}{st:gl}{f:a6}{fd:db}{N ps:List bv}{k:Nat}{sp:Sp}(F:KI K x qual st f fd)(S:aE N ps (ay st))(len:∀vs H Q E,sp vs H Q E->vs.length=ps.length)
  (hbody:∀(cdv:a9) (A:dL) (outer:List Env) (s:bc) (H:Hp) (vs:List V) (Q:VK) (E:XK),jT k (A.deeper (envOfC qual (ay st) s.heap.objs.size f cdv))->sp vs H Q E →
   ∃t,Bt (uB (vR P w) P w K mg base N qual (ay st) f cdv A outer s H E) (dW st) t/\t { nx:=λ_ H'=>Q .jy H',rt:=Q } (start N vs) H):aI P w K mg base (vR P w) (k+1) f fd ps sp:=by
 obtain⟨oc,od,dV,kV,doc,pm,an,cdv,ct,osl,rfl,lk,hcd⟩:=F.ex
 exact JK lk hcd S len λA outer s H vs Q E hr HE=>hbody cdv A outer s H vs Q E hr HE
end
theorem bY.got{P:bo}{w:df}{H:Hp}{h:dC}{a:a6}{o:HO}(x:bY P w H h a o):h.get? a≠none:=by
 cases o with
 |lst xs=>obtain⟨_,_,_,_,e⟩:=x;rw[e];exact λz=>nomatch z
 |tup xs=>obtain⟨_,_,_,ob,e,_⟩:=x;rw[e];exact λz=>nomatch z
 |dK kvs=>obtain⟨_,_,_,_,o,_,_,e,_⟩:=x;rw[e];exact λz=>nomatch z
 |dT kvs=>obtain⟨_,_,_,_,o,_,_,e,_⟩:=x;rw[e];exact λz=>nomatch z
 |set S n=>obtain⟨o,_,_,_,e,_⟩:=x;rw[e];exact λz=>nomatch z
 |ins C dx fs=>obtain⟨_,_,_,e,_⟩:=x;rw[e];exact λz=>nomatch z
 |own y=>obtain⟨_,e⟩:=x;rw[e];exact λz=>nomatch z
 |xd fs=>obtain⟨_,⟨_,_,_,e,_⟩,_⟩:=x;rw[e];exact λz=>nomatch z
 |Th lo hi=>obtain⟨_,_,_,e⟩:=x;rw[e];exact λz=>nomatch z
 |EC ob u=>obtain⟨e,_⟩:=x;rw[e];exact λz=>nomatch z
 |Mh ps=>have e:h.get? a=some _:=x;rw[e];exact λz=>nomatch z
 |met f y=>have e:h.get? a=some _:=x;rw[e];exact λz=>nomatch z
 |ext φ=>obtain⟨_,⟨_,e⟩,_⟩:=x;rw[e];exact λz=>nomatch z
theorem oA.none_of{P:bo}{w:df}{H:Hp}{h:dC}{a:a6}(x:oA P w H h)(e:h.get? a=none):H a=none:=by
 cases q:H a with
 |none=>rfl
 |some o=>exact absurd e (x a o q).got
set_option genInjectivity false in
structure XP where
 nm:bv
 q:bv
 N:a6
 bs:List a9
 bm:List a9
 hdct:Bool
 sn:List bv
 sub:List a9
 ab:Bool
 col:Option Bool
 dd:Option a6
 k0:Option a9
 k1:Option a9
 k2:Option a9
 k3:Option a9
 k5:Option a9
 mN:bv->Option a9
noncomputable abbrev XP.obj(d:XP)(C:a6)(newId:String):lv:=excClassObj d.nm d.q C d.N d.bs d.bm d.hdct d.sn d.sub d.ab d.col d.dd d.k0 d.k1 d.k2 d.k3 d.k5 newId
structure XR(K:PySem.W.Frag)(C:a6)(Bn B newId inN nid initId:String)(bmN bmB:List a9):Prop where
 fn:wb Bn newId inN bmN
 has:bmB.contains (.type Bn)=true
 fb:wb B nid initId bmB
 obj:∀h:dC,K.In h->∃d:XP,h.get? C=some (d.obj C newId)/\h.Ns d.N d.mN/\d.mN "__init__" =none/\OwnTail h bmB d.bm
noncomputable def Ke(K:PySem.W.Frag)(C:a6):Prop:=∃Bn B newId inN nid initId bmN bmB,XR K C Bn B newId inN nid initId bmN bmB
theorem KP {K:PySem.W.Frag}{C:a6}(q:PySem.W.excIn K C [.type "ValueError",.type "Exception",.type "BaseException",.type "object"] "ValueError.__new__" =true):Ke K C:=by
 refine⟨_,_,_,_,_,_,_,_,PySem.F.excBase_ValueError,PySem.F.excBase_ValueError.hasB,PySem.F.excBase_ValueError,λh k=>?_⟩
 unfold PySem.W.excIn at q
 split at q
 ·rename_i dd cd sl hob
  split at q
  ·rename_i C' bm k0 k1 k2 k3 nn k5 hmr Jy
   simp only[ii,beq_iff_eq,Bool.not_eq_true']at q
   obtain⟨⟨⟨⟨⟨e1,e2⟩,e3⟩,e4⟩,e5⟩,e6⟩:=q
   subst e1 e2
   obtain⟨nm,bs,mro,ns,qn,hd,sn,sub,ab,col,del⟩:=cd
   dsimp only at hmr e3 e5 e6
   subst hmr e3
   have hsl:sl= #[k0,k1,k2,k3,some (.builtin "ValueError.__new__"),k5]:=by
    obtain⟨l⟩:=sl
    simp only at Jy
    rw[Jy]
   subst hsl
   exact⟨⟨nm,qn,ns,bs,bm,hd,sn,sub,ab,col,dd,k0,k1,k2,k3,k5,_⟩,k _ _ hob,.of_isNs (PySem.W.isNs_of_in k e5),PySem.W.nsMap_none_of_in k e5 e6,PySem.W.tail_of_in k e4⟩
  ·cases q
 ·cases q
noncomputable def NS(C:a6)(E:St->XK)(t:TA):TS:=λ_ σ H=>t σ H λvs H1=>vs.length<=b_/\E σ (.ref C) none H1
theorem IB{X:Cx}{E:St->XK}{C:a6}{x:bv}{np cpos pos:re}{e:Expr}{es:List Expr}{t:TA}(L:Lets X E)(OE:Ke X.K C)(hc:X.calm=true)
  (hg:Gl X x) (hm:X.mg x=some (.ref C)) (ha:PA X (e::es) t) (hdb:(x==("__debug__" :bv))=false:=by decide) (he:eh (e::es) X.env=(false,eval e X.env)::eh es X.env:=by rfl)
  (hpl:(backTo cpos (eh es X.env)).any (·.1)=false:=by rfl):PS X (.Raise (some (.Call (.Name x np) (e::es) [] cpos)) none pos) (NS C E t):=by
 intro pins s σ H D I h
 obtain⟨Bn,B,newId,inN,nid,initId,bmN,bmB,O⟩:=OE
 obtain⟨d,hC,hN,hni,T⟩:=O.obj X.base I.ok.mod.OA
 refine wpAny_Raise_call_subU (C:=C) (nm:=d.nm) (q:=d.q) (N:=d.N) (bs:=d.bs) (bm:=d.bm) (hdct:=d.hdct) (sn:=d.sn) (sub:=d.sub) (ab:=d.ab) (col:=d.col) (dd:=d.dd) (k0:=d.k0) (k1:=d.k1) (k2:=d.k2) (k3:=d.k3) (k5:=d.k5) O.fn O.has O.fb
  (mN:=d.mN) (T.hasType O.fb.hasBase) (I.ok.hd hc) (by rw[he];show(false||(backTo cpos (eh es X.env)).any (·.1))=false;rw[hpl];rfl) hni (qP I hg hm ⟨rfl,?_⟩ hdb)
 have z:=ha cpos pins s σ H _ I h
 rw[he]at z ⊢
 refine tI (gg z λus s2 ⟨vs,H2,I2,r,hl,q2⟩=>⟨rfl,?_,I2.bk _ _ hC,hN.keeps I2.bk,T.keeps I2.bk,λh' ea hm=>?_⟩)
 ·show us.length<=b_
  rw[←r.length]
  exact hl
 ·obtain⟨t',ht,_,_⟩:=hm.there
  exact L pins σ H2 _ ea (.ref C) none (I2.kept (t':=s2.toks) hm.keeps) ⟨I2.S8 hm.new (I2.hok.none_of hm.new),_,_,ht,λ_=>rfl,.inl rfl⟩ q2
end
section
section
variable{X:Cx}{pins ps:List (a6×lv)}{σ:St}{H:Hp}{s:bc}{xe:a9->bc->Prop}
end
section
variable{X:Cx}{pins:List (a6×lv)}{σ:St}{H:Hp}{s:bc}{ea:a6}
end
theorem Inv.NO{X:Cx}{pins:List (a6×lv)}{σ:St}{H:Hp}{s:bc}{a:a6}{o:HO}(I:Inv X pins σ H s)(k:SE X pins H a)(new:bY X.prog X.w (upd H a o) s.heap a o):Inv X pins σ (upd H a o) s:=by
 obtain⟨hn,k1,k2,k3,k4,k5⟩:=k
 refine⟨I.ok,I.os,I.bare,⟨I.base.keep,I.base.slot,λb ob q n hx=>?_,I.base.there,λb xs q=>?_,λb ob u q=>?_,λb ps q=>?_⟩,I.loc,I.cell,?_,λx c e=>?_,λp hp=>?_,λb u q=>?_,I.len,I.up⟩
 ·have ne:b≠a:=λz=>by
   rcases k3 with y|y
   ·rw[←z,q]at y;cases y
   ·exact hx (z▸y)
  rw[aq ne]
  exact I.base.free b ob q n hx
 ·have q':=I.base.tups b xs q
  rw[aq (aO q' hn)];exact q'
 ·have q':=I.base.uy b ob u q
  rw[aq (aO q' hn)];exact q'
 ·obtain⟨more,q'⟩:=I.base.uY b ps q
  exact⟨more,by rw[aq (aO q' hn)];exact q'⟩
 ·rw[aq (Ne.symm k1)];exact I.free
 ·rw[aq (k4 x c e)];exact I.nQ x c e
 ·obtain⟨e,n,r⟩:=I.pin p hp
  exact⟨e,by rw[aq (k5 p hp)];exact n,r⟩
 ·by_cases hb:b=a
  ·subst hb;rw[ah]at q;cases q;exact new
  ·rw[aq hb]at q
   exact(I.hok b u q).stay (λc v _ r=>r) (λc r=>by rw[aq (aO r hn)];exact r) λc xs r=>by rw[aq (aO r hn)];exact r
section
variable{X:Cx}{k:Nat}{f C:a6}{fd:db}{ps:List bv}{sp:Sp}{Dt:List V}{ds:List a9}{E:St->XK}{x:bv}{p pos:re}{e:Expr}{es:List Expr}{t:TA}
end
end
section
end
section
section
variable{X:Cx}
noncomputable abbrev TJ:=St->Hp->bv->(bv->Hp->Prop)->Prop
noncomputable def PJ(X:Cx)(es:List Expr)(tj:TJ):Prop:=∀(pins:List (a6×lv)) (s:bc) (σ:St) (H:Hp) (acc:bv) (R:bv->Hp->Prop),Inv X pins σ H s->tj σ H acc R →
 Joins (model X.prog X.w) X.A X.xe (evalEach es X.env) acc (λout s1=>out.length<=b_/\∃H1,Inv X pins σ H1 s1/\R out H1) s
theorem IC:PJ X [] (λ_ H acc R=>acc.length<=b_/\R acc H):=λ_ _ _ H _ _ I h=>⟨h.1,H,I,h.2⟩
theorem qL{e:Expr}{es:List Expr}{te:TE}{tj:TJ}(he:PE X e te)(hr:PJ X es tj)(hx:evalEach (e::es) X.env=eval e X.env::evalEach es X.env:=by rfl):
  PJ X (e::es) (λσ H acc R=>te σ H λv H1=>∃y,v= .str y/\(acc++y).length<=b_/\tj σ H1 (acc++y) R):=by
 intro pins s σ H acc R I h
 rw[hx]
 refine gg (he pins s σ H _ I h) λu s1 ⟨v,H1,I1,r,y,e1,hl,q⟩=>?_
 subst e1
 obtain⟨t,rfl⟩:=r
 exact⟨y,t,rfl,hl,hr pins s1 σ H1 _ R I1 q⟩
theorem zk{M:Model}{A:dL}{E:a9->bc->Prop}:∀{parts:List (Sem a9)} {acc:bv} {Q Q':bv->bc->Prop} {s:bc},Joins M A E parts acc Q s->(∀out s1,Q out s1->Q' out s1)->Joins M A E parts acc Q' s
 |[],_,_,_,_,h,k=>k _ _ h
 |_::_,_,_,_,_,h,k=>gg h λ_ _ ⟨y,t,e,hl,q⟩=>⟨y,t,e,hl,zk q k⟩
theorem FD{v₁ v₂:Expr}{rest:List Expr}{pos:re}{tj:TJ}(h:PJ X (v₁::v₂::rest) tj):PE X (.JoinedStr (v₁::v₂::rest) pos) (λσ H Q=>tj σ H wn λout H1=>Q (.str out) H1):=by
 intro pins s σ H Q I q
 refine wpAny_JoinedStr (zk (h pins s σ H wn _ I q) λout s1 ⟨hl,H1,I1,q1⟩=>⟨hl,.str out,H1,I1.tok _,⟨_,rfl⟩,q1⟩)
theorem Ld{value:Expr}{pos:re}{te:TE}(he:PE X value te):PE X (.FormattedValue value 114 none pos) (λσ H Q=>te σ H λv H1=>∃x,v= .str x/\(reprText x).length<=b_/\Q (.str (reprText x)) H1):=by
 intro pins s σ H Q I h
 refine wpAny_FormattedValue_repr (gg (he pins s σ H _ I h) λu s1 ⟨v,H1,I1,r,x,e,hl,q⟩=>?_)
 subst e
 obtain⟨t,rfl⟩:=r
 refine wpAny_pyReprObj_str (x:=x) ?_ hl
 exact wpAny_formatField_str ⟨.str (reprText x),H1,I1.tok _,⟨_,rfl⟩,q⟩ ⟨.str (reprText x),H1,(I1.tok _).tok _,⟨_,rfl⟩,q⟩ hl
theorem IG{value:Expr}{pos:re}{te:TE}(he:PE X value te):PE X (.FormattedValue value (-1) none pos) (λσ H Q=>te σ H λv H1=>∃i:Int,v= .int i/\i.natAbs.log2<1920/\Q (.str (bd (toString i))) H1):=by
 intro pins s σ H Q I h
 refine wpAny_FormattedValue_plain (gg (he pins s σ H _ I h) λu s1 ⟨v,H1,I1,r,i,e,hl,q⟩=>?_)
 subst e
 obtain⟨t,rfl⟩:=r
 exact wpAny_formatField_int hl ⟨.str (bd (toString i)),H1,I1.tok _ (by show s1.toks<=_;omega),⟨_,rfl⟩,q⟩
end
end
section
end
end L2
namespace GP
open PySem L2 pQ
theorem Kd{x:bv}(h:x.length<=20)(hz:100<=b_):(wn++x).length<=b_:=by
 rw[strLen_append]
 have:Str.empty.length=0:=rfl
 omega
theorem zG{x y:bv}(h:x.length<=20)(hz:y.length+20<=b_):((wn++x)++y).length<=b_:=by
 rw[strLen_append,strLen_append]
 have:Str.empty.length=0:=rfl
 omega
end GP
namespace L2
open PySem PySem.Spec PyProof.Rows
end L2
namespace GP
open PySem L2 pQ
end GP
namespace L2
open PySem PySem.Spec PyProof.Rows
section
section
variable{prog:bo}{w:df}{A:dL}{E:a9->bc->Prop}{h:dC}{gs:Array GenState}{dr:Drawn}{tk:Nat}{os:OsState}
variable{nm qn:bv}{C N:a6}{bs tl bmB bmN:List a9}{hdct:Bool}{sn:List bv}{sub:List a9}{ab:Bool}{col:Option Bool}{dd:Option a6}{k0 k1 k2 k3 k5:Option a9}{B Bn newId nid initId inN:String}
theorem wj{mN:bv->Option a9}{rest:List a9}{fI:a6}{oI:lv}{Q:Fin->bc->Prop}(Fn:wb Bn newId inN bmN)(hBn:bmB.contains (.type Bn)=true)(FB:wb B nid initId bmB)(T:OwnTail h bmB tl)
  (hob:h.get? C=some (excClassObj nm qn C N bs tl hdct sn sub ab col dd k0 k1 k2 k3 k5 newId)) (hns:h.Ns N mN) (OU:mN "__init__" =some (.ref fI)) (hfo:h.get? fI=some oI) (hfc:oI.cls= .type "function")
  (hq:∀h' e,Heap.MadeExcOf h h' e (.ref C) rest->cf (model prog w) A (call (.ref fI) (.ref e::rest)) (λr s'=>r= .none/\Q (.done (.ret (.ref e))) s') E ⟨h',gs,dr,tk,os⟩) (hz:rest.length<=b_) :
  cf (model prog w) A (Builtin.«type.__call__» ⟨.ref C::rest,[]⟩) Q E ⟨h,gs,dr,tk,os⟩:=by
 repeat (first|with_reducible refine tf hob ?_|with_reducible refine wpAny_madeBy_exc hob ?_|wp_step)
 refine codeAny_call_builtin_code (Code.quiet_builtin _ Fn.quiet) (wpAny_check_new_subU Fn hBn T hob ?_)
 refine codeAny_exc_new_subU Fn hBn FB T hob ?_ hz
 show cf _ _ _ _ _ _
 have kp:∀b o,h.get? b=some o->((h.push { cls:=.type "tuple",data:=.seq rest.toArray }).push { cls:=.ref C,data:=.fields #[.ref h.objs.size,.none,.none,.none,.bool false,.none] }).get? b=some o:=λb o e=>a8 _ (a8 _ e)
 have RY:=kp _ _ hob
 have W9:=kp _ _ hfo
 have WW:=hns.keeps kp
 have T1:=T.keeps kp
 have MK:((h.push { cls:=.type "tuple",data:=.seq rest.toArray }).push { cls:=.ref C,data:=.fields #[.ref h.objs.size,.none,.none,.none,.bool false,.none] }).get? (h.objs.size+1)=some { cls:=.ref C,data:=.fields #[.ref h.objs.size,.none,.none,.none,.bool false,.none] }:=by heap_get
 have hself:(Value.ref C::tl).contains (.ref C)=true:=by simp
 unfold isInstance
 repeat (first|with_reducible refine tf MK ?_|(with_reducible refine wpAny_isSubtype_exc RY ?_;rw[hself])|wp_step)
 show cf _ _ (typeLookup (.ref C) _) _ _ _
 refine wpAny_typeLookup_tail RY WW T1 FB.mroIs FB.init.lookup ?_
 rw[OU]
 refine j_ (a5 ?_)
 unfold bindSpecial
 refine a5 (wpAny_typeOf (T:= "function") ⟨_,W9,hfc⟩ ?_)
 rw[if_pos (by decide)]
 have made:Heap.MadeExcOf h ((h.push { cls:=.type "tuple",data:=.seq rest.toArray }).push { cls:=.ref C,data:=.fields #[.ref h.objs.size,.none,.none,.none,.bool false,.none] }) (h.objs.size+1) (.ref C) rest :=
  ⟨kp,me (gc _),h.objs.size,MK,me (ba _),a8 _ (Heap.get?_push_at rfl rfl)⟩
 refine bi (a5 (gd (hq _ _ made) (λr s' hr=>?_) λ_ _ x=>x))
 obtain⟨rfl,hQ⟩:=hr
 wp_walk
 exact hQ
theorem G8{mN:bv->Option a9}{rest:List a9}{fI:a6}{oI:lv}{Q:a9->bc->Prop}(Fn:wb Bn newId inN bmN)(hBn:bmB.contains (.type Bn)=true)(FB:wb B nid initId bmB)(T:OwnTail h bmB tl)
  (hob:h.get? C=some (excClassObj nm qn C N bs tl hdct sn sub ab col dd k0 k1 k2 k3 k5 newId)) (hns:h.Ns N mN) (OU:mN "__init__" =some (.ref fI)) (hfo:h.get? fI=some oI) (hfc:oI.cls= .type "function")
  (hq:∀h' e,Heap.MadeExcOf h h' e (.ref C) rest->cf (model prog w) (A.under (.builtin "type.__call__" ⟨.ref C::rest,[]⟩)) (call (.ref fI) (.ref e::rest)) (λr s'=>r= .none/\Q (.ref e) s') E ⟨h',gs,dr,tk,os⟩) (hz:rest.length<=b_) :
  cf (model prog w) A (call (.ref C) rest) Q E ⟨h,gs,dr,tk,os⟩:=by
 have l1:=tc_lookup
 have l2:=tc_bind (.ref C)
 have hTy:(⟨h,gs,dr,tk,os⟩:bc).TypeIs (.ref C) "type" :=⟨_,hob,rfl⟩
 refine wq (codeAny_of_tree ?_)
 show cf _ _ (callAny (.ref C) _) _ _ _
 repeat (any_goals (first|assumption|with_reducible refine tf hob ?_|wp_step))
 refine⟨rfl,codeAny_call_builtin_at (Code.quiet_builtin _ (by decide +kernel)) entry_typeCall (wpAny_check_type_call_sub hob (wj Fn hBn FB T hob hns OU hfo hfc (λh' e hm=>?_) hz))⟩
 exact hq h' e hm
end
end
section
noncomputable def newX(e C:a6)(od:Option a6):HO:=.ext λh=>∃vs sl,h.get? e=some ⟨.ref C,od,.fields vs,sl⟩/\vs[1]? =some .none/\vs[2]? =some .none/\4<vs.size
noncomputable def Dy(dx:a6)(fs:List (bv×V)):HO:=.ext λh=>∃mA,h.Ns1 dx mA/\(∀f,ow (fs.lookup f) (mA f))/\PySem.Within mA (fs.map (·.1))
section
variable{P:bo}{w:df}{H:Hp}{h:dC}
theorem Ar{e C:a6}{od:Option a6}{vs:Array a9}{sl:Array (Option a9)}(he:h.get? e=some ⟨.ref C,od,.fields vs,sl⟩)(h1:vs[1]? =some .none/\vs[2]? =some .none/\4<vs.size):bY P w H h e (newX e C od) :=
 ⟨⟨vs,sl,he,h1⟩,⟨_,he⟩,λ_ _ ⟨v,s,e,z⟩ k=>⟨v,s,k _ e,z⟩⟩
theorem Dw{dx:a6}{fs:List (bv×V)}{mA:bv->Option a9}(n:h.Ns1 dx mA)(r:∀f,ow (fs.lookup f) (mA f))(wi:PySem.Within mA (fs.map (·.1))):bY P w H h dx (Dy dx fs) :=
 ⟨⟨mA,n,r,wi⟩,(let ⟨o,_,_,e,_⟩:=n;⟨o,e⟩),λ_ _ ⟨m,n,r,wi⟩ k=>⟨m,n.at k,r,wi⟩⟩
end
noncomputable def del(H:Hp)(e:a6):Hp:=λb=>if b=e then none else H b
theorem ql{H:Hp}{e b:a6}(h:b≠e):del H e b=H b:=by unfold del;rw[if_neg h]
theorem CQ{H:Hp}{e:a6}:del H e e=none:=by unfold del;rw[if_pos rfl]
theorem sX{H:Hp}{e b:a6}(h:H b=none):del H e b=none:=by unfold del;split<;>first|rfl|exact h
theorem MZ{H:Hp}{a:a6}{o:HO}(h:H a=some o):upd H a o=H:=by
 funext b
 unfold upd
 split
 ·rename_i z;rw[z,h]
 ·rfl
section
variable{X:Cx}{pins:List (a6×lv)}{σ:St}{H:Hp}{s:bc}
theorem Inv.drop{e:a6}{φ:dC->Prop}(I:Inv X pins σ H s)(he:H e=some (.ext φ)):Inv X pins σ (del H e) s:=by
 have ne:∀{b:a6} {o:HO},H b=some o->(∀ ψ,o≠ .ext ψ)->b≠e:=λ{b o} hb n z=>by
  subst z
  rw[he]at hb
  exact n _ (dn hb).symm
 refine⟨I.ok,I.os,I.bare,⟨I.base.keep,I.base.slot,λb ob q n hx=>sX (I.base.free b ob q n hx),I.base.there,λb xs q=>?_,λb ob u q=>?_,λb ps q=>?_⟩,I.loc,I.cell,sX I.free,λx c q=>sX (I.nQ x c q),λp hp=>?_,λb u q=>?_,I.len,I.up⟩
 ·have q':=I.base.tups b xs q
  rw[ql (ne q' λψ z=>by cases z)];exact q'
 ·have q':=I.base.uy b ob u q
  rw[ql (ne q' λψ z=>by cases z)];exact q'
 ·obtain⟨more,q'⟩:=I.base.uY b ps q
  exact⟨more,by rw[ql (ne q' λψ z=>by cases z)];exact q'⟩
 ·obtain⟨a,n,r⟩:=I.pin p hp
  exact⟨a,sX n,r⟩
 ·have hb:b≠e:=λz=>by rw[z,CQ]at q;cases q
  rw[ql hb]at q
  exact(I.hok b u q).stay (λc v _ r=>r) (λc r=>by rw[ql (ne r λψ z=>by cases z)];exact r) λc xs r=>by rw[ql (ne r λψ z=>by cases z)];exact r
end
section
variable{M:Model}{A:dL}{E:a9->bc->Prop}{env:Env}
variable{nm q:bv}{C N:a6}{bs bm:List a9}{hdct:Bool}{sn:List bv}{sub:List a9}{ab:Bool}{col:Option Bool}{dd:Option a6}{k0 k1 k2 k3 k5:Option a9}{newId:String}
theorem DX {s:bc}{x:Sem a9}{Q:Flow->bc->Prop}(hbase:bm.contains (.type "BaseException")=true)(hh:A.handled=none)
  (h:cf M A x (λv s₁=>∃e od vs sl,v= .ref e/\s₁.heap.get? C=some (excClassObj nm q C N bs bm hdct sn sub ab col dd k0 k1 k2 k3 k5 newId) ∧
   s₁.heap.get? e=some ⟨.ref C,od,.fields vs,sl⟩/\vs[1]? =some .none/\E (.ref e) s₁) E s):cf M A (raiseStmt env (some x) none) Q E s:=by
 have hcB:(Value.ref C::bm).contains (.type "BaseException")=true:=by rw[List.contains_cons,hbase,Bool.or_true]
 unfold raiseStmt
 refine a5 (gd h (λv s₁ h₁=>?_) λ_ _ x=>x)
 obtain⟨e,od,vs,sl,rfl,hC,he,hv,hE⟩:=h₁
 obtain⟨hp,g,d,tk,os⟩:=s₁
 repeat (first|with_reducible refine tf he ?_|with_reducible refine tf hC ?_|(with_reducible refine wpAny_isSubtype_exc hC ?_;rw[hcB])|wp_step)
 rw[hv]
 refine bi ?_
 rw[if_neg (by decide)]
 exact bi (wpAny_raiseNew_none hh hE)
end
noncomputable def HR:List a9:=[.type "ValueError",.type "Exception",.type "BaseException",.type "object"]
structure F9(K:PySem.W.Frag)(C fI:a6):Prop where
 obj:∀h:dC,K.In h->∃d:XP,h.get? C=some (d.obj C "ValueError.__new__")/\h.Ns d.N d.mN/\d.mN "__init__" =some (.ref fI)/\OwnTail h HR d.bm
noncomputable def EG(K:PySem.W.Frag)(C fI:a6):Bool:=match K.lookup C with
 |some ⟨.type "type",_,.cls cd,sl⟩=>(match cd.mro,sl.toList with
  | .ref C'::bm,[_,_,_,_,some (.builtin n),_]=>C'==C&&n== "ValueError.__new__" && !cd.hasDel&&PySem.W.tailIn K HR bm&&PySem.W.nsOkIn K cd.ns&&PySem.W.nsIn K cd.ns "__init__" ==some (some (.ref fI))
  |_,_=>false)
 |_=>false
theorem Eh{K:PySem.W.Frag}{h:dC}{N:a6}{mg:bv->Option a9}{n:bv}{v:a9}(X:K.In h)(G:h.Ns N mg)(e:PySem.W.nsIn K N n=some (some v)):mg n=some v:=by
 obtain⟨o,es,ep,ho,hd,_,hf⟩:=G
 unfold PySem.W.nsIn at e
 split at e
 ·rename_i c d es' n' sl q
  have:=X _ _ q
  rw[ho]at this
  cases this
  cases hd
  split at e
  ·rename_i he
   cases e
   rw[←hf]
   unfold nsFind findBy
   rw[←Array.find?_toList,he]
   rfl
  ·split at e
   ·cases e
   ·cases e
 ·cases e
theorem Bw{K:PySem.W.Frag}{C fI:a6}(q:EG K C fI=true):F9 K C fI:=by
 refine⟨λh k=>?_⟩
 unfold EG at q
 split at q
 ·rename_i dd cd sl hob
  split at q
  ·rename_i C' bm k0 k1 k2 k3 nn k5 hmr Jy
   simp only[ii,beq_iff_eq,Bool.not_eq_true']at q
   obtain⟨⟨⟨⟨⟨e1,e2⟩,e3⟩,e4⟩,e5⟩,e6⟩:=q
   subst e1 e2
   obtain⟨nm,bs,mro,ns,qn,hd,sn,sub,ab,col,del⟩:=cd
   dsimp only at hmr e3 e5 e6
   subst hmr e3
   have hsl:sl= #[k0,k1,k2,k3,some (.builtin "ValueError.__new__"),k5]:=by
    obtain⟨l⟩:=sl
    simp only at Jy
    rw[Jy]
   subst hsl
   have G:h.Ns ns _:=.of_isNs (PySem.W.isNs_of_in k e5)
   exact⟨⟨nm,qn,ns,bs,bm,hd,sn,sub,ab,col,dd,k0,k1,k2,k3,k5,_⟩,k _ _ hob,G,Eh k G e6,PySem.W.tail_of_in k e4⟩
  ·cases q
 ·cases q
structure XBase(K:PySem.W.Frag)(W:a6):Prop where
 ga:PySem.W.specialIn K (.ref W) "__getattribute__" =some (some (.builtin "type.__getattribute__"))
 rd:PySem.W.readsIn K W (.type "type")=true
 fd:PySem.W.findCls K (.ref W) (.type "type") "__init__" =some (.val (.builtin "ValueError.__init__"))
noncomputable def rJ:List a9->Bool
 |[]=>false
 |v::r=>(v::r)==HR||match v with| .ref _=>rJ r|_=>false
structure SD(K:PySem.W.Frag)(C:a6):Prop where
 hd:PySem.W.hasDictIn K C=true
 po:((PySem.W.clsIn K C).any λcd=>rJ cd.mro)=true
 sa:PySem.W.findIn K (.ref C) "__setattr__" =some (some (.builtin "object.__setattr__"))
theorem yW(self:a9):∀{l:List a9},rJ l=true->refuseLoop self "__setattr__" l=pure ()
 |[],e=>by cases e
 |v::r,e=>by
  unfold rJ at e
  rcases Bool.or_eq_true_iff.mp e with q|q
  ·rw[beq_iff_eq.mp q];exact PySem.F.store_ValueError.passes self
  ·split at q
   ·rw[refuseLoop_ref];exact yW self q
   ·cases q
theorem HQ:∀{l:List a9},rJ l=true->l.contains (.type "object")=true
 |[],e=>by cases e
 |v::r,e=>by
  unfold rJ at e
  rcases Bool.or_eq_true_iff.mp e with q|q
  ·rw[beq_iff_eq.mp q];decide +kernel
  ·split at q
   ·rw[List.contains_cons,HQ q,Bool.or_true]
   ·cases q
end
section
noncomputable def QC(K:PySem.W.Frag)(t:TA):TE:=λσ H Q=>t σ H λvs H1=>∃e C fI od y,vs=[.ref e,y]/\H1 e=some (newX e C od)/\F9 K C fI/\Q .jy H1
theorem Le {X:Cx}{x:bv}{W:a6}{np apos cpos:re}{a b:Expr}{t:TA}{pl:Sem Bool}(hW:XBase X.K W)(hg:Gl X x)(hm:X.mg x=some (.ref W))(ha:PA X [a,b] t)(hdb:(x==("__debug__" :bv))=false:=by decide)
  (hev:eval (.Call (.Attribute (.Name x np) "__init__" apos) [a,b] [] cpos) X.env=(do
   let ov ←eval (.Name x np) X.env
   standAt apos.atName
   let (f,first) ←holding [ov] (getMethod ov "__init__" pl)
   callWith cpos f first (backTo cpos (eh [a,b] X.env)) (backToKw cpos (keywordEach [] X.env))):=by rfl)
  (hs:eh [a,b] X.env=(false,eval a X.env)::eh [b] X.env:=by rfl) (hpl:(backTo cpos (eh [b] X.env)).any (·.1)=false:=by rfl) :
  PE X (.Call (.Attribute (.Name x np) "__init__" apos) [a,b] [] cpos) (QC X.K t):=by
 intro pins s σ H Q I h
 refine PySem.W.methodCall_KW (pl:=pl) (qP I hg hm ?_ hdb) hev
 refine PySem.W.method_cls I.rD hW.ga (PySem.W.cls_value I.rD hW.rd hW.fd (by decide +kernel) ?_)
 have hA:=ha cpos pins { s with toks:=s.toks+1 } σ H _ (I.tok _) h
 rw[hs]at hA ⊢
 refine Calls.callWith_builtin (by show(false||(backTo cpos (eh [b] X.env)).any (·.1))=false;rw[hpl]<;>rfl) (tI ?_)
 refine gg hA λus s2 ⟨vs,H2,I2,r2,e,C,fI,od,y,e1,hx,O,q⟩=>?_
 subst e1
 obtain⟨u1,u2,rfl,ZI,_⟩:=vals2 r2
 cases (show u1=Value.ref e from ZI)
 obtain⟨⟨vs,sl,he,h1⟩,_,_⟩:=(show bY X.prog X.w H2 s2.heap e (newX e C od) from I2.hok e _ hx)
 obtain⟨d,hC,hN,hni,T⟩:=O.obj s2.heap I2.rD
 have F:=PySem.F.excBase_ValueError
 have I2':=I2
 obtain⟨hh,gs,dr,tk,os⟩:=s2
 show cf _ _ (call (.builtin "ValueError.__init__") [.ref e,u2]) _ _ _
 refine wq (codeAny_call_builtin F.init.plain F.initEntry (wpAny_check_init_subU F T hC he rfl ?_))
 have hv:0<vs.size:=cr (em 1) (t5.mp h1.1).1
 have hv0:vs[0]? =some vs[0]:=oy hv
 wp_walk
 rw[hv0]
 refine bi ?_
 have hg:(hh.push { cls:=.type "tuple",data:=.seq #[u2] }).get? e=some ⟨.ref C,od,.fields vs,sl⟩:=a8 _ he
 refine a5 (nz hg rfl hv ?_)
 have hu:=f_ (sv (·.setIfInBounds 0 (Value.ref hh.objs.size))) hg rfl
 have fin:EP X pins σ Q Value.none ⟨(hh.push { cls:=.type "tuple",data:=.seq #[u2] }).update e (sv (·.setIfInBounds 0 (Value.ref hh.objs.size))),gs,dr,tk,os⟩:=by
  refine⟨.jy,H2,?_,rfl,q⟩
  have J1:=I2'.kept (h':=hh.push { cls:=.type "tuple",data:=.seq #[u2] }) (t':=tk) λb u z=>a8 _ z
  have J2:=J1.write (x:=e) (e:=e) (o:=newX e C od) (t':=tk) (by rw[hx];exact True.intro) (.inl rfl) (λb u hb z=>(fw _ _ (Ne.symm hb)).trans z) ⟨_,hu⟩ (Ar hu (by simp[h1]))
  rw[MZ hx]at J2
  exact J2
 cases hq:vs[0]with
 |ref t0=>exact tJ (bi fin)
 |_=>exact bi (bi fin)
end
section
section
variable{prog:bo}{w:df}{A:dL}{E:a9->bc->Prop}{s:bc}{K:PySem.W.Frag}{x dx C:a6}{name:bv}{v:a9}{R:Result->bc->Prop}
theorem FE{ox:lv}{od:Option lv}{tk:wT}(X:K.In s.heap)(I:PySem.W.InstAt s.heap x ox C od)(S:SD K C)(ht:PySem.W.takerIn K C name=some none)
  (h:∀b,cf (model prog w) A.in1 (Builtin.ObjectAttr.storeInOwnDict (.ref x) (.ref C) (.str name tk) name v b)
   (λfin s'=>match fin with| .done f=>R (.ok f) s'| .again c'=>c'.quiet=true/\codeAny (model prog w) A c' R s') (λe s'=>R (.error e) s') s) :
  codeAny (model prog w) A (.call (.builtin "object.__setattr__") ⟨[.ref x,.str name tk,v],[]⟩) R s:=by
 have SF:=PySem.F.store_object
 obtain⟨cd,hc,ho⟩:=PySem.W.any_some S.po
 have ne:cd.mro.isEmpty=false:=by cases q:cd.mro with|nil=>rw[q]at ho;cases ho|cons _ _=>rfl
 have sub:PySem.W.Looks (model prog w) s.heap (isInstance (.ref x) (.type "object")) true:=I.type.andThen (PySem.W.looks_mroIn X (by unfold PySem.W.mroIn;rw[hc,Option.bind_some,if_neg (by rw[ne];decide),HQ ho]))
 refine codeAny_call_builtin SF.slot.plain SF.entry (@PySem.W.check_slot (model prog w) _ _ s "object.__setattr__" "object" "__setattr__" (.ref x) [.str name tk,v] [] _ SF.kind SF.split sub (SF.args (.ref x) (.str name tk) v) ?_)
 obtain⟨attr,ha,hr⟩:=Option.bind_eq_some_iff.mp ht
 have hm:PySem.W.Looks (model prog w) s.heap (mroOf (.ref C)) cd.mro:=(PySem.W.looks_clsIn X hc).andThen .now
 have L3:PySem.W.Looks (model prog w) s.heap (Builtin.ObjectAttr.storeTaker? attr) none:=by
  cases attr with
  |none=>cases hr;exact .now
  |some a =>
   obtain⟨b,hb,e⟩:=gN.mp hr
   refine(PySem.W.looks_takesIn X hb).andThen ?_
   cases b with
   |false=>exact .now
   |true=>cases e
 rw[PySem.W.osa_eq,refuse_eq]
 refine a5 (a5 (I.type.here (a5 (hm.here ?_))))
 rw[yW _ ho]
 refine bi (a5 (I.type.here (a5 ((PySem.W.looks_findIn X ha).here (a5 (L3.here ?_))))))
 exact h _
theorem DK{vs:Array a9}{sl:Array (Option a9)}{mA:bv->Option a9}{ns:List bv}{Q:Unit->bc->Prop}(X:K.In s.heap)(S:SD K C)(ht:PySem.W.takerIn K C name=some none)
  (he:s.heap.get? x=some ⟨.ref C,some dx,.fields vs,sl⟩) (hn:s.heap.Ns1 dx mA) (hw:PySem.Within mA ns) (hsz:ns.length+1<=b_)
  (h:∀h',h'.Ns1 dx (λy=>if y=name then some v else mA y)->l_ dx s.heap h'->Q () { s with heap:=h',toks:=s.toks+2 }):cf (model prog w) A (setAttr (.ref x) name v) Q E s:=by
 obtain⟨od,ho,hl⟩:=zd hn
 have J:PySem.W.InstAt s.heap x ⟨.ref C,some dx,.fields vs,sl⟩ C (some od):=⟨he,rfl,rfl,ho⟩
 refine PySem.W.set_plain X J S.sa (FE (s:={ s with toks:=s.toks+1 }) X J S ht λb=>?_)
 obtain⟨cd,hc,hd'⟩:=PySem.W.any_some S.hd
 refine a5 (bi (a5 (a5 (wpAny_loadPart he (a5 (PySem.W.Looks.here (s:={ s with toks:=s.toks+1 }) (PySem.W.looks_clsIn X hc) ?_))))))
 rw[hd']
 refine bi (a:=some dx) (a5 (bi (a5 ?_)))
 refine wpAny_nsSet1 (s:={ s with toks:=s.toks+1 }) hn λh' hn2 hs2=>?_
 obtain⟨oD,esD,Zn,RZ,Sb,Sd⟩:=hn2.count (PySem.Within.cons name v hw)
 refine a5 (wpAny_lookBehind RZ (by rw[Sb];exact pastItsLine_dict (bn Sd (by rw[d_];omega))) ?_)
 exact bi (h _ hn2 hs2)
theorem DL{vs:Array a9}{sl:Array (Option a9)}{Q:Unit->bc->Prop}(X:K.In s.heap)(S:SD K C)(ht:PySem.W.takerIn K C name=some none)
  (he:s.heap.get? x=some ⟨.ref C,none,.fields vs,sl⟩)
  (h:∀h',h'.Ns1 s.heap.objs.size (λy=>if y=name then some v else none)->l_ s.heap.objs.size ((s.heap.push PySem.W.emptyDict).update x λo=>{ o with dict:=some s.heap.objs.size }) h'->Q () { s with heap:=h',toks:=s.toks+2 }):cf (model prog w) A (setAttr (.ref x) name v) Q E s:=by
 have J:PySem.W.InstAt s.heap x ⟨.ref C,none,.fields vs,sl⟩ C none:=⟨he,rfl,rfl,trivial⟩
 refine PySem.W.set_plain X J S.sa (FE (s:={ s with toks:=s.toks+1 }) X J S ht λb=>?_)
 obtain⟨cd,hc,hd'⟩:=PySem.W.any_some S.hd
 refine a5 (bi (a5 (a5 (wpAny_loadPart he (a5 (PySem.W.Looks.here (s:={ s with toks:=s.toks+1 }) (PySem.W.looks_clsIn X hc) ?_))))))
 rw[hd']
 rw[if_neg (by decide)]
 have hxs:x≠s.heap.objs.size:=dy (ca he)
 have RN:(s.heap.push PySem.W.emptyDict).get? x=some ⟨.ref C,none,.fields vs,sl⟩:=a8 _ he
 show cf (model prog w) A.in1 (alloc PySem.W.emptyDict >>= λd=>update x (λo=>{ o with dict:=some d }) >>= λ_=>dictMade (.ref C) x d) _ _ _
 refine a5 (wpAny_alloc (a5 (wpAny_update RN ?_)))
 refine bi ?_
 have hgd:((s.heap.push PySem.W.emptyDict).update x λo=>{ o with dict:=some s.heap.objs.size }).get? s.heap.objs.size=some PySem.W.emptyDict :=
  (Heap.get?_update_ne _ _ _ _ hxs.symm).trans (bp _ rfl)
 have hnd:((s.heap.push PySem.W.emptyDict).update x λo=>{ o with dict:=some s.heap.objs.size }).Ns s.heap.objs.size (λ_=>none) :=
  ⟨_,#[],_,hgd,rfl,λe he=>absurd he (by simp),λ_=>rfl⟩
 show cf _ _ (Builtin.ObjectAttr.storeInDict s.heap.objs.size (.str name s.toks) name v) _ _ _
 refine a5 (bi (a5 ?_))
 refine wpAny_nsSet1 (s:={ s with heap:=(s.heap.push PySem.W.emptyDict).update x λo=>{ o with dict:=some s.heap.objs.size },toks:=s.toks+1 }) (Heap.Ns1.of_empty hnd) λh' hn2 hs2=>?_
 obtain⟨oD,esD,Zn,RZ,Sb,Sd⟩:=hn2.count (PySem.Within.cons name v PySem.Within.nil)
 refine a5 (wpAny_lookBehind RZ (by rw[Sb];exact pastItsLine_dict (bn Sd (by rw[d_,List.length_nil,sizeLine_eq];omega))) ?_)
 exact bi (h _ hn2 hs2)
end
end
section
theorem BZ{fs:List (bv×V)}{mA:bv->Option a9}{f:bv}{y:V}{u:a9}(r:∀g,ow (fs.lookup g) (mA g))(ry:RelV y u):∀g,ow ((aC f y fs).lookup g) (if g=f then some u else mA g):=λg=>by
 rw[av]
 by_cases q:g=f
 ·rw[if_pos q,if_pos q];exact ry
 ·rw[if_neg q,if_neg q];exact r g
theorem vV{fs:List (bv×V)}{mA:bv->Option a9}{f:bv}{y:V}{u:a9}(wi:PySem.Within mA (fs.map (·.1))):PySem.Within (λg=>if g=f then some u else mA g) ((aC f y fs).map (·.1)):=λg hg=>by
 by_cases q:g=f
 ·rw[q];exact(oN f y fs).1
 ·refine(oN f y fs).2 g (wi g λz=>hg ?_)
  show(if g=f then some u else mA g)=none
  rw[if_neg q];exact z
noncomputable def QL(K:PySem.W.Frag)(ta tv:TE)(f:bv):TS:=λD σ H=>tv σ H λy H1=>ta σ H1 λx H2=>∃e C,x= .ref e/\SD K C/\bR K C f ∧
 ((H2 e=some (newX e C none)/\∀dx,H2 dx=none->D.nx σ (upd (upd (upd H2 dx (Dy dx [])) e (newX e C (some dx))) dx (Dy dx (aC f y [])))) ∨
  ∃dx fs,H2 e=some (newX e C (some dx))/\H2 dx=some (Dy dx fs)/\fs.length<1000/\D.nx σ (upd H2 dx (Dy dx (aC f y fs))))
theorem Fw{X:Cx}{o value:Expr}{f:bv}{pos pos':re}{ta tv:TE}(ha:PE X o ta)(hv:PE X value tv)(hs:swapsWith value (some (.Attribute o f pos')) pos.line X.env=pure false):PS X (.Assign [.Attribute o f pos'] value pos) (QL X.K ta tv f):=by
 intro pins s σ H D I h
 refine plainObj_wpAny_Assign_Attribute (gg (hv pins s σ H _ I h) λu s1 ⟨y,H1,I1,ry,q⟩=>gg (ha pins s1 σ H1 _ I1 q) λov s2 ⟨x,H2,I2,rx,e,C,ex,S,n,hk⟩=>?_) hs
 subst ex
 obtain rfl:ov=Value.ref e:=rx
 rcases hk with⟨hx,q2⟩|⟨dx,fs,hx,hd,hl,q2⟩
 ·obtain⟨⟨vs,sl,he,h1⟩,_,_⟩:=(show bY X.prog X.w H2 s2.heap e (newX e C none) from I2.hok e _ hx)
  refine DL I2.rD S n.HY he λh' hn' sb=>?_
  have ne:e≠s2.heap.objs.size:=dy (ca he)
  have e1:(s2.heap.push PySem.W.emptyDict).get? s2.heap.objs.size=some PySem.W.emptyDict:=bp _ rfl
  have n1:(s2.heap.push PySem.W.emptyDict).Ns1 s2.heap.objs.size (λ_=>none):=Heap.Ns1.of_empty ⟨_,#[],_,e1,rfl,(λe he=>absurd he (by simp)),λ_=>rfl⟩
  have he1:(s2.heap.push PySem.W.emptyDict).get? e=some ⟨.ref C,none,.fields vs,sl⟩:=a8 _ he
  have YX:=f_ (λo=>{ o with dict:=some s2.heap.objs.size }) he1 rfl
  have J1:=I2.laid (a:=s2.heap.objs.size) (o:=Dy s2.heap.objs.size []) (h':=s2.heap.push PySem.W.emptyDict) (t':=s2.toks) (λb u q=>a8 _ q) (ba _) (Dw n1 (λ_=>True.intro) (λy hy=>absurd rfl hy))
  have J2:=J1.write (x:=e) (e:=e) (o:=newX e C (some s2.heap.objs.size)) (t':=s2.toks) (by rw[aq ne,hx];exact True.intro) (.inl rfl) (λb u hb q=>(fw _ _ (Ne.symm hb)).trans q) ⟨_,YX⟩ (Ar YX h1)
  have J3:=J2.write (x:=s2.heap.objs.size) (e:=s2.heap.objs.size) (o:=Dy s2.heap.objs.size (aC f y [])) (h':=h') (t':=s2.toks+2) (by rw[aq (Ne.symm ne),ah];exact True.intro) (.inl rfl) (λb u hb q=>(sb.2 b hb).trans q) (let ⟨o,_,_,e,_⟩:=hn';⟨o,e⟩)
   (Dw hn' (BZ (mA:=λ_=>none) (λ_=>True.intro) ry) (vV (mA:=λ_=>none) λy hy=>absurd rfl hy)) (ht:=by show s2.toks<=s2.toks+2;omega)
  exact⟨σ,_,J3,q2 _ (I2.hok.fresh (ba _))⟩
 ·obtain⟨⟨vs,sl,he,h1⟩,_,_⟩:=(show bY X.prog X.w H2 s2.heap e (newX e C (some dx)) from I2.hok e _ hx)
  obtain⟨⟨mA,nA,rA,wA⟩,_,_⟩:=(show bY X.prog X.w H2 s2.heap dx (Dy dx fs) from I2.hok dx _ hd)
  refine DK I2.rD S n.HY he nA wA (by rw[a_,sizeLine_eq];omega) λh' hn' sb=>?_
  have J3:=I2.write (x:=dx) (e:=dx) (o:=Dy dx (aC f y fs)) (h':=h') (t':=s2.toks+2) (by rw[hd];exact True.intro) (.inl rfl) (λb u hb q=>(sb.2 b hb).trans q) (let ⟨o,_,_,e,_⟩:=hn';⟨o,e⟩) (Dw hn' (BZ rA ry) (vV wA))
  exact⟨σ,_,J3,q2⟩
structure XQ(K:PySem.W.Frag)(C f:a6):Prop where
 cls:F9 K C f
 fn:PySem.W.isFn K (.ref f)=true
 kp:PySem.W.keepIn K (.ref C)=true
noncomputable def K1(C:a6)(sp:Sp)(E:St->XK)(t:TA):TS:=λ_ σ H=>t σ H λvs H1=>vs.length<=b_/\∀e,H1 e=none →
 sp (.ref e::vs) (upd H1 e (newX e C none)) (λv H2=>v= .jy/\∃od,H2 e=some (newX e C od)/\E σ (.ref C) od (del H2 e)) (E σ)
theorem Gr{X:Cx}{E:St->XK}{C f:a6}{x:bv}{np cpos pos:re}{k:Nat}{fd:db}{ps:List bv}{sp:Sp}{e:Expr}{es:List Expr}{t:TA}(L:Lets X E)(M:XQ X.K C f)
  (F:aI X.prog X.w X.K X.mg X.base (vR X.prog X.w) k f fd ps sp) (hr:jT (k+1) X.A) (hb:Binds X.K fd ps []) (hc:X.calm=true)
  (hg:Gl X x) (hm:X.mg x=some (.ref C)) (ha:PA X (e::es) t) (hdb:(x==("__debug__" :bv))=false:=by decide) (he:eh (e::es) X.env=(false,eval e X.env)::eh es X.env:=by rfl)
  (hpl:(backTo cpos (eh es X.env)).any (·.1)=false:=by rfl):PS X (.Raise (some (.Call (.Name x np) (e::es) [] cpos)) none pos) (K1 C sp E t):=by
 intro pins s σ H D I h
 obtain⟨d,hC,hN,hni,T⟩:=M.cls.obj X.base I.ok.mod.OA
 rw[arm_exec_Raise]
 have FB:=PySem.F.excBase_ValueError
 simp only[evalOpt,Option.map]
 refine a5 (sm (DX (C:=C) (nm:=d.nm) (q:=d.q) (N:=d.N) (bs:=d.bs) (bm:=d.bm) (hdct:=d.hdct) (sn:=d.sn) (sub:=d.sub) (ab:=d.ab) (col:=d.col) (dd:=d.dd) (k0:=d.k0) (k1:=d.k1) (k2:=d.k2) (k3:=d.k3) (k5:=d.k5) (newId:= "ValueError.__new__") (T.hasType FB.hasBase) (I.ok.hd hc) ?_))
 refine a5 (gg (Q:=λv s₁=>∃e od vs sl,v= .ref e/\s₁.heap.get? C=some (d.obj C "ValueError.__new__")/\s₁.heap.get? e=some ⟨.ref C,od,.fields vs,sl⟩/\vs[1]? =some .none/\X.xe (.ref e) s₁) ?_ λv s2 h2=>a5 (sm (bi h2)))
 refine mI (qP I hg hm ?_ hdb)
 refine PySem.W.callWith_K (h₀:=X.base) I.ok.mod.OA M.kp (gg (ha cpos pins s σ H _ I h) λus s1 ⟨vs,H1,I1,r,hl,q1⟩=>⟨I1.rD,?_⟩) he hpl
 have hfo:∃o,s1.heap.get? f=some o/\o.cls= .type "function" :=by
  obtain⟨o,ho,hc⟩:=gN.mp (beq_iff_eq.mp M.fn)
  exact⟨o,I1.rD _ _ ho,hc⟩
 obtain⟨oI,hfo,hfc⟩:=hfo
 have I1':=I1
 obtain⟨hh,gs,dr,tk,os⟩:=s1
 refine G8 (N:=d.N) (mN:=d.mN) FB FB.hasB FB (T.keeps I1.bk) (I1.bk _ _ hC) (hN.keeps I1.bk) hni hfo hfc (λh' ea made=>?_) (by show us.length<=b_;rw[←r.length];exact hl)
 obtain⟨t',ht,_,_⟩:=made.there
 have xo:=I1.S8 made.new (I1.hok.none_of made.new)
 have J0:Inv X pins σ H1 ⟨h',gs,dr,tk,os⟩:=I1.kept (t':=tk) made.keeps
 have J1:Inv X pins σ (upd H1 ea (newX ea C none)) ⟨h',gs,dr,tk,os⟩:=J0.NO xo (Ar ht ⟨rfl,rfl,by simp⟩)
 have hq:=q1 ea xo.1
 have r2:Vals (V.ref ea::vs) (Value.ref ea::us):=.cons rfl r
 have hlen:(Value.ref ea::us).length=ps.length:=by rw[←r2.length];exact F.len _ _ _ _ hq
 refine wq (rk (F.run _ X.stack _ _ ⟨Value.ref ea::us,[]⟩ (Value.ref ea::us) _ _ (E σ) (hr.make C us []) (J1.O6.make C us []) (by have z:=hb _ (Value.ref ea::us) J1.rD (by rw[eP];exact hlen);rw[eP]at z;exact z) r2 hq) λrr s' hq'=>?_)
 cases rr with
 |error e=>exact L.pass J1 hq'
 |ok fl =>
  cases fl with
  |ret u =>
   obtain⟨v,H',I3,rv,ev,od,hx,qE⟩:=J1.after hq'
   subst ev
   obtain⟨⟨vs',HA,he',uv⟩,_,_⟩:=(show bY X.prog X.w H' s'.heap ea (newX ea C od) from I3.hok ea _ hx)
   refine⟨rv,ea,od,vs',HA,rfl,I3.bk _ _ hC,he',uv.1,?_⟩
   exact L pins σ (del H' ea) s' ea (.ref C) od (I3.drop hx) ⟨⟨CQ,xo.2⟩,vs',HA,he',λ_=>uv.2.1,.inl uv.1⟩ qE
  |next=>exact km hq'
  |brk=>exact km hq'
  |cont=>exact km hq'
end
section
section
variable{X:Cx}{a b c:Expr}{ta tb tc:TE}{pos:re}{rest:List Expr}
end
end
section
theorem xN{X:Cx}{elt tg iter test:Expr}{tt:TT}{scope:lL}{pos pos':re}{wi:TI}{g:TG}{te:TE}{N:List bv}{nV:St->St}(hc:X.calm=true)(hS:X.Ok->∃cl,cQ X scope cl N nV)(hi:PI X tg iter wi)
  (hg:∀cl C s H ex pn E,PG (gA X scope cl C N s H ex pn E) tg g) (he:∀cl C s H ex pn E,PE (gA X scope cl C N s H ex pn E) elt te) (ht:∀cl C s H ex pn E,PT (gA X scope cl C N s H ex pn E) test tt) (hs:∀x,foldedSetIterable iter X.env x=pure x)
  {pins:List (a6×lv)} {s:bc} {σ:St} {H:Hp} {Q:VK} {use:Option (a9->Sem Unit)} {QQ:a9->bc->Prop} (I:Inv X pins σ H s) (h:tU wi g tt te nV σ H Q)
  (JC:∀(l C:a6) (mC:bv->Option a9) (H':Hp) (s':bc),Inv X pins σ H' s'->qz X pins H' C->s'.heap.Ns C mC->Q (.ref l) H'->compPost (model X.prog X.w) X.A X.xe use QQ (.ref l) C (.ok .next) s') :
  cf (model X.prog X.w) X.A (comprehension (.ListComp elt [⟨tg,iter,[test],0⟩] scope pos) scope X.env pos' (newList []) false (eval iter X.env) use) QQ X.xe s :=
 xM hc hS hi hg he (λcl C s H ex pn E pins s' σ H' Q I q=>wpAny_tests_one (ht cl C s H ex pn E pins s' σ H' Q I q)) hs I h JC
theorem B8{X:Cx}{elt tg iter test:Expr}{tt:TT}{scope:lL}{pos:re}{wi:TI}{g:TG}{te:TE}{N:List bv}{nV:St->St}(hc:X.calm=true)(hS:X.Ok->∃cl,cQ X scope cl N nV)(hi:PI X tg iter wi)
  (hg:∀cl C s H ex pn E,PG (gA X scope cl C N s H ex pn E) tg g) (he:∀cl C s H ex pn E,PE (gA X scope cl C N s H ex pn E) elt te) (ht:∀cl C s H ex pn E,PT (gA X scope cl C N s H ex pn E) test tt)
  (hs:∀x,foldedSetIterable iter X.env x=pure x:=by intro _;rfl):PE X (.ListComp elt [⟨tg,iter,[test],0⟩] scope pos) (tU wi g tt te nV):=by
 intro pins s σ H Q I h
 rw[eval_ListComp]
 refine xN (use:=none) (QQ:=EP X pins σ Q) hc hS hi hg he ht hs I h ?_
 intro l C mC H' s' I' fp hn q
 exact⟨mC,hn,λh' sb=>⟨.ref l,H',I'.moved (ch:=[C]) (t':=s'.toks) (λb o hb e=>(sb.2 b (by simpa using hb)).trans e) (λb hb=>by rw[c_.mp hb];exact fp),rfl,q⟩⟩
end
end L2
namespace GP
open PySem L2 pQ
theorem zh{n:Nat}(h:n<=100000):((n:Nat):Int).natAbs.log2<1920:=by
 rw[Int.natAbs_natCast]
 by_cases z:n=0
 ·subst z;decide
 ·rw[Nat.log2_lt z]
  exact cr h (cq (show 100000<2 ^ 20 by decide) (ph (by decide) (by decide)))
theorem AF{a b:bv}{m n:Nat}(h1:a.length<=m)(h2:b.length<=n):(a++b).length<=m+n:=by rw[strLen_append];omega
theorem qm{i j:Int}:decide (V.int i=V.int j)=decide (i=j):=by
 by_cases h:i=j
 ·subst h;simp
 ·rw[decide_eq_false h,decide_eq_false (λz=>h (V.int.inj z))]
theorem ite_str{i j:bv}{A B:Prop}(h1:i=j->A)(h2:¬i=j->B):if(decide (V.str i=V.str j))=true then A else B:=by
 by_cases h:i=j
 ·rw[if_pos (by rw[h];simp)];exact h1 h
 ·rw[if_neg (by rw[decide_eq_false (λz=>h (V.str.inj z))];exact bt)];exact h2 h
noncomputable def BR(C:a6):Sp:=λvs H Q _=>∃(e:a6) (i j:Nat),vs=[.ref e,.int i,.int j]/\H e=some (newX e C none)/\i<=100000/\j<=100000 ∧
 ∀dx H',(∀b u,H b=some u->b≠e->H' b=some u)->H dx=none->H' e=some (newX e C (some dx))->H' dx=some (Dy dx (aC "place" (.int j) (aC "row" (.int i) [])))->Q .jy H'
noncomputable def FL:List V:=[.str (bd "whole"),.str (bd "within"),.str (bd "over"),.str (bd "stretch")]
noncomputable def ko(m:bv):Bool:=LF (.str m) FL
noncomputable def pV(C:a6):Sp:=λvs H Q E=>∃m:bv,vs=[.str m]/\(ko m=true->Q .jy H)/\(ko m=false->(reprText m).length<=20/\E (.ref C) none H)
noncomputable def vo(m:bv)(q:cG):Bool :=
 if m=bd "whole" then decide (q.1=0)&&decide (q.2=0)else if m=bd "within" then decide (q.1=0)else if m=bd "over" then decide (q.2=0)else true
noncomputable def Au(m f s:bv)(q:cG):Bool :=
 if m=bd "whole" then decide (q.1=(f.cps.size:Int))&&decide (q.2=(s.cps.size:Int))else if m=bd "stretch" then true else decide (q.1=(f.cps.size:Int))
noncomputable def Ik(K:PySem.W.Frag):Sp:=λvs H Q _=>∃(m:bv) (a:a6) (q:cG),vs=[.str m,.ref a]/\kh K H a q/\Q (.bl (vo m q)) H
noncomputable def Ij(K:PySem.W.Frag):Sp:=λvs H Q _=>∃(m f s:bv) (a:a6) (q:cG),vs=[.str m,.str f,.str s,.ref a]/\kh K H a q/\f.cps.size<=1000/\s.cps.size<=1000/\Q (.bl (Au m f s q)) H
theorem yu {m:bv}(h:ko m=true)(h1:¬m=bd "whole")(h2:¬m=bd "within")(h3:¬m=bd "over"):m=bd "stretch" :=by
 unfold ko FL LF at h
 simp only[ul,List.any_nil,Bool.or_false,Bool.or_eq_true,LW]at h
 rcases h with h|h|h|h
 ·exact absurd (show bd "whole" =m by simpa using h).symm h1
 ·exact absurd (show bd "within" =m by simpa using h).symm h2
 ·exact absurd (show bd "over" =m by simpa using h).symm h3
 ·exact(show bd "stretch" =m by simpa using h).symm
end GP
namespace L2
open PySem PySem.Spec PyProof.Rows
end L2
namespace GP
open PySem L2 pQ
section
noncomputable def Dr(sg a b:bv)(i j:Nat):Prop :=
 (i=0/\(∃c,a.cps[j]? =some c/\c∉sg.cps.toList)/\∀k c,k<j->a.cps[k]? =some c->c∈sg.cps.toList) ∨
 (i=1/\Of sg a/\(∃c,b.cps[j]? =some c/\c∉sg.cps.toList)/\∀k c,k<j->b.cps[k]? =some c->c∈sg.cps.toList)
theorem Dr.no{sg a b:bv}{i j:Nat}(h:Dr sg a b i j):¬(Of sg a/\Of sg b):=λo=>by
 rcases h with⟨_,⟨c,hc,hn⟩,_⟩|⟨_,_,⟨c,hc,hn⟩,_⟩
 ·exact hn (o.1 c (qU hc))
 ·exact hn (o.2 c (qU hc))
noncomputable def JL(i j:Nat):List (bv×V):=aC "place" (.int j) (aC "row" (.int i) [])
noncomputable def BU(C:a6):Sp:=λvs H Q E=>∃(sg:bv) (l:a6) (a b:bv),vs=[.str sg,.ref l]/\H l=some (.lst [.str a,.str b])/\a.cps.size<=1000/\b.cps.size<=1000/\(Of sg a->Of sg b->∀H',ai H H'->Q .jy H') ∧
 (∀i j,Dr sg a b i j->∀dx H',ai H H'->H' dx=some (Dy dx (JL i j))->E (.ref C) (some dx) H')
noncomputable def Fd(K:PySem.W.Frag)(C CE:a6):Sp:=λvs H Q E=>∃(x l:a6) (sg:bv) (rows:List (List cG)) (fo fm:cG) (a b:bv),vs=[.ref x,.ref l]/\nh K C H x sg rows fo fm/\H l=some (.lst [.str a,.str b])/\a.cps.size<=1000/\b.cps.size<=1000/\(Of sg a->Of sg b->∀H',ai H H'->Q .jy H') ∧
 (∀i j,Dr sg a b i j->∀dx H',ai H H'->H' dx=some (Dy dx (JL i j))->E (.ref CE) (some dx) H')
theorem sS{K:PySem.W.Frag}:PySem.W.kitOne K (.type "str") (.type "list")=some false:=by kernel_rfl
theorem rB{K:PySem.W.Frag}:PySem.W.kitOne K (.type "str") (.type "tuple")=some false:=by kernel_rfl
end
section
end
end GP
namespace L2
open PySem PySem.Spec PyProof.Rows
section
section
variable{X:Cx}{o:Expr}{to:TE}{g:bv}{c j:Nat}{u:wT}{apos cpos p1 p2:re}
end
end
section
noncomputable abbrev sg(c:Nat):V:=.str ⟨#[c]⟩
theorem vZ:∀{cs:List Nat} {us:List a9},Vals (cs.map sg) us->∃l:List (bv×wT),us=strValues l/\l.map (·.1)=cs.map λc=>(⟨#[c]⟩:bv)
 |[],_,.nil=>⟨[],rfl,rfl⟩
 |c::cs,_,.cons r rs=>by
  obtain⟨t,e⟩:=r
  obtain⟨l,e1,e2⟩:=vZ rs
  exact⟨(⟨#[c]⟩,t)::l,by rw[e,e1];rfl,by rw[eJ,e2];rfl⟩
theorem zp:∀(l:List Nat) (n:Nat),(l.map λc=>(⟨#[c]⟩:bv)).foldl (λa (x:bv)=>a+x.length+(⟨#[]⟩:bv).length) n=n+l.length
 |[],_=>rfl
 |c::l,n=>by
  rw[eJ,vu,zp l]
  show n+1+0+l.length=n+(l.length+1)
  omega
theorem IZ{X:Cx}{K':PySem.W.Frag}(hK:X.K=K'):XS X "str.join" (λx xs H Q=>∃(l:a6) (cs:List Nat),x= .str ⟨#[]⟩/\xs=[.ref l]/\cA K' H l (cs.map sg)/\cs.length<=100000/\Q (.str ⟨cs.toArray⟩) H):=by
 subst hK
 intro pins s σ H x xs v us Q I rx rs h
 obtain⟨l,cs,rfl,rfl,hl,hn,q⟩:=h
 obtain⟨t,rfl⟩:=rx
 cases rs with
 |cons r rr =>
  cases rr
  cases r
  obtain⟨its,r1,t1,_⟩:=I.list hl
  obtain⟨ls,e1,e2⟩:=vZ r1
  refine TK.cH (ba s.toks) (SC.join (l:=ls) (by rw[←e1];exact t1.isList) e2 ?_ λt' k hk=>⟨.str ⟨cs.toArray⟩,H,I.tok k hk,⟨t',?_⟩,q⟩)
  ·unfold JoinOk
   rw[List.foldl_toArray,zp]
   unfold Builtin.Str.tooLong
   rw[Bool.not_eq_true',decide_eq_false_iff_not,Nat.zero_add]
   exact Nat.not_lt.mpr (bn hn (by decide))
  ·have e:Txt.join ⟨#[]⟩ (cs.map λc=>(⟨#[c]⟩:bv))=⟨cs.toArray⟩:=by
    show Builtin.Str.glued _ _=_
    rw[StrLaws.glued_eq_join,join_ones]
   rw[e]
theorem FG{X:Cx}:XS X "str.join" (λx xs H Q=>∃(l:a6) (cs:List Nat),x= .str ⟨#[]⟩/\xs=[.ref l]/\cA X.K H l (cs.map sg)/\cs.length<=100000/\Q (.str ⟨cs.toArray⟩) H):=IZ rfl
end
section
noncomputable def nv(sp:Sp):Sp:=λvs H Q _=>sp vs H Q λ_ _ _=>False
theorem aI.nv{P:bo}{w:df}{K:PySem.W.Frag}{mg:bv->Option a9}{base:dC}{k:Nat}{f:a6}{fd:db}{ps:List bv}{sp:Sp}(F:aI P w K mg base (vR P w) k f fd ps sp):aI P w K mg base cB k f fd ps (nv sp) :=
 ⟨λvs H Q E q=>F.len vs H Q _ q,λA outer s H args us vs Q E hr he hb hv hs=>rk (F.run A outer s H args us vs Q _ hr he hb hv hs) λr s' h=>by
  cases r with
  |error e=>obtain⟨ea,cls,od,H',h⟩:=h;exact(h.2.2.2.2.2.2.2:False).elim
  |ok fl=>cases fl<;>exact h⟩
theorem AI{J:It}{g:TG}{te:TE}{σ':St}{H1:Hp}{D:Hp->Prop}{l:a6}(n:Nat)(f:Nat->V)(hl:H1 l=none)(hn:n<b_)
  (go:∀i H,ai H1 H->i<n->J.go i H) (st:∀H,ai H1 H->J.stop n H)
  (el:∀i x H H3 (R:VK),ai H1 H->i<n->J.Bs i H x H3->(∀H5,ai H H5->R (f i) H5)->g x σ' H3 λyN H4=>Kp σ' yN/\te yN H4 R)
  (fin:∀H',ai H1 H'->H' l=some (.lst ((dk n).map f))->D H') :
  ∃W:Nat->Nat->List V->Hp->Prop,(∃m,W 0 m [] (upd H1 l (.lst [])))/\∀i m ys H2,W i m ys H2->(J.stop i H2/\D H2) ∨
   (J.go i H2/\∀x H3,J.Bs i H2 x H3->g x σ' H3 λyN H4=>Kp σ' yN/\te yN H4 λy H5=>H5 l=some (.lst ys)/\ys.length<b_/\∃m',m'<m/\W (i+1) m' (ys++[y]) (upd H5 l (.lst (ys++[y])))):=by
 refine⟨λi m ys H2=>m=n-i/\i<=n/\ys=(dk i).map f/\ai H1 H2/\H2 l=some (.lst ys),⟨n,rfl,em _,rfl,GP.ai.upd hl,ah⟩,?_⟩
 rintro i m ys H2 ⟨rfl,hi,rfl,s2,h2⟩
 by_cases hlt:i<n
 ·refine .inr ⟨go i H2 s2 hlt,λx H3 y=>el i x H2 H3 _ s2 hlt y λH5 s5=>?_⟩
  refine⟨s5 _ _ h2,by rw[a_,io];omega,n-(i+1),by omega,rfl,hlt,?_,GP.ai.at (s2.trans s5) hl,ah⟩
  rw[mn,du];rfl
 ·have e:i=n:=by omega
  subst e
  exact .inl ⟨st H2 s2,fin H2 s2 h2⟩
theorem AJ{J:It}{g:TG}{tt:TT}{te:TE}{σ':St}{H1:Hp}{D:Hp->Prop}{l:a6}(n:Nat)(b:Nat->Bool)(f:Nat->V)(hl:H1 l=none)(hn:n<b_)
  (go:∀i H,ai H1 H->i<n->J.go i H) (st:∀H,ai H1 H->J.stop n H)
  (el:∀i x H H3 (R:VK) (S:Hp->Prop),ai H1 H->i<n->J.Bs i H x H3->(b i=true->∀H5,ai H H5->R (f i) H5)->(b i=false->∀H5,ai H H5->S H5) →
   g x σ' H3 λyN H4=>Kp σ' yN/\tt yN H4 λb' H5=>if b'=true then te yN H5 R else S H5)
  (fin:∀H',ai H1 H'->H' l=some (.lst (((dk n).filter b).map f))->D H') :
  ∃W:Nat->Nat->List V->Hp->Prop,(∃m,W 0 m [] (upd H1 l (.lst [])))/\∀i m ys H2,W i m ys H2->(J.stop i H2/\D H2) ∨
   (J.go i H2/\∀x H3,J.Bs i H2 x H3->g x σ' H3 λyN H4=>Kp σ' yN/\tt yN H4 λb H5 =>
    if b=true then te yN H5 (λy H6=>H6 l=some (.lst ys)/\ys.length<b_/\∃m',m'<m/\W (i+1) m' (ys++[y]) (upd H6 l (.lst (ys++[y]))))else ∃m',m'<m/\W (i+1) m' ys H5):=by
 refine⟨λi m ys H2=>m=n-i/\i<=n/\ys=((dk i).filter b).map f/\ai H1 H2/\H2 l=some (.lst ys),⟨n,rfl,em _,rfl,GP.ai.upd hl,ah⟩,?_⟩
 rintro i m ys H2 ⟨rfl,hi,rfl,s2,h2⟩
 by_cases hlt:i<n
 ·refine .inr ⟨go i H2 s2 hlt,λx H3 y=>el i x H2 H3 _ _ s2 hlt y (λhb H5 s5=>?_) λhb H5 s5=>?_⟩
  ·refine⟨s5 _ _ h2,?_,n-(i+1),by omega,rfl,hlt,?_,GP.ai.at (s2.trans s5) hl,ah⟩
   ·rw[a_]
    exact cr (bn (List.length_filter_le _ _) (by rw[io];omega)) hn
   ·rw[mn,vy,du,ip hb];rfl
  ·refine⟨n-(i+1),by omega,rfl,hlt,?_,s2.trans s5,s5 _ _ h2⟩
   rw[mn,vy,iq (by rw[hb];exact bt),List.filter_nil,eP]
 ·have e:i=n:=by omega
  subst e
  exact .inl ⟨st H2 s2,fin H2 s2 h2⟩
theorem B5{X:Cx}{i:Nat}{y:bv}{py spos:re}{elt tg iter test:Expr}{tt:TT}{scope:lL}{pos:re}{wi:TI}{g:TG}{te:TE}{N:List bv}{nV:St->St}(hN:X.N.Nodup)(hi:X.N[i]? =some y)(hx:Loc X.env.scope y)
  (hc:X.calm=true) (hS:X.Ok->∃cl,cQ X scope cl N nV) (hit:PI X tg iter wi)
  (hg:∀cl C s H ex pn E,PG (gA X scope cl C N s H ex pn E) tg g) (he:∀cl C s H ex pn E,PE (gA X scope cl C N s H ex pn E) elt te) (ht:∀cl C s H ex pn E,PT (gA X scope cl C N s H ex pn E) test tt)
  (hsw:swapsWith (.ListComp elt [⟨tg,iter,[test],0⟩] scope pos) (some (.Name y py)) spos.line X.env=pure true:=by rfl)
  (hf:X.fn y=true\/X.env.scope.names.lookup y=some .local:=by first|exact .inl rfl|exact .inr rfl|assumption)
  (hs:∀x,foldedSetIterable iter X.env x=pure x:=by intro _;rfl):PS X (.Assign [.Name y py] (.ListComp elt [⟨tg,iter,[test],0⟩] scope pos) spos) (K2 (tU wi g tt te nV) (FW i)):=by
 intro pins s σ H D I h
 rw[exec_Assign_Name_used _ _ _ _ hsw]
 refine a5 (sm (a5 ?_))
 show cf _ X.A (do let _ ←comprehension (.ListComp elt [⟨tg,iter,[test],0⟩] scope pos) scope X.env _ (newList []) false (eval iter X.env) (some (assign (.Name y py) X.env))) _ _ s
 refine a5 (gd (xN (use:=some (assign (.Name y py) X.env)) (QQ:=λ_ s'=>SP X pins D .next s') hc hS hit hg he ht hs I h ?_) (λ_ s' hq=>bi (bi hq)) λ_ _ e=>e)
 intro l C mC H' s' I' fp hn q
 show cf _ X.A (assign (.Name y py) X.env (.ref l)) _ _ _
 refine wpAny_assign_Name (tW I' hN hi hx (v:=.ref l) rfl (λs2 I2 sb=>?_) hf)
 obtain⟨a,sb,ha⟩:=sb
 have nC:C≠a:=by
  obtain⟨_,f1,_,_,f4,_⟩:=fp
  rcases ha with z|z
  ·rw[z];exact f1
  ·exact λe=>f4 y a z e.symm
 refine⟨mC,hn.sameBut sb nC,λh' VR=>?_⟩
 refine⟨_,H',I2.moved (ch:=[C]) (t':=s2.toks) (λb o hb e=>(VR.2 b (by simpa using hb)).trans e) (λb hb=>?_),q⟩
 rw[c_.mp hb]
 exact fp
end
section
noncomputable def SX(K:PySem.W.Frag)(a:a6)(n:Nat):It :=
 ⟨λi H=>∃xs x,cA K H a xs/\i<n/\xs[n-1-i]? =some x,λi H x H'=>H'=H/\∀xs,cA K H a xs->xs[n-1-i]? =some x,λi _=>n<=i⟩
theorem HX{P:bo}{w:df}{K:PySem.W.Frag}{tg:Expr}(a it:a6)(n:Nat):Turn P w K tg (SX K a n) [it] it (λi h=>i<=n/\h.IsRevIter it a ((n:Int)-1-(i:Int))) where
 mem:=by simp
 obj:=λi h st b hb=>by
  have e:b=it:=by simpa using hb
  subst e
  obtain⟨o,e,c,d⟩:=st.2
  exact⟨o,e,λv z=>by rw[d]at z;cases z⟩
 keep:=λi h h' st k=>⟨st.1,st.2.at λo e=>k it (by simp) o e⟩
 item:=by
  intro X hP hw hK hc i pins s σ H E I hf st hg
  subst hP hw hK
  obtain⟨xs,x,hq,hi,hx⟩:=hg
  obtain⟨its,rv,p,hz⟩:=I.list hq
  obtain⟨u,hu,ru⟩:=rv.get hx
  obtain⟨f0,f1,f2,f3,f4,f5⟩:=hf it (by simp)
  have st':s.heap.IsRevIter it a ((n-1-i:Nat):Int):=by
   rw[show((n-1-i:Nat):Int)=(n:Int)-1-(i:Int) by omega]
   exact st.2
  refine wpAny_pyNext_rev_item st' p.isList (x:=u) (by simpa using hu) λh' st' sb=>?_
  have I1:Inv X pins σ H { s with heap:=h' }:=I.turned (t':=s.toks) (λb o hb e=>(sb.2 b hb).trans e) f0 f1 f3 f4 f5
  obtain⟨o,e,c,d⟩:=id st'
  refine⟨u,rfl,CB (s:={ s with heap:=h' }) e c d (by decide) ⟨x,H,I1,ru,⟨rfl,λys hy=>by rw[I.xw hy hq];exact hx⟩,⟨by omega,?_⟩,λb hb=>(hf b hb).1⟩⟩
  rw[show(n:Int)-1-((i+1:Nat):Int)=((n-1-i:Nat):Int)-1 by omega]
  exact st'
 done:=by
  intro X hP hw hK hc i pins s σ H E I hf st hg
  subst hP hw hK
  obtain⟨f0,f1,f2,f3,f4,f5⟩:=hf it (by simp)
  have hg':n<=i:=hg
  have st':s.heap.IsRevIter it a (-1):=by
   rw[show(-1:Int)=(n:Int)-1-(i:Int) by have:=st.1;omega]
   exact st.2
  exact wpAny_pyNext_rev_end (I.ok.hd hc) st' λh' eb=>⟨rfl,I.turned (t':=s.toks) (λb o hb e=>eb b o hb e) f0 f1 f3 f4 f5⟩
 self:=λ_ _ _ _ _ st h=>wpAny_pyIter_revIter st.2 h
noncomputable def Wy(K:PySem.W.Frag)(ta:TA):TI:=λσ H R=>ta σ H λvs H1=>∃a xs,vs=[.ref a]/\cA K H1 a xs/\R (SX K a xs.length) H1
theorem boot_reversed:bootBuiltins "reversed" =some (.type "reversed"):=by decide +kernel
theorem IE {X:Cx}{tg a:Expr}{ta:TA}{p pos:re}(hg:Gl X "reversed")(hm:X.mg "reversed" =none)(ha:PA X [a] ta)(hs:eh [a] X.env=[(false,eval a X.env)]:=by rfl):PI X tg (.Call (.Name "reversed" p) [a] [] pos) (Wy X.K ta):=by
 intro pins s σ H R I h
 refine Call_ (qk I hg hm boot_reversed (k_ (gg (ha pos pins s σ H _ I h) λus s1 ⟨vs,H1,I1,r1,q1⟩=>?_) hs rfl))
 obtain⟨l,xs,rfl,hq,q⟩:=q1
 obtain⟨u,rfl,ru⟩:=vals1 r1
 cases ru
 obtain⟨its,rv,pl,hz⟩:=I1.list hq
 have hl:s1.heap.IsList l its.toArray:=pl.isList
 have hlen:=rv.length
 refine call_reversed_list hl ?_
 have e0:({ s1 with heap:=s1.heap.push (revObj l ((its.toArray.size:Int)-1)) }:bc).heap.IsRevIter s1.heap.objs.size l ((xs.length:Int)-1-((0:Nat):Int)) :=
  ⟨_,bp _ rfl,rfl,by rw[show(xs.length:Int)-1-((0:Nat):Int)=(its.toArray.size:Int)-1 by rw[dq];omega];rfl⟩
 refine wpAny_pyIter_revIter e0 ?_
 refine⟨s1.heap.objs.size,[s1.heap.objs.size],_,_,H1,rfl,I1.kept (t':=s1.toks) λb o e=>a8 _ e,HX l _ xs.length,⟨em _,e0⟩,λb hb=>?_,q⟩
 have e:b=s1.heap.objs.size:=by simpa using hb
 subst e
 exact I1.xF (ba _) (I1.hok.fresh (ba _))
end
section
theorem FZ{K:PySem.W.Frag}{a:a6}{xs:List V}{g:TG}{tb:TS}{D:Ends}{σ:St}{H:Hp}(Pv:Nat->St->Hp->Prop)(h0:Pv 0 σ H)(hl:∀i σ H,i<xs.length->Pv i σ H->cA K H a xs)
  (hs:∀i x σ H,i<xs.length->xs[xs.length-1-i]? =some x->Pv i σ H->g x σ H λσ2 H2=>tb { D with nx:=Pv (i+1),ct:=Pv (i+1),bk:=D.nx } σ2 H2) (hd:∀ σ H,Pv xs.length σ H->D.nx σ H) :
  ∃W:Nat->Nat->St->Hp->Prop,(∃m,W 0 m σ H)/\∀i m σ H,W i m σ H →
   ((SX K a xs.length).stop i H/\D.nx σ H)\/((SX K a xs.length).go i H/\∃N:St->Hp->Prop,(∀ σ' H',N σ' H'->∃m',m'<m/\W (i+1) m' σ' H')/\∀x H',(SX K a xs.length).Bs i H x H'->g x σ H' λσ2 H2=>tb { D with nx:=N,ct:=N,bk:=D.nx } σ2 H2):=by
 refine⟨λi m σ H=>m=xs.length-i/\i<=xs.length/\Pv i σ H,⟨xs.length,by simp,em _,h0⟩,?_⟩
 rintro i m σ H ⟨rfl,hi,p⟩
 by_cases hlt:i<xs.length
 ·have hx:xs[xs.length-1-i]? =some xs[xs.length-1-i]:=a7 (by omega)
  refine .inr ⟨⟨xs,_,hl i σ H hlt p,hlt,hx⟩,Pv (i+1),λσ' H' p'=>⟨xs.length-(i+1),by omega,rfl,hlt,p'⟩,λx H' y=>?_⟩
  obtain⟨e,y⟩:=y
  subst e
  exact hs i x σ _ hlt (y xs (hl i σ _ hlt p)) p
 ·have e:i=xs.length:=by omega
  subst e
  exact .inl ⟨ba _,hd σ H p⟩
end
section
noncomputable abbrev NK:=Int×Int×bv
section
variable{P:bo}{w:df}{A:dL}{E:a9->bc->Prop}{s:bc}
noncomputable def pP(P:bo)(w:df)(h:dC)(k:NK)(a:a6):Prop:=∃o n p t,h.get? a=some o/\o.cls= .type "tuple" /\o.data= .seq #[.ref p,.str k.2.2 t] n/\IsTupleKey (bX P w) h [.inl k.1,.inl k.2.1] p
theorem pP.typeIs{k:NK}{a:a6}(x:pP P w s.heap k a):s.TypeIs (.ref a) "tuple" :=let ⟨o,_,_,_,ho,hc,_⟩:=x;⟨o,ho,hc⟩
theorem pP.inj{h:dC}{a:a6}{x y:NK}(hx:pP P w h x a)(hy:pP P w h y a):x=y:=by
 obtain⟨o,n,p,t,ho,_,hd,hi⟩:=hx
 obtain⟨o',n',p',t',ho',_,hd',hi'⟩:=hy
 obtain rfl:o=o':=dn (ho.symm.trans ho')
 rw[hd]at hd'
 injection hd' with h1 _
 have uv:=congrArg Array.toList h1
 simp only[List.cons.injEq,Value.ref.injEq,Value.str.injEq,and_true]at uv
 obtain⟨rfl,e,_⟩:=uv
 have:=hi.inj hi'
 simp only[List.cons.injEq,Sum.inl.injEq,and_true]at this
 obtain⟨x1,x2,x3⟩:=x
 obtain⟨y1,y2,y3⟩:=y
 simp only at e this
 obtain⟨rfl,rfl⟩:=this
 subst e
 rfl
theorem pP.keeps{h h':dC}{k:NK}{a d:a6}{o:lv}{es ep}(x:pP P w h k a)(ho:h.get? d=some o)(hd:o.data= .dict es ep)(hs:l_ d h h'):pP P w h' k a:=by
 obtain⟨o',n,p,t,ho',hc,hd',hi⟩:=x
 have hne:a≠d:=by
  rintro rfl
  obtain rfl:o'=o:=dn (ho'.symm.trans ho)
  rw[hd]at hd';exact nomatch hd'
 exact⟨o',n,p,t,(hs.2 a hne).trans ho',hc,hd',hi.keeps ho hd hs⟩
noncomputable def Em(P:bo)(w:df)(k:NK):Int:=reduceHash (uk [tupleKeyHash (bX P w) [.inl k.1,.inl k.2.1],(bX P w).hash (.inr k.2.2)])
theorem Gw{k:NK}{a:a6}{Q:Int->bc->Prop}(hu:A.units+1<cLine)(hk:pP P w s.heap k a)(h:Q (Em P w k) { s with toks:=s.toks+5 }):
  cf (model P w) A (pyHash (.ref a)) Q E s:=by
 have hT:=hk.typeIs
 obtain⟨o,n,p,t,ho,_,hd,hi⟩:=hk
 unfold pyHash
 first|unfold pyHashByItsType|skip
 first|refine a5 (wpAny_cRoomFor_or (.inr (Nat.lt_of_succ_lt hu)) ?_)|skip
 refine a5 (vl hT PySem.F.slot_tuple_hash.lookup ?_)
 show cf _ _ (if(some (Value.builtin "tuple.__hash__")==some Value.none)=true then _ else _) Q E s
 rw[if_neg (by rw[beq_builtin_none];exact bt)]
 refine a5 (vl hT PySem.F.slot_tuple_hash.lookup ?_)
 show cf _ _ (callSpecialIfBoundUnlessNone? (.ref a) "__hash__" _ >>= _) Q E s
 refine a5 (wpAny_callSpecialIfBoundUnlessNone?_slot hT PySem.F.slot_tuple_hash (kA PySem.F.slot_tuple_hash hT PySem.F.entry_tuple_hash ?_ (PySem.F.args_tuple_hash_1 _)))
 show cf _ _ (Builtin.Tuple.tupleItemsOf (.ref a) >>= _) _ _ s
 refine a5 (wpAny_tupleItemsOf ho hd ?_)
 refine a5 ?_
 rw[←Array.forIn_toList]
 refine uj _
  (λrest (b:Array Int) s'=>(rest=[.ref p,.str k.2.2 t]/\b= #[]/\s'=s)\/(rest=[.str k.2.2 t]/\b.toList=[tupleKeyHash (bX P w) [.inl k.1,.inl k.2.1]]/\s'={ s with toks:=s.toks+3 }) ∨
   (rest=[]/\b.toList=[tupleKeyHash (bX P w) [.inl k.1,.inl k.2.1],(bX P w).hash (.inr k.2.2)]/\s'={ s with toks:=s.toks+4 })) _ ?_ ?_ _ _ (.inl ⟨rfl,rfl,rfl⟩)
 ·rintro x rest b s' (⟨e,rfl,rfl⟩|⟨e,hb,rfl⟩|⟨e,_⟩)
  ·cases e
   refine a5 (wpAny_pyHash_tuple (knd:=bX P w) (ks:=[.inl k.1,.inl k.2.1]) hu hi ?_)
   first
    |exact bi (.inr (.inl ⟨rfl,rfl,rfl⟩))
    |exact a5 (bi (bi (.inr (.inl ⟨rfl,rfl,rfl⟩))))
  ·cases e
   refine a5 ((bX P w).pyHash (k:=.inr k.2.2) (v:=.str k.2.2 t) (by show decide _=true;simp) ?_)
   first
    |exact bi (.inr (.inr ⟨rfl,by simp[hb],rfl⟩))
    |exact a5 (bi (bi (.inr (.inr ⟨rfl,by simp[hb],rfl⟩))))
  ·cases e
 ·rintro b s' (⟨e,_⟩|⟨e,_⟩|⟨_,hb,rfl⟩)
  ·cases e
  ·cases e
  show cf _ _ (retInt (uk b.toList)) _ _ _
  rw[hb]
  refine wpAny_ret_mkInt ?_
  unfold Em at h
  generalize uk [tupleKeyHash (bX P w) [.inl k.1,.inl k.2.1],(bX P w).hash (.inr k.2.2)]=T at *
  show cf _ _ (if(decide (-(2:Int) ^ 63<=T)&&decide (T<2 ^ 63))=true then _ else _) Q E _
  unfold reduceHash at h
  by_cases hr:(decide (-(2:Int) ^ 63<=T)&&decide (T<2 ^ 63))=true
  ·rw[if_pos hr]
   rw[if_pos hr]at h
   exact bi h
  ·rw[if_neg hr]
   rw[if_neg hr]at h
   exact a5 (wpAny_rule (bi h))
theorem El{x y:NK}{a b:a6}{Pq:PySem.Fin->bc->Prop}(hu:A.units<cLine)(hx:pP P w s.heap x a)(hy:pP P w s.heap y b)(h:Pq (.done (.ret (.bool (decide (x=y))))) s):
  cf (model P w) A (Builtin.«tuple.__eq__» ⟨[.ref a,.ref b],[]⟩) Pq E s:=by
 have hTb:=hy.typeIs
 obtain⟨oa,na,p,t,hoa,_,hda,YV⟩:=hx
 obtain⟨ob,nb,q,u,hob,_,hdb,hib⟩:=hy
 obtain⟨x1,x2,x3⟩:=x
 obtain⟨y1,y2,y3⟩:=y
 simp only at hda YV hdb hib
 show cf _ _ (isInstance (.ref b) (.type "tuple") >>= _) _ _ s
 refine a5 (qr hTb isSubtype_tuple_tuple ?_)
 simp only[sx,i4,if_false]
 refine a5 (wpAny_tupleItemsOf hoa hda ?_)
 refine a5 (wpAny_tupleItemsOf hob hdb ?_)
 refine a5 ?_
 refine uj _
  (λrest r s'=>r.1=none/\s'=s/\(rest=[(.ref p,.ref q),(.str x3 t,.str y3 u)]\/(rest=[(.str x3 t,.str y3 u)]/\x1=y1/\x2=y2)\/(rest=[]/\x1=y1/\x2=y2/\x3=y3))) _ ?_ ?_ _ _ ⟨rfl,rfl,.inl rfl⟩
 ·rintro⟨c,d⟩ rest r s' ⟨hr,rfl,e|⟨e,rfl,rfl⟩|⟨e,_⟩⟩
  ·cases e
   refine a5 (wpAny_eqBool_tuple (knd:=bX P w) (x:=[.inl x1,.inl x2]) (y:=[.inl y1,.inl y2]) hu YV hib ?_)
   by_cases hk:x1=y1/\x2=y2
   ·obtain⟨rfl,rfl⟩:=hk
    rw[decide_eq_true rfl]
    simp only[sx,i4,if_false]
    exact bi ⟨rfl,rfl,.inr (.inl (by simp))⟩
   ·have e1:¬([Sum.inl x1,Sum.inl x2]:List Key)=[.inl y1,.inl y2]:=λz=>hk (by simpa using z)
    rw[decide_eq_false e1]
    simp only[Bool.not_false,if_true]
    have hf:decide ((x1,x2,x3)=(y1,y2,y3))=false:=decide_eq_false λz=>hk (by simp only[Prod.mk.injEq]at z;exact⟨z.1,z.2.1⟩)
    rw[hf]at h
    exact a5 (bi (bi (bi h)))
  ·cases e
   refine a5 ((bX P w).eqBool (a:=.inr x3) (b:=.inr y3) (u:=.str x3 t) (v:=.str y3 u) (qg P w x3 t) (qg P w y3 u) ?_)
   by_cases hk:x3=y3
   ·subst hk
    rw[decide_eq_true rfl]
    simp only[sx,i4,if_false]
    exact bi ⟨rfl,rfl,.inr (.inr (by simp))⟩
   ·have e1:¬(Sum.inr x3:Key)= .inr y3:=λz=>hk (by simpa using z)
    rw[decide_eq_false e1]
    simp only[Bool.not_false,if_true]
    have hf:decide ((x1,x2,x3)=(x1,x2,y3))=false:=decide_eq_false λz=>hk (by simp only[Prod.mk.injEq]at z;exact z.2.2)
    rw[hf]at h
    exact a5 (bi (bi (bi h)))
  ·cases e
 ·rintro⟨r1,r2⟩ s' ⟨hr,rfl,e|⟨e,_⟩|⟨_,rfl,rfl,rfl⟩⟩
  ·cases e
  ·cases e
  simp only at hr
  subst hr
  refine bi ?_
  rw[decide_eq_true rfl]at h
  exact h
theorem Gx{x y:NK}{a b:a6}{Q:Bool->bc->Prop}(hu:A.units+1<cLine)(hx:pP P w s.heap x a)(hy:pP P w s.heap y b)(h:Q (decide (x=y)) s):
  cf (model P w) A (eqBool (.ref a) (.ref b)) Q E s:=by
 unfold eqBool
 try with_reducible refine j_ ?_
 show cf _ _ (if(Value.ref a==Value.ref b)=true then _ else _) Q E s
 by_cases hab:(Value.ref a==Value.ref b)=true
 ·rw[if_pos hab]
  have e:a=b:=by have:=eq_of_beq hab;injection this
  subst e
  obtain rfl:=hx.inj hy
  exact a5 (wpAny_rule (bi (by simpa using h)))
 ·rw[if_neg hab]
  exact a5 (wpAny_richCompare_same_room (op:=.Eq) hx.typeIs hy.typeIs PySem.F.slot_tuple_eq
   (kA PySem.F.slot_tuple_eq hx.typeIs PySem.F.entry_tuple_eq (El hu hx hy ⟨_,rfl,(λe=>nomatch e),js h⟩) (PySem.F.args_tuple_eq_2 _ _)) (Nat.lt_of_succ_lt hu))
theorem B3(n:Nat){ks:List Key}{a:a6}{Q:Bool->bc->Prop}(hk:IsTupleKey (bX P w) s.heap ks a)(h:Q true s):cf (model P w) A (eqIsQuiet (n+1) (.ref a)) Q E s:=by
 have hT:=hk.typeIs
 obtain⟨o,items,m,ho,_,hd,hi⟩:=hk
 unfold eqIsQuiet
 refine a5 (vl hT PySem.F.slot_tuple_eq.lookup ?_)
 show cf _ _ (isInstance (.ref a) (.type "tuple") >>= _) _ _ s
 refine a5 (qr hT isSubtype_tuple_tuple ?_)
 simp only[sx,i4,if_false]
 refine a5 (h_ ho hd ?_)
 refine a5 ?_
 show cf _ _ (forIn items _ _) _ _ s
 rw[←Array.forIn_toList]
 refine uj _ (λrest r s'=>r.1=none/\s'=s/\∀v∈rest,carriedByValue v=true) _ ?_ ?_ _ _ ⟨rfl,rfl,hi.byValue⟩
 ·rintro v rest r s' ⟨hr,rfl,hall⟩
  rw[eqIsQuiet_byValue _ (hall v cw)]
  refine a5 (bi ?_)
  simp only[sx,i4,if_false]
  exact bi ⟨rfl,rfl,λu WK=>hall u (b0 _ WK)⟩
 ·rintro⟨r1,r2⟩ s' ⟨hr,rfl,_⟩
  simp only at hr
  subst hr
  exact bi h
theorem IV{k:NK}{a:a6}{Q:Bool->bc->Prop}(hk:pP P w s.heap k a)(h:Q true s):cf (model P w) A (eqIsQuiet 8 (.ref a)) Q E s:=by
 have hT:=hk.typeIs
 obtain⟨o,m,p,t,ho,_,hd,hi⟩:=hk
 unfold eqIsQuiet
 refine a5 (vl hT PySem.F.slot_tuple_eq.lookup ?_)
 show cf _ _ (isInstance (.ref a) (.type "tuple") >>= _) _ _ s
 refine a5 (qr hT isSubtype_tuple_tuple ?_)
 simp only[sx,i4,if_false]
 refine a5 (h_ ho hd ?_)
 refine a5 ?_
 show cf _ _ (forIn #[Value.ref p,Value.str k.2.2 t] _ _) _ _ s
 rw[←Array.forIn_toList]
 refine uj _ (λrest r s'=>r.1=none/\s'=s/\∀v∈rest,v= .ref p\/carriedByValue v=true) _ ?_ ?_ _ _ ⟨rfl,rfl,λv hv=>?_⟩
 ·rintro v rest r s' ⟨hr,rfl,hall⟩
  have step:cf (model P w) A (eqIsQuiet 7 v) (λb s2=>b=true/\s2=s') E s':=by
   rcases hall v cw with rfl|hv
   ·exact B3 6 hi ⟨rfl,rfl⟩
   ·rw[eqIsQuiet_byValue _ hv]
    exact bi ⟨rfl,rfl⟩
  refine a5 (gd step (λb s2 z=>?_) λ_ _ z=>z)
  obtain⟨rfl,rfl⟩:=z
  simp only[sx,i4,if_false]
  exact bi ⟨rfl,rfl,λu WK=>hall u (b0 _ WK)⟩
 ·rintro⟨r1,r2⟩ s' ⟨hr,rfl,_⟩
  simp only at hr
  subst hr
  exact bi h
 ·simp only[cm,fA,or_false]at hv
  rcases hv with rfl|rfl
  ·exact .inl rfl
  ·exact .inr rfl
end
noncomputable def lO(P:bo)(w:df):HeapKind P w NK where
 is:=pP P w
 hash:=Em P w
 draws:=λ_=>5
 room:=λA=>A.units+1<cLine
 inj:=λhx hy=>hx.inj hy
 keeps:=λx ho hd hs=>x.keeps ho hd hs
 pyHash:=λhu hk h=>Gw hu hk h
 eqBool:=λhu hx hy h=>Gx hu hx hy h
 quiet:=λhk h=>IV hk h
end
section
open PySem.W
noncomputable def AV(d:a6)(es:Array DictEntry)(ep:Nat)(h:dC):Prop:=∃o,h.get? d=some o/\o.ExactDict/\o.data= .dict es ep
section
variable{P:bo}{w:df}{A:dL}{E:a9->bc->Prop}{s:bc}{d:a6}{es:Array DictEntry}{ep:Nat}
theorem AV.ty(m:AV d es ep s.heap):s.TypeIs (.ref d) "dict" :=let ⟨o,ho,hc,_⟩:=m;⟨o,ho,hc.1⟩
theorem AV.mv{h h':dC}(m:AV d es ep h)(e:∀o,h.get? d=some o->h'.get? d=some o):AV d es ep h':=let ⟨o,ho,r⟩:=m;⟨o,e _ ho,r⟩
theorem Iv{Q:a9->bc->Prop}(hd:(d==sysModules)=false)(m:AV d es ep s.heap)
  (hQ:Q (.ref s.heap.objs.size) { s with heap:=s.heap.push { cls:=.type "dict_keyiterator",data:=.fields #[.ref d,.int 0 0,.int es.size 0,.int ep 0] } }):cf (model P w) A (pyIter (.ref d)) Q E s:=by
 have hT:=m.ty
 obtain⟨o,ho,hc,hdat⟩:=m
 refine wpAny_pyIter_slot hT PySem.F.slot_dict_iter (kA PySem.F.slot_dict_iter hT PySem.F.entry_dict_iter ?_ (PySem.F.args_dict_iter_1 _))
 unfold Builtin.«dict.__iter__»
 refine a5 ?_
 unfold Builtin.Dict.dictSlotNone
 refine a5 (wpAny_notOrdered_dict hT ?_)
 show cf _ _ (pure (Value.ref d)) _ _ s
 refine bi ?_
 show cf _ _ (Builtin.Dict.showsAll d >>= _) _ _ s
 unfold Builtin.Dict.showsAll
 rw[if_neg (by rw[hd];exact bt)]
 refine a5 (bi (a5 (wpAny_dictEntries ho hdat (a5 (wpAny_dictEpoch ho hdat ?_)))))
 refine a5 (lh (bi ⟨_,rfl,"dict_keyiterator",_,⟨_,bp _ rfl,rfl⟩,PySem.F.slot_dict_keyiterator_next.lookup,?_⟩))
 simpa[rawInt]using hQ
theorem B0{it:a6}{i:Nat}{Q:Option a9->bc->Prop}(hit:s.heap.IsKeyIter it d i es.size ep)(m:AV d es ep s.heap)
  (item:∀(hi:i<es.size) h',h'.IsKeyIter it d (i+1) es.size ep->l_ it s.heap h'->Q (some es[i].key) { s with heap:=h' })
  (stop:es.size<=i->A.handled=none/\∀h',wP it s.heap h'->Q none { s with heap:=h' }):cf (model P w) A (pyNext (.ref it)) Q E s:=by
 obtain⟨o,ho,hc,hd⟩:=id hit
 obtain⟨od,hod,hcd,TQ⟩:=m
 unfold pyNext
 refine a5 (wpAny_attempt (kz (name:=bd "__next__") hit.typeIs PySem.F.slot_dict_keyiterator_next
  (kA PySem.F.slot_dict_keyiterator_next hit.typeIs PySem.F.entry_dict_keyiterator_next ?_ (PySem.F.args_dict_keyiterator_next_1 _))))
 refine a5 (bi (a5 (a5 ?_)))
 first|refine a5 (rf hit.typeIs (bi ?_))|refine a5 (va hit.typeIs (bi ?_))
 refine a5 (wpAny_fieldsOf ho hd ?_)
 have hown:Builtin.Dict_items.ownsTuple "dict_keyiterator" =false:=by decide
 simp only[hown,i4,if_false]
 show cf _ _ (if(Value.ref d==Value.none)=true then _ else _) _ _ s
 rw[if_neg (show ¬((Value.ref d==Value.none)=true) from bt)]
 refine a5 (bi (a5 (wpAny_dictEntries hod TQ ?_)))
 rw[if_neg (by simp)]
 refine a5 (bi (a5 (wpAny_dictEpoch hod TQ ?_)))
 rw[if_neg (by simp)]
 refine bi ?_
 by_cases hlt:i<es.size
 ·simp only[show ¬((i:Int)<0) from by omega,if_false,o0,oy hlt]
  refine a5 ?_
  first|refine a5 (rf hit.typeIs (bi ?_))|refine a5 (va hit.typeIs (bi ?_))
  refine a5 (wpAny_isOneOf_keyiter hit.typeIs ?_)
  show cf _ _ (setField (.ref it) 1 (rawInt ((i:Int)+1)) >>= _) _ _ s
  refine a5 (nz ho hd (by simp) ?_)
  have GX:(s.heap.update it (sv (·.setIfInBounds 1 (rawInt ((i:Int)+1))))).IsKeyIter it d (i+1) es.size ep :=
   ⟨_,f_ _ ho (oo (kn hd _)),(Obj.cls_mapFields ..).trans hc,by rw[kn hd];simp[rawInt]⟩
  refine a5 (j_ (a5 (wpAny_isOneOf_keyiter (s:={ s with heap:=s.heap.update it (sv (·.setIfInBounds 1 (rawInt ((i:Int)+1)))) }) GX.typeIs ?_)))
  show cf _ _ (pure es[i].key) _ _ _
  exact bi (bi ⟨_,rfl,bi (item hlt _ GX (il ..))⟩)
 ·obtain⟨hh,hQ⟩:=stop (by omega)
  simp only[show ¬((i:Int)<0) from by omega,if_false,o0,Array.getElem?_eq_none (show es.size<=i by omega)]
  refine a5 ?_
  first|refine a5 (rf hit.typeIs (bi ?_))|refine a5 (va hit.typeIs (bi ?_))
  show cf _ _ (setField (.ref it) 0 .none >>= _) _ _ s
  refine a5 (nz ho hd (by simp) ?_)
  show cf _ _ (newExc (.type "StopIteration") [] >>= _) _ _ _
  refine a5 ?_
  simp only[newExc,newTuple]
  refine a5 (lh ?_ (by size_fits))
  refine a5 (m:=firstArgMember _ _) (wpAny_of_eq (a:=Value.none) (by first|rfl|(simp only[firstArgMember];rfl)) ?_)
  refine lh ?_ (by size_fits)
  simp only[raiseNew]
  refine a5 (wpAny_handled ?_)
  rw[show A.in1.handled=none from hh]
  refine a5 (bi (wpAny_throw ?_))
  refine a5 (qr (T:= "StopIteration") (b:=true) ⟨_,bp _ rfl,rfl⟩ isSubtype_stop ?_)
  exact bi (hQ _ (((il ..).extBut.push _).push _))
theorem Gp(hh:A.handled=none)(I:a6)(ne:d≠I):
  Walks P w A I [I,d] [I] es.size (λi v=>∃h:i<es.size,v=es[i].key) (λi h=>h.IsKeyIter I d i es.size ep/\AV d es ep h) where
 sub:=λb hb=>by simp at hb;simp[hb]
 frame:=λ_ _ _ st hk=>⟨st.1.at λo e=>hk I (by simp) o e,st.2.mv λo e=>hk d (by simp) o e⟩
 item:=λi s Q E hi st hQ=>B0 st.1 st.2 (λhi h' GX hs'=>hQ _ h' s.toks ⟨hi,rfl⟩ ⟨GX,st.2.mv λo e=>hs'.extBut d o ne e⟩ λb o hb e=>hs'.extBut b o (λh=>hb (by simp[h])) e) λz=>absurd hi (by omega)
 done:=λs Q E st hQ=>B0 st.1 st.2 (λhi=>absurd hi (g_ _)) λ_=>⟨hh,λh' he'=>hQ h' s.toks λb o hb e=>he' b o (λh=>hb (by simp[h])) e⟩
 self:=λ_ _ _ _ st hQ=>wpAny_pyIter_keyiter st.1 hQ
theorem K8(lo:(d==sysModules)=false):KdlSrc P w "dict" d d es.size (λi v=>∃h:i<es.size,v=es[i].key) (AV d es ep) where
 type:=λ_ m=>m.ty
 there:=λ_ ⟨_,ho,_⟩=>⟨ca ho,ca ho⟩
 keep:=λ_ _ m hk=>m.mv λo e=>hk d (.inl rfl) o e
 notList:=by decide
 notTuple:=by decide
 hint:=λ_ _ _ _ m hq=>kdl_hint_dict m.ty hq
 iter:=λ_ s hh m=>⟨_,_,(λ_ _ hq=>Iv lo m hq),Gp hh _ (let ⟨_,ho,_⟩:=m;dy (ca ho)),⟨⟨_,bp _ rfl,rfl,rfl⟩,m.mv λo e=>a8 _ e⟩⟩
end
end
section
open PySem.W
noncomputable abbrev NE:=NK×a6×V
noncomputable abbrev KN:List NE->List (NK×a6×a9)->Prop:=Paired λp q=>p.1=q.1/\p.2.1=q.2.1/\RelV p.2.2 q.2.2
noncomputable def jR(kvs:List NE)(k:NK):Option V:=(kvs.find? λx=>decide (x.1=k)).map (·.2.2)
noncomputable def rW(kvs:List NE)(k:NK)(q:a6)(v:V):List NE:=if(jR kvs k).isSome then kvs.map (λx=>if x.1=k then(x.1,x.2.1,v)else x)else kvs++[(k,q,v)]
theorem j4{p:NE}{ps:List NE}{k:NK}(e:p.1=k):jR (p::ps) k=some p.2.2:=by simp[jR,i5,e]
theorem iK{p:NE}{ps:List NE}{k:NK}(e:¬p.1=k):jR (p::ps) k=jR ps k:=by simp[jR,i5,e]
theorem KN.val{kvs:List NE}{xs:List (NK×a6×a9)}(r:KN kvs xs)(k:NK):ow (jR kvs k) ((atKey xs k).map (·.2)):=by
 induction r with
 |nil=>exact True.intro
 | @cons p q ps qs h t ih =>
  obtain⟨h1,_,h2⟩:=h
  by_cases e:p.1=k
  ·have e':q.1=k:=h1.symm.trans e
   have b:atKey (q::qs) k=some q.2:=by simp[atKey,i5,e']
   rw[j4 e,b];exact h2
  ·have e':¬q.1=k:=λz=>e (h1.trans z)
   have b:atKey (q::qs) k=atKey qs k:=by simp[atKey,i5,e']
   rw[iK e,b];exact ih
theorem KN.put{kvs:List NE}{xs:List (NK×a6×a9)}(r:KN kvs xs)(k:NK){b:a6}{y:V}{u:a9}(ry:RelV y u):KN (rW kvs k b y) (storedH xs k b u):=by
 have e:(jR kvs k).isSome=(atKey xs k).isSome:=by rw[(r.val k).zo,Option.isSome_map]
 unfold rW storedH
 rw[e]
 by_cases q:(atKey xs k).isSome=true
 ·rw[if_pos q,if_pos q]
  clear e q
  induction r with
  |nil=>exact .nil
  | @cons p q ps qs h t ih =>
   rw[eJ,eJ]
   refine .cons ?_ ih
   obtain⟨h1,h2,h3⟩:=h
   unfold putAt
   by_cases e:p.1=k
   ·rw[if_pos e,if_pos (h1.symm.trans e)];exact⟨h1,h2,ry⟩
   ·rw[if_neg e,if_neg (λz=>e (h1.trans z))];exact⟨h1,h2,h3⟩
 ·rw[if_neg q,if_neg q];exact Paired.snoc r ⟨rfl,rfl,ry⟩
theorem wW(kvs:List NE)(k:NK)(q:a6)(v:V):(rW kvs k q v).length<=kvs.length+1:=by
 unfold rW
 split
 ·rw[a_];omega
 ·rw[ce];exact ba _
theorem IQ{kvs:List NE}{k:NK}(h:jR kvs k=none)(q:a6)(v:V):rW kvs k q v=kvs++[(k,q,v)]:=by unfold rW;rw[h];rfl
noncomputable def PB(P:bo)(w:df)(a:a6)(kvs:List NE)(h:dC):Prop:=kvs.length<=b_/\(a==sysModules)=false/\∃xs,KN kvs xs ∧
 ∃o es ep,h.get? a=some o/\o.ExactDict/\o.data= .dict es ep/\es.toList=xs.map (entryOfKey (lO P w))/\(xs.map (·.1)).Nodup
noncomputable def Aq(P:bo)(w:df)(a:a6)(kvs:List NE):HO:=.ext (PB P w a kvs)
theorem Mv{P:bo}{w:df}{H:Hp}{h:dC}{a:a6}{kvs:List NE}(e:PB P w a kvs h):bY P w H h a (Aq P w a kvs):=by
 obtain⟨z,lo,xs,r,o,es,ep,ho,c⟩:=e
 exact⟨⟨z,lo,xs,r,o,es,ep,ho,c⟩,⟨o,ho⟩,λh1 h2 ⟨z,lo,xs,r,o,es,ep,ho,c⟩ k=>⟨z,lo,xs,r,o,es,ep,k _ ho,c⟩⟩
noncomputable def jm(H:Hp)(q:a6)(k:NK):Prop:=∃p,H q=some (.tup [.ref p,.str k.2.2])/\H p=some (.tup [.int k.1,.int k.2.1])
structure ND(P:bo)(w:df)(H:Hp)(a:a6)(kvs:List NE):Prop where
 at_:H a=some (Aq P w a kvs)
 keys:∀x∈kvs,jm H x.2.1 x.1
theorem k_of{P:bo}{w:df}{H:Hp}{h:dC}{q:a6}{k:NK}(ok:oA P w H h)(e:jm H q k):(lO P w).is h k q:=by
 obtain⟨p,h1,h2⟩:=e
 obtain⟨_,its,r,o,g1,g2,n,g3⟩:=(show bY P w H h q (.tup [.ref p,.str k.2.2]) from ok q _ h1)
 cases r with
 |cons r1 r =>
  cases r with
  |cons r2 r =>
   cases r
   cases r1
   obtain⟨t,rfl⟩:=(show ∃t,_=Value.str k.2.2 t from r2)
   exact⟨o,n,p,t,g1,g2,g3,xy (ks:=[.inl k.1,.inl k.2.1]) ok h2⟩
theorem ND.raw{P:bo}{w:df}{H:Hp}{h:dC}{a:a6}{kvs:List NE}(d:ND P w H a kvs)(ok:oA P w H h):kvs.length<=b_/\(a==sysModules)=false/\∃xs,KN kvs xs/\h.DictOfH (lO P w) a xs:=by
 obtain⟨z,lo,xs,r,o,es,ep,ho,h2,h3,h4,h5⟩:=(ok a _ d.at_).1
 refine⟨z,lo,xs,r,o,es,ep,ho,h2,h3,h4,λx hx=>?_,h5⟩
 have all:∀{l:List NE} {m:List (NK×a6×a9)},KN l m->(∀x∈l,jm H x.2.1 x.1)->∀x∈m,(lO P w).is h x.1 x.2.1:=by
  intro l m q
  induction q with
  |nil=>intro _ x hx;exact nomatch hx
  | @cons p q ps qs hq t ih =>
   intro hk x hx
   rcases cm.mp hx with e|hx
   ·subst e
    rw[←hq.1,←hq.2.1]
    exact k_of ok (hk p cw)
   ·exact ih (λy hy=>hk y (b0 _ hy)) x hx
 exact all r d.keys x hx
section
variable{X:Cx}{pins:List (a6×lv)}{σ:St}{H:Hp}{s:bc}{a q:a6}{k:NK}{kvs:List NE}{v:V}{r:a9}{A:dL}{E:a9->bc->Prop}
theorem Gz{Q:a9->bc->Prop}(hu:A.units+2<cLine)(I:Inv X pins σ H s)(d:ND X.prog X.w H a kvs)(hk:jm H q k)(l:jR kvs k=some v)(h:∀w' s',Inv X pins σ H s'->RelV v w'->Q w' s'):
  cf (model X.prog X.w) A (getItem (.ref a) (.ref q)) Q E s:=by
 obtain⟨z,hd,xs,rel,dd⟩:=d.raw I.hok
 obtain⟨w',hw,rw'⟩:=ow.some_of (v:=v) (o:=(atKey xs k).map (·.2)) (by rw[←l];exact rel.val k)
 obtain⟨p,hp,hp2⟩:=gN.mp hw
 refine vx (show A.in1.units+1<cLine from hu) (k_of I.hok hk) dd hp ?_
 rw[hp2]
 exact h w' _ (I.tok _) rw'
theorem Gy{Q:Unit->bc->Prop}(hu:A.units+2<cLine)(I:Inv X pins σ H s)(d:ND X.prog X.w H a kvs)(hk:jm H q k)(hl:kvs.length<b_)(rv:RelV v r)(h:∀s',Inv X pins σ (upd H a (Aq X.prog X.w a (rW kvs k q v))) s'->Q () s'):
  cf (model X.prog X.w) A (setItem (.ref a) (.ref q) r) Q E s:=by
 obtain⟨z,hd,xs,rel,dd⟩:=d.raw I.hok
 have hz:xs.length<=b_:=by rw[←Paired.length rel];exact z
 have hl':(rW kvs k q v).length<=b_:=by have:=wW kvs k q v;omega
 refine wpAny_setItem_heap (hsz:=hz) (show A.in1.units+1<cLine from hu) (k_of I.hok hk) dd λh' Qe hs=>h _ ?_
 obtain⟨o,es,ep,ho,h2,h3,h4,_,h5⟩:=Qe
 exact AG I (by rw[d.at_];exact True.intro) hs ⟨o,ho⟩ (Mv ⟨hl',hd,_,rel.put k rv,o,es,ep,ho,h2,h3,h4,h5⟩)
theorem IX(I:Inv X pins σ H s)(d:ND X.prog X.w H a kvs):s.TypeIs (.ref a) "dict" :=by
 obtain⟨_,_,_,_,dd⟩:=d.raw I.hok
 exact dd.typeIs
end
noncomputable def Qv(P:bo)(w:df)(td ty:TE):TE:=λσ H Q=>td σ H λx H1=>ty σ H1 λy H2=>∃a kvs k q v,x= .ref a/\y= .ref q/\ND P w H2 a kvs/\jm H2 q k/\jR kvs k=some v/\Q v H2
noncomputable def QK(P:bo)(w:df)(td ty tv:TE):TS:=λD σ H=>tv σ H λv H1=>td σ H1 λx H2=>ty σ H2 λy H3=>∃a kvs k q,x= .ref a/\y= .ref q/\ND P w H3 a kvs/\jm H3 q k/\kvs.length<b_/\D.nx σ (upd H3 a (Aq P w a (rW kvs k q v)))
noncomputable def Qu(P:bo)(w:df):TE:=λ_ H Q=>∀p,H p=none->Q (.ref p) (upd H p (Aq P w p []))
section
variable{X:Cx}{o i e value:Expr}{pos pos' tpos:re}{td ty tv:TE}{Pr:bo}{wo:df}
theorem jt(hu:X.A.units+2<cLine)(ho:PE X o td)(hi:PE X i ty)(hs:Pz i)(hP:X.prog=Pr)(hw:X.w=wo):PE X (.Subscript o i pos) (Qv Pr wo td ty):=by
 subst hP hw
 intro pins s σ H Q I h
 refine vM PySem.F.slot_dict_getitem.lookup hs (gg (ho pins s σ H _ I h) λu s1 ⟨x,H1,I1,rx,q1⟩=>gg (hi pins s1 σ H1 _ I1 q1) λiv s2 ⟨y,H2,I2,ry,a,kvs,k,q,v,ex,ey,d,hk,l,q2⟩=>?_)
 subst ex ey
 obtain rfl:u=Value.ref a:=rx
 obtain rfl:iv=Value.ref q:=ry
 exact⟨IX I2 d,Gz hu I2 d hk l λw' s3 I3 rw'=>⟨v,H2,I3,rw',q2⟩⟩
theorem z6(hu:X.A.units+2<cLine)(ho:PE X o td)(hi:PE X i ty)(hv:PE X value tv)(hs:swapsWith value (some (.Subscript o i pos')) pos.line X.env=pure false)(hP:X.prog=Pr)(hw:X.w=wo):
  PS X (.Assign [.Subscript o i pos'] value pos) (QK Pr wo td ty tv):=by
 subst hP hw
 intro pins s σ H D I h
 refine wpAny_Assign_Subscript (gg (hv pins s σ H _ I h) λr s1 ⟨v,H1,I1,rv,q1⟩=>gg (ho pins s1 σ H1 _ I1 q1) λu s2 ⟨x,H2,I2,rx,q2⟩=>gg (hi pins s2 σ H2 _ I2 q2) λiv s3 ⟨y,H3,I3,ry,a,kvs,k,q,ex,ey,d,hk,hl,q3⟩=>?_) hs
 subst ex ey
 obtain rfl:u=Value.ref a:=rx
 obtain rfl:iv=Value.ref q:=ry
 exact Gy hu I3 d hk hl rv λs4 I4=>⟨σ,_,I4,q3⟩
theorem Oh{P:bo}{w:df}(h:dC)(hb:sysModules<h.objs.size):PB P w h.objs.size [] (h.push { cls:=.type "dict",data:=.dict #[] }) :=
 ⟨em _,beq_eq_false_iff_ne.mpr (Ne.symm (dy hb)),[],.nil,_,#[],0,bp _ rfl,⟨rfl,rfl,rfl⟩,rfl,rfl,List.nodup_nil⟩
theorem Ab(hP:X.prog=Pr)(hw:X.w=wo):PE X (.Dict [] [] pos) (Qu Pr wo):=by
 subst hP hw
 exact λpins s σ H Q I h=>wpAny_Dict_empty ⟨.ref s.heap.objs.size,_,I.laid (a:=s.heap.objs.size) (o:=Aq X.prog X.w s.heap.objs.size []) (t':=s.toks) (λ_ _ q=>a8 _ q) (ba _) (Mv (Oh s.heap I.big)),rfl,h _ (I.hok.fresh (ba _))⟩
theorem tD(JF:X.calm=true)(hP:X.prog=Pr)(hw:X.w=wo):nU X (.type "list") (λxs H Q=>∃a kvs,xs=[.ref a]/\ND Pr wo H a kvs/\∀l,H l=none->Q (.ref l) (upd H l (.lst (kvs.map λx=>.ref x.2.1)))):=by
 subst hP hw
 intro pins s σ H xs us Q I r h
 obtain⟨a,kvs,rfl,d,q⟩:=h
 obtain⟨u,rfl,rx⟩:=vals1 r
 cases rx
 obtain⟨z,lo,xs,rel,o,es,ep,h1,h2,h3,h4,_⟩:=d.raw I.hok
 have hes:es.size=xs.length:=size_of_entries h4
 have hlk:=Paired.length rel
 refine TK.cH (ba _) (kdl_call (K8 (es:=es) (ep:=ep) lo) (I.ok.hd JF) ⟨o,h1,h2,h3⟩ (by omega) λh' tk acc c kp hS hacc hup=>?_)
 refine⟨.ref s.heap.objs.size,_,I.laid (t':=tk) kp (ba _) (show bY X.prog X.w _ h' _ (.lst (kvs.map λx=>.ref x.2.1)) from⟨by rw[a_];exact z,acc.toList,c,?_,by rw[Array.toArray_toList];exact hS⟩) hup,rfl,q _ (I.hok.fresh (ba _))⟩
 have hz:acc.size=kvs.length:=by rw[hacc.1];omega
 refine GP.ue (by rw[a_];simp[hz]) λi x y hx hy=>?_
 rw[cx]at hx
 obtain⟨e,he,rfl⟩:=gN.mp hx
 rw[ft]at hy
 obtain⟨hi,rfl⟩:=hacc.2 i y hy
 obtain⟨x',hx',h5⟩:=GP.Paired.at rel he
 have:=entry_at h4 i
 rw[hx',oy hi]at this
 injection this with this
 rw[this]
 show Value.ref x'.2.1=Value.ref e.2.1
 rw[h5.2.1]
end
end
section
open PySem.W
section
variable{prog:bo}{w:df}{A:dL}{E:a9->bc->Prop}{s:bc}{q:a6}
noncomputable def L7(kf:Nat->Int)(n i:Nat):Prop:=∀j,j<n->kf i<=kf j/\(j<i->kf i<kf j)
theorem xq{h h':dC}{l:a6}{its:Array a9}(k:∀b o,h.get? b=some o->h'.get? b=some o)(x:h.IsList l its):h'.IsList l its:=by
 obtain⟨o,e,r⟩:=x
 exact⟨o,k _ _ e,r⟩
variable{g:dC}{l I S:a6}{vs:List a9}{R:Result->bc->Prop}
theorem I9(kf:Nat->Int)(hh:A.handled=none)(hl:g.IsList l vs.toArray)(hI:g.get? I=none)(hS:g.get? S=none)(hSI:S≠I)
  (turn:∀i v h tk (Q:a9->bc->Prop),vs[i]? =some v->(∀b o,g.get? b=some o->h.get? b=some o)->(∀h' tk' t,(∀b o,h.get? b=some o->h'.get? b=some o)->Q (.int (kf i) t) { s with heap:=h',toks:=tk' }) →
   cf (model prog w) A.in1 (call (.ref q) [v]) Q (λ_ _=>False) { s with heap:=h,toks:=tk })
  (hR:∀i v h' tk',vs[i]? =some v->L7 kf vs.length i->(∀b o,g.get? b=some o->h'.get? b=some o)->R (.ok (.ret v)) { s with heap:=h',toks:=tk' }) :
  ∀(r j i:Nat) (h:dC) (tk:Nat) (vb:a9) (tb:wT) (c:Nat),vs.length-(j+1)=r->j+1<=vs.length->(∀b o,g.get? b=some o->h.get? b=some o)->h.get? S=some (seqObj "list" #[vb,.int (kf i) tb] c) →
   h.IsListIter I l (j+1)->vs[i]? =some vb->i<=j->L7 kf (j+1) i →
   codeAny (model prog w) A (.builtin "min.loop" ⟨[.ref I,.ref q,.ref S],[]⟩) R { s with heap:=h,toks:=tk }:=by
 have nm:(toString "min" ++toString ".loop" :String)= "min.loop" :=by decide
 obtain⟨ol,KC,rl⟩:=id hl
 have lI:l≠I:=λz=>by rw[z,hI]at KC;cases KC
 have W:=Walks.list (prog:=prog) (w:=w) (A:=A.in1) hh I l lI vs.toArray
 have sz:vs.toArray.size=vs.length:=by simp
 have nI:∀b o,g.get? b=some o->b∉[I]:=λb o e z=>by rw[c_.mp z,hI]at e;cases e
 have nS:∀b o,g.get? b=some o->b≠S:=λb o e z=>by rw[z,hS]at e;cases e
 intro r
 induction r with
 |zero =>
  intro j i h tk vb tb c hr hj kp gS hit WH hij hb
  have en:j+1=vs.length:=by omega
  refine sk PySem.F.entry_min_loop ?_
  rw[o_ PySem.F.plain_min_loop _]
  show cf _ A.in1 (seqItems? (.ref S) >>= _) _ _ _
  refine a5 (h_ gS rfl ?_)
  show cf _ A.in1 (tryCatch (pyNext (.ref I)) _ >>= _) _ _ _
  refine a5 (t_ (W.done _ _ _ ⟨by rw[sz,←en];exact hit,xq kp hl⟩ λh1 Mg hk1=>?_))
  have Sk:=hk1 S _ (by simpa using hSI) gS
  show cf _ A.in1 (updateSeq S (λ_=> #[]) >>= _) _ _ _
  refine a5 ?_
  refine wpAny_updateSeq Sk rfl (a5 (tJ (bi ?_)))
  refine hR i vb _ _ WH (by rw[←en];exact hb) λb o e=>?_
  rw[(il h1 S _).2 b (nS b o e)]
  exact hk1 b o (nI b o e) (kp b o e)
 |succ r ih =>
  intro j i h tk vb tb c hr hj kp gS hit WH hij hb
  have lt:j+1<vs.length:=by omega
  refine sk PySem.F.entry_min_loop ?_
  rw[o_ PySem.F.plain_min_loop _]
  show cf _ A.in1 (seqItems? (.ref S) >>= _) _ _ _
  refine a5 (h_ gS rfl ?_)
  show cf _ A.in1 (tryCatch (pyNext (.ref I)) _ >>= _) _ _ _
  refine a5 (t_ (W.item (j+1) _ _ _ (by rw[sz];exact lt) ⟨hit,xq kp hl⟩ λv h1 Mg hP hst hk1=>?_))
  have hv:vs[j+1]? =some v:=by simpa using hP
  have Jq:∀b o,g.get? b=some o->h1.get? b=some o:=λb o e=>hk1 b o (nI b o e) (kp b o e)
  have Sk:=hk1 S _ (by simpa using hSI) gS
  obtain⟨oI,TF,rI⟩:=id hst.1
  show cf _ A.in1 (tryCatch (holding [v] (call (.ref q) [v])) _ >>= _) _ _ _
  refine a5 (t_ (j_ (gd (turn (j+1) v h1 Mg (λu s'=>∃h2 KW t2,u= .int (kf (j+1)) t2/\s'={ s with heap:=h2,toks:=KW }/\∀b o,h1.get? b=some o->h2.get? b=some o) hv Jq λh2 KW t2 k2=>⟨h2,KW,t2,rfl,rfl,k2⟩) (λu s' hu=>?_) λ_ _ z=>z.elim)))
  obtain⟨h2,KW,t2,rfl,rfl,k2⟩:=hu
  have YA:∀b o,g.get? b=some o->h2.get? b=some o:=λb o e=>k2 b o (Jq b o e)
  have Qd:=k2 _ _ Sk
  have W8:h2.IsListIter I l (j+1+1):=⟨oI,k2 _ _ TF,rI⟩
  show cf _ A.in1 (tryCatch (holding [v,.int (kf (j+1)) t2] (richCompare .Lt (.int (kf (j+1)) t2) (.int (kf i) tb) >>= _)) _ >>= _) _ _ _
  refine a5 (t_ (j_ (a5 (CmpOf.ints_lt (prog:=prog) (w:=w) (A:=A.in1) (P:=λi v=>∃t,v= .int (kf i) t) kf (λi v h=>h) (j+1) i _ _ _ _ _ ⟨t2,rfl⟩ ⟨tb,rfl⟩ ?_))))
  refine a5 (j_ (js ?_))
  refine a5 (tJ (bi ?_))
  by_cases gt:kf (j+1)<kf i
  ·obtain⟨c2,hc2⟩:∃c2,(h2.update S (wt λ_=> #[v,.int (kf (j+1)) t2])).get? S=some (seqObj "list" #[v,.int (kf (j+1)) t2] c2):=⟨_,get?_update_seq Qd λ_=> #[v,.int (kf (j+1)) t2]⟩
   have gt':kf (j+1)<kf i:=gt
   simp only[gt',decide_true,if_true]
   refine a5 ?_
   refine wpAny_updateSeq Qd rfl (a5 (tJ ?_))
   rw[nm]
   refine bi ⟨wE PySem.F.plain_min_loop _,ih (j+1) (j+1) _ _ v t2 c2 (by omega) lt (λb o e=>?_) hc2 ?_ hv (ba _) λj' hj'=>?_⟩
   ·rw[(il h2 S _).2 b (nS b o e)]
    exact YA b o e
   ·exact⟨oI,((il h2 S _).2 I hSI.symm).trans (k2 _ _ TF),rI⟩
   ·by_cases e:j'=j+1
    ·subst e
     exact⟨by omega,λ_=>by omega⟩
    ·have b1:=hb j' (by omega)
     exact⟨by omega,λ_=>by omega⟩
  ·have gt':¬kf (j+1)<kf i:=gt
   simp only[gt',decide_false,i4,if_false]
   refine a5 (tJ ?_)
   rw[nm]
   refine bi ⟨wE PySem.F.plain_min_loop _,ih (j+1) i _ _ vb tb c (by omega) lt YA Qd W8 WH (by omega) λj' hj'=>?_⟩
   by_cases e:j'=j+1
   ·subst e
    exact⟨by omega,λ_=>by omega⟩
   ·exact hb j' (by omega)
theorem G7{Q:a9->bc->Prop}(kf:Nat->Int)(hh:A.handled=none)(hl:s.heap.IsList l vs.toArray)
  (turn:∀i v h tk (Q:a9->bc->Prop),vs[i]? =some v->(∀b o,s.heap.get? b=some o->h.get? b=some o)->(∀h' tk' t,(∀b o,h.get? b=some o->h'.get? b=some o)->Q (.int (kf i) t) { s with heap:=h',toks:=tk' }) →
   cf (model prog w) A.in1 (call (.ref q) [v]) Q (λ_ _=>False) { s with heap:=h,toks:=tk })
  (hne:0<vs.length)
  (h1:∀i v h' tk',vs[i]? =some v->L7 kf vs.length i->(∀b o,s.heap.get? b=some o->h'.get? b=some o)->Q v { s with heap:=h',toks:=tk' }) :
  cf (model prog w) A (call (.builtin "min") [.ref l] [(bd "key",.ref q)]) Q E s:=by
 have nm:(toString "min" ++toString ".loop" :String)= "min.loop" :=by decide
 obtain⟨ol,KC,rl⟩:=id hl
 have lt:l<s.heap.objs.size:=ca KC
 refine kmk_tree PySem.F.kind_min PySem.F.plain_min PySem.F.entry_min (kmk_min_key _ _) ?_
 show cf _ A.in1 (Builtin.Builtins.bindParams "min" ["key","default"] 0 ⟨[],[(bd "key",.ref q)]⟩ >>= _) _ _ s
 refine a5 (wpAny_of_eq (show Builtin.Builtins.bindParams "min" ["key","default"] 0 ⟨[],[(bd "key",.ref q)]⟩=pure [some (.ref q),none] from rfl) ?_)
 refine a5 (bi ?_)
 refine a5 (mi hl ?_)
 refine a5 (wpAny_newList ?_ (em _))
 rw[nm]
 have sI:(s.heap.push { cls:=.type "list_iterator",data:=.fields #[.ref l,.int 0 0] }).objs.size=s.heap.objs.size+1:=size_push' ..
 have hI:s.heap.get? s.heap.objs.size=none:=me (ba _)
 have hS:s.heap.get? (s.heap.push { cls:=.type "list_iterator",data:=.fields #[.ref l,.int 0 0] }).objs.size=none:=by rw[sI];exact me (gc _)
 have hSI:(s.heap.push { cls:=.type "list_iterator",data:=.fields #[.ref l,.int 0 0] }).objs.size≠s.heap.objs.size:=by rw[sI];exact ma (ib _)
 refine bi ⟨wE PySem.F.plain_min_loop _,?_⟩
 have YB:∀b o,s.heap.get? b=some o->((s.heap.push { cls:=.type "list_iterator",data:=.fields #[.ref l,.int 0 0] }).push (seqObj "list" #[] 0)).get? b=some o:=λb o e=>a8 _ (a8 _ e)
 have gI:((s.heap.push { cls:=.type "list_iterator",data:=.fields #[.ref l,.int 0 0] }).push (seqObj "list" #[] 0)).get? s.heap.objs.size=some { cls:=.type "list_iterator",data:=.fields #[.ref l,.int 0 0] } :=
  a8 _ (bp _ rfl)
 have gS:((s.heap.push { cls:=.type "list_iterator",data:=.fields #[.ref l,.int 0 0] }).push (seqObj "list" #[] 0)).get? (s.heap.push { cls:=.type "list_iterator",data:=.fields #[.ref l,.int 0 0] }).objs.size=some (seqObj "list" #[] 0):=bp _ rfl
 generalize (s.heap.push { cls:=.type "list_iterator",data:=.fields #[.ref l,.int 0 0] }).objs.size=S at hS hSI gS ⊢
 generalize hIe:s.heap.objs.size=I at hI hSI gI ⊢
 have lI:l≠I:=λz=>by rw[z,hI]at KC;cases KC
 have W:=Walks.list (prog:=prog) (w:=w) (A:=A.in1) hh I l lI vs.toArray
 have sz:vs.toArray.size=vs.length:=by simp
 have nI:∀b o,s.heap.get? b=some o->b∉[I]:=λb o e z=>by rw[c_.mp z,hI]at e;cases e
 have nS:∀b o,s.heap.get? b=some o->b≠S:=λb o e z=>by rw[z,hS]at e;cases e
 refine sk PySem.F.entry_min_loop ?_
 rw[o_ PySem.F.plain_min_loop _]
 show cf _ A.in1 (seqItems? (.ref _) >>= _) _ _ _
 refine a5 (h_ gS rfl ?_)
 show cf _ A.in1 (tryCatch (pyNext (.ref I)) _ >>= _) _ _ _
 have ne:=hne
 refine a5 (t_ (W.item 0 _ _ _ (by rw[sz];exact ne) ⟨⟨_,gI,rfl,rfl⟩,xq YB hl⟩ λv uv Mg hP hst hk1=>?_))
 have hv:vs[0]? =some v:=by simpa using hP
 have Jq:∀b o,s.heap.get? b=some o->uv.get? b=some o:=λb o e=>hk1 b o (nI b o e) (YB b o e)
 have Sk:=hk1 S _ (by simpa using hSI) gS
 obtain⟨oI,TF,rI⟩:=id hst.1
 show cf _ A.in1 (tryCatch (holding [v] (call (.ref q) [v])) _ >>= _) _ _ _
 refine a5 (t_ (j_ (gd (turn 0 v uv Mg (λu s'=>∃h2 KW t2,u= .int (kf 0) t2/\s'={ s with heap:=h2,toks:=KW }/\∀b o,uv.get? b=some o->h2.get? b=some o) hv Jq λh2 KW t2 k2=>⟨h2,KW,t2,rfl,rfl,k2⟩) (λu s' hu=>?_) λ_ _ z=>z.elim)))
 obtain⟨h2,KW,t2,rfl,rfl,k2⟩:=hu
 have Qd:=k2 _ _ Sk
 obtain⟨c2,hc2⟩:∃c2,(h2.update S (wt λ_=> #[v,.int (kf 0) t2])).get? S=some (seqObj "list" #[v,.int (kf 0) t2] c2):=⟨_,get?_update_seq Qd λ_=> #[v,.int (kf 0) t2]⟩
 show cf _ A.in1 (updateSeq S (λ_=> #[v,.int (kf 0) t2]) >>= _) _ _ _
 refine a5 ?_
 refine wpAny_updateSeq Qd rfl ?_
 rw[nm]
 refine bi ⟨wE PySem.F.plain_min_loop _,I9 kf hh hl hI hS hSI turn (λi v h' tk' a b c=>h1 i v h' tk' a b c) _ 0 0 _ _ v t2 c2 rfl ne (λb o e=>?_) hc2 ?_ hv (ba _) λj' hj'=>?_⟩
 ·rw[(il h2 S _).2 b (nS b o e)]
  exact k2 b o (Jq b o e)
 ·exact⟨oI,((il h2 S _).2 I hSI.symm).trans (k2 _ _ TF),rI⟩
 ·have e:j'=0:=by omega
  subst e
  exact⟨by omega,λz=>absurd z (g_ _)⟩
end
noncomputable def xX(h:dC)(q:a6)(qual:bv)(ps:ui)(body:Expr)(sc:lL)(cl:List (bv×a6)):Prop :=
 ∃pm c' ctv,h.get? q=some (kla_obj "<lambda>" qual ps body sc cl pm c' ctv)/\h.CodeRec (.ref c') qual
theorem qJ{h h':dC}{c:a6}{q:bv}(k:∀b o,h.get? b=some o->h'.get? b=some o)(x:h.CodeRec (.ref c) q):h'.CodeRec (.ref c) q:=by
 obtain⟨c₂,o,vs,t,e,e1,e2⟩:=x
 exact⟨c₂,o,vs,t,e,k _ _ e1,e2⟩
theorem xX.keep{h h':dC}{q:a6}{qual:bv}{ps:ui}{body:Expr}{sc:lL}{cl:List (bv×a6)}(k:∀b o,h.get? b=some o->h'.get? b=some o)(x:xX h q qual ps body sc cl):xX h' q qual ps body sc cl:=by
 obtain⟨pm,c',ctv,e,r⟩:=x
 exact⟨pm,c',ctv,k _ _ e,qJ k r⟩
structure Gb(ps:ui)(body:Expr)(sc:lL)(x r:bv):Prop where
 bind:∀(qual:bv) (cl:List (bv×a6)) (pm cdv ct v:a9),bindArgs (kla_fn "<lambda>" qual ps body sc cl pm cdv ct) ⟨[v],[]⟩=pure [(x,v)]
 loc:sc.names.lookup x=some .local
 free:sc.names.lookup r=some .free
 cell:∀x∈sc.names,x.2≠ .cell
 kind:sc.kind= .function
 co:sc.isCoroutine=false
 gen:sc.isGenerator=false
 dx:(x==("__debug__" :bv))=false
 dr:(r==("__debug__" :bv))=false
 dc:(r==("__classdict__" :bv))=false
structure MV(P:bo)(w:df)(h:dC)(A:dL)(env:Env)(x r:bv)(v rv:a9):Prop where
 x:∀(p:re) (s:bc) (Q:a9->bc->Prop) (E:a9->bc->Prop),(∀b o,h.get? b=some o->s.heap.get? b=some o)->Q v s->cf (model P w) A (eval (.Name x p) env) Q E s
 r:∀(p:re) (s:bc) (Q:a9->bc->Prop) (E:a9->bc->Prop),(∀b o,h.get? b=some o->s.heap.get? b=some o)->Q rv s->cf (model P w) A (eval (.Name r p) env) Q E s
section
variable{prog:bo}{w:df}{A:dL}{E:a9->bc->Prop}{s:bc}{q c:a6}{qual x r:bv}{ps:ui}{body:Expr}{sc:lL}
theorem GL{v rv:a9}{Q:a9->bc->Prop}(hl:xX s.heap q qual ps body sc [(r,c)])(T:Gb ps body sc x r)(hc:s.heap.IsCell c (some rv))(hlim:s.heap.NoLimit)(hroom:A.depth<recursionLimit)
  (h:∀(env:Env) (A':dL) h1 Mg (E':a9->bc->Prop),A'.units=A.units+3->(∀b o,s.heap.get? b=some o->h1.get? b=some o)->MV prog w h1 A' env x r v rv->cf (model prog w) A' (eval body env) Q E' { s with heap:=h1,toks:=Mg }) :
  cf (model prog w) A (call (.ref q) [v]) Q E s:=by
 obtain⟨pm,c',ctv,ho,hr⟩:=hl
 refine wq (kla_callFunE hroom ho rfl T.co T.gen rfl hr ?_)
 rw[T.bind]
 refine bi (wpAny_newFunctionEnv T.cell (λy hy=>by rw[c_.mp hy];exact T.loc) (λh₁ hns RT=>⟨hlim.fresh _ RT,?_⟩) T.kind)
 have kp:∀b o,s.heap.get? b=some o->h₁.get? b=some o:=λb o e=>RT.extBut b o (dy (ca e)) (a8 _ e)
 refine kla_codeExpr (h _ _ h₁ _ _ rfl kp ⟨λp s1 Q1 E1 k1 hQ=>?_,λp s1 Q1 E1 k1 hQ=>?_⟩)
 ·refine wpAny_Name (wpAny_loadName_local T.kind T.loc (hns.keeps k1) (v:=v) ?_ hQ) T.dx
  show hJ x [(x,v)]=some v
  simp[hJ]
 ·obtain⟨o,g1,g2⟩:=hc
  refine wpAny_Name (wpAny_loadName_free T.kind T.free (c:=c) (v:=rv) ?_ ⟨o,k1 _ _ (kp _ _ g1),g2⟩ hQ T.dc) T.dr
  show hJ r [(r,c)]=some c
  simp[hJ]
end
end
section
open PySem.W
theorem pP.ext{P:bo}{w:df}{h h':dC}{k:NK}{a:a6}(e:∀b o,h.get? b=some o->h'.get? b=some o)(x:pP P w h k a):pP P w h' k a:=by
 obtain⟨o,n,p,t,ho,hc,hd,o2,its,n2,ho2,r⟩:=x
 exact⟨o,n,p,t,e _ _ ho,hc,hd,o2,its,n2,e _ _ ho2,r⟩
theorem CP{P:bo}{w:df}{h h':dC}{d:a6}{xs:List (NK×a6×a9)}(e:∀b o,h.get? b=some o->h'.get? b=some o)(x:h.DictOfH (lO P w) d xs):h'.DictOfH (lO P w) d xs:=by
 obtain⟨o,es,ep,ho,h2,h3,h4,h5,h6⟩:=x
 exact⟨o,es,ep,e _ _ ho,h2,h3,h4,λy hy=>(h5 y hy).ext e,h6⟩
noncomputable def Zx(P:bo)(w:df)(H:Hp)(v rv:V)(k:Int):Prop:=∃p d kvs i j,v= .ref p/\H p=some (.tup [.int i,.int j])/\rv= .ref d/\ND P w H d kvs/\jR kvs (i,j,bd "p")=some (.int k)
noncomputable def Zw(P:bo)(w:df)(H:Hp)(v rv:V)(k:Int):Prop:=∃p d q kvs ky c r,v= .ref p/\H p=some (.tup [.ref q,.int c])/\jm H q ky/\rv= .ref d/\ND P w H d kvs/\jR kvs ky=some (.int r)/\k=c+r
noncomputable def EW(ps:ui)(body:Expr)(sc:lL)(x r:bv)(KV:bo->df->Hp->V->V->Int->Prop):Prop :=
 Gb ps body sc x r/\∀(P:bo) (w:df) (H:Hp) (v rv:V) (k:Int) (u ru:a9) (s:bc) (h:dC) (tk:Nat) (A:dL) (env:Env) (Q:a9->bc->Prop) (E:a9->bc->Prop),
  KV P w H v rv k->RelV v u->RelV rv ru->oA P w H h->A.units+2<cLine->MV P w h A env x r u ru →
  (∀h' tk' t,(∀b o,h.get? b=some o->h'.get? b=some o)->Q (.int k t) { s with heap:=h',toks:=tk' })->cf (model P w) A (eval body env) Q E { s with heap:=h,toks:=tk }
theorem Lv {ps:ui}{sc:lL}{x r:bv}{p1 p2 p3 p4 p5:re}{j k:Nat}(T:Gb ps (.Subscript (.Name r p1) (.Tuple [.Name x p2,.Constant (.str "p") j p3] k p4) p5) sc x r) :
  EW ps (.Subscript (.Name r p1) (.Tuple [.Name x p2,.Constant (.str "p") j p3] k p4) p5) sc x r Zx:=by
 refine⟨T,λP w H v rv ky u ru s h tk A env Q E kv rx rr ok hu L hQ=>?_⟩
 obtain⟨p,d,kvs,a,b,rfl,hp,rfl,nd,hv⟩:=kv
 cases rx
 cases rr
 obtain⟨_,_,xs,rel,dd⟩:=nd.raw ok
 obtain⟨w',hw,t',rfl⟩:=ow.some_of (v:=.int ky) (o:=(atKey xs (a,b,bd "p")).map (·.2)) (by rw[←hv];exact rel.val _)
 obtain⟨y,hy,RM⟩:=gN.mp hw
 refine vM PySem.F.slot_dict_getitem.lookup (λ_ _=>rfl) (L.r _ _ _ _ (λ_ _ e=>e) (wpAny_Tuple_spliced ?_))
 show cf _ _ (spliced ((false,eval (.Name x p2) env)::backTo p4 (eh [.Constant (.str "p") j p3] env))) _ _ _
 refine rh (L.x _ _ _ _ (λ_ _ e=>e) ?_)
 show cf _ _ (spliced ((false,eval (.Constant (.str "p") j p3) env)::backTo p4 (eh [] env))) _ _ _
 refine rh (vw (Calls.spliced_nil ⟨aw,?_⟩))
 have ext:∀b o,h.get? b=some o->(h.push { cls:=.type "tuple",data:=.seq [Value.ref p,Value.str "p" tk].toArray }).get? b=some o:=λb o e=>a8 _ e
 refine⟨(CP ext dd).typeIs (s:={ s with heap:=_,toks:=_ }),?_⟩
 refine vx (knd:=lO P w) (k:=(a,b,bd "p")) (show A.in1.units+1<cLine from hu) ?_ (CP ext dd) hy ?_
 ·exact⟨_,_,p,_,bp _ rfl,rfl,rfl,(xy (ks:=[.inl a,.inl b]) (ok.kept ext) hp)⟩
 ·rw[RM]
  exact hQ _ _ t' ext
theorem Lu{ps:ui}{sc:lL}{x r:bv}{p1 p2 p3 p4 p5 p6 p7 p8 p9:re}{j1 j2:Nat}(T:Gb ps (.BinOp (.Subscript (.Name x p1) (.Constant (.int 1) j1 p2) p3) .Add (.Subscript (.Name r p4) (.Subscript (.Name x p5) (.Constant (.int 0) j2 p6) p7) p8) p9) sc x r):
  EW ps (.BinOp (.Subscript (.Name x p1) (.Constant (.int 1) j1 p2) p3) .Add (.Subscript (.Name r p4) (.Subscript (.Name x p5) (.Constant (.int 0) j2 p6) p7) p8) p9) sc x r Zw:=by
 refine⟨T,λP w H v rv ky u ru s h tk A env Q E kv rx rr ok hu L hQ=>?_⟩
 obtain⟨p,d,q,kvs,key,c,n,rfl,hp,hk,rfl,nd,hv,rfl⟩:=kv
 cases rx
 cases rr
 obtain⟨_,_,xs,rel,dd⟩:=nd.raw ok
 obtain⟨w',hw,t',rfl⟩:=ow.some_of (v:=.int n) (o:=(atKey xs key).map (·.2)) (by rw[←hv];exact rel.val _)
 obtain⟨y,hy,RM⟩:=gN.mp hw
 obtain⟨_,its,rv,o,g1,g2,m,g3⟩:=(show bY P w H h p (.tup [.ref q,.int c]) from ok p _ hp)
 cases rv with
 |cons r1 rv =>
 cases rv with
 |cons r2 rv =>
 cases rv
 cases r1
 obtain⟨tc,rfl⟩:=(show ∃t,_=Value.int c t from r2)
 have hT:∀t,({ s with heap:=h,toks:=t }:bc).TypeIs (.ref p) "tuple" :=λt=>⟨o,g1,g2⟩
 refine wpAny_BinOp (Subscript_ (L.x _ _ _ _ (λ_ _ e=>e) (wpAny_Constant_int ?_)))
 refine r0 (T:= "tuple") (x:=.int c tc) (hT _) slot_tuple_getitem.lookup (getItem_tuple (j:=1) (items:= #[.ref q,.int c tc]) ⟨o,g1,g2,m,g3⟩ (by omega) (by omega) (by rfl) (by rfl) ⟨rfl,?_⟩) (by with_unfolding_all rfl)
 refine vM PySem.F.slot_dict_getitem.lookup (λ_ _=>rfl) (L.r _ _ _ _ (λ_ _ e=>e) (Subscript_ (L.x _ _ _ _ (λ_ _ e=>e) (wpAny_Constant_int ?_))))
 refine r0 (T:= "tuple") (x:=.ref q) (hT _) slot_tuple_getitem.lookup (getItem_tuple (j:=0) (items:= #[.ref q,.int c tc]) ⟨o,g1,g2,m,g3⟩ (by omega) (by omega) (by rfl) (by rfl) ⟨rfl,?_⟩) (by with_unfolding_all rfl)
 refine⟨dd.typeIs (s:={ s with heap:=h,toks:=_ }),vx (knd:=lO P w) (k:=key) (show A.in1.units+1<cLine from hu) (k_of ok hk) dd hy ?_⟩
 rw[RM]
 exact add_int (hQ _ _ _ λ_ _ e=>e)
end
section
noncomputable def nW(P:a6)(ps:Array a9):HO:=.ext λh=>h.get? P=some (PySem.W.tabObj ps)
noncomputable def MN(c:a6)(q:bv):HO:=.ext λh=>h.CodeRec (.ref c) q
noncomputable def TabOk(H:Hp)(P:a6)(ln:re)(q:bv):Prop:=H P=some (nW P #[])\/∃c',H P=some (nW P #[rawInt ln.line,rawInt ln.col,.ref c'])/\H c'=some (MN c' q)
noncomputable def MX(base:dC)(mg:bv->Option a9):Prop:=∃bm ob,mg "__builtins__" =some (.ref bm)/\bm≠builtinsNs/\base.get? bm=some ob/\ob.cls= .type "module" /\ob.dict=some builtinsNs/\ob.data= .plain
theorem E9{Pr:bo}{w:df}{H:Hp}{h:dC}{P:a6}{ps:Array a9}(e:h.get? P=some (PySem.W.tabObj ps)):bY Pr w H h P (nW P ps):=⟨e,⟨_,e⟩,λ_ _ a k=>k _ a⟩
theorem Pe{Pr:bo}{w:df}{H:Hp}{h:dC}{c:a6}{q:bv}(e:h.CodeRec (.ref c) q):bY Pr w H h c (MN c q):=by
 refine⟨e,?_,λh1 h2 a k=>?_⟩
 ·obtain⟨c₂,o,vs,t,e0,e1,_⟩:=e
  cases e0
  exact⟨o,e1⟩
 ·obtain⟨c₂,o,vs,t,e0,e1,e2⟩:=a
  cases e0
  exact⟨c,o,vs,t,rfl,k _ e1,e2⟩
section
variable{X:Cx}{pins:List (a6×lv)}{σ:St}{H:Hp}{s:bc}
theorem Inv.tab(I:Inv X pins σ H s){P:a6}{ps:Array a9}(e:H P=some (nW P ps)):s.heap.get? P=some (PySem.W.tabObj ps):=(I.hok P _ e).1
theorem Inv.cd(I:Inv X pins σ H s){c:a6}{q:bv}(e:H c=some (MN c q)):s.heap.CodeRec (.ref c) q:=(I.hok c _ e).1
theorem Inv.NQ(I:Inv X pins σ H s){P c:a6}{ps ps':Array a9}{q:bv}{h' h2:dC}{t':Nat}(e:H P=some (nW P ps))(hx:wP P s.heap h')(hc:s.heap.objs.size<=c)(hr:h'.CodeRec (.ref c) q)(ht:h'.get? P=some (PySem.W.tabObj ps'))
  (k2:∀b o,h'.get? b=some o->h2.get? b=some o) (hup:s.toks<=t'):Inv X pins σ (upd (upd H P (nW P ps')) c (MN c q)) { s with heap:=h2,toks:=t' }:=by
 have hn:H c=none:=I.hok.fresh hc
 have Ys:c≠P:=λz=>by rw[z,e]at hn;cases hn
 have lt:∀b o,s.heap.get? b=some o->b≠c:=λb o q=>dy (cq (ca q) hc)
 have Wd:∀b,H b=none->b≠P:=λb q z=>by rw[z,e]at q;cases q
 have other:∀b u,(∀ φ,u≠HO.ext φ)->H b=some u->upd (upd H P (nW P ps')) c (MN c q) b=some u:=λb u hu q=>by
  rw[aq (λz=>by rw[z,hn]at q;cases q),aq (λz=>by rw[z,e]at q;cases q;exact hu _ rfl)]
  exact q
 have kp:∀b o,b≠P->s.heap.get? b=some o->h2.get? b=some o:=λb o hb q=>k2 b o (hx b o hb q)
 refine I.un ⟨λb o q n _ _=>kp b o (Wd b n) q,λb o q n _ _=>⟨o.slots,kp b o (Wd b n) q⟩,λb o q n _=>?_,λb o q _=>?_,λb xs q=>other b _ (λ_ z=>by cases z) q,λb o u q=>other b _ (λ_ z=>by cases z) q,λb ps q=>⟨#[],by rw[other b _ (λ_ z=>by cases z) q];simp⟩⟩ (λb u q=>?_) hup
 ·rw[aq (lt b o q),aq (Wd b n)]
  exact n
 ·by_cases z:b=P
  ·subst z;exact⟨_,k2 _ _ ht⟩
  ·exact⟨o,kp b o z q⟩
 ·by_cases z:b=c
  ·subst z
   rw[ah]at q
   cases q
   exact Pe (qJ k2 hr)
  ·rw[aq z]at q
   by_cases z2:b=P
   ·subst z2
    rw[ah]at q
    cases q
    exact E9 (k2 _ _ ht)
   ·rw[aq z2]at q
    refine(I.hok b u q).stay (λd v hd qd=>kp d v ?_ qd) (λd qd=>other d _ (λ_ z=>by cases z) qd) λd xs qd=>other d _ (λ_ z=>by cases z) qd
    rcases hd with hd|hd
    ·rw[hd];exact z2
    ·intro z3
     rw[z3,e]at hd
     cases hd
end
theorem NY{K:PySem.W.Frag}{H1 H2:Hp}{l:a6}{vs:List V}(k:∀b u,(∀ φ,u≠HO.ext φ)->H1 b=some u->H2 b=some u)(h:cA K H1 l vs):cA K H2 l vs:=by
 rcases h with(h|⟨o,h⟩)|h
 ·exact .inl (.inl (k _ _ (λ_ z=>by cases z) h))
 ·exact .inl (.inr ⟨o,k _ _ (λ_ z=>by cases z) h⟩)
 ·exact .inr h
theorem CV{sc:lL}{env:Env}{x r:bv}{c:a6}(hn:sc.names=[(x,.local),(r,.free)])(hc:env.cells.lookup r=some c):closureFor sc env=pure [(r,c)]:=by
 have z:=pF (env:=env) sc.names [] (λy hy hk=>by
  rw[hn]at hy
  simp only[cm,fA,or_false]at hy
  rcases hy with rfl|rfl
  ·cases hk
  ·exact⟨c,hc⟩)
 unfold closureFor
 dsimp only
 rw[z,hn]
 have e:oS (λx=>env.cells.lookup x) [(x,NameKind.local),(r,e_)] []=[(r,c)]:=by
  unfold oS
  rw[if_neg (by decide)]
  unfold oS
  rw[if_pos (by decide)]
  show(match env.cells.lookup r with|some a=>oS _ [] ((r,a)::[])|none=>oS _ [] [])=_
  rw[hc]
  rfl
 rw[e]
 rfl
theorem IW{P:bo}{w:df}{H H':Hp}{h:dC}{d Pt:a6}{kvs:List NE}{ps:Array a9}{φ:dC->Prop}(nd:ND P w H d kvs)(ok:oA P w H h)(ht:h.get? Pt=some (PySem.W.tabObj ps))(hP:H Pt=some (.ext φ))(off:∀b u,b≠Pt->H b=some u->H' b=some u):ND P w H' d kvs:=by
 have neT:∀{b:a6} {xs:List V},H b=some (.tup xs)->b≠Pt:=λ{b xs} e z=>by rw[z,hP]at e;cases e
 refine⟨off _ _ (λz=>?_) nd.at_,λx hx=>?_⟩
 ·obtain⟨_,_,xs,_,o,es,ep,ho,hc,_⟩:=(ok d _ nd.at_).1
  rw[z,ht]at ho
  cases ho
  exact absurd hc.1 (by intro q;cases q)
 ·obtain⟨p,h1,h2⟩:=nd.keys x hx
  exact⟨p,off _ _ (neT h1) h1,off _ _ (neT h2) h2⟩
noncomputable def Kh(KV:bo->df->Hp->V->V->Int->Prop):Prop:=∀(P:bo) (w:df) (H H':Hp) (h:dC) (v rv:V) (k:Int) (Pt:a6) (ps:Array a9) (φ:dC->Prop),
 KV P w H v rv k->oA P w H h->h.get? Pt=some (PySem.W.tabObj ps)->H Pt=some (.ext φ)->(∀b u,b≠Pt->H b=some u->H' b=some u)->KV P w H' v rv k
theorem Ly:Kh Zx:=λP w H H' h v rv k Pt ps φ kv ok ht hP off=>by
 obtain⟨p,d,kvs,i,j,rfl,hp,rfl,nd,hv⟩:=kv
 exact⟨p,d,kvs,i,j,rfl,off _ _ (λz=>by rw[z,hP]at hp;cases hp) hp,rfl,IW nd ok ht hP off,hv⟩
theorem Lx:Kh Zw:=λP w H H' h v rv k Pt ps φ kv ok ht hP off=>by
 obtain⟨p,d,q,kvs,ky,c,r,rfl,hp,⟨q2,k1,k2⟩,rfl,nd,hv,rfl⟩:=kv
 have neT:∀{b:a6} {xs:List V},H b=some (.tup xs)->b≠Pt:=λ{b xs} e z=>by rw[z,hP]at e;cases e
 exact⟨p,d,q,kvs,ky,c,r,rfl,off _ _ (neT hp) hp,⟨q2,off _ _ (neT k1) k1,off _ _ (neT k2) k2⟩,rfl,IW nd ok ht hP off,hv,rfl⟩
noncomputable def Apart(Pr:bo)(wo:df)(H:Hp)(P:a6):Prop:=(∀b q,H b=some (MN b q)->b≠P)/\∀d kvs,H d=some (Aq Pr wo d kvs)->d≠P
theorem CZ{P:bo}{w:df}{H:Hp}{h:dC}{Pt:a6}{ps:Array a9}(ok:oA P w H h)(ht:h.get? Pt=some (PySem.W.tabObj ps))(hp:∀q t,ps[1]? ≠some (.str q t)):Apart P w H Pt:=by
 refine⟨λb q e z=>?_,λd kvs e z=>?_⟩
 ·obtain⟨c₂,o,vs,t,e0,e1,e2,e3⟩:=(ok b _ e).1
  cases e0
  rw[z,ht]at e1
  cases e1
  cases e2
  exact hp _ _ e3
 ·obtain⟨_,_,xs,_,o,es,ep,ho,hc,_⟩:=(ok d _ e).1
  rw[z,ht]at ho
  cases ho
  exact absurd hc.1 (by intro q;cases q)
noncomputable def Qw(Pr:bo)(wo:df)(K:PySem.W.Frag)(KV:bo->df->Hp->V->V->Int->Prop)(P:a6)(ln:re)(lq:bv)(ir:Nat)(ta:TA):TE:=λσ H Q=>ta σ H λzs H1=>∃(l:a6) (vs:List V) (rv:V) (kf:Nat->Int),zs=[.ref l]/\σ[ir]? =some (some rv)/\cA K H1 l vs/\0<vs.length ∧
 (∀i v,vs[i]? =some v->KV Pr wo H1 v rv (kf i))/\TabOk H1 P ln lq/\∀H2,Apart Pr wo H1 P->(∀b u,b≠P->H1 b=some u->H2 b=some u)->TabOk H2 P ln lq->∀i v,vs[i]? =some v->L7 kf vs.length i->Q v H2
theorem FA{X:Cx}{c P:a6}{e:Expr}{ta:TA}{p pos qY Jq:re}{ps:ui}{body:Expr}{sc:lL}{x r:bv}{ir:Nat}{KV:bo->df->Hp->V->V->Int->Prop}{Pr:bo}{wo:df}{K':PySem.W.Frag}(LK:EW ps body sc x r KV)(KO:Kh KV)(hn:sc.names=[(x,.local),(r,.free)])
  (hcode:X.env.code= .ref c) (hC:PySem.W.codeHdIn X.K c P=true) (hbm:MX X.base X.mg) (JF:X.calm=true) (hroom:X.A.depth<recursionLimit) (hu:X.A.units+16<cLine)
  (hg:Gl X "min") (hm:X.mg "min" =none) (hv:bootBuiltins "min" =some (.builtin "min")) (hN:X.N[ir]? =some r) (hcell:X.env.kindOf r=some .cell) (ha:PA X [e] ta) (hP:X.prog=Pr) (hw:X.w=wo) (hK:X.K=K') (hd0:defaultsOf ps X.env=([],[]):=by rfl)
  (he:backTo pos (eh [e] X.env)=(false,eval e X.env)::backTo pos (eh [] X.env):=by rfl) (hpl:(backTo pos (eh [e] X.env)).any (·.1)=false:=by rfl) :
  PE X (.Call (.Name "min" p) [e] [⟨some (bd "key"),.Lambda ps body sc qY,Jq⟩] pos) (Qw Pr wo K' KV P qY (X.env.qual++ "<lambda>") ir ta):=by
 subst hP hw hK
 intro pins s σ H Q I h
 refine mI (qk I hg hm hv ?_)
 refine callWith_kw (gg (ha pos pins s σ H _ I h) λus s1 ⟨zs,H1,I1,r1,q1⟩=>?_) he hpl rfl rfl
 obtain⟨l,vs,rv,kf,rfl,hir,hq,hne,hkv,hT,k⟩:=q1
 obtain⟨u,rfl,rx⟩:=vals1 r1
 cases rx
 obtain⟨m,hns,hl⟩:=I1.loc
 obtain⟨ru,ZJ,lk⟩:=hl ir r rv hN hir (.inr (.inl hcell))
 obtain⟨cc,hcc,hic⟩:∃cc,X.env.cells.lookup r=some cc/\s1.heap.IsCell cc (some ru):=by
  rcases lk with⟨z,_⟩|⟨_,z⟩
  ·rw[hcell]at z;cases z
  ·exact z
 have hcl:=CV hn hcc
 refine kws_cons (PySem.W.kla_eval hd0 ?_)
 have hgs:s1.heap.Ns cn X.mg:=I1.mod.glob.keeps I1.bk
 obtain⟨bm,ob,b1,b2,b3,b4,b5,b6⟩:=hbm
 have Qh:=I1.bk _ _ b3
 have Zk:=PySem.W.codeHd_of_K I1.rD hC
 have ext:∃ φ,H1 P=some (.ext φ):=by
  rcases hT with hT|⟨_,hT,_⟩
  ·exact⟨_,hT⟩
  ·exact⟨_,hT⟩
 obtain⟨φ,hφ⟩:=ext
 have hAp:Apart X.prog X.w H1 P:=by
  rcases hT with hT|⟨_,hT,_⟩
  ·exact CZ I1.hok (I1.tab hT) (λq t z=>by cases z)
  ·exact CZ I1.hok (I1.tab hT) (λq t z=>by cases z)
 have after:∀(q:a6) (H2:Hp) (s2:bc),Inv X pins σ H2 s2->(∀b u,b≠P->H1 b=some u->H2 b=some u)->TabOk H2 P qY (X.env.qual++ "<lambda>")->cA X.K H2 l vs->xX s2.heap q (X.env.qual++ "<lambda>") ps body sc [(r,cc)]->s2.heap.IsCell cc (some ru)->(∀i v,vs[i]? =some v->KV X.prog X.w H2 v rv (kf i)) →
   cf (model X.prog X.w) X.A (evalAll ((backToKw pos (keywordEach [] X.env)).map (·.2)))
    (λkvs s₂=>cf (model X.prog X.w) X.A (call (.builtin "min") [.ref l] (((backToKw pos (keywordEach [⟨some (bd "key"),.Lambda ps body sc qY,Jq⟩] X.env)).filterMap (·.1)).zip (.ref q::kvs))) (EP X pins σ Q) X.xe s₂) X.xe s2:=by
  intro q H2 s2 I2 TU hT2 hq2 Xo hc2 W7
  refine kws_nil ?_
  show cf _ X.A (call (.builtin "min") [.ref l] [(bd "key",.ref q)]) _ _ s2
  have k1:=k H2 hAp TU hT2
  obtain⟨its,r',pl,hz⟩:=I2.list hq2
  have hlen:=r'.length
  refine TK.cH (ba _) (G7 (kf:=kf) (I2.ok.hd JF) pl.isList (λi v h tk Q' hv' kp hQ=>?_) (by omega) λi v h' tk' hv' hb kp hup=>?_)
  ·have hi:i<its.length:=(bj.mp hv').1
   have hi1:i<vs.length:=by omega
   obtain⟨u',eu,VV⟩:=r'.get (a7 hi1)
   rw[hv']at eu
   cases eu
   obtain⟨oc,gc1,gc2⟩:=hc2
   refine GL (s:={ s2 with heap:=h,toks:=tk }) (A:=X.A.in1) (rv:=ru) (Xo.keep kp) LK.1 ⟨oc,kp _ _ gc1,gc2⟩ (I2.nolimit.keeps kp) hroom λenv A' h1 Mg E' hA Jq L=>?_
   refine LK.2 X.prog X.w H2 vs[i] rv (kf i) v ru s2 h1 Mg A' env _ _ (W7 i _ (a7 hi1)) VV ZJ (I2.hok.kept λb o z=>Jq b o (kp b o z)) (by rw[hA];show X.A.units+1+3+2<cLine;omega) L λh' tk' t k'=>?_
   exact hQ h' tk' t λb o z=>k' b o (Jq b o z)
  ·have hi:i<its.length:=(bj.mp hv').1
   have hi1:i<vs.length:=by omega
   obtain⟨u',eu,VV⟩:=r'.get (a7 hi1)
   rw[hv']at eu
   cases eu
   refine⟨vs[i],H2,I2.kept kp hup,VV,k1 i _ (a7 hi1) ?_⟩
   rw[show vs.length=its.length by omega]
   exact hb
 have off:∀b,H1 b=none->b≠P:=λb q z=>by rw[z,hφ]at q;cases q
 have Q3:∀{ps':Array a9},H1 P=some (nW P ps')->s1.heap.get? P=some (PySem.W.tabObj ps')->cn≠P/\bm≠P/\cc≠P:=λ{ps'} e e'=>by
  refine⟨λz=>?_,λz=>?_,λz=>?_⟩
  ·obtain⟨o,es,ep,eo,hd,_⟩:=hgs
   rw[z,e']at eo;cases eo;cases hd
  ·rw[z,e']at Qh;cases Qh;cases b4
  ·obtain⟨o,g1,g2⟩:=hic
   rw[z,e']at g1;cases g1;cases g2
 have Zr:bm≠cn:=λz=>by
  obtain⟨o,es,ep,eo,hd,_⟩:=hgs
  rw[z,eo]at Qh;cases Qh;rw[hd]at b6;cases b6
 rcases id hT with e0|⟨c',e0,ec⟩
 ·have tb:=I1.tab e0
  obtain⟨n1,n2,n3⟩:=Q3 e0 tb
  refine TK.cH (ba _) (PySem.W.kla_makeFunction (mg:=X.mg) (ps:= #[]) hcl I1.ok.glob hgs hcode Zk tb trivial rfl n1 ⟨bm,ob,b1,b2,Zr,n2,Qh,b4,b5,b6⟩ λc' ctv h' tk hx hge hlt hrec htb hup=>?_)
  have hcn:H1 c'=none:=I1.hok.fresh hge
  have Ys:P≠c':=λz=>off c' hcn z.symm
  have htb':h'.get? P=some (PySem.W.tabObj #[rawInt qY.line,rawInt qY.col,.ref c']):=by
   have:=htb
   rwa [show(#[]:Array a9)++ #[rawInt qY.line,rawInt qY.col,Value.ref c']= #[rawInt qY.line,rawInt qY.col,Value.ref c'] from rfl]at this
  have hoff:∀b u,b≠P->H1 b=some u->upd (upd H1 P (nW P #[rawInt qY.line,rawInt qY.col,.ref c'])) c' (MN c' (X.env.qual++ "<lambda>")) b=some u:=λb u hb q=>by
   rw[aq (λz=>by rw[z,hcn]at q;cases q),aq hb]
   exact q
  refine after _ (upd (upd H1 P (nW P #[rawInt qY.line,rawInt qY.col,.ref c'])) c' (MN c' (X.env.qual++ "<lambda>"))) _ (I1.NQ e0 hx hge hrec htb' (λb o q=>a8 _ q) hup) hoff (.inr ⟨c',by rw[aq Ys,ah],ah⟩) ?_ ⟨_,c',ctv,bp _ rfl,qJ (λb o q=>a8 _ q) hrec⟩ ?_ λi v hi=>KO _ _ _ _ _ _ _ _ _ _ _ (hkv i v hi) I1.hok tb e0 hoff
  ·refine NY (λb u hu q=>?_) hq
   rw[aq (λz=>by rw[z,hcn]at q;cases q),aq (λz=>by rw[z,e0]at q;cases q;exact hu _ rfl)]
   exact q
  ·obtain⟨o,g1,g2⟩:=hic
   exact⟨o,a8 _ (hx _ _ n3 g1),g2⟩
 ·have tb:=I1.tab e0
  obtain⟨n1,n2,n3⟩:=Q3 e0 tb
  refine TK.cH (ba _) (PySem.W.kla_makeFunctionHit (mg:=X.mg) (ps:= #[rawInt qY.line,rawInt qY.col,.ref c']) (cv:=.ref c') hcl I1.ok.glob hgs hcode Zk tb ?_ ?_ ⟨bm,ob,b1,b2,Zr,n2,Qh,b4,b5,b6⟩ λctv h' tk kp hsz hup=>?_)
  ·show TriplesOk [rawInt _,rawInt _,_]
   exact trivial
  ·exact codeAmong_snoc [] trivial rfl
  ·obtain⟨o,g1,g2⟩:=hic
   exact after _ H1 _ (I1.kept (λb o q=>a8 _ (kp b o q)) hup) (λb u _ q=>q) hT hq ⟨_,c',ctv,bp _ rfl,qJ (λb o q=>a8 _ (kp b o q)) (I1.cd ec)⟩ ⟨o,a8 _ (kp _ _ g1),g2⟩ hkv
end
section
noncomputable def dJ(K:PySem.W.Frag)(n:bv):a6:=match PySem.W.nsIn K cn n with
 |some (some (.ref f))=>(match K.lookup f with
  |some ⟨_,_,.func fd,_⟩=>(match fd.code with
   | .ref c=>(match K.lookup c with
    |some ⟨_,_,.fields vs,_⟩=>(match (vs[11]? :Option a9)with|some (.ref P)=>P|_=>0)
    |_=>0)
   |_=>0)
  |_=>0)
 |_=>0
noncomputable def pM(K:PySem.W.Frag)(n:bv):Bool:=match PySem.W.nsIn K cn n with
 |some (some (.ref f))=>(match K.lookup f with
  |some ⟨_,_,.func fd,_⟩=>(match fd.code with
   | .ref c=>PySem.W.codeHdIn K c (dJ K n)&&(K.lookup (dJ K n)).isNone
   |_=>false)
  |_=>false)
 |_=>false
theorem Jo{K:PySem.W.Frag}{n:bv}{f:a6}{oc:a9}{od:Option a6}{fd:db}{osl:Array (Option a9)}(h:pM K n=true)(a:PySem.W.nsIn K cn n=some (some (.ref f)))(l:K.lookup f=some ⟨oc,od,.func fd,osl⟩):
  ∃c,fd.code= .ref c/\PySem.W.codeHdIn K c (dJ K n)=true:=by
 unfold pM at h
 rw[a]at h
 simp only[l]at h
 split at h
 ·rename_i c hc
  exact⟨c,hc,(Bool.and_eq_true_iff.mp h).1⟩
 ·cases h
theorem Cs{K:PySem.W.Frag}{n:bv}(h:pM K n=true):(∃c,PySem.W.codeHdIn K c (dJ K n)=true)/\K.lookup (dJ K n)=none:=by
 unfold pM at h
 split at h
 ·split at h
  ·split at h
   ·obtain⟨h1,h2⟩:=Bool.and_eq_true_iff.mp h
    exact⟨⟨_,h1⟩,Option.isNone_iff_eq_none.mp h2⟩
   ·cases h
  ·cases h
 ·cases h
section
variable{P:bo}{w:df}{K:PySem.W.Frag}{mg:bv->Option a9}{base:dC}
theorem KI.Yk{x qual:bv}{st:gl}{f:a6}{fd:db}{N ps:List bv}{k:Nat}{sp:Sp}(F:KI K x qual st f fd)(W0:pM K x=true)(hns:PySem.W.nsIn K cn x=some (some (.ref f)))(S:aE N ps (ay st))(len:∀vs H Q E,sp vs H Q E->vs.length=ps.length)
  (hbody:∀(c:a6) (A:dL) (outer:List Env) (s:bc) (H:Hp) (vs:List V) (Q:VK) (E:XK),PySem.W.codeHdIn K c (dJ K x)=true->jT k (A.deeper (envOfC qual (ay st) s.heap.objs.size f (.ref c)))->sp vs H Q E →
   ∃t,Bt (uB cB P w K mg base N qual (ay st) f (.ref c) A outer s H E).PM (dW st) t/\t { nx:=λ_ H'=>Q .jy H',rt:=Q } (start N vs) H):aI P w K mg base cB (k+1) f fd ps sp:=by
 obtain⟨oc,od,dV,kV,doc,pm,an,cdv,ct,osl,rfl,lk,hcd⟩:=F.ex
 obtain⟨c,e1,e2⟩:=Jo W0 hns lk
 have e1':cdv= .ref c:=e1
 subst e1'
 refine JK lk hcd S len λA outer s H vs Q E hr HE=>?_
 obtain⟨t,h,q⟩:=hbody c A outer s H vs Q E e2 hr HE
 exact⟨t,h.PM,q⟩
end
set_option maxHeartbeats 1000000 in
theorem GK{P:bo}{w:df}{K:PySem.W.Frag}{mg mb:bv->Option a9}{CX:HH}{k:Nat}{fa a:a6}{ts:List a6}{fd:db}{x:bv}{sp:Sp}{s₁:bc}{vs:List a9}{ns:List Int}
  (KX:K.In s₁.heap) (hns:s₁.heap.Ns cn mg) (hb:s₁.heap.Ns builtinsNs mb) (hbb:∀x:bv,x≠ "__name__" ->mb x=bootBuiltins x) (hlim:s₁.heap.NoLimit) (hg:s₁.gens= #[]) (htk:ER mg s₁.toks) (hbm:MX s₁.heap mg)
  (hT:∀P∈ts,s₁.heap.get? P=some (PySem.W.tabObj #[])) (hTk:∀P∈ts,K.lookup P=none) (hTc:∀P∈ts,∃c,PySem.W.codeHdIn K c P=true)
  (ha:s₁.heap.get? a=some { cls:=.type "list",data:=.seq vs.toArray }) (hi:IntsAre vs ns) (hl:ns.length<=b_) (hr:jT k callerA)
  (F:∀base:dC,K.In base->base.Ns cn mg->MX base mg->aI P w K mg base CX k fa fd [x] sp) (hbind:∀(s:bc) (u:a9),BindsTo s fd ⟨[u],[]⟩ [(x,u)])
  (HE:∀H:Hp,(∀P∈ts,H P=some (nW P #[]))->cA K H a (ns.map V.int)->sp [.ref a] H (λv H'=>v= .bl true/\∀P∈ts,∃ps,H' P=some (nW P ps)) λ_ _ _=>False)
  (Xs:∀H e s',CX [] H s₁ (λ_ _ _=>False) e s'->False) :
  codeAny (model P w) callerA (.call (.ref fa) ⟨[.ref a],[]⟩) (λr s'=>r= .ok (.ret (.bool true))/\OldK s₁.heap s'.heap/\s'.os=s₁.os/\AllBare s'.gens) s₁:=by
 have rv:=yP hi
 have Wl:=hi.length
 have Yt:a∉ts:=λz=>by have:=hT a z;rw[ha]at this;cases this
 have core:∀H:Hp,(∀b,H b=none\/b∈ts\/∃o xs,H b=some (.EC o (.lst xs)))->(∀P∈ts,H P=some (nW P #[]))->cA K H a (ns.map V.int)->oA P w H s₁.heap->(∀b,H b≠none->b=a\/b∈ts)->(H a≠none->K.lookup a=none) →
   codeAny (model P w) callerA (.call (.ref fa) ⟨[.ref a],[]⟩) (λr s'=>r= .ok (.ret (.bool true))/\OldK s₁.heap s'.heap/\s'.os=s₁.os/\AllBare s'.gens) s₁:=by
  intro H hO hPt hS hok hA hK
  have baseOf:∀{b:a6} {o:lv},s₁.heap.get? b=some o->H b=none->(yw s₁.heap H).get? b=some o:=λe n=>JB e n
  have free:∀{b:a6} {o:lv},s₁.heap.get? b=some o->o≠{ cls:=.type "list",data:=.seq vs.toArray }->o≠PySem.W.tabObj #[]->H b=none:=λ{b o} e d1 d2=>by
   cases q:H b with
   |none=>rfl
   |some u =>
    rcases hA b (by rw[q];simp)with e'|e'
    ·subst e';rw[ha]at e;cases e;exact absurd rfl d1
    ·rw[hT b e']at e;cases e;exact absurd rfl d2
  have Ti:∀{b:a6} {m:bv->Option a9},s₁.heap.Ns b m->(yw s₁.heap H).Ns b m:=λ{b m} ⟨o,es,ep,e,d,r⟩=>⟨o,es,ep,baseOf e (free e (λz=>by rw[z]at d;cases d) (λz=>by rw[z]at d;cases d)),d,r⟩
  have Zc:K.In (yw s₁.heap H):=λb o e=>baseOf (KX b o e) (by
   cases q:H b with
   |none=>rfl
   |some u =>
    rcases hA b (by rw[q];simp)with e'|e'
    ·subst e';rw[hK (by rw[q];simp)]at e;cases e
    ·rw[hTk b e']at e;cases e)
  have hBb:MX (yw s₁.heap H) mg:=by
   obtain⟨bm,ob,b1,b2,b3,b4,b5,b6⟩:=hbm
   exact⟨bm,ob,b1,b2,baseOf b3 (free b3 (λz=>by rw[z]at b6;cases b6) (λz=>by rw[z]at b6;cases b6)),b4,b5,b6⟩
  have hM:Mod K mg (yw s₁.heap H):=⟨Zc,Ti hns,⟨mb,Ti hb,hbb⟩,let ⟨mc,h1,h2⟩:=hlim;⟨mc,Ti h1,h2⟩⟩
  have e0:E4 P w K mg (yw s₁.heap H) callerA [] s₁ H:=⟨rfl,hM,λb o e=>Lh e,Nat.le_of_eq (GY _ _),trivial,λb hb=>absurd (show b∈([]:List a6) from hb) (by simp),hok,.of_eq hg,htk⟩
  refine rk ((F _ Zc (Ti hns) hBb).run callerA [] s₁ H ⟨[.ref a],[]⟩ [.ref a] [.ref a] _ _ hr e0 (hbind s₁ (.ref a)) (.cons rfl .nil) (HE H hPt hS)) λr s' h=>?_
  cases r with
  |error e=>exact(Xs H e s' h).elim
  |ok fl =>
   cases fl with
   |next=>exact km h
   |brk=>exact km h
   |cont=>exact km h
   |ret u =>
    obtain⟨v,H',os,bare,un,RX,r',_,q,qT⟩:=h
    have q':v= .bl true:=q
    subst q'
    obtain rfl:u=Value.bool true:=r'
    have tb:∀P∈ts,∃ps',s'.heap.get? P=some (PySem.W.tabObj ps'):=λP hP=>by obtain⟨ps',z⟩:=qT P hP;exact⟨ps',(RX P _ z).1⟩
    have kp:∀b o,b∉ts->s₁.heap.get? b=some o->s'.heap.get? b=some o:=λb o KD e=>by
     cases q:H b with
     |none=>exact un.keep b o e q (by intro z;exact absurd (show b∈([]:List a6) from z) (by simp)) (by simp)
     |some u =>
      rcases hO b with z|z|⟨ob,xs,z⟩
      ·rw[q]at z;cases z
      ·exact absurd z KD
      ·have z2:=un.uy b ob _ z
       obtain⟨e1,_⟩:=hok b _ z
       obtain⟨e2,_⟩:=RX b _ z2
       rw[e]at e1;cases e1
       exact e2
    refine⟨rfl,⟨λb o e=>?_,λb o e=>?_⟩,os,bare⟩
    ·by_cases KD:b∈ts
     ·rw[hT b KD]at e
      cases e
      obtain⟨c,hc⟩:=hTc b KD
      obtain⟨ps',e1⟩:=tb b KD
      have hcd:=PySem.W.codeHd_of_K KX hc
      exact .inr (.inl ⟨(hcd.tab (hT b KD)).isCodeTable,rfl,#[],ps',rfl,by rw[e1];simp[PySem.W.tabObj]⟩)
     ·exact .inl (kp b o KD e)
    ·by_cases KD:b∈ts
     ·obtain⟨ps',e1⟩:=tb b KD
      exact⟨_,e1⟩
     ·exact⟨o,kp b o KD e⟩
 have Yj:∀(H:Hp) (b:a6),b∈ts->bY P w H s₁.heap b (nW b #[]):=λH b hb=>E9 (hT b hb)
 cases hk:K.lookup a with
 |some o =>
  have e:=KX a o hk
  rw[ha]at e
  cases e
  refine core (λb=>if b∈ts then some (nW b #[])else none) (λb=>?_) (λb hb=>if_pos hb) (.inr ⟨_,vs.toArray,_,hk,rfl,rfl,rfl,by rw[dq,Wl];exact hl,by simpa using rv⟩) (λb u z=>?_) (λb z=>?_) λz=>absurd (if_neg Yt) z
  ·by_cases hb:b∈ts
   ·exact .inr (.inl hb)
   ·exact .inl (if_neg hb)
  ·by_cases hb:b∈ts
   ·have z':=(if_pos hb).symm.trans z
    cases z'
    exact Yj _ b hb
   ·have z':=(if_neg hb).symm.trans z
    cases z'
  ·by_cases hb:b∈ts
   ·exact .inr hb
   ·exact absurd (if_neg hb) z
 |none =>
  refine core (λb=>if b=a then some (.EC { cls:=.type "list",data:=.seq vs.toArray } (.lst (ns.map V.int)))else if b∈ts then some (nW b #[])else none) (λb=>?_) (λb hb=>?_) (.inl (.inr ⟨{ cls:=.type "list",data:=.seq vs.toArray },if_pos rfl⟩)) (λb u z=>?_) (λb z=>?_) λ_=>hk
  ·by_cases hb:b=a
   ·exact .inr (.inr ⟨_,_,if_pos hb⟩)
   ·by_cases hb2:b∈ts
    ·exact .inr (.inl hb2)
    ·exact .inl ((if_neg hb).trans (if_neg hb2))
  ·exact(if_neg (λz:b=a=>Yt (z▸hb))).trans (if_pos hb)
  ·by_cases hb:b=a
   ·have z':=(if_pos hb).symm.trans z
    cases z'
    subst hb
    exact⟨ha,by rw[a_];exact hl,vs,_,rv,ha⟩
   ·by_cases hb2:b∈ts
    ·have z':=((if_neg hb).trans (if_pos hb2)).symm.trans z
     cases z'
     exact Yj _ b hb2
    ·have z':=((if_neg hb).trans (if_neg hb2)).symm.trans z
     cases z'
  ·by_cases hb:b=a
   ·exact .inl hb
   ·by_cases hb2:b∈ts
    ·exact .inr hb2
    ·exact absurd ((if_neg hb).trans (if_neg hb2)) z
theorem Gh{l:PySem.W.OpenLaw}{n k N t:Nat}{q:bo}{loose:List bv}{XP:(bv->Option a9)->dC->Prop}{as:List a6}{d:DefRec}{K K':Params->PySem.W.Frag}{CX:df->HH}{sp:df->Sp}{x:bv}{nms:List bv}
  (hn:l.most=some n) (hn2:n<=b_) (hdf:d.params.defaults=[]) (hr:jT k callerA)
  (hk:∀P,as=(K P).map (·.1)) (ht:0<t)
  (hY:∀(P:Params) (h:dC),(K P).In h->(K' P).In h) (hYT:∀(P:Params) (h:dC),(K P).In h->∀nm∈nms,h.get? (dJ (K' P) nm)=some (PySem.W.tabObj #[])) (hL:∀w:df,∀nm∈nms,pM (K' w.params) nm=true)
  (F:∀(w:df) (mg:bv->Option a9) (fa:a6) (h:dC),(K' w.params).In h->h.Ns cn mg->mg d.name=some (.ref fa) →
   ∃fd:db,(∀(s:bc) (u:a9),BindsTo s fd ⟨[u],[]⟩ [(x,u)]) ∧
    ∀base:dC,(K' w.params).In base->base.Ns cn mg->MX base mg->aI l.prog w (K' w.params) mg base (CX w) k fa fd [x] (sp w))
  (HE:∀(w:df) (H:Hp) (a:a6) (ns:List Int),ns.length<=n->(∀nm∈nms,H (dJ (K' w.params) nm)=some (nW (dJ (K' w.params) nm) #[]))->cA (K' w.params) H a (ns.map V.int)->sp w [.ref a] H (λv H'=>v= .bl true/\∀nm∈nms,∃ps,H' (dJ (K' w.params) nm)=some (nW (dJ (K' w.params) nm) ps)) λ_ _ _=>False)
  (Xs:∀(w:df) (H:Hp) (s:bc) (e:a9) (s':bc),CX w [] H s (λ_ _ _=>False) e s'->False) :
  PySem.W.WalkX q loose XP (PySem.W.X.obsZ as) (PySem.W.X.valZ K N t) l.row.toRowW d [] (λf vs=>PySem.call f vs):=by
 intro w s₀ s₁ mg mb G y fa o pm cd doc dV kV ho hd hcd hD hmg hg args vals as' L hpre hlay hrd hwl hlo
 have Z:=PySem.W.X.z_facts hk y
 have tk:t<=s₁.toks:=by
  obtain⟨ord,_,e⟩:=L.laid
  have g:=(PySem.W.layAllW_grows _ _ _ e).toks
  rw[Z.2.2.2]at g
  exact g
 have Zv:(K w.params).In s₁.heap:=PySem.W.InK.keeps w s₀.heap s₁.heap Z.2.1 L.keeps
 have KX:=hY _ _ Zv
 obtain rfl:dV= .none:=PySem.W.Dflts.none hD hdf
 obtain rfl:kV= .none:=PySem.W.Dflts.noKw hD
 obtain⟨a,vs,ns,rfl,rfl,hobj,hints,hlen⟩:=XY.Gm hn hpre hwl
 obtain⟨fd,hb,hF⟩:=F w mg fa _ KX G.T.g hmg
 refine PySem.W.enter_call (rk (GK (ts:=nms.map (dJ (K' w.params))) KX G.T.g G.T.b G.T.builtins G.T.nolimit hg (show 0<s₁.toks from cq ht tk) G.T.bmain
  (λP hP=>by obtain⟨nm,hm,rfl⟩:=eI.mp hP;exact hYT _ _ Zv nm hm) (λP hP=>by obtain⟨nm,hm,rfl⟩:=eI.mp hP;exact(Cs (hL w nm hm)).2) (λP hP=>by obtain⟨nm,hm,rfl⟩:=eI.mp hP;exact(Cs (hL w nm hm)).1)
  hobj hints (bn hlen hn2) hr hF hb (λH hO hS=>by
   have z:=HE w H a ns hlen (λnm hm=>hO _ (eI.mpr ⟨nm,hm,rfl⟩)) hS
   have e:(λ(v:V) (H':Hp)=>v= .bl true/\∀P∈nms.map (dJ (K' w.params)),∃ps,H' P=some (nW P ps))=λv H'=>v= .bl true/\∀nm∈nms,∃ps,H' (dJ (K' w.params) nm)=some (nW (dJ (K' w.params) nm) ps):=by
    funext v H'
    simp
   rw[e]
   exact z) λH e s'=>Xs w H s₁ e s') λr s' hq=>?_)
 obtain⟨rfl,h2,h3,h4⟩:=hq
 exact⟨.inl ⟨.bool true,.bool true,[],rfl,λ_=>rfl,.bool true,XY.Gs l _,λ_=>⟨List.Pairwise.nil,λ_ hm=>(nomatch hm)⟩⟩,h2,h3,h4⟩
end
end L2
namespace GP
open PySem L2 pQ
noncomputable def vn:List Int->Int
 |[]=>0
 |x::xs=>xs.foldl min x
theorem rX:∀(l:List Int) (x:Int),l.foldl min x<=x/\∀y∈l,l.foldl min x<=y
 |[],x=>⟨Int.le_refl _,λy hy=>(nomatch hy)⟩
 |a::l,x=>by
  obtain⟨h1,h2⟩:=rX l (min x a)
  rw[vu]
  refine⟨by omega,λy hy=>?_⟩
  rcases cm.mp hy with rfl|hy
  ·omega
  ·exact h2 y hy
theorem uR:∀(l:List Int) (x:Int),l.foldl min x=x\/l.foldl min x∈l
 |[],x=>.inl rfl
 |a::l,x=>by
  rw[vu]
  rcases uR l (min x a)with h|h
  ·rw[h]
   by_cases e:x<=a
   ·exact .inl (by omega)
   ·rw[show min x a=a by omega]
    exact .inr cw
  ·exact .inr (b0 _ h)
theorem vP{l:List Int}{x:Int}(h:x∈l):vn l<=x:=by
 cases l with
 |nil=>exact nomatch h
 |cons a l =>
  rcases cm.mp h with rfl|h
  ·exact(rX l _).1
  ·exact(rX l a).2 x h
theorem Cm{l:List Int}(h:l≠[]):vn l∈l:=by
 cases l with
 |nil=>exact absurd rfl h
 |cons a l =>
  rcases uR l a with h|h
  ·exact cm.mpr (.inl h)
  ·exact b0 _ h
theorem FH{l:List Int}{x:Int}(h:x∈l)(h2:∀y∈l,x<=y):vn l=x:=Int.le_antisymm (vP h) (h2 _ (Cm (r_ h)))
noncomputable def fmin{α:Type}(f:α->Int):List α->Option α
 |[]=>none
 |x::xs=>match fmin f xs with
  |none=>some x
  |some y=>if f y<f x then some y else some x
theorem m7{α:Type}{f:α->Int}:∀{l:List α} {x:α},fmin f l=some x->x∈l
 |[],x,h=>by cases h
 |a::l,x,h=>by
  unfold fmin at h
  split at h
  ·cases h;exact cw
  ·next y e =>
   split at h
   ·cases h;exact b0 _ (m7 e)
   ·cases h;exact cw
theorem AE{α:Type}{f:α->Int}:∀{l:List α} {k:Nat} {x:α},l[k]? =some x->(∀j y,l[j]? =some y->f x<=f y/\(j<k->f x<f y))->fmin f l=some x
 |[],k,x,h,_=>by simp at h
 |a::l,0,x,h,hx=>by
  obtain rfl:a=x:=by simpa using h
  unfold fmin
  split
  ·rfl
  ·next y e =>
   obtain⟨j,hj,ey⟩:=ll (m7 e)
   have:=(hx (j+1) y (by simpa using(bj.mpr ⟨hj,ey⟩))).1
   rw[if_neg (by omega)]
 |a::l,k+1,x,h,hx=>by
  have e:fmin f l=some x:=AE (k:=k) (by simpa using h) λj y hy=>by
   have:=hx (j+1) y (by simpa using hy)
   exact⟨this.1,λz=>this.2 (by omega)⟩
  unfold fmin
  rw[e]
  have:=(hx 0 a rfl).2 (by omega)
  simp[this]
theorem uz{α:Type}{f:α->Int}{l:List α}(h:l≠[]):∃x,fmin f l=some x:=by
 cases l with
 |nil=>exact absurd rfl h
 |cons a l =>
  unfold fmin
  split
  ·exact⟨_,rfl⟩
  ·split<;>exact⟨_,rfl⟩
theorem qR{α:Type}{f:α->Int}:∀{l:List α} {x y:α},fmin f l=some x->y∈l->f x<=f y
 |[],x,y,h,_=>by cases h
 |a::l,x,y,h,hy=>by
  unfold fmin at h
  split at h
  ·next e =>
   cases h
   rcases cm.mp hy with rfl|hy
   ·exact Int.le_refl _
   ·obtain⟨z,ez⟩:=uz (f:=f) (r_ hy)
    rw[e]at ez;cases ez
  ·next z e =>
   have k:=λhy=>qR (y:=y) e hy
   split at h
   ·cases h
    rcases cm.mp hy with rfl|hy
    ·omega
    ·exact k hy
   ·cases h
    rcases cm.mp hy with rfl|hy
    ·exact Int.le_refl _
    ·have:=k hy;omega
noncomputable abbrev dm:=Nat×Nat×Nat
structure Gd where
 n:Nat
 m:Nat
 pc:Nat->Nat->Int
 op:Int
 mo:Int
 en:Nat->Nat->Bool
noncomputable def Gd.ac(g:Gd)(v c:Nat):Int:=if v=c then g.mo else g.op+g.mo
noncomputable def Gd.steps(g:Gd)(s:dm):List (dm×Int) :=
 (if s.1<g.n/\s.2.1<g.m then [((s.1+1,s.2.1+1,112),g.pc s.1 s.2.1)]else [])++((if s.1<g.n then [((s.1+1,s.2.1,97),g.ac 97 s.2.2)]else [])++(if s.2.1<g.m then [((s.1,s.2.1+1,98),g.ac 98 s.2.2)]else []))
noncomputable def Gd.costs(g:Gd)(R:dm->Int)(s:dm):List Int:=(g.steps s).map (λt=>t.2+R t.1)++if g.en s.1 s.2.1 then [0]else []
noncomputable def Gd.Mp(g:Gd):Nat->dm->Int
 | 0,_=>0
 |d+1,s=>vn (g.costs (g.Mp d) s)
noncomputable def Gd.ht(g:Gd)(s:dm):Nat:=g.n-s.1+(g.m-s.2.1)
noncomputable def Gd.rest(g:Gd)(s:dm):Int:=g.Mp (g.ht s+1) s
noncomputable def Gd.In(g:Gd)(s:dm):Prop:=s.1<=g.n/\s.2.1<=g.m/\(s.2.2=112\/s.2.2=97\/s.2.2=98)
theorem Gd.gp{g:Gd}{s:dm}{t:dm×Int}:t∈g.steps s↔(s.1<g.n/\s.2.1<g.m/\t=((s.1+1,s.2.1+1,112),g.pc s.1 s.2.1))\/(s.1<g.n/\t=((s.1+1,s.2.1,97),g.ac 97 s.2.2))\/(s.2.1<g.m/\t=((s.1,s.2.1+1,98),g.ac 98 s.2.2)):=by
 unfold Gd.steps
 simp only[eM]
 by_cases h1:s.1<g.n<;>by_cases h2:s.2.1<g.m<;>simp[h1,h2]
theorem Gd.ny{g:Gd}{s:dm}{t:dm×Int}(h:t∈g.steps s)(hs:g.In s):g.In t.1:=by
 obtain⟨h1,h2,_⟩:=hs
 rcases Gd.gp.mp h with⟨a,b,rfl⟩|⟨a,rfl⟩|⟨a,rfl⟩
 ·exact⟨a,b,.inl rfl⟩
 ·exact⟨a,h2,.inr (.inl rfl)⟩
 ·exact⟨h1,a,.inr (.inr rfl)⟩
theorem Gd.jn{g:Gd}{s:dm}{t:dm×Int}(h:t∈g.steps s):g.ht t.1<g.ht s:=by
 unfold Gd.ht
 rcases Gd.gp.mp h with⟨a,b,rfl⟩|⟨a,rfl⟩|⟨a,rfl⟩<;>simp only<;>omega
theorem Gd.qo{g:Gd}{R R':dm->Int}{s:dm}(h:∀t∈g.steps s,R t.1=R' t.1):g.costs R s=g.costs R' s:=by
 unfold Gd.costs
 rw[pz λt ht=>by rw[h t ht]]
theorem Gd.wH{g:Gd}:∀(d:Nat) (s:dm),g.ht s<d->g.Mp d s=g.rest s
 | 0,_,h=>by omega
 |d+1,s,h=>by
  have e1:∀t∈g.steps s,g.Mp d t.1=g.rest t.1:=λt ht=>Gd.wH d t.1 (by have:=Gd.jn ht;omega)
  by_cases hd:d=g.ht s
  ·subst hd;rfl
  ·have e2:∀t∈g.steps s,g.Mp (g.ht s) t.1=g.rest t.1:=λt ht=>by
    have:=Gd.jn ht
    have hlt:g.ht s<d:=by omega
    exact Gd.wH (g.ht s) t.1 this
   show vn (g.costs (g.Mp d) s)=vn (g.costs (g.Mp (g.ht s)) s)
   rw[Gd.qo e1,Gd.qo e2]
 termination_by d=>d
theorem Gd.rest_eq(g:Gd)(s:dm):g.rest s=vn (g.costs g.rest s):=by
 show vn (g.costs (g.Mp (g.ht s)) s)=_
 rw[Gd.qo λt ht=>Gd.wH _ t.1 (Gd.jn ht)]
noncomputable def Gd.Ok(g:Gd):Prop:=g.en g.n g.m=true
theorem Gd.CU{g:Gd}(ok:g.Ok){R:dm->Int}{s:dm}(hs:g.In s):g.costs R s≠[]:=by
 unfold Gd.costs Gd.steps
 obtain⟨h1,h2,_⟩:=hs
 by_cases a:s.1<g.n
 ·simp[a]
 ·by_cases b:s.2.1<g.m
  ·simp[b]
  ·have e1:s.1=g.n:=by omega
   have e2:s.2.1=g.m:=by omega
   have ok':g.en g.n g.m=true:=ok
   rw[e1,e2,ok']
   simp
noncomputable def Gd.stop(g:Gd)(s:dm):Bool:=g.en s.1 s.2.1&&decide (g.rest s=0)
noncomputable def Gd.key(g:Gd)(t:dm×Int):Int:=t.2+g.rest t.1
noncomputable def Gd.HB(g:Gd)(s:dm):dm:=((fmin g.key (g.steps s)).map (·.1)).getD s
theorem Gd.go{g:Gd}(ok:g.Ok){s:dm}(hs:g.In s)(h:g.stop s=false):∃t,fmin g.key (g.steps s)=some t/\t∈g.steps s/\g.HB s=t.1/\g.key t=g.rest s/\∀u∈g.steps s,g.key t<=g.key u:=by
 have hm:=Cm (Gd.CU ok (R:=g.rest) hs)
 rw[←g.rest_eq]at hm
 have hx:g.rest s∈(g.steps s).map g.key:=by
  rcases eM.mp hm with hm|hm
  ·exact hm
  ·exfalso
   unfold Gd.stop at h
   by_cases e:g.en s.1 s.2.1=true
   ·rw[if_pos e]at hm
    have:g.rest s=0:=by simpa using hm
    rw[e,this]at h
    simp at h
   ·rw[if_neg e]at hm
    exact nomatch hm
 obtain⟨u,hu,eu⟩:=eI.mp hx
 obtain⟨t,ht⟩:=uz (f:=g.key) (r_ hu)
 refine⟨t,ht,m7 ht,by unfold Gd.HB;rw[ht];rfl,?_,λv hv=>qR ht hv⟩
 have h1:=qR ht hu
 have h2:g.rest s<=g.key t:=by
  rw[g.rest_eq]
  exact vP (tz _ (eI.mpr ⟨t,m7 ht,rfl⟩))
 omega
noncomputable def Gd.way(g:Gd):Nat->dm->List Nat
 | 0,_=>[]
 |d+1,s=>if g.stop s then []else(g.HB s).2.2::g.way d (g.HB s)
noncomputable def Gd.moves(g:Gd)(s:dm):List Nat:=g.way (g.ht s) s
theorem Gd.vW{g:Gd}(ok:g.Ok):∀(d:Nat) (s:dm),g.In s->g.ht s<=d->g.way d s=g.moves s
 | 0,s,_,h=>by unfold Gd.moves;rw[Nat.le_zero.mp h]
 |d+1,s,hs,h=>by
  by_cases e:g.stop s=true
  ·unfold Gd.moves
   cases k:g.ht s with
   |zero=>simp[Gd.way,e]
   |succ k=>simp[Gd.way,e]
  ·have e':g.stop s=false:=by simpa using e
   obtain⟨t,_,ht,en,_⟩:=g.go ok hs e'
   have h1:=Gd.jn ht
   have h2:=Gd.ny ht hs
   obtain⟨k,ek⟩:∃k,g.ht s=k+1:=⟨g.ht s-1,by omega⟩
   unfold Gd.moves
   rw[ek]
   show(if g.stop s then []else(g.HB s).2.2::g.way d (g.HB s))=(if g.stop s then []else(g.HB s).2.2::g.way k (g.HB s))
   rw[en,Gd.vW ok d t.1 h2 (by omega),Gd.vW ok k t.1 h2 (by omega)]
 termination_by d=>d
theorem Gd.o9{g:Gd}{s:dm}(h:g.stop s=true):g.moves s=[]:=by
 unfold Gd.moves
 cases g.ht s with
 |zero=>rfl
 |succ k=>simp[Gd.way,h]
theorem Gd.wY{g:Gd}(ok:g.Ok){s:dm}(hs:g.In s)(h:g.stop s=false):g.moves s=(g.HB s).2.2::g.moves (g.HB s):=by
 obtain⟨t,_,ht,en,_⟩:=g.go ok hs h
 have h1:=Gd.jn ht
 have h2:=Gd.ny ht hs
 have e:g.moves s=g.way (g.ht s-1+1) s:=by unfold Gd.moves;rw[show g.ht s-1+1=g.ht s by omega]
 rw[e]
 show(if g.stop s then []else(g.HB s).2.2::g.way (g.ht s-1) (g.HB s))=_
 rw[h,en,Gd.vW ok _ t.1 h2 (by omega)]
 rfl
noncomputable def Gd.walk(g:Gd):dm->List Nat->Option (Int×dm)
 |s,[]=>some (0,s)
 |s,v::vs=>match (g.steps s).find? (λt=>t.1.2.2==v)with
  |none=>none
  |some t=>(g.walk t.1 vs).map λr=>(t.2+r.1,r.2)
theorem Gd.tY{g:Gd}{s:dm}{t:dm×Int}(h:t∈g.steps s):(g.steps s).find? (λu=>u.1.2.2==t.1.2.2)=some t:=by
 unfold Gd.steps at h ⊢
 by_cases h1:s.1<g.n<;>by_cases h2:s.2.1<g.m<;>simp[h1,h2]at h ⊢
 ·rcases h with rfl|rfl|rfl<;>simp[i5]
 ·subst h;simp
 ·subst h;simp
theorem Gd.vX{g:Gd}(ok:g.Ok):∀(d:Nat) (s:dm),g.In s->g.ht s<=d->∃e,g.walk s (g.moves s)=some (g.rest s,e)/\g.In e/\g.en e.1 e.2.1=true
 |d,s,hs,hd=>by
  by_cases e:g.stop s=true
  ·rw[Gd.o9 e]
   unfold Gd.stop at e
   rw[ii]at e
   refine⟨s,?_,hs,e.1⟩
   rw[of_decide_eq_true e.2]
   rfl
  ·have e':g.stop s=false:=by simpa using e
   obtain⟨t,_,ht,en,ek,_⟩:=g.go ok hs e'
   have h1:=Gd.jn ht
   have h2:=Gd.ny ht hs
   cases d with
   |zero=>omega
   |succ d =>
    obtain⟨f,hf,hfi,hfe⟩:=Gd.vX ok d t.1 h2 (by omega)
    refine⟨f,?_,hfi,hfe⟩
    rw[Gd.wY ok hs e',en]
    unfold Gd.walk
    rw[Gd.tY ht]
    show(g.walk t.1 (g.moves t.1)).map _=_
    rw[hf]
    show some (t.2+g.rest t.1,f)=_
    rw[show t.2+g.rest t.1=g.rest s from ek]
 termination_by d=>d
noncomputable def placesOf(n m:Nat):List (Nat×Nat):=(dk (n+1)).flatMap λi=>(dk (m+1)).map λj=>(i,j)
noncomputable def three(p:Nat×Nat):List dm:=[(p.1,p.2,112),(p.1,p.2,97),(p.1,p.2,98)]
noncomputable def c8(ps:List (Nat×Nat)):List dm:=ps.flatMap three
theorem f6{n m:Nat}{p:Nat×Nat}:p∈placesOf n m↔p.1<=n/\p.2<=m:=by
 unfold placesOf
 simp only[q_,md,eI]
 constructor
 ·rintro⟨i,hi,j,hj,rfl⟩
  exact⟨by show i<=n;omega,by show j<=m;omega⟩
 ·rintro⟨h1,h2⟩
  exact⟨p.1,by omega,p.2,by omega,rfl⟩
theorem mK{p:Nat×Nat}{s:dm}:s∈three p↔s.1=p.1/\s.2.1=p.2/\(s.2.2=112\/s.2.2=97\/s.2.2=98):=by
 obtain⟨a,b,c⟩:=s
 simp only[three,cm,fA,or_false,Prod.mk.injEq]
 constructor
 ·rintro(⟨h1,h2,h3⟩|⟨h1,h2,h3⟩|⟨h1,h2,h3⟩)
  ·exact⟨h1,h2,.inl h3⟩
  ·exact⟨h1,h2,.inr (.inl h3)⟩
  ·exact⟨h1,h2,.inr (.inr h3)⟩
 ·rintro⟨h1,h2,h3|h3|h3⟩
  ·exact .inl ⟨h1,h2,h3⟩
  ·exact .inr (.inl ⟨h1,h2,h3⟩)
  ·exact .inr (.inr ⟨h1,h2,h3⟩)
theorem dI{ps:List (Nat×Nat)}{s:dm}:s∈c8 ps↔(s.1,s.2.1)∈ps/\(s.2.2=112\/s.2.2=97\/s.2.2=98):=by
 unfold c8
 rw[q_]
 constructor
 ·rintro⟨p,hp,h⟩
  obtain⟨h1,h2,h3⟩:=mK.mp h
  rw[h1,h2]
  exact⟨hp,h3⟩
 ·rintro⟨hp,h⟩
  exact⟨_,hp,mK.mpr ⟨rfl,rfl,h⟩⟩
noncomputable def Gd.states(g:Gd):List dm:=c8 (placesOf g.n g.m)
theorem Gd.dI{g:Gd}{s:dm}:s∈g.states↔g.In s:=by
 unfold Gd.states Gd.In
 rw[GP.dI,f6]
 exact⟨λ⟨⟨a,b⟩,c⟩=>⟨a,b,c⟩,λ⟨a,b,c⟩=>⟨⟨a,b⟩,c⟩⟩
theorem places_len(n m:Nat):(placesOf n m).length=(n+1)*(m+1):=by
 unfold placesOf
 have:∀l:List Nat,(l.flatMap λi=>(dk (m+1)).map λj=>(i,j)).length=l.length*(m+1):=λl=>by
  induction l with
  |nil=>simp
  |cons a l ih=>rw[wf,ce,ih,a_,io,d_,Nat.succ_mul,Nat.add_comm]
 rw[this,io]
theorem rL(ps:List (Nat×Nat)):(c8 ps).length=3*ps.length:=by
 induction ps with
 |nil=>rfl
 |cons a l ih =>
  show(three a++c8 l).length=_
  rw[ce,ih,d_]
  show 3+_=_
  omega
noncomputable def Lc(a b:Nat×Nat):Prop:=a.1<b.1\/(a.1=b.1/\a.2<b.2)
theorem ud(n m:Nat):(placesOf n m).Pairwise Lc:=by
 unfold placesOf
 refine List.pairwise_flatMap.mpr ⟨λi _=>?_,?_⟩
 ·rw[List.pairwise_map]
  exact(List.pairwise_lt_range).imp λh=>.inr ⟨rfl,h⟩
 ·refine(List.pairwise_lt_range).imp λ{a b} h=>?_
  intro x hx y hy
  obtain⟨_,_,rfl⟩:=eI.mp hx
  obtain⟨_,_,rfl⟩:=eI.mp hy
  exact .inl h
theorem D3{a:Nat×Nat}:¬Lc a a:=λh=>by rcases h with h|h<;>omega
theorem Gj{ps:List (Nat×Nat)}(h:ps.Pairwise Lc):(c8 ps).Pairwise λa b=>¬Lc (b.1,b.2.1) (a.1,a.2.1):=by
 unfold c8
 refine List.pairwise_flatMap.mpr ⟨λp _=>?_,h.imp λ{a b} hab=>?_⟩
 ·refine List.pairwise_of_forall_mem_list λa ha b hb z=>?_
  obtain⟨a1,a2,_⟩:=mK.mp ha
  obtain⟨b1,b2,_⟩:=mK.mp hb
  rw[a1,a2,b1,b2]at z
  exact D3 z
 ·intro x hx y hy z
  obtain⟨a1,a2,_⟩:=mK.mp hx
  obtain⟨b1,b2,_⟩:=mK.mp hy
  rw[a1,a2,b1,b2]at z
  unfold Lc at hab z
  simp only at z
  omega
theorem Gd.BL{g:Gd}{s:dm}{t:dm×Int}(h:t∈g.steps s):Lc (s.1,s.2.1) (t.1.1,t.1.2.1):=by
 unfold Lc
 rcases Gd.gp.mp h with⟨a,b,rfl⟩|⟨a,rfl⟩|⟨a,rfl⟩
 ·exact .inl (ib _)
 ·exact .inl (ib _)
 ·exact .inr ⟨rfl,ib _⟩
theorem Gd.uH{g:Gd}{k:Nat}{s:dm}{t:dm×Int}(hk:g.states[k]? =some s)(h:t∈g.steps s):t.1∈g.states.drop (k+1):=by
 have hs:=Gd.dI.mp (cb hk)
 have ht:=Gd.dI.mpr (Gd.ny h hs)
 have TL:=(bj.mp hk).1
 have pw:=Gj (ud g.n g.m)
 have e:c8 (placesOf g.n g.m)=g.states.take (k+1)++g.states.drop (k+1):=(s_ _ _).symm
 have ht':t.1∈g.states.take (k+1)++g.states.drop (k+1):=by rw[←e];exact ht
 rcases eM.mp ht' with z|z
 ·exfalso
  rw[take_snoc hk]at z
  rcases eM.mp z with z|z
  ·have e2:c8 (placesOf g.n g.m)=g.states.take k++g.states.drop k:=(s_ _ _).symm
   rw[e2]at pw
   have hsd:s∈g.states.drop k:=by
    rw[ge TL]
    have:=(bj.mp hk).2
    rw[this]
    exact cw
   exact(List.pairwise_append.mp pw).2.2 _ z _ hsd (Gd.BL h)
  ·have z1:=Gd.BL h
   rw[c_.mp z]at z1
   exact D3 z1
 ·exact z
end GP
namespace L2
open PySem PySem.Spec PyProof.Rows PySem.W
theorem uV(f:Nat->Int):∀k,argBest (λi j=>decide (f i<f j)) k<=k/\∀j,j<=k->f (argBest (λi j=>decide (f i<f j)) k)<=f j
 | 0=>⟨ba _,λj hj=>by rw[Nat.le_zero.mp hj];exact Int.le_refl _⟩
 |k+1=>by
  obtain⟨h1,h2⟩:=uV f k
  unfold argBest
  by_cases c:f (k+1)<f (argBest (λi j=>decide (f i<f j)) k)
  ·rw[if_pos (decide_eq_true c)]
   refine⟨ba _,λj hj=>?_⟩
   by_cases e:j=k+1
   ·rw[e];exact Int.le_refl _
   ·have:=h2 j (by omega);omega
  ·rw[if_neg (by rw[decide_eq_false c];exact bt)]
   refine⟨by omega,λj hj=>?_⟩
   by_cases e:j=k+1
   ·rw[e];omega
   ·exact h2 j (by omega)
theorem FQ:∀{ns:List Int} {us:List a9},Vals (ns.map V.int) us->∀(i:Nat) (v:a9),us[i]? =some v->∃n t,ns[i]? =some n/\v= .int n t
 |[],_,r=>λi v e=>by cases r;simp at e
 |n::ns,_,r=>by
  cases r with
  |cons r1 r2 =>
   intro i v e
   cases i with
   |zero =>
    simp at e
    subst e
    obtain⟨t,z⟩:=r1
    exact⟨n,t,rfl,z⟩
   |succ i=>exact FQ r2 i v e
theorem zA{X:Cx}(hc:X.calm=true):nU X (.builtin "min") (λxs H Q=>∃(l:a6) (ns:List Int),xs=[.ref l]/\cA X.K H l (ns.map V.int)/\ns≠[]/\Q (.int (GP.vn ns)) H):=by
 intro pins s σ H xs us Q I r h
 obtain⟨l,ns,rfl,hl,hne,q⟩:=h
 obtain⟨u,rfl,ru⟩:=vals1 r
 cases ru
 obtain⟨its,rv,p,hz⟩:=I.list hl
 have pl:s.heap.IsList l its.toArray:=p.isList
 have hlt:l<s.heap.objs.size:=by obtain⟨_,e,_⟩:=pl;exact ca e
 have hlen:ns.length=its.length:=by rw[←rv.length,a_]
 have hpos:0<ns.length:=List.length_pos_iff.mpr hne
 refine TK.cH (ba s.toks) ?_
 refine call_min_walk (mi pl ?_)
 have hval:∀(i:Nat) (v:a9),its.toArray[i]? =some v->∃t,v= .int ((ns[i]?).getD 0) t:=λi v hP=>by
  obtain⟨n,t,e,rfl⟩:=FQ rv i v (by simpa using hP)
  exact⟨t,by rw[e];rfl⟩
 refine⟨s.heap.objs.size,[s.heap.objs.size,l],[s.heap.objs.size],its.toArray.size,_,_,_,rfl,Walks.list (A:=X.A.in1) (I.ok.hd hc) _ l (dy hlt) its.toArray,
  ⟨⟨_,bp _ rfl,rfl,rfl⟩,pl.push _⟩,λb hb=>?_,by rw[dq];omega,CmpOf.ints_lt (λi=>(ns[i]?).getD 0) hval,λv h' tk hP hk hup=>?_⟩
 ·show b<(s.heap.push _).objs.size
  rw[hV]
  rcases cm.mp hb with rfl|z
  ·exact ib _
  ·rw[c_.mp z]
   exact Nat.lt_succ_of_lt hlt
 ·obtain⟨t,rfl⟩:=hval _ v hP
  obtain⟨b1,b2⟩:=uV (λi=>(ns[i]?).getD 0) (its.toArray.size-1)
  have hsz:its.toArray.size=ns.length:=by rw[dq,hlen]
  rw[hsz]at b1 b2 ⊢
  have hb:argBest (λi j=>decide ((ns[i]?).getD 0<(ns[j]?).getD 0)) (ns.length-1)<ns.length:=by omega
  have e:GP.vn ns=(ns[argBest (λi j=>decide ((ns[i]?).getD 0<(ns[j]?).getD 0)) (ns.length-1)]?).getD 0:=by
   refine GP.FH ?_ λy hy=>?_
   ·rw[a7 hb]
    exact g0 hb
   ·obtain⟨j,hj,ej⟩:=ll hy
    have z:=b2 j (by omega)
    rw[a7 hj,ej]at z
    exact z
  refine⟨.int (GP.vn ns),H,I.kept (t':=tk) (λb x e=>hk b x (λhm=>?_) (a8 _ e)),⟨t,by rw[e]⟩,q⟩
  rw[c_.mp hm]at e
  exact g_ _ (ca e)
theorem jA{A:dL}{k:Nat}(hr:jT k A):A.units+2<cLine:=cr (Nat.add_le_add_left (by decide:2<=64) _) hr.units
theorem FU{A:dL}{k:Nat}(hr:jT k A):A.units+16<cLine:=cr (Nat.add_le_add_left (by decide:16<=64) _) hr.units
theorem Fv{k:Nat}{A:dL}(h:jT k A):A.depth<recursionLimit:=by have:=h.dp;omega
theorem Ci(kvs:List NE)(k j:NK)(q:a6)(v:V):jR (rW kvs k q v) j=if j=k then some v else jR kvs j:=by
 have ap:∀l:List NE,jR (l++[(k,q,v)]) j=(jR l j).or (if k=j then some v else none):=λl=>by
  induction l with
  |nil =>
   by_cases e:k=j
   ·rw[if_pos e];exact j4 (p:=(k,q,v)) (ps:=[]) e
   ·rw[if_neg e];exact iK (p:=(k,q,v)) (ps:=[]) e
  |cons x l ih =>
   by_cases e:x.1=j
   ·rw[ww,j4 e,j4 e];rfl
   ·rw[ww,iK e,iK e,ih]
 have mp:∀l:List NE,jR (l.map λx=>if x.1=k then(x.1,x.2.1,v)else x) j=if j=k then(jR l k).map λ_=>v else jR l j:=λl=>by
  induction l with
  |nil=>by_cases e:j=k<;>simp[e,jR]
  |cons x l ih =>
   rw[eJ]
   by_cases e:x.1=k
   ·rw[if_pos e]
    by_cases ej:x.1=j
    ·rw[j4 (p:=(x.1,x.2.1,v)) ej,if_pos (ej.symm.trans e),j4 e];rfl
    ·rw[iK (p:=(x.1,x.2.1,v)) ej,ih,if_neg (λz=>ej (e.trans z.symm)),if_neg (λz=>ej (e.trans z.symm)),iK ej]
   ·rw[if_neg e]
    by_cases ej:x.1=j
    ·have nj:¬j=k:=λz=>e (ej.trans z)
     rw[j4 ej,if_neg nj,j4 ej]
    ·rw[iK ej,ih,iK ej,iK e]
 unfold rW
 by_cases h:(jR kvs k).isSome=true
 ·rw[if_pos h,mp]
  by_cases e:j=k
  ·rw[if_pos e,if_pos e]
   obtain⟨u,hu⟩:=pi.mp h
   rw[hu];rfl
  ·rw[if_neg e,if_neg e]
 ·rw[if_neg h,ap]
  have hn:jR kvs k=none:=by simpa using h
  by_cases e:j=k
  ·rw[if_pos e.symm,if_pos e,e,hn];rfl
  ·rw[if_neg (Ne.symm e),if_neg e]
   cases jR kvs j<;>rfl
theorem yZ{H:Hp}{kvs:List NE}{k:NK}{q:a6}{v:V}(h:∀x∈kvs,jm H x.2.1 x.1)(hk:jm H q k):∀x∈rW kvs k q v,jm H x.2.1 x.1:=by
 unfold rW
 intro x hx
 split at hx
 ·obtain⟨y,hy,e⟩:=eI.mp hx
  have z:=h y hy
  split at e
  ·rw[←e];exact z
  ·rw[←e];exact z
 ·rcases eM.mp hx with hx|hx
  ·exact h x hx
  ·rw[c_.mp hx];exact hk
end L2
namespace GP
open PySem L2 pQ
section
structure Da(K:PySem.W.Frag)(mg:bv->Option a9)(x y:bv)(st:gl)(ps:List bv)(f:a6)(fd:db):Prop where
 fn:KI K y y st f fd
 b:Binds K fd ps []
 m:mg x=some (.ref f)
noncomputable def Nt(H:Hp):Hp:=λb=>match H b with|some (.ext _)=>none|r=>r
theorem Nt.sub{H:Hp}:ai (Nt H) H:=λb u h=>by
 unfold Nt at h
 split at h
 ·cases h
 ·exact h
theorem Nt.no{H:Hp}{b:a6}{u:HO}(h:Nt H b=some u)(φ:dC->Prop):u≠ .ext φ:=λz=>by
 unfold Nt at h
 split at h
 ·cases h
 ·next n=>rw[z]at h;exact n φ h
theorem Nt.in{H:Hp}{b:a6}{u:HO}(n:∀ φ,u≠ .ext φ)(h:H b=some u):Nt H b=some u:=by
 unfold Nt
 rw[h]
 split
 ·next φ e=>exact absurd (dn e) (n φ)
 ·rfl
theorem Nt.tup{H:Hp}{b:a6}{xs:List V}(h:H b=some (.tup xs)):Nt H b=some (.tup xs):=Nt.in (λ_ z=>by cases z) h
theorem Nt.lst{H:Hp}{b:a6}{xs:List V}(h:H b=some (.lst xs)):Nt H b=some (.lst xs):=Nt.in (λ_ z=>by cases z) h
theorem Nt.QE{K:PySem.W.Frag}{H:Hp}{a:a6}{xs:List V}(h:dD K H a xs):dD K (Nt H) a xs:=by
 rcases h with(h|⟨o,h⟩)|h
 ·exact .inl (.inl (Nt.tup h))
 ·exact .inl (.inr ⟨o,Nt.in (λ_ z=>by cases z) h⟩)
 ·exact .inr h
theorem Nt.row{K:PySem.W.Frag}{H:Hp}{q:a6}{r:List cG}(h:j9 K H (.tup q) r):j9 K (Nt H) (.tup q) r:=by
 obtain⟨ps,a,b⟩:=h
 exact⟨ps,Nt.QE a,Paired.gO b λ_ _ z=>Nt.QE z⟩
theorem nh.nt{K:PySem.W.Frag}{C:a6}{H:Hp}{x:a6}{sg:bv}{rows:List (List cG)}{fo fm:cG}(h:nh K C H x sg rows fo fm):nh K C (Nt H) x sg rows fo fm:=by
 obtain⟨a,b,c,d,f,g,i,dx,P,o,m,dd,kvs,h1,⟨qs,q1,q2⟩,h3,h4,h5,h6,fs,h7,h8,h9⟩:=h
 exact⟨a,b,c,d,f,g,i,dx,P,o,m,dd,kvs,Nt.in (λ_ z=>by cases z) h1,⟨qs,Nt.QE q1,Paired.gO q2 λ_ _ z=>Nt.row z⟩,Nt.QE h3,Nt.QE h4,Nt.in (λ_ z=>by cases z) h5,h6,fs,h7,h8,Nt.lst h9⟩
noncomputable def sr(H:Hp):Hp:=λb=>match H b with|some (.tup xs)=>some (.tup xs)|some (.lst xs)=>some (.lst xs)|_=>none
theorem sr.tup{H:Hp}{b:a6}{xs:List V}(h:H b=some (.tup xs)):sr H b=some (.tup xs):=by unfold sr;rw[h]
theorem sr.lst{H:Hp}{b:a6}{xs:List V}(h:H b=some (.lst xs)):sr H b=some (.lst xs):=by unfold sr;rw[h]
theorem sr.of{H H':Hp}(h:∀b u,(∀ φ,u≠ .ext φ)->(∀C dx fs,u≠ .ins C dx fs)->H b=some u->H' b=some u):ai (sr H) H':=λb u q=>by
 unfold sr at q
 split at q
 ·next e=>cases q;exact h b _ (λ_ z=>by cases z) (λ_ _ _ z=>by cases z) e
 ·next e=>cases q;exact h b _ (λ_ z=>by cases z) (λ_ _ _ z=>by cases z) e
 ·cases q
theorem sr.dat{H H':Hp}(e:Dat H H'):ai (sr H) H':=sr.of λb u _ n q=>e b u n q
theorem jm.da{H:Hp}{q:a6}{k:NK}(h:jm H q k):jm (sr H) q k:=by
 obtain⟨p,h1,h2⟩:=h
 exact⟨p,sr.tup h1,sr.tup h2⟩
theorem jm.same{H H':Hp}{q:a6}{k:NK}(h:jm H q k)(e:ai H H'):jm H' q k:=by
 obtain⟨p,h1,h2⟩:=h
 exact⟨p,e _ _ h1,e _ _ h2⟩
theorem ND.same{P:bo}{w:df}{H H':Hp}{d:a6}{kvs:List NE}(h:ND P w H d kvs)(e:ai H H'):ND P w H' d kvs:=⟨e _ _ h.at_,λx hx=>jm.same (h.keys x hx) e⟩
structure Lm where
 P:a6
 l:re
 q:bv
 P2:a6
 l2:re
 q2:bv
structure LT(L:Lm)(H:Hp):Prop where
 a:TabOk H L.P L.l L.q
 b:TabOk H L.P2 L.l2 L.q2
 ne:L.P≠L.P2
theorem BE{H H':Hp}{P:a6}{ln:re}{lq:bv}(h:TabOk H P ln lq)(e:ai H H'):TabOk H' P ln lq:=by
 rcases h with h|⟨c,h,h2⟩
 ·exact .inl (e _ _ h)
 ·exact .inr ⟨c,e _ _ h,e _ _ h2⟩
theorem LT.same{L:Lm}{H H':Hp}(h:LT L H)(e:ai H H'):LT L H':=⟨BE h.a e,BE h.b e,h.ne⟩
theorem vL{H:Hp}{P:a6}{ln:re}{lq:bv}(h:TabOk H P ln lq):∃ φ,H P=some (.ext φ):=by
 rcases h with h|⟨_,h,_⟩<;>exact⟨_,h⟩
theorem BD{H:Hp}{P:a6}{ln:re}{lq:bv}(h:TabOk H P ln lq):∃ps,H P=some (nW P ps):=by
 rcases h with h|⟨_,h,_⟩<;>exact⟨_,h⟩
theorem zR{α:Type}{a b:α}{F:α->Prop}(h1:F a)(h2:F b):∀x∈[a,b],F x:=λx hx=>by
 rcases cm.mp hx with rfl|hx
 ·exact h1
 ·rw[c_.mp hx];exact h2
structure Lo(P:bo)(w:df)(L:Lm)(H H':Hp):Prop where
 nx:ai (Nt H) H'
 nd:∀d kvs,H d=some (Aq P w d kvs)->H' d=some (Aq P w d kvs)
 lt:LT L H'
 dom:∀b,H' b=none->H b=none
section
variable{P:bo}{w:df}{L:Lm}{H H1 H2:Hp}
theorem Lo.of(h:LT L H)(e:ai H H1):Lo P w L H H1:=⟨λb u q=>e b u (Nt.sub b u q),λd kvs q=>e _ _ q,h.same e,λb q=>ai.free e q⟩
theorem Lo.trans(a:Lo P w L H H1)(b:Lo P w L H1 H2):Lo P w L H H2:=⟨λc u q=>b.nx c u (Nt.in (Nt.no q) (a.nx c u q)),λd kvs q=>b.nd d kvs (a.nd d kvs q),b.lt,λc q=>a.dom c (b.dom c q)⟩
theorem Lo.then(a:Lo P w L H H1)(e:ai H1 H2):Lo P w L H H2:=a.trans (.of a.lt e)
theorem ai.lo(e:ai H H1)(h:LT L H)(b:Lo P w L H1 H2):Lo P w L H H2:=(Lo.of h e).trans b
theorem Lo.one{H':Hp}(h:LT L H)(ap:Apart P w H L.P)(e:∀b u,b≠L.P->H b=some u->H' b=some u)(t:TabOk H' L.P L.l L.q):Lo P w L H H':=by
 obtain⟨φ,hφ⟩:=vL h.a
 have hne:=h.ne
 refine⟨λb u q=>e b u (λz=>?_) (Nt.sub b u q),λd kvs q=>e _ _ (ap.2 d kvs q) q,⟨t,?_,h.ne⟩,λb q=>?_⟩
 ·have q':=Nt.sub b u q
  rw[z,hφ]at q'
  exact Nt.no q φ (dn q').symm
 ·rcases h.b with h|⟨c,h,h2⟩
  ·exact .inl (e _ _ (Ne.symm hne) h)
  ·exact .inr ⟨c,e _ _ (Ne.symm hne) h,e _ _ (ap.1 c _ h2) h2⟩
 ·cases z:H b with
  |none=>rfl
  |some u =>
   by_cases zb:b=L.P
   ·obtain⟨ψ,WA⟩:=vL t
    rw[zb,WA]at q;cases q
   ·rw[e b u zb z]at q;cases q
theorem Lo.two{H':Hp}(h:LT L H)(ap:Apart P w H L.P2)(e:∀b u,b≠L.P2->H b=some u->H' b=some u)(t:TabOk H' L.P2 L.l2 L.q2):Lo P w L H H':=by
 obtain⟨φ,hφ⟩:=vL h.b
 have hne:=h.ne
 refine⟨λb u q=>e b u (λz=>?_) (Nt.sub b u q),λd kvs q=>e _ _ (ap.2 d kvs q) q,⟨?_,t,h.ne⟩,λb q=>?_⟩
 ·have q':=Nt.sub b u q
  rw[z,hφ]at q'
  exact Nt.no q φ (dn q').symm
 ·rcases h.a with h|⟨c,h,h2⟩
  ·exact .inl (e _ _ hne h)
  ·exact .inr ⟨c,e _ _ hne h,e _ _ (ap.1 c _ h2) h2⟩
 ·cases z:H b with
  |none=>rfl
  |some u =>
   by_cases zb:b=L.P2
   ·obtain⟨ψ,WA⟩:=vL t
    rw[zb,WA]at q;cases q
   ·rw[e b u zb z]at q;cases q
theorem Lo.da(a:Lo P w L H H1):ai (sr H) H1:=sr.of λb u n _ q=>a.nx b u (Nt.in n q)
theorem Lo.tup(a:Lo P w L H H1){b:a6}{xs:List V}(h:H b=some (.tup xs)):H1 b=some (.tup xs):=a.nx _ _ (Nt.tup h)
theorem Lo.YC(a:Lo P w L H H1){q:a6}{k:NK}(h:jm H q k):jm H1 q k:=jm.same (jm.da h) a.da
theorem Lo.nk(a:Lo P w L H H1){d:a6}{kvs:List NE}(h:ND P w H d kvs):ND P w H1 d kvs:=⟨a.nd _ _ h.at_,λx hx=>a.YC (h.keys x hx)⟩
end
noncomputable abbrev PT:=bv×List (List cG)×cG×cG
noncomputable def uT(T:PT):Int:=cF T.2.2.1.2 T.2.2.2.2 T.2.1
noncomputable def Ga(K:PySem.W.Frag)(C:a6)(H:Hp)(x:a6)(T:PT):Prop:=nh K C H x T.1 T.2.1 T.2.2.1 T.2.2.2
theorem Ga.same{K:PySem.W.Frag}{C:a6}{H H':Hp}{x:a6}{T:PT}(h:Ga K C H x T)(e:ai H H'):Ga K C H' x T:=nh.same e h
theorem Lo.pr{P:bo}{w:df}{L:Lm}{H H1:Hp}{K:PySem.W.Frag}{C x:a6}{T:PT}(a:Lo P w L H H1)(h:Ga K C H x T):Ga K C H1 x T:=nh.same a.nx (nh.nt h)
noncomputable def ku(T:PT)(m f s:bv):Gd:=⟨f.cps.size,s.cps.size,λi j=>QV T.1 T.2.1 (uT T) (f.cps.toList.getD i 0) (s.cps.toList.getD j 0),jU (uT T) T.2.2.1,jU (uT T) T.2.2.2,λi j=>Au m f s (i,j)⟩
noncomputable def vQ(H:Hp)(p:a6)(q:Nat×Nat):Prop:=H p=some (.tup [.int q.1,.int q.2])
noncomputable def HG(H:Hp)(l:a6)(qs:List (Nat×Nat)):Prop:=∃ps:List a6,H l=some (.lst (ps.map V.ref))/\Paired (vQ H) ps qs
noncomputable def fY(s:dm):NK:=(s.1,s.2.1,⟨#[s.2.2]⟩)
theorem sG{s t:dm}(h:fY s=fY t):s=t:=by
 obtain⟨a,b,c⟩:=s
 obtain⟨d,e,f⟩:=t
 unfold fY at h
 simp only[Prod.mk.injEq,Str.mk.injEq]at h
 obtain⟨h1,h2,h3⟩:=h
 have h4:c=f:=by simpa using h3
 rw[show a=d by omega,show b=e by omega,h4]
noncomputable def L4(H:Hp)(p:a6)(t:dm×Int):Prop:=∃q,H p=some (.tup [.ref q,.int t.2])/\jm H q (fY t.1)
noncomputable def L1(H:Hp)(l:a6)(ts:List (dm×Int)):Prop:=∃ps:List a6,H l=some (.lst (ps.map V.ref))/\Paired (L4 H) ps ts
noncomputable def Hg(H:Hp)(g:Gd)(kvs:List NE)(ss:List dm):Prop:=Paired (λe s=>e.1=fY s/\∃l,e.2.2= .ref l/\L1 H l (g.steps s)) kvs ss
theorem HG.same{H H':Hp}{l:a6}{qs:List (Nat×Nat)}(h:HG H l qs)(e:ai H H'):HG H' l qs:=by
 obtain⟨ps,a,b⟩:=h
 exact⟨ps,e _ _ a,Paired.gO b λ_ _ z=>e _ _ z⟩
theorem L4.same{H H':Hp}{p:a6}{t:dm×Int}(h:L4 H p t)(e:ai H H'):L4 H' p t:=by
 obtain⟨q,a,b⟩:=h
 exact⟨q,e _ _ a,jm.same b e⟩
theorem L1.same{H H':Hp}{l:a6}{ts:List (dm×Int)}(h:L1 H l ts)(e:ai H H'):L1 H' l ts:=by
 obtain⟨ps,a,b⟩:=h
 exact⟨ps,e _ _ a,Paired.gO b λ_ _ z=>z.same e⟩
theorem Hg.same{H H':Hp}{g:Gd}{kvs:List NE}{ss:List dm}(h:Hg H g kvs ss)(e:ai H H'):Hg H' g kvs ss:=Paired.gO h λ_ _ ⟨a,l,b,c⟩=>⟨a,l,b,c.same e⟩
theorem L1.da{H:Hp}{l:a6}{ts:List (dm×Int)}(h:L1 H l ts):L1 (sr H) l ts:=by
 obtain⟨ps,a,b⟩:=h
 exact⟨ps,sr.lst a,Paired.gO b λ_ _ ⟨q,a,b⟩=>⟨q,sr.tup a,jm.da b⟩⟩
theorem Hg.da{H:Hp}{g:Gd}{kvs:List NE}{ss:List dm}(h:Hg H g kvs ss):Hg (sr H) g kvs ss:=Paired.gO h λ_ _ ⟨a,l,b,c⟩=>⟨a,l,b,c.da⟩
theorem HG.da{H:Hp}{l:a6}{qs:List (Nat×Nat)}(h:HG H l qs):HG (sr H) l qs:=by
 obtain⟨ps,a,b⟩:=h
 exact⟨ps,sr.lst a,Paired.gO b λ_ _ z=>sr.tup z⟩
theorem ND.dat{P:bo}{w:df}{H H':Hp}{d:a6}{kvs:List NE}(h:ND P w H d kvs)(e:Dat H H'):ND P w H' d kvs:=⟨e _ _ (λ_ _ _ z=>by cases z) h.at_,λx hx=>jm.same (jm.da (h.keys x hx)) (sr.dat e)⟩
theorem vN{H:Hp}{g:Gd}{s:dm}:∀{kvs:List NE} {ss:List dm},Hg H g kvs ss->s∈ss->∃l,jR kvs (fY s)=some (.ref l)/\L1 H l (g.steps s)
 |_,_,.nil,h=>nomatch h
 |_,_,.cons (a:=e) (b:=t) ⟨h1,l,h2,h3⟩ r,h=>by
  by_cases z:e.1=fY s
  ·have z2:=sG (h1.symm.trans z)
   subst z2
   exact⟨l,by rw[j4 z,h2],h3⟩
  ·rw[iK z]
   rcases cm.mp h with q|q
   ·exact absurd (by rw[q];exact h1) z
   ·exact vN r q
noncomputable def O0(dS lB dE:a6):List (bv×V):=aC "ends" (.ref dE) (aC "begins" (.ref lB) (aC "steps" (.ref dS) []))
theorem oO{dS lB dE:a6}:(O0 dS lB dE).lookup ("steps" :bv)=some (.ref dS):=by
 unfold O0
 rw[av,if_neg (by decide +kernel),av,if_neg (by decide +kernel),av,if_pos rfl]
theorem xE{dS lB dE:a6}:(O0 dS lB dE).lookup ("begins" :bv)=some (.ref lB):=by
 unfold O0
 rw[av,if_neg (by decide +kernel),av,if_pos rfl]
theorem CA{dS lB dE:a6}:(O0 dS lB dE).lookup ("ends" :bv)=some (.ref dE):=by
 unfold O0
 rw[av,if_pos rfl]
noncomputable def S2(kE:List (List Key×V))(g:Gd):Prop:=∀i j,i<=g.n->j<=g.m->lW kE [.inl (i:Int),.inl (j:Int)]=some (.bl (g.en i j))
noncomputable def MS(kvs:List NE)(g:Gd):Prop:=∀s,g.In s->jR kvs (fY s)=some (.int (g.rest s))
noncomputable def Df(P:bo)(w:df)(C:a6)(H:Hp)(x:a6)(g:Gd)(bs:List (Nat×Nat)):Prop:=∃dx dS lB dE kS kE,H x=some (.ins C dx (O0 dS lB dE))/\ND P w H dS kS/\Hg H g kS g.states/\HG H lB bs/\H dE=some (.dT kE)/\S2 kE g
theorem Df.same{P:bo}{w:df}{C:a6}{H H':Hp}{x:a6}{g:Gd}{bs:List (Nat×Nat)}(h:Df P w C H x g bs)(e:ai H H'):Df P w C H' x g bs:=by
 obtain⟨dx,dS,lB,dE,kS,kE,h1,h2,h3,h4,h5,h6⟩:=h
 exact⟨dx,dS,lB,dE,kS,kE,e _ _ h1,ND.same h2 e,h3.same e,h4.same e,e _ _ h5,h6⟩
theorem Lo.gr{P:bo}{w:df}{L:Lm}{C:a6}{H H':Hp}{x:a6}{g:Gd}{bs:List (Nat×Nat)}(e:Lo P w L H H')(h:Df P w C H x g bs):Df P w C H' x g bs:=by
 obtain⟨dx,dS,lB,dE,kS,kE,h1,h2,h3,h4,h5,h6⟩:=h
 exact⟨dx,dS,lB,dE,kS,kE,e.nx _ _ (Nt.in (λ_ z=>by cases z) h1),e.nk h2,h3.da.same e.da,h4.da.same e.da,e.nx _ _ (Nt.in (λ_ z=>by cases z) h5),h6⟩
noncomputable def iC(m:bv)(n k:Nat):List (Nat×Nat):=(placesOf n k).filter λq=>vo m (q.1,q.2)
noncomputable def Gd.jS(g:Gd)(b:Nat×Nat):Int:=g.rest (b.1,b.2,112)
noncomputable def Mj:Sp:=λvs H Q _=>∃f s:bv,vs=[.str f,.str s]/\f.cps.size<=12/\s.cps.size<=12/\∀l H',ai H H'->H l=none->HG H' l (placesOf f.cps.size s.cps.size)->Q (.ref l) H'
noncomputable def Fc(K:PySem.W.Frag)(C:a6):Sp:=λvs H Q _=>∃(x p:a6) (T:PT) (f s:bv) (i j c:Nat),vs=[.ref x,.str f,.str s,.ref p,.str ⟨#[c]⟩]/\Ga K C H x T/\Of T.1 f/\Of T.1 s/\f.cps.size<=12/\s.cps.size<=12/\vQ H p (i,j) ∧
 ∀l H',ai H H'->H l=none->(∀m,L1 H' l ((ku T m f s).steps (i,j,c)))->Q (.ref l) H'
noncomputable def Ip(P:bo)(w:df)(K:PySem.W.Frag)(C:a6):Sp:=λvs H Q _=>∃(x lp:a6) (T:PT) (f s:bv),vs=[.ref x,.str f,.str s,.ref lp]/\Ga K C H x T/\Of T.1 f/\Of T.1 s/\f.cps.size<=12/\s.cps.size<=12/\HG H lp (placesOf f.cps.size s.cps.size) ∧
 ∀d kvs H',ai H H'->H d=none->ND P w H' d kvs->(∀m,Hg H' (ku T m f s) kvs (c8 (placesOf f.cps.size s.cps.size)))->Q (.ref d) H'
noncomputable def Fj:Sp:=λvs H Q _=>∃(lp:a6) (f s m:bv),vs=[.str f,.str s,.ref lp,.str m]/\f.cps.size<=12/\s.cps.size<=12/\HG H lp (placesOf f.cps.size s.cps.size) ∧
 ∀d kvs H',ai H H'->H d=none->H' d=some (.dT kvs)->(∀T,S2 kvs (ku T m f s))->Q (.ref d) H'
noncomputable def wm(P:bo)(w:df)(K:PySem.W.Frag)(C CG CS CM:a6):Sp:=λvs H Q E=>∃(x dx pr:a6) (T:PT) (f s m:bv),vs=[.ref x,.ref pr,.str f,.str s,.str m]/\H x=some (.ins CG dx [])/\Ga K C H pr T/\f.cps.size<=20/\s.cps.size<=20 ∧
 (Of T.1 f->Of T.1 s->ko m=true->f.cps.size<=12/\s.cps.size<=12/\∀H',(∀b u,b≠x->H b=some u->H' b=some u)->Df P w CG H' x (ku T m f s) (iC m f.cps.size s.cps.size)->Q .jy H') ∧
 (∀i j,Dr T.1 f s i j->∀dx H',ai H H'->H' dx=some (Dy dx (JL i j))->E (.ref CS) (some dx) H')/\(Of T.1 f->Of T.1 s->ko m=false->(reprText m).length<=20/\∀H',ai H H'->E (.ref CM) none H')
noncomputable def DN(P:bo)(w:df)(CG:a6):Sp:=λvs H Q _=>∃(x:a6) (g:Gd) (bs:List (Nat×Nat)),vs=[.ref x]/\Df P w CG H x g bs/\g.Ok/\g.n<=12/\g.m<=12/\∀d kvs H',ai H H'->H d=none->ND P w H' d kvs->MS kvs g->Q (.ref d) H'
noncomputable def GR(P:bo)(w:df)(CG:a6)(H:Hp)(x d:a6)(g:Gd)(bs:List (Nat×Nat))(kvs:List NE):Prop:=Df P w CG H x g bs/\ND P w H d kvs/\MS kvs g
theorem Lo.gR{P:bo}{w:df}{L:Lm}{C:a6}{H H':Hp}{x d:a6}{g:Gd}{bs:List (Nat×Nat)}{kvs:List NE}(e:Lo P w L H H')(h:GR P w C H x d g bs kvs):GR P w C H' x d g bs kvs:=⟨e.gr h.1,e.nk h.2.1,h.2.2⟩
theorem GR.same{P:bo}{w:df}{C:a6}{H H':Hp}{x d:a6}{g:Gd}{bs:List (Nat×Nat)}{kvs:List NE}(h:GR P w C H x d g bs kvs)(e:ai H H'):GR P w C H' x d g bs kvs:=⟨h.1.same e,ND.same h.2.1 e,h.2.2⟩
noncomputable def zV(P:bo)(w:df)(CG:a6):Sp:=λvs H Q _=>∃(x d q:a6) (g:Gd) (bs:List (Nat×Nat)) (kvs:List NE) (s:dm),vs=[.ref x,.ref d,.ref q]/\GR P w CG H x d g bs kvs/\jm H q (fY s)/\g.In s/\Q (.bl (g.stop s)) H
noncomputable def wu(P:bo)(w:df)(CG:a6)(L:Lm):Sp:=λvs H Q _=>∃(x d:a6) (g:Gd) (bs:List (Nat×Nat)) (kvs:List NE),vs=[.ref x,.ref d]/\GR P w CG H x d g bs kvs/\LT L H/\bs≠[]/\(∀b∈bs,b.1<=g.n/\b.2<=g.m) ∧
 ∀p b H',Lo P w L H H'->fmin g.jS bs=some b->vQ H' p b->Q (.ref p) H'
noncomputable def Io(P:bo)(w:df)(CG:a6)(L:Lm):Sp:=λvs H Q _=>∃(x d q:a6) (g:Gd) (bs:List (Nat×Nat)) (kvs:List NE) (s:dm),vs=[.ref x,.ref d,.ref q]/\GR P w CG H x d g bs kvs/\jm H q (fY s)/\g.In s/\g.steps s≠[]/\LT L H ∧
 ∀q' t H',Lo P w L H H'->fmin g.key (g.steps s)=some t->jm H' q' (fY t.1)->Q (.ref q') H'
noncomputable def Ii(P:bo)(w:df)(CG:a6)(L:Lm):Sp:=λvs H Q _=>∃(x d p:a6) (g:Gd) (bs:List (Nat×Nat)) (kvs:List NE) (b:Nat×Nat),vs=[.ref x,.ref d,.ref p]/\GR P w CG H x d g bs kvs/\vQ H p b/\g.In (b.1,b.2,112)/\g.Ok/\g.n<=12/\g.m<=12/\LT L H ∧
 ∀H',Lo P w L H H'->Q (.str ⟨(g.moves (b.1,b.2,112)).toArray⟩) H'
noncomputable def XU(H:Hp)(r:a6)(T:PT)(m f s:bv):Prop:=∃b c p,fmin (ku T m f s).jS (iC m f.cps.size s.cps.size)=some b/\H r=some (.tup [.ref c,.ref p,.str ⟨((ku T m f s).moves (b.1,b.2,112)).toArray⟩])/\TupAt H c (ki ((ku T m f s).jS b,uT T))/\vQ H p b
noncomputable def Fp(P:bo)(w:df)(K:PySem.W.Frag)(C CS CM:a6)(L:Lm):Sp:=λvs H Q E=>∃(pr:a6) (T:PT) (f s m:bv),vs=[.ref pr,.str f,.str s,.str m]/\Ga K C H pr T/\LT L H/\f.cps.size<=20/\s.cps.size<=20 ∧
 (Of T.1 f->Of T.1 s->ko m=true->f.cps.size<=12/\s.cps.size<=12/\∀r H',Lo P w L H H'->H r=none->XU H' r T m f s->Q (.ref r) H') ∧
 (∀i j,Dr T.1 f s i j->∀dx H',ai H H'->H' dx=some (Dy dx (JL i j))->E (.ref CS) (some dx) H')/\(Of T.1 f->Of T.1 s->ko m=false->(reprText m).length<=20/\∀H',ai H H'->E (.ref CM) none H')
end
section
theorem MY{H:Hp}{l p:a6}{o y:HO}(hp:H p=none):ai (Wo l H) (Wo l (L2.upd (L2.upd H p o) l y)):=λb u h=>by
 have n:=Wo.ne h
 have h':=Wo.sub b u h
 refine Wo.in n ?_
 rw[aq n,aq (aO h' hp)]
 exact h'
theorem sE{H H2:Hp}{l p:a6}{o y:HO}(e:ai H H2)(hl:H l=none)(hp:H2 p=none):ai H (L2.upd (L2.upd H2 p o) l y):=ai.at (e.trans (ai.upd hp)) hl
theorem HN{H:Hp}{l p:a6}{o y:HO}(n:p≠l):Wo l (L2.upd (L2.upd H p o) l y) p=some o:=Wo.in n (by rw[aq n,ah])
theorem vQ.same{H H':Hp}{p:a6}{q:Nat×Nat}(h:vQ H p q)(e:ai H H'):vQ H' p q:=e _ _ h
theorem N7{H:Hp}{l:a6}{ps:List a6}{qs:List (Nat×Nat)}(h1:H l=some (.lst (ps.map V.ref)))(h2:Paired (vQ (Wo l H)) ps qs):HG H l qs:=⟨ps,h1,Paired.gO h2 λ_ _ z=>z.same Wo.sub⟩
noncomputable def rws(m i:Nat):List (Nat×Nat):=(dk i).flatMap λi=>(dk (m+1)).map λj=>(i,j)
theorem BY(m i:Nat):rws m (i+1)=rws m i++(dk (m+1)).map λj=>(i,j):=by
 unfold rws
 rw[mn (n:=i),ms]
 simp
theorem K6(m i:Nat):(rws m i).length=i*(m+1):=by
 induction i with
 |zero=>simp[rws]
 |succ i ih=>rw[BY,ce,ih,Nat.succ_mul,a_,io]
theorem GJ{a b n:Nat}(ha:a<=12)(hb:b<=12)(h:n<=3*((a+1)*(b+1))):n<b_:=by
 have:(a+1)*(b+1)<=13*13:=q5 (by omega) (by omega)
 exact cr (show n<=507 by omega) (by decide)
theorem sP:bd "p" =⟨#[112]⟩:=by kernel_rfl
theorem sA:bd "a" =⟨#[97]⟩:=by kernel_rfl
theorem sB:bd "b" =⟨#[98]⟩:=by kernel_rfl
theorem MP{T:PT}{m f s a:bv}{v c:Nat}(h:a=⟨#[v]⟩):V.int (if a=⟨#[c]⟩then jU (cF T.2.2.1.2 T.2.2.2.2 T.2.1) T.2.2.2 else jU (cF T.2.2.1.2 T.2.2.2.2 T.2.1) T.2.2.1+jU (cF T.2.2.1.2 T.2.2.2.2 T.2.1) T.2.2.2)=V.int ((ku T m f s).ac v c):=by
 subst h
 unfold Gd.ac
 by_cases e:v=c
 ·subst e
  rw[if_pos rfl,if_pos rfl]
  rfl
 ·rw[if_neg (λz=>e (by simpa using congrArg Str.cps z)),if_neg e]
  rfl
theorem DM{H3 H5:Hp}{l p q r:a6}{xs:List V}{t:dm×Int}{a b d:V}{c:bv}{y:HO}(hl:H3 l=some (.lst xs))(hp:H3 p=none)(hq:L2.upd H3 p (.tup [a,b]) q=none)(e:ai (L2.upd (L2.upd H3 p (.tup [a,b])) q (.tup [.ref p,.str c])) H5)(hr:H5 r=none)
  (ea:a= .int (t.1.1:Int)) (eb:b= .int (t.1.2.1:Int)) (ec:c=⟨#[t.1.2.2]⟩) (ed:d= .int t.2) :
  H5 l=some (.lst xs)/\r≠l/\ai (Wo l H3) (Wo l (L2.upd (L2.upd H5 r (.tup [.ref q,d])) l y))/\L4 (Wo l (L2.upd (L2.upd H5 r (.tup [.ref q,d])) l y)) r t:=by
 subst ea eb ec ed
 have s1:=ai.upd (o:=.tup [.int (t.1.1:Int),.int (t.1.2.1:Int)]) hp
 have s2:=s1.trans (ai.upd (o:=.tup [.ref p,.str ⟨#[t.1.2.2]⟩]) hq)
 have h5:=e _ _ (s2 _ _ hl)
 have nr:r≠l:=λz=>by rw[z,h5]at hr;cases hr
 have np:p≠l:=λz=>by rw[z,hl]at hp;cases hp
 have nq:q≠l:=λz=>by rw[z,s1 _ _ hl]at hq;cases hq
 have Z1:p≠q:=λz=>by rw[←z,ah]at hq;cases hq
 have keep:∀{b o},b≠l->H5 b=some o->Wo l (L2.upd (L2.upd H5 r (.tup [.ref q,.int t.2])) l y) b=some o:=λ{b o} n h=>Wo.in n (by rw[aq n,aq (aO h hr)];exact h)
 exact⟨h5,nr,λb u h=>keep (Wo.ne h) (e _ _ (s2 _ _ (Wo.sub b u h))),q,HN nr,p,keep nq (e _ _ ah),keep np (e _ _ (by rw[aq Z1,ah];rfl))⟩
theorem Ei{α:Type}{R:α->α->Prop}{l:List α}{k:Nat}{x:α}(h:l.Pairwise R)(ir:∀a,¬R a a)(hk:l[k]? =some x):x∉l.take k:=λhm=>by
 have e:l=l.take k++l.drop k:=(s_ k l).symm
 rw[e]at h
 have TL:=(bj.mp hk).1
 have hd:x∈l.drop k:=by
  rw[ge TL,(bj.mp hk).2]
  exact cw
 exact ir x ((List.pairwise_append.mp h).2.2 x hm x hd)
noncomputable def Qg:List Nat:=[112,97,98]
noncomputable def st3(q:Nat×Nat)(b:Nat):List dm:=(Qg.take b).map λc=>(q.1,q.2,c)
theorem Pg {b:Nat}{x:V}(h:[V.str (bd "p"),V.str (bd "a"),V.str (bd "b")][b]? =some x):∃c,Qg[b]? =some c/\x= .str ⟨#[c]⟩:=by
 rw[sP,sA,sB]at h
 match b,h with
 | 0,h=>exact⟨112,rfl,(dn h).symm⟩
 | 1,h=>exact⟨97,rfl,(dn h).symm⟩
 | 2,h=>exact⟨98,rfl,(dn h).symm⟩
 |b+3,h=>simp at h
theorem NW{ps:List (Nat×Nat)}(pw:ps.Pairwise Lc){a b c:Nat}{q:Nat×Nat}(ha:ps[a]? =some q)(hb:Qg[b]? =some c):(q.1,q.2,c)∉c8 (ps.take a)++st3 q b:=λz=>by
 rcases eM.mp z with z|z
 ·exact Ei pw (λ_=>D3) ha (dI.mp z).1
 ·obtain⟨c',hc',e⟩:=eI.mp z
  have e':c'=c:=(Prod.mk.inj (Prod.mk.inj e).2).2
  subst e'
  match b,hb with
  | 0,hb=>exact nomatch hc'
  | 1,hb=>exact absurd hc' (by rw[←dn hb];decide)
  | 2,hb=>exact absurd hc' (by rw[←dn hb];decide)
  |b+3,hb=>simp[Qg]at hb
theorem Mi{H:Hp}{g:Gd}{s:dm}:∀{kvs:List NE} {ss:List dm},Hg H g kvs ss->s∉ss->jR kvs (fY s)=none
 |_,_,.nil,_=>rfl
 |_,_,.cons ⟨h1,_⟩ r,h=>by
  rw[iK (λz=>h (by rw[sG (h1.symm.trans z)];exact cw))]
  exact Mi r λz=>h (b0 _ z)
theorem Ib{q:Nat×Nat}{b c:Nat}(h:Qg[b]? =some c):st3 q (b+1)=st3 q b++[(q.1,q.2,c)]:=by
 unfold st3
 rw[take_snoc h,du]
 rfl
theorem NX{ps:List (Nat×Nat)}{q:Nat×Nat}{a b:Nat}(ha:a<ps.length):(c8 (ps.take a)++st3 q b).length<=3*ps.length:=by
 rw[ce,rL,mx]
 have:(st3 q b).length<=3:=by unfold st3;rw[a_,mx];exact Nat.min_le_right _ _
 omega
theorem BN{ps:List (Nat×Nat)}{q:Nat×Nat}{a:Nat}(h:ps[a]? =some q):c8 (ps.take (a+1))=c8 (ps.take a)++st3 q 3:=by
 unfold c8
 rw[take_snoc h,ms]
 simp[three,st3,Qg]
theorem F0{α:Type}(l:List α)(d:α)(c:α->Bool):((dk l.length).filter λi=>c (l.getD i d)).map (λi=>l.getD i d)=l.filter c:=by
 have e:(dk l.length).map (λi=>l.getD i d)=l:=by
  refine List.ext_getElem (by simp) λi h1 h2=>?_
  simp[dv,h2]
 rw[show l.filter c=((dk l.length).map λi=>l.getD i d).filter c by rw[e],List.filter_map]
 rfl
theorem uL{α β γ:Type}{F:β->γ->Prop}{f:α->β}{g:α->γ}:∀{l:List α},(∀i∈l,F (f i) (g i))->Paired F (l.map f) (l.map g)
 |[],_=>.nil
 |_::_,h=>.cons (h _ cw) (uL λi hi=>h i (b0 _ hi))
theorem Kp2{r:L2.St}{a b:Option V}:Kp (none::none::r) (a::b::r):=λi v e=>by
 match i with
 | 0=>cases e
 | 1=>cases e
 |i+2=>exact e
theorem E8{H:Hp}{P l:a6}{ln:re}{lq:bv}{xs:List V}{o:HO}(h:TabOk H P ln lq)(hl:H l=some (.lst xs)):TabOk (L2.upd H l o) P ln lq:=by
 have n:∀{b φ},H b=some (.ext φ)->b≠l:=λ{b φ} e z=>by rw[z,hl]at e;cases e
 rcases h with h|⟨c,h,h2⟩
 ·exact .inl (by rw[aq (n h)];exact h)
 ·exact .inr ⟨c,by rw[aq (n h)];exact h,by rw[aq (n h2)];exact h2⟩
theorem LT.put{L:Lm}{H:Hp}{l:a6}{xs:List V}{o:HO}(h:LT L H)(hl:H l=some (.lst xs)):LT L (L2.upd H l o):=⟨E8 h.a hl,E8 h.b hl,h.ne⟩
theorem Lo.put{P:bo}{w:df}{L:Lm}{H H1:Hp}{l:a6}{xs:List V}{o:HO}(a:Lo P w L H H1)(hn:H l=none)(hl:H1 l=some (.lst xs)):Lo P w L H (L2.upd H1 l o):=by
 refine⟨λb u q=>?_,λd kvs q=>?_,a.lt.put hl,λb q=>?_⟩
 ·rw[aq (aO (Nt.sub b u q) hn)];exact a.nx b u q
 ·rw[aq (aO q hn)];exact a.nd d kvs q
 ·by_cases z:b=l
  ·rw[z];exact hn
  ·rw[aq z]at q;exact a.dom b q
theorem Lz{H:Hp}{l q:a6}{k:NK}{xs:List V}{o:HO}(h:jm H q k)(hl:H l=some (.lst xs)):jm (L2.upd H l o) q k:=by
 have n:∀{b ys},H b=some (.tup ys)->b≠l:=λ{b ys} e z=>by rw[z,hl]at e;cases e
 obtain⟨p,h1,h2⟩:=h
 exact⟨p,by rw[aq (n h1)];exact h1,by rw[aq (n h2)];exact h2⟩
theorem EB(T:PT)(m f s:bv):(ku T m f s).Ok:=by
 show Au m f s ((f.cps.size:Int),(s.cps.size:Int))=true
 unfold Au
 split
 ·simp
 ·split<;>simp
theorem AQ(m:bv)(n k:Nat):iC m n k≠[]:=by
 have h:((0:Nat),(0:Nat))∈iC m n k:=by
  refine fe.mpr ⟨f6.mpr ⟨em _,em _⟩,?_⟩
  show vo m (((0:Nat):Int),((0:Nat):Int))=true
  unfold vo
  split
  ·simp
  ·split
   ·simp
   ·split<;>simp
 exact r_ h
end
section
theorem QF{c:Int}(h1: -(10 ^ 39)-4<=c)(h2:c<=10 ^ 39):Sm c:=xO (by omega) (by omega)
noncomputable def Fg(K:PySem.W.Frag):Sp:=λvs H Q _=>∃(s t:a6) (ns:List Int) (k:Int),vs=[.ref s,.ref t]/\yM K H s t ns k/\k<=100000/\∀c:Int,-(10 ^ 39)<=c->c<=10 ^ 39->Q (.int c) (L2.upd H t (.lst [.int (k+1)]))
noncomputable def BP(K:PySem.W.Frag):Sp:=λvs H Q _=>∃(s t:a6) (ns:List Int) (k:Int) (n:Nat),vs=[.ref s,.ref t,.int n]/\yM K H s t ns k/\k<=100000/\1<=n/\n<=6 ∧
 ∀x H',zH x->x.cps.size=n->ai (L2.upd H t (.lst [.int (k+1)])) H'->Q (.str x) H'
noncomputable def Py(f:cG):Prop:=1<=f.2/\f.2<=999/\ -(10 ^ 39)<=f.1/\f.1<=10 ^ 39
theorem Py.l{f:cG}(h:Py f):KH f:=⟨h.1,h.2.1,QF (by have:=h.2.2.1;omega) h.2.2.2⟩
noncomputable def BQ(K:PySem.W.Frag):Sp:=λvs H Q _=>∃(s t:a6) (ns:List Int) (k c:Int),vs=[.ref s,.ref t,.int c]/\yM K H s t ns k/\k<=90000 ∧
 ∀(f:cG) (q:a6) (H':Hp) (k':Int),Py f->ai (Wo t H) (Wo t H')->H' t=some (.lst [.int k'])->k<=k'->k'<=k+2->H q=none->H' q=some (.tup [.int f.1,.int f.2])->Q (.ref q) H'
noncomputable def Fb(K:PySem.W.Frag):Sp:=λvs H Q _=>∃(s t:a6) (ns:List Int) (k:Int) (n:Nat),vs=[.ref s,.ref t,.int n]/\yM K H s t ns k/\k<=80000/\1<=n/\n<=6 ∧
 ∀(r l o m:a6) (rs:List a6) (rows:List (List cG)) (fo fm:cG) (sg:bv) (H':Hp) (k':Int),zH sg->sg.cps.size=n->H' r=some (.tup [.str sg,.ref l,.ref o,.ref m])->tM K (Wo t H') l rs rows->KG n rows->(∀r∈rows,∀f∈r,KH f)->TupAt (Wo t H') o fo->KH fo->TupAt (Wo t H') m fm->KH fm →
  ai (Wo t H) (Wo t H')->H' t=some (.lst [.int k'])->k<=k'->k'<=k+200->Q (.ref r) H'
noncomputable def yT(K:PySem.W.Frag)(C:a6):Sp:=λvs H Q _=>∃(s t:a6) (ns:List Int) (k:Int),vs=[.ref s,.ref t]/\yM K H s t ns k/\k<=70000 ∧
 ∀x H' k' T,Ga K C (Wo t H') x T->T.1.cps.size<=4->H x=none->ai (Wo t H) (Wo t H')->H' t=some (.lst [.int k'])->k<=k'->k'<=k+300->Q (.ref x) H'
noncomputable def Ig(K:PySem.W.Frag):Sp:=λvs H Q _=>∃(s t:a6) (ns:List Int) (k:Int) (n:Nat) (sg:bv),vs=[.ref s,.ref t,.str sg,.int n]/\yM K H s t ns k/\k<=80000/\n<=12/\0<sg.cps.size/\sg.cps.size<=100 ∧
 ∀f H' k',Of sg f->f.cps.size<=n->ai (Wo t H) (Wo t H')->H' t=some (.lst [.int k'])->k<=k'->k'<=k+20->Q (.str f) H'
noncomputable def BS:Sp:=λvs H Q _=>∃m:Int,vs=[.int m]/\0<=m/\∀x H',ko x=true->ai H H'->Q (.str x) H'
noncomputable def Kn(v u:V):Prop:=(∃s,v= .str s/\u= .str s)\/∃n,v= .int n/\u= .int n
noncomputable def Bv(K:PySem.W.Frag)(H:Hp):Nat->V->V->Prop
 | 0,v,u=>Kn v u
 |d+1,v,u=>Kn v u\/∃p q xs ys,v= .ref p/\u= .ref q/\dD K H p xs/\dD K H q ys/\xs.length=ys.length/\xs.length<=100/\∀(i:Nat) x y,xs[i]? =some x->ys[i]? =some y->Bv K H d x y
theorem Bv.same{K:PySem.W.Frag}{H H':Hp}(e:ai H H'):∀{d:Nat} {v u:V},Bv K H d v u->Bv K H' d v u
 | 0,_,_,h=>h
 |d+1,_,_,h=>h.imp id λ⟨p,q,xs,ys,h1,h2,h3,h4,h5,h6,h7⟩=>⟨p,q,xs,ys,h1,h2,ai.tup e h3,ai.tup e h4,h5,h6,λi x y hx hy=>Bv.same e (h7 i x y hx hy)⟩
theorem Bv.flat{K:PySem.W.Frag}{H:Hp}{d:Nat}{v u:V}(h:Kn v u):Bv K H d v u:=by
 cases d with
 |zero=>exact h
 |succ d=>exact .inl h
theorem Bv.int{K:PySem.W.Frag}{H:Hp}{d:Nat}{n:Int}:Bv K H d (.int n) (.int n):=.flat (.inr ⟨_,rfl,rfl⟩)
theorem Bv.str{K:PySem.W.Frag}{H:Hp}{d:Nat}{n:bv}:Bv K H d (.str n) (.str n):=.flat (.inl ⟨_,rfl,rfl⟩)
theorem Bv.of{K:PySem.W.Frag}{H:Hp}{p q:a6}{xs ys:List V}{d:Nat}(hp:dD K H p xs)(hq:dD K H q ys)(hl:xs.length<=100)(h:Paired (Bv K H d) xs ys):Bv K H (d+1) (.ref p) (.ref q) :=
 .inr ⟨p,q,xs,ys,rfl,rfl,hp,hq,Paired.len h,hl,λi x y hx hy=>by
  obtain⟨y',hy',z⟩:=GP.Paired.at h hx
  rw[hy]at hy'
  cases hy'
  exact z⟩
noncomputable def vO(K:PySem.W.Frag)(d:Nat):Sp:=λvs H Q _=>∃v u:V,vs=[v,u]/\Bv K H d v u/\∀H',ai H H'->Q (.bl true) H'
theorem mH{α:Type}{l:List α}{i:Nat}{d x:α}(h:l[i]? =some x):l.getD i d=x:=by
 rw[dv,h];rfl
theorem KU{a tv:Int}{i j:Nat}(ht:tv=1\/tv=3\/tv=5\/tv=7\/tv=9\/tv=11)(hij:i<j)(hj:j<6):((a+(i:Int)*tv) % 92).toNat≠((a+(j:Int)*tv) % 92).toNat:=by
 intro z
 have n1:=gL (a+(i:Int)*tv) (show(92:Int)≠0 by decide)
 have n2:=gL (a+(j:Int)*tv) (show(92:Int)≠0 by decide)
 have z':(a+(j:Int)*tv) % 92=(a+(i:Int)*tv) % 92:=by rw[←lr n1,←lr n2,z]
 have d:=Int.emod_eq_emod_iff_emod_sub_eq_zero.mp z'
 have tb:0<tv/\tv<=11:=by rcases ht with q|q|q|q|q|q<;>rw[q]<;>decide
 have p0:(0:Int)<((j-i:Nat):Int):=wl.mpr (Nat.sub_pos_of_lt hij)
 have p5:((j-i:Nat):Int)<=5:=Int.ofNat_le.mpr (bn (Nat.sub_le j i) (Nat.le_of_lt_succ hj))
 rw[Int.add_sub_add_left,←Int.sub_mul,←Int.natCast_sub (rg hij)]at d
 have m0:=Int.mul_pos p0 tb.1
 have m1:=Int.mul_le_mul p5 tb.2 (jp tb.1) (show(0:Int)<=5 by decide)
 rw[Int.emod_eq_of_lt (jp m0) (Int.lt_of_le_of_lt m1 (by decide))]at d
 rw[d]at m0
 exact absurd m0 (by decide)
theorem CY(cs:List Int)(m:Int)(h:0<cs.length):∃c∈cs,G9 (cs.map V.int) (m % (cs.length:Int))=some (.int c):=by
 have hn:(0:Int)<(cs.length:Int):=wl.mpr h
 obtain⟨n,e⟩:=Int.eq_ofNat_of_zero_le (gL m (Int.ne_of_gt hn))
 have hl:=f8 m hn
 rw[e]at hl ⊢
 have hl':n<cs.length:=wl.mp hl
 exact⟨cs[n],g0 hl',gW (by rw[cx,a7 hl'];rfl)⟩
theorem Ej{L:List Nat}{p:Nat->Nat}(hL:L.Nodup)(n:Nat)(hp:∀i,i<n->p i<L.length)(hne:∀i j,i<j->j<n->p i≠p j):((dk n).map λi=>L.getD (p i) 0).Nodup:=by
 rw[List.Nodup,List.pairwise_map]
 refine List.Pairwise.imp_of_mem ?_ (List.pairwise_lt_range (n:=n))
 intro i j hi hj hij z
 have h1:=hp i (md.mp hi)
 have h2:=hp j (md.mp hj)
 rw[mH (a7 h1),mH (a7 h2)]at z
 exact hne i j hij (md.mp hj) ((List.getElem_inj hL).mp z)
noncomputable def Jv:List Nat->Bool
 |a::b::r=>decide (a<b)&&Jv (b::r)
 |_=>true
theorem Az:∀{a:Nat} {l:List Nat},Jv (a::l)=true->(∀c∈l,a<c)/\Jv l=true
 |a,[],_=>⟨λc hc=>(nomatch hc),rfl⟩
 |a,b::r,h=>by
  have h':(decide (a<b)&&Jv (b::r))=true:=h
  rw[ii]at h'
  have h1:=of_decide_eq_true h'.1
  refine⟨λc hc=>?_,h'.2⟩
  rcases cm.mp hc with rfl|hc
  ·exact h1
  ·exact Nat.lt_trans h1 ((Az h'.2).1 c hc)
theorem xC:∀{l:List Nat},Jv l=true->l.Nodup
 |[],_=>List.nodup_nil
 |a::l,h=>vk.mpr ⟨λz=>g_ _ ((Az h).1 a z),xC (Az h).2⟩
noncomputable def Ko(rows:List (List cG))(k:Nat):Prop:=∀a b f,KJ rows a b f->KH f/\(a=b->k<=a->Py f)
theorem F7{rows:List (List cG)}{a c i j:Nat}{row:List cG}{f g:cG}(hr:rows[a]? =some row)(h:KJ (rows.set a (row.set c f)) i j g):(i=a/\j=c/\g=f)\/KJ rows i j g:=by
 obtain⟨r,h1,h2⟩:=h
 rw[wa]at h1
 by_cases e:a=i
 ·subst e
  rw[if_pos rfl,if_pos (bj.mp hr).1]at h1
  cases h1
  rw[wa]at h2
  by_cases e2:c=j
  ·subst e2
   rw[if_pos rfl]at h2
   split at h2
   ·exact .inl ⟨rfl,rfl,(dn h2).symm⟩
   ·cases h2
  ·rw[if_neg e2]at h2
   exact .inr ⟨row,hr,h2⟩
 ·rw[if_neg e]at h1
  exact .inr ⟨r,h1,h2⟩
noncomputable def xU(K:PySem.W.Frag)(H:Hp)(t l:a6)(n j:Nat)(k:Int)(H2:Hp):Prop:=∃rs rows,tM K (Wo t H2) l rs rows/\KG n rows/\Ko rows j/\(∀r∈rs,H r=none)/\ai (Wo t H) (Wo t H2)/\H2 t=some (.lst [.int k])
theorem JS{rows:List (List cG)}{k:Nat}(h:Ko rows k):∀r∈rows,∀f∈r,KH f:=λr hr f hf=>by
 obtain⟨i,hi,e⟩:=ll hr
 obtain⟨j,hj,e'⟩:=ll hf
 exact(h i j f ⟨r,bj.mpr ⟨hi,e⟩,bj.mpr ⟨hj,e'⟩⟩).1
theorem Js{xs:List V}{j:Nat}(h:j<xs.length):LD xs.length (j:Int)=some j:=by
 unfold LD
 rw[if_pos (by omega),if_pos (by omega)]
 simp
noncomputable def Mn(K:PySem.W.Frag)(C:a6):Sp:=λvs H Q _=>∃(x:a6) (T:PT) (b:Bool),vs=[.ref x,.bl b]/\Ga K C H x T/\Q (.int (if b=true then jU (uT T) T.2.2.2 else jU (uT T) T.2.2.1+jU (uT T) T.2.2.2)) H
noncomputable def Ff:Sp:=λvs H Q _=>∃(m:bv) (i j:Int),vs=[.str m,.int i,.int j]/\ko m=true/\Q (.bl (vo m (i,j))) H
noncomputable def Fe:Sp:=λvs H Q _=>∃(m f s:bv) (i j:Int),vs=[.str m,.str f,.str s,.int i,.int j]/\ko m=true/\f.cps.size<=20/\s.cps.size<=20/\Q (.bl (Au m f s (i,j))) H
noncomputable def Ie(K:PySem.W.Frag)(C:a6):Sp:=λvs H Q _=>∃(x b:a6) (T:PT) (m f s mv:bv) (q:Nat×Nat),vs=[.ref x,.str f,.str s,.ref b,.str mv]/\Ga K C H x T/\Of T.1 f/\Of T.1 s/\f.cps.size<=20/\s.cps.size<=20/\mv.cps.size<=1000/\vQ H b q ∧
 ((ku T m f s).walk (q.1,q.2,112) mv.cps.toList=none->∀H',ai H H'->Q .jy H') ∧
 ∀c e,(ku T m f s).walk (q.1,q.2,112) mv.cps.toList=some (c,e)->∀r p H',ai H H'->H r=none->H' r=some (.tup [.int c,.ref p])->vQ H' p (e.1,e.2.1)->Q (.ref r) H'
theorem Gd.mJ(g:Gd)(s:dm)(v:Nat)(vs:List Nat):g.walk s (v::vs)=((g.steps s).find? λt=>t.1.2.2==v).bind λt=>(g.walk t.1 vs).map λr=>(t.2+r.1,r.2):=by
 rw[Gd.walk]
 cases (g.steps s).find? λt=>t.1.2.2==v<;>rfl
theorem Gd.vY{g:Gd}:∀(a b:List Nat) (s:dm),g.walk s (a++b)=(g.walk s a).bind λr=>(g.walk r.2 b).map λq=>(r.1+q.1,q.2)
 |[],b,s=>by
  show g.walk s b=(g.walk s b).map _
  cases g.walk s b with
  |none=>rfl
  |some r=>simp
 |v::a,b,s=>by
  rw[ww,Gd.mJ,Gd.mJ]
  cases (g.steps s).find? (λt=>t.1.2.2==v)with
  |none=>rfl
  |some t =>
   show(g.walk t.1 (a++b)).map _=((g.walk t.1 a).map _).bind _
   rw[Gd.vY a b t.1]
   cases g.walk t.1 a with
   |none=>rfl
   |some r =>
    show((g.walk r.2 b).map _).map _=(g.walk r.2 b).map _
    cases g.walk r.2 b with
    |none=>rfl
    |some q=>simp[Int.add_assoc]
theorem Gd.HP{g:Gd}{s:dm}{t:dm×Int}(h:t∈g.steps s):g.walk s [t.1.2.2]=some (t.2,t.1):=by
 rw[Gd.mJ,Gd.tY h]
 show some (t.2+0,t.1)=_
 rw[Int.add_zero]
theorem Gd.Gg{g:Gd}{s e:dm}{a:List Nat}{c:Int}{t:dm×Int}(h:g.walk s a=some (c,e))(ht:t∈g.steps e):g.walk s (a++[t.1.2.2])=some (c+t.2,t.1):=by
 rw[Gd.vY,h]
 show(g.walk e [t.1.2.2]).map _=_
 rw[Gd.HP ht]
 rfl
theorem Gd.DB{g:Gd}{s e:dm}{a b:List Nat}{c:Int}{v:Nat}(h:g.walk s a=some (c,e))(hn:∀t∈g.steps e,t.1.2.2≠v):g.walk s (a++v::b)=none:=by
 rw[Gd.vY,h]
 show(g.walk e (v::b)).map _=_
 rw[Gd.mJ,List.find?_eq_none.mpr λt ht=>by simpa using hn t ht]
 rfl
theorem OH{m:bv}(h:ko m=true):m=bd "whole" \/m=bd "within" \/m=bd "over" \/m=bd "stretch" :=by
 by_cases h1:m=bd "whole"
 ·exact .inl h1
 ·by_cases h2:m=bd "within"
  ·exact .inr (.inl h2)
  ·by_cases h3:m=bd "over"
   ·exact .inr (.inr (.inl h3))
   ·exact .inr (.inr (.inr (yu h h1 h2 h3)))
theorem xB{a b:bv}{A B:Prop}(h1:a=b->A)(h2:¬a=b->B):if(decide (V.str a=V.str b))=true then A else B:=by
 by_cases h:a=b
 ·rw[if_pos (decide_eq_true (by rw[h]))];exact h1 h
 ·rw[if_neg (by rw[decide_eq_false (λz=>h (V.str.inj z))];exact bt)];exact h2 h
theorem CT{i j:Int}:decide (V.int i=V.int j)=decide (i=j):=by
 by_cases h:i=j
 ·rw[h,decide_eq_true rfl,decide_eq_true rfl]
 ·rw[decide_eq_false h,decide_eq_false (λz=>h (V.int.inj z))]
theorem its{a b:bv}{A B:Prop}(h:a=b)(x:A):if(decide (V.str a=V.str b))=true then A else B:=xB (λ_=>x) λz=>absurd h z
theorem Cu{a b:bv}{A B:Prop}(h:¬a=b)(x:B):if(decide (V.str a=V.str b))=true then A else B:=xB (λz=>absurd z h) λ_=>x
theorem RG{p:Prop}[Decidable p]{A B:Prop}(h:p)(x:A):if(decide p)=true then A else B:=cI (λ_=>x) λz=>absurd h z
theorem Ex{p:Prop}[Decidable p]{A B:Prop}(h:¬p)(x:B):if(decide p)=true then A else B:=cI (λz=>absurd z h) λ_=>x
theorem D7{a b:Nat}(h:a≠b):¬(⟨#[a]⟩:bv)=⟨#[b]⟩:=λz=>h (by simpa using congrArg Str.cps z)
theorem Gd.sO{g:Gd}{e:dm}{v:Nat}(h1:¬(v=112/\e.1<g.n/\e.2.1<g.m))(h2:¬(v=97/\e.1<g.n))(h3:¬(v=98/\e.2.1<g.m)):∀t∈g.steps e,t.1.2.2≠v:=λt ht z=>by
 rcases Gd.gp.mp ht with⟨a,b,rfl⟩|⟨a,rfl⟩|⟨a,rfl⟩
 ·exact h1 ⟨z.symm,a,b⟩
 ·exact h2 ⟨z.symm,a⟩
 ·exact h3 ⟨z.symm,a⟩
theorem JI{T:PT}{m f s L a:bv}{g:Gd}{v c:Nat}(hg:ku T m f s=g)(h:L=a↔c=v):g.ac v c=if decide (V.str L=V.str a)=true then jU (uT T) T.2.2.2 else jU (uT T) T.2.2.1+jU (uT T) T.2.2.2:=by
 subst hg
 unfold Gd.ac
 by_cases e:L=a
 ·rw[if_pos (h.mp e).symm,if_pos (decide_eq_true (by rw[e]))];rfl
 ·rw[if_neg (λz=>e (h.mpr z.symm)),if_neg (by rw[decide_eq_false (λz=>e (V.str.inj z))];exact bt)];rfl
end
end GP
namespace L2
open PySem PySem.Spec PyProof.Rows
end L2
namespace GP
open PySem L2 pQ
noncomputable def zW(K:PySem.W.Frag)(L:Lm):Sp:=λvs H Q _=>∃(a:a6) (ns:List Int),vs=[.ref a]/\cA K H a (ns.map V.int)/\ns.length<=63/\LT L H/\∀H',LT L H'->Q (.bl true) H'
theorem LT.wo{L:Lm}{H:Hp}{t:a6}{xs:List V}(h:LT L H)(ht:H t=some (.lst xs)):LT L (Wo t H):=by
 have n:∀{b φ},H b=some (.ext φ)->b≠t:=λ{b φ} e z=>by rw[z,ht]at e;cases e
 have tb:∀{Q ln lq},TabOk H Q ln lq->TabOk (Wo t H) Q ln lq:=λ{Q ln lq} h=>by
  rcases h with h|⟨c,h,h2⟩
  ·exact .inl (Wo.in (n h) h)
  ·exact .inr ⟨c,Wo.in (n h) h,Wo.in (n h2) h2⟩
 exact⟨tb h.a,tb h.b,h.ne⟩
theorem LT.step{L:Lm}{H H':Hp}{t:a6}{xs:List V}(h:LT L H)(ht:H t=some (.lst xs))(e:ai (Wo t H) (Wo t H')):LT L H':=((h.wo ht).same e).same Wo.sub
end GP
namespace L2
open PySem PySem.Spec PyProof.Rows PySem.W
section
section
variable{X:Cx}{pins:List (a6×lv)}{σ:St}{H:Hp}{s:bc}{a q:a6}{k:NK}{kvs:List NE}{v:V}{r:a9}{A:dL}{E:a9->bc->Prop}
end
section
variable{X:Cx}{o e f i:Expr}{apos cpos pos:re}{td ty tx:TE}{Pr:bo}{wo:df}
end
end
section
end
end L2
namespace GP
open PySem L2 pQ
section
theorem Gd.Ir{g:Gd}{s:dm}(h:g.en s.1 s.2.1=true):g.rest s<=0:=by
 rw[g.rest_eq]
 refine vP (eD _ ?_)
 rw[if_pos h]
 exact cw
theorem Gd.uc{g:Gd}{s:dm}{t:dm×Int}(h:t∈g.steps s):g.rest s<=t.2+g.rest t.1:=by
 rw[g.rest_eq]
 exact vP (tz _ (eI.mpr ⟨t,h,rfl⟩))
theorem Gd.pR{g:Gd}{s e:dm}{v:Nat}{vs:List Nat}{c:Int}(h:g.walk s (v::vs)=some (c,e)):∃t c',t∈g.steps s/\t.1.2.2=v/\g.walk t.1 vs=some (c',e)/\c=t.2+c':=by
 rw[Gd.mJ]at h
 obtain⟨t,ht,h⟩:=Option.bind_eq_some_iff.mp h
 obtain⟨⟨c',e'⟩,hr,h⟩:=gN.mp h
 cases h
 exact⟨t,c',List.mem_of_find?_eq_some ht,by simpa using List.find?_some ht,hr,rfl⟩
theorem Gd.oF{g:Gd}:∀{vs:List Nat} {s e:dm} {c:Int},g.walk s vs=some (c,e)->g.en e.1 e.2.1=true->g.rest s<=c
 |[],s,e,c,h,he=>by cases h;exact Gd.Ir he
 |v::vs,s,e,c,h,he=>by
  obtain⟨t,c',ht,_,hw,rfl⟩:=Gd.pR h
  have h1:=Gd.uc ht
  have h2:=Gd.oF hw he
  omega
end
section
end
section
end
section
end
section
end
section
end
section
noncomputable abbrev T3:=List Nat×Int×dm
noncomputable abbrev Hf:=(Nat×Nat)×T3
noncomputable def Gd.Qn(g:Gd):Nat->dm->List T3
 | 0,_=>[]
 |d+1,s=>([],0,s)::(g.steps s).flatMap λt=>(g.Qn d t.1).map λw=>(t.1.2.2::w.1,t.2+w.2.1,w.2.2)
noncomputable def Gd.uG(g:Gd)(s:dm):List T3:=g.Qn (g.ht s+1) s
theorem oj{α β:Type}{l:List α}{f h:α->List β}(e:∀a∈l,f a=h a):l.flatMap f=l.flatMap h:=by
 rw[List.flatMap_def,List.flatMap_def,pz e]
theorem Gd.vU{g:Gd}:∀(d:Nat) (s:dm),g.ht s<d->g.Qn d s=g.uG s
 | 0,_,h=>by omega
 |d+1,s,h=>by
  have e1:∀t∈g.steps s,g.Qn d t.1=g.uG t.1:=λt ht=>Gd.vU d t.1 (by have:=Gd.jn ht;omega)
  by_cases hd:d=g.ht s
  ·subst hd;rfl
  ·have e2:∀t∈g.steps s,g.Qn (g.ht s) t.1=g.uG t.1:=λt ht=>by
    have:=Gd.jn ht
    have hlt:g.ht s<d:=by omega
    exact Gd.vU (g.ht s) t.1 this
   show([],0,s)::_=([],0,s)::_
   exact congrArg _ (oj λt ht=>by rw[e1 t ht,e2 t ht])
 termination_by d=>d
theorem Gd.zP(g:Gd)(s:dm):g.uG s=([],0,s)::(g.steps s).flatMap λt=>(g.uG t.1).map λw=>(t.1.2.2::w.1,t.2+w.2.1,w.2.2):=by
 show([],0,s)::_=([],0,s)::_
 rw[oj λt ht=>by rw[Gd.vU _ t.1 (Gd.jn ht)]]
theorem Gd.qN{g:Gd}:∀{mv:List Nat} {s e:dm} {c:Int},(mv,c,e)∈g.uG s↔g.walk s mv=some (c,e)
 |[],s,e,c=>by
  rw[Gd.zP,cm]
  constructor
  ·rintro(h|h)
   ·cases h;rfl
   ·obtain⟨t,_,h⟩:=q_.mp h
    obtain⟨w,_,h⟩:=eI.mp h
    cases h
  ·intro h
   cases h
   exact .inl rfl
 |v::vs,s,e,c=>by
  rw[Gd.zP,cm]
  constructor
  ·rintro(h|h)
   ·cases h
   ·obtain⟨t,ht,h⟩:=q_.mp h
    obtain⟨⟨w1,w2,w3⟩,hw,h⟩:=eI.mp h
    cases h
    rw[Gd.mJ,Gd.tY ht]
    show(g.walk t.1 w1).map _=_
    rw[Gd.qN.mp hw]
    rfl
  ·intro h
   obtain⟨t,c',ht,rfl,hw,rfl⟩:=Gd.pR h
   exact .inr (q_.mpr ⟨t,ht,eI.mpr ⟨(vs,c',e),Gd.qN.mpr hw,rfl⟩⟩)
noncomputable def Gd.cnt(g:Gd)(s:dm):Nat:=(g.uG s).countP λw=>g.en w.2.2.1 w.2.2.2.1&&decide (w.2.1=g.rest s)
theorem Gd.JX{g:Gd}{s:dm}{c x:Int}(h:x<=c+g.rest s):((g.uG s).countP λw=>g.en w.2.2.1 w.2.2.2.1&&decide (c+w.2.1=x))=if c+g.rest s=x then g.cnt s else 0:=by
 by_cases e:c+g.rest s=x
 ·rw[if_pos e]
  refine List.countP_congr λw _=>?_
  simp only[ii,decide_eq_true_eq]
  constructor<;>rintro⟨a,b⟩<;>exact⟨a,by omega⟩
 ·rw[if_neg e]
  refine List.countP_eq_zero.mpr λw hw=>?_
  simp only[ii,decide_eq_true_eq]
  rintro⟨a,b⟩
  have:g.rest s<=w.2.1:=Gd.oF (Gd.qN.mp hw) a
  omega
theorem Gd.Pc(g:Gd)(s:dm):g.cnt s=(if g.stop s then 1 else 0)+((g.steps s).map λt=>if t.2+g.rest t.1=g.rest s then g.cnt t.1 else 0).sum:=by
 show(g.uG s).countP _=_
 rw[Gd.zP,List.countP_cons,List.countP_flatMap,Nat.add_comm]
 congr 1
 ·unfold Gd.stop
  rw[show decide ((0:Int)=g.rest s)=decide (g.rest s=0) from decide_eq_decide.mpr ⟨Eq.symm,Eq.symm⟩]
 ·refine congrArg List.sum (pz λt ht=>?_)
  rw[Function.comp_apply,List.countP_map]
  exact Gd.JX (Gd.uc ht)
noncomputable def Gd.pre(g:Gd)(bs:List (Nat×Nat)):List Hf:=bs.flatMap λb=>(g.uG (b.1,b.2,112)).map λw=>(b,w)
theorem Gd.qO{g:Gd}{bs:List (Nat×Nat)}{b:Nat×Nat}{mv:List Nat}{c:Int}{e:dm}:(b,mv,c,e)∈g.pre bs↔b∈bs/\g.walk (b.1,b.2,112) mv=some (c,e):=by
 unfold Gd.pre
 rw[q_]
 constructor
 ·rintro⟨b',hb,h⟩
  obtain⟨w,hw,h⟩:=eI.mp h
  cases h
  exact⟨hb,Gd.qN.mp hw⟩
 ·rintro⟨hb,h⟩
  exact⟨b,hb,eI.mpr ⟨_,Gd.qN.mpr h,rfl⟩⟩
noncomputable def Gd.tot(g:Gd)(bs:List (Nat×Nat))(x:Int):Nat:=(g.pre bs).countP λw=>g.en w.2.2.2.1 w.2.2.2.2.1&&decide (w.2.2.1=x)
theorem sum_filter{α:Type}(p:α->Bool)(f:α->Nat):∀l:List α,(l.map λa=>if p a=true then f a else 0).sum=((l.filter p).map f).sum
 |[]=>rfl
 |a::l=>by
  rw[eJ,List.sum_cons,sum_filter p f l]
  cases h:p a with
  |true=>rw[ip h];simp
  |false=>rw[iq (by rw[h];exact bt)];simp
theorem Gd.NP{g:Gd}{bs:List (Nat×Nat)}{x:Int}(h:∀b∈bs,x<=g.jS b):g.tot bs x=((bs.filter λb=>decide (g.jS b=x)).map λb=>g.cnt (b.1,b.2,112)).sum:=by
 unfold Gd.tot Gd.pre
 rw[List.countP_flatMap,←sum_filter]
 refine congrArg List.sum (pz λb hb=>?_)
 rw[Function.comp_apply,List.countP_map]
 have z:=Gd.JX (g:=g) (s:=(b.1,b.2,112)) (c:=0) (x:=x) (by have:=h b hb;show x<=0+g.jS b;omega)
 simp only[kl,decide_eq_true_eq]at z ⊢
 exact z
end
end GP
namespace L2
open PySem PySem.Spec PyProof.Rows
theorem uK(ns:List Int):∀n:Nat,preSum (λi=>(ns[i]?).getD 0) n=(ns.take n).sum
 | 0=>rfl
 |n+1=>by
  show preSum _ n+(ns[n]?).getD 0=_
  rw[uK ns n]
  by_cases hn:n<ns.length
  ·rw[List.take_add_one,a7 hn,List.sum_append]
   simp
  ·rw[sT (by omega),fi (by omega),fi (by omega)]
   simp
theorem ints_get:∀{ns:List Int} {us:List a9},Vals (ns.map V.int) us->∀(i:Nat) (v:a9),us[i]? =some v->∃n t,ns[i]? =some n/\v= .int n t
 |[],_,r,i,v,e=>by
  cases r
  simp at e
 |n::ns,_,r,i,v,e=>by
  cases r with
  |cons r1 r2 =>
   cases i with
   |zero =>
    simp at e
    subst e
    obtain⟨t,z⟩:=r1
    exact⟨n,t,rfl,z⟩
   |succ i=>exact ints_get r2 i v e
theorem G5{X:Cx}{K':PySem.W.Frag}(hK:X.K=K')(hc:X.calm=true):nU X (.builtin "sum") (λxs H Q=>∃(l:a6) (ns:List Int),xs=[.ref l]/\cA K' H l (ns.map V.int)/\Q (.int ns.sum) H):=by
 subst hK
 intro pins s σ H xs us Q I r h
 obtain⟨l,ns,rfl,hl,q⟩:=h
 obtain⟨u,rfl,ru⟩:=vals1 r
 cases ru
 obtain⟨its,rv,p,hz⟩:=I.list hl
 have pl:s.heap.IsList l its.toArray:=p.isList
 have hlt:l<s.heap.objs.size:=by obtain⟨_,e,_⟩:=pl;exact ca e
 have hlen:ns.length=its.length:=by rw[←rv.length,a_]
 refine TK.cH (ba s.toks) ?_
 refine call_sum_walkG (mi pl ?_)
 refine⟨s.heap.objs.size,[s.heap.objs.size,l],[s.heap.objs.size],its.toArray.size,_,_,λi=>(ns[i]?).getD 0,rfl,Walks.list (A:=X.A.in1) (I.ok.hd hc) _ l (dy hlt) its.toArray,
  ⟨⟨_,bp _ rfl,rfl,rfl⟩,pl.push _⟩,λb hb=>?_,λi v hP=>?_,λh' tk t' hk hup=>?_⟩
 ·show b<(s.heap.push _).objs.size
  rw[hV]
  rcases cm.mp hb with rfl|z
  ·exact ib _
  ·rw[c_.mp z]
   exact Nat.lt_succ_of_lt hlt
 ·obtain⟨n,t,e,rfl⟩:=ints_get rv i v (by simpa using hP)
  exact⟨t,by show _=Value.int ((ns[i]?).getD 0) t;rw[e];rfl⟩
 ·rw[uK,dq,←hlen,my]
  refine⟨.int ns.sum,H,I.kept (t':=tk) (λb x e=>hk b x (λhm=>?_) (a8 _ e)),⟨_,rfl⟩,q⟩
  rw[c_.mp hm]at e
  exact g_ _ (ca e)
end L2
namespace GP
open PySem L2 pQ
section
noncomputable def XT(kvs:List NE)(g:Gd):Prop:=∀s,g.In s->jR kvs (fY s)=some (.int (g.cnt s:Int))
noncomputable def Im(P:bo)(w:df)(CG:a6):Sp:=λvs H Q _=>∃(x d:a6) (g:Gd) (bs:List (Nat×Nat)) (kvs:List NE),vs=[.ref x,.ref d]/\GR P w CG H x d g bs kvs/\g.n<=12/\g.m<=12/\∀d' kvs' H',ai H H'->H d'=none->ND P w H' d' kvs'->XT kvs' g->Q (.ref d') H'
noncomputable def Fl(P:bo)(w:df)(K:PySem.W.Frag)(C CS CM:a6)(L:Lm):Sp:=λvs H Q E=>∃(pr:a6) (T:PT) (f s m:bv),vs=[.ref pr,.str f,.str s,.str m]/\Ga K C H pr T/\LT L H/\f.cps.size<=20/\s.cps.size<=20 ∧
 (Of T.1 f->Of T.1 s->ko m=true->f.cps.size<=12/\s.cps.size<=12/\∀b H',Lo P w L H H'->fmin (ku T m f s).jS (iC m f.cps.size s.cps.size)=some b->Q (.int ((ku T m f s).tot (iC m f.cps.size s.cps.size) ((ku T m f s).jS b):Nat)) H') ∧
 (∀i j,Dr T.1 f s i j->∀dx H',ai H H'->H' dx=some (Dy dx (JL i j))->E (.ref CS) (some dx) H')/\(Of T.1 f->Of T.1 s->ko m=false->(reprText m).length<=20/\∀H',ai H H'->E (.ref CM) none H')
noncomputable def Gd.sY(g:Gd)(s:dm)(k:Nat):Nat:=(if g.stop s then 1 else 0)+(((g.steps s).take k).map λt=>if t.2+g.rest t.1=g.rest s then g.cnt t.1 else 0).sum
theorem Gd.G3(g:Gd)(s:dm):g.sY s (g.steps s).length=g.cnt s:=by
 unfold Gd.sY
 rw[my,←Gd.Pc]
theorem Gd.EJ{g:Gd}{s:dm}{k:Nat}{t:dm×Int}(h:(g.steps s)[k]? =some t):g.sY s (k+1)=g.sY s k+if t.2+g.rest t.1=g.rest s then g.cnt t.1 else 0:=by
 unfold Gd.sY
 rw[take_snoc h,du,List.sum_append]
 simp[Nat.add_assoc]
theorem CL{α β:Type}(l:List α)(d:α)(c:α->Bool)(F:α->β):((dk l.length).filter λi=>c (l.getD i d)).map (λi=>F (l.getD i d))=(l.filter c).map F:=by
 rw[←F0 l d c,kb]
 rfl
theorem K7{α β:Type}(l:List α)(d:α)(F:α->β):(dk l.length).map (λi=>F (l.getD i d))=l.map F:=by
 have e:=CL l d (λ_=>true) F
 rw[List.filter_eq_self.mpr λ_ _=>rfl,List.filter_eq_self.mpr λ_ _=>rfl]at e
 exact e
theorem BK{α:Type}(f:α->Nat):∀l:List α,(l.map λa=>(f a:Int)).sum=((l.map f).sum:Nat)
 |[]=>rfl
 |a::l=>by
  rw[eJ,List.sum_cons,BK f l,eJ,List.sum_cons,Int.natCast_add]
end
section
end
end GP
namespace PySem.SeqAt
open AutoSeq1 (wpAny_loadPart')
open MeetsSeq MeetsSeq2 MeetsSeq3 SeqRoads2
noncomputable def tL(A:dL)(s:bc)(y x:a9)(b:Bool):Prop :=
 ∀(prog:bo) (w:df) (E:a9->bc->Prop) (Q:a9->bc->Prop),Q (.bool b) s->cf (model prog w) A (richCompare .Lt y x) Q E s
noncomputable def xx(e g:Nat->Bool)(z:Bool):List Nat->Bool
 |[]=>z
 |j::r=>if e j then xx e g z r else g j
theorem DF(l b:a6)(items items2:Array a9)(n n2:Nat)(dd dd2:Option a6)(sl sl2:Array (Option a9))(e g:Nat->Bool):
  Meets (Builtin.«tuple.__lt__» ⟨[.ref l,.ref b],[]⟩)
   (λA R s=>s.heap.get? l=some { cls:=.type "tuple",dict:=dd,data:=.seq items n,slots:=sl }/\s.heap.get? b=some { cls:=.type "tuple",dict:=dd2,data:=.seq items2 n2,slots:=sl2 } ∧
    (∀j (h1:j<items.size) (h2:j<items2.size),EqAt A.in1 s items[j] items2[j] (e j)) ∧
    (∀j (h1:j<items.size) (h2:j<items2.size),e j=false->tL A.in1 s items[j] items2[j] (g j)) ∧
    R (.ok (.ret (.bool (xx e g (decide (items.size<items2.size)) (dk (min items.size items2.size)))))) s) :=
 .of_wp λprog w A R s h=>by
  obtain⟨hp,gn,d,tk,os⟩:=s;obtain⟨hl,hb,he,hg,h⟩:=h
  have f2:=AutoSeq1.sub_tuple_tuple
  have hZ:(items.toList.zip items2.toList).length=min items.size items2.size:=by simp
  wp_walk using wpAny_loadPart' hl,wpAny_loadPart' hb,uj _ (λrest b s'=>b.1=none/\s'=⟨hp,gn,d,tk,os⟩/\∃i,rest=(items.toList.zip items2.toList).drop i ∧
   R (.ok (.ret (.bool (xx e g (decide (items.size<items2.size)) ((dk (min items.size items2.size)).drop i))))) ⟨hp,gn,d,tk,os⟩) _
  case turn =>
   rintro⟨y,x⟩ rest b s' ⟨hb',rfl,i,hz,hR⟩
   have hlt:i<(items.toList.zip items2.toList).length:=by
    rcases Nat.lt_or_ge i (items.toList.zip items2.toList).length with h'|h'
    ·exact h'
    ·rw[List.drop_of_length_le h']at hz;cases hz
   have hm:i<min items.size items2.size:=hZ▸hlt
   have h1:i<items.size:=cq hm (Nat.min_le_left _ _)
   have h2:i<items2.size:=cq hm (Nat.min_le_right _ _)
   rw[ge hlt]at hz
   injection hz with hyx hrest
   have hy:y=items[i]:=by have:=congrArg Prod.fst hyx;simpa using this
   have hx:x=items2[i]:=by have:=congrArg Prod.snd hyx;simpa using this
   subst hy hx
   have hd:(dk (min items.size items2.size)).drop i=i::(dk (min items.size items2.size)).drop (i+1):=by simp[ge,hm]
   rw[hd]at hR
   refine a5 (he i h1 h2 prog w _ _ ?_)
   cases hy:e i with
   |true =>
    have Xk:xx e g (decide (items.size<items2.size)) (i::(dk (min items.size items2.size)).drop (i+1))=xx e g (decide (items.size<items2.size)) ((dk (min items.size items2.size)).drop (i+1)):=by
     show(if e i then _ else _)=_
     rw[hy];rfl
    rw[Xk]at hR
    wp_walk
    exact⟨rfl,rfl,i+1,hrest,hR⟩
   |false =>
    have Xk:xx e g (decide (items.size<items2.size)) (i::(dk (min items.size items2.size)).drop (i+1))=g i:=by
     show(if e i then _ else _)=_
     rw[hy];rfl
    rw[Xk]at hR
    have hri:=hg i h1 h2 hy prog w
    wp_walk using hri
    exact⟨_,rfl,hR⟩
  case fin =>
   rintro⟨b1,b2⟩ s' ⟨hb',rfl,i,hz,hR⟩
   simp only at hb'
   subst hb'
   have hge:min items.size items2.size<=i:=by
    rcases Nat.lt_or_ge i (items.toList.zip items2.toList).length with h'|h'
    ·rw[ge h']at hz;cases hz
    ·exact hZ▸h'
   rw[List.drop_of_length_le (by simpa using hge)]at hR
   wp_walk
   exact⟨_,rfl,by simpa[Builtin.Tuple.tupleCompareSizes,xx]using hR⟩
  case h =>
   exact⟨rfl,rfl,0,rfl,by simpa using h⟩
theorem tL.tuples{A:dL}{s:bc}{l b:a6}{items items2:Array a9}{e g:Nat->Bool}(hl:s.heap.IsTuple l items)(hb:s.heap.IsTuple b items2)(hu:A.units<cLine)
  (he:∀j (h1:j<items.size) (h2:j<items2.size),EqAt A.in1 s items[j] items2[j] (e j)) (hg:∀j (h1:j<items.size) (h2:j<items2.size),e j=false->tL A.in1 s items[j] items2[j] (g j)) :
  tL A s (.ref l) (.ref b) (xx e g (decide (items.size<items2.size)) (dk (min items.size items2.size))):=λprog w E Q h=>by
 obtain⟨⟨cls,dd,data,sl⟩,ho,hc,n,hd⟩:=id hl
 obtain⟨⟨abl,dd2,data2,sl2⟩,ho2,hc2,n2,hd2⟩:=id hb
 simp only at hc hd hc2 hd2
 subst hc hd hc2 hd2
 exact richCompare_meets_room (op:=.Lt) ⟨_,ho,rfl⟩ ⟨_,ho2,rfl⟩ F.slot_tuple_lt F.entry_tuple_lt (F.args_tuple_lt_2 _ _) (DF l b items items2 n n2 dd dd2 sl sl2 e g)
  ⟨ho,ho2,he,hg,show Value.bool (xx e g (decide (items.size<items2.size)) (dk (min items.size items2.size)))≠Value.notImplemented/\Q (.bool (xx e g (decide (items.size<items2.size)) (dk (min items.size items2.size)))) s from⟨(λx=>nomatch x),h⟩⟩ hu
theorem tL.str_str{A:dL}{s:bc}(a:bv)(t:wT)(b:bv)(u:wT):tL A s (.str a t) (.str b u) (decide (a.cps.toList<b.cps.toList)):=λprog w E Q h=>P.lt_str h
theorem tL.int_int{A:dL}{s:bc}(a:Int)(t:wT)(b:Int)(u:wT):tL A s (.int a t) (.int b u) (decide (a<b)):=λprog w E Q h=>HT.Iu A s a t b u prog w E Q h
end PySem.SeqAt
namespace L2
open PySem PySem.Spec PyProof.Rows
section
open PySem.SeqAt
noncomputable def FN(i j k l:Int):Bool:=if i=k then decide (j<l)else decide (i<k)
noncomputable def Cq(i j:Int)(m:bv)(k l:Int)(n:bv):Bool:=if i=k/\j=l then decide (m.cps.toList<n.cps.toList)else FN i j k l
section
variable{A:dL}{s:bc}{p q:a6}{i j k l:Int}{t1 t2 t3 t4:wT}
theorem JN(w:Nat)(h1:w< #[Value.int i t1,.int j t2].size)(h2:w< #[Value.int k t3,.int l t4].size):EqAt A s #[Value.int i t1,.int j t2][w] #[Value.int k t3,.int l t4][w] (if w=0 then i==k else j==l):=by
 match w,h1,h2 with
 | 0,_,_=>exact EqAt.int_int i t1 k t3
 | 1,_,_=>exact EqAt.int_int j t2 l t4
theorem O4(hp:s.heap.IsTuple p #[.int i t1,.int j t2])(hq:s.heap.IsTuple q #[.int k t3,.int l t4])(hu:A.units<cLine):EqAt A s (.ref p) (.ref q) (decide (i=k/\j=l)):=by
 by_cases e:p=q
 ·subst e
  obtain⟨o,ho,_,n,hd⟩:=hp
  obtain⟨o',ho',_,n',hd'⟩:=hq
  rw[ho]at ho'
  cases ho'
  rw[hd]at hd'
  injection hd' with hd1 _
  injection hd1 with hd1
  injection hd1 with a1 a2
  injection a2 with a2 _
  injection a1 with a1 _
  injection a2 with a2 _
  rw[decide_eq_true ⟨a1,a2⟩]
  exact EqAt.same _
 ·have z:=EqAt.of_refs e (RcAt.tuples hp hq hu λw h1 h2=>JN w h1 h2)
  have ez:((dk (min #[Value.int i t1,.int j t2].size #[Value.int k t3,.int l t4].size)).all (λw=>if w=0 then i==k else j==l)&& #[Value.int i t1,.int j t2].size== #[Value.int k t3,.int l t4].size)=decide (i=k/\j=l):=by
   show((i==k)&&((j==l)&&true)&&true)=_
   rw[Bool.and_true,Bool.and_true,Bool.decide_and]
   rfl
  rw[ez]at z
  exact z
theorem Ol(hp:s.heap.IsTuple p #[.int i t1,.int j t2])(hq:s.heap.IsTuple q #[.int k t3,.int l t4])(hu:A.units<cLine):tL A s (.ref p) (.ref q) (FN i j k l):=by
 have z:=tL.tuples (g:=λw=>if w=0 then decide (i<k)else decide (j<l)) hp hq hu (λw h1 h2=>JN w h1 h2) λw h1 h2 _=>by
  match w,h1,h2 with
  | 0,_,_=>exact tL.int_int i t1 k t3
  | 1,_,_=>exact tL.int_int j t2 l t4
 have ez:xx (λw=>if w=0 then i==k else j==l) (λw=>if w=0 then decide (i<k)else decide (j<l)) (decide (#[Value.int i t1,.int j t2].size< #[Value.int k t3,.int l t4].size)) (dk (min #[Value.int i t1,.int j t2].size #[Value.int k t3,.int l t4].size))=FN i j k l:=by
  show(if(i==k)=true then(if(j==l)=true then decide (2<2)else decide (j<l))else decide (i<k))=_
  unfold FN
  by_cases a:i=k
  ·rw[if_pos (beq_iff_eq.mpr a),if_pos a]
   by_cases b:j=l
   ·rw[if_pos (beq_iff_eq.mpr b),b]
    simp
   ·rw[if_neg (λz=>b (beq_iff_eq.mp z))]
  ·rw[if_neg (λz=>a (beq_iff_eq.mp z)),if_neg a]
 rw[ez]at z
 exact z
end
theorem vK{x y:V}{us:List a9}(h:Vals [x,y] us):∃u v,us=[u,v]/\RelV x u/\RelV y v:=by
 cases h with
 |cons r1 h =>
  cases h with
  |cons r2 h =>
   cases h
   exact⟨_,_,rfl,r1,r2⟩
theorem Oa{X:Cx}{K':PySem.W.Frag}(hK:X.K=K')(hu:X.A.units+10<cLine):vG X (compareOp .Lt) (λx y H Q=>∃(a b p q:a6) (m n:bv) (i j k l:Int),x= .ref a/\y= .ref b/\dD K' H a [.ref p,.str m]/\dD K' H b [.ref q,.str n]/\dD K' H p [.int i,.int j]/\dD K' H q [.int k,.int l]/\Q (.bl (Cq i j m k l n)) H):=by
 subst hK
 intro pins s σ H x y v u Q I rx ry h
 obtain⟨a,b,p,q,m,n,i,j,k,l,rfl,rfl,ha,hb,hp,hq,hQ⟩:=h
 cases rx
 cases ry
 obtain⟨ua,ra,ta,_⟩:=I.tuple ha
 obtain⟨ub,rb,tb,_⟩:=I.tuple hb
 obtain⟨up,rp,tp,_⟩:=I.tuple hp
 obtain⟨uq,rq,tq,_⟩:=I.tuple hq
 obtain⟨_,_,rfl,r1,tm,rfl⟩:=vK ra
 cases r1
 obtain⟨_,_,rfl,r1,tn,rfl⟩:=vK rb
 cases r1
 obtain⟨_,_,rfl,⟨t1,rfl⟩,t2,rfl⟩:=vK rp
 obtain⟨_,_,rfl,⟨t3,rfl⟩,t4,rfl⟩:=vK rq
 have hu1:X.A.in1.units<cLine:=by show X.A.units+1<cLine;omega
 have e2:=O4 (A:=X.A.in1) tp tq hu1
 have l2:=Ol (A:=X.A.in1) tp tq hu1
 have z:=tL.tuples (A:=X.A) (e:=λw=>if w=0 then decide (i=k/\j=l)else m==n) (g:=λw=>if w=0 then FN i j k l else decide (m.cps.toList<n.cps.toList)) ta tb (by omega) (λw h1 h2=>by
  match w,h1,h2 with
  | 0,_,_=>exact e2
  | 1,_,_=>exact EqAt.str_str m tm n tn) λw h1 h2 _=>by
  match w,h1,h2 with
  | 0,_,_=>exact l2
  | 1,_,_=>exact tL.str_str m tm n tn
 refine z X.prog X.w _ _ ⟨.bl (Cq i j m k l n),H,I,?_,hQ⟩
 show Value.bool (if decide (i=k/\j=l)=true then(if(m==n)=true then decide (2<2)else decide (m.cps.toList<n.cps.toList))else FN i j k l)=Value.bool (Cq i j m k l n)
 unfold Cq
 by_cases c:i=k/\j=l
 ·rw[if_pos (decide_eq_true c),if_pos c]
  by_cases d:m=n
  ·rw[if_pos (beq_iff_eq.mpr d),d]
   congr 1
   rw[decide_eq_false (by decide),decide_eq_false (List.lt_irrefl _)]
  ·rw[if_neg (λz=>d (beq_iff_eq.mp z))]
 ·rw[if_neg (λz=>c (of_decide_eq_true z)),if_neg c]
end
section
noncomputable def HZ(c d x:Nat):Nat:=if x=c then d else x
theorem xm(c d:Nat):∀l:List Nat,c∉l->l.map (HZ c d)=l
 |[],_=>rfl
 |k::r,h=>by
  rw[eJ,xm c d r λm=>h (b0 _ m)]
  congr 1
  exact if_neg λ(e:k=c)=>h (by rw[←e];exact cw)
theorem BJ(c d:Nat):∀parts:List bv,(∀p∈parts,c∉p.cps.toList)->(Str.join ⟨#[c]⟩ parts).cps.toList.map (HZ c d)=(Str.join ⟨#[d]⟩ parts).cps.toList
 |[],_=>rfl
 |[p],h=>xm c d _ (h p (c_.mpr rfl))
 |p::q::r,h=>by
  have ih:=BJ c d (q::r) λa ha=>h a (b0 _ ha)
  show(p++⟨#[c]⟩++Str.join ⟨#[c]⟩ (q::r)).cps.toList.map (HZ c d)=(p++⟨#[d]⟩++Str.join ⟨#[d]⟩ (q::r)).cps.toList
  simp only[Str.cps_append,Array.toList_append,du]
  rw[ih,xm c d _ (h p cw)]
  congr 2
  show [HZ c d c]=[d]
  unfold HZ
  rw[if_pos rfl]
noncomputable def oG(c d:Nat)(z:bv):bv:=⟨(z.cps.toList.map (HZ c d)).toArray⟩
theorem yf(x:bv)(c d:Nat):Txt.replace x ⟨#[c]⟩ ⟨#[d]⟩=oG c d x:=by
 have h:(Txt.replace x ⟨#[c]⟩ ⟨#[d]⟩).cps.toList=x.cps.toList.map (HZ c d):=by
  rw[StrLaws.replace_one,←BJ c d _ (StrLaws.split_free x c),StrLaws.join_split]
 unfold oG
 rw[←h]
noncomputable def Qq(c d:Nat)(to:TE):TE:=λσ H Q=>to σ H λx H1=>∃z:bv,x= .str z/\z.cps.size<=1000000/\Q (.str (oG c d z)) H1
end
section
section
variable{X:Cx}{o:Expr}{to:TE}{c d j1 j2:Nat}{y z:bv}{apos cpos p1 p2:re}
theorem Aa(ho:PE X o to)(hy:y=⟨#[c]⟩)(hz:z=⟨#[d]⟩)(hne:c≠d)
  (hbase:attributeBase o "replace" X.env (eval o X.env)=eval o X.env:=by rfl)
  (hfew:((backTo cpos (eh [.Constant (.str y) j1 p1,.Constant (.str z) j2 p2] X.env)).all (λx=>!x.1)&&(backToKw cpos (keywordEach [] X.env)).all (λx=>x.1.isSome)
   && decide (([.Constant (.str y) j1 p1,.Constant (.str z) j2 p2]:List Expr).length+([]:List Keyword).length+(if([]:List Keyword).isEmpty then 0 else 1)<30))=true:=by rfl)
  (hline:(apos.endLine==cpos.line)=true:=by rfl) (hs:eh [.Constant (.str y) j1 p1,.Constant (.str z) j2 p2] X.env=[(false,eval (.Constant (.str y) j1 p1) X.env),(false,eval (.Constant (.str z) j2 p2) X.env)]:=by rfl) :
  PE X (.Call (.Attribute o "replace" apos) [.Constant (.str y) j1 p1,.Constant (.str z) j2 p2] [] cpos) (Qq c d to):=by
 intro pins s σ H Q I h
 refine wpAny_Call_method_late hbase hfew hline rfl (gg (ho pins s σ H _ I h) λv s1 ⟨x,H1,I1,r1,q1⟩=>?_)
 obtain⟨a,rfl,ha,q⟩:=q1
 obtain⟨h1,h2⟩:=HV (T:= "str") I1 r1 rfl
 obtain⟨t,rfl⟩:=r1
 refine⟨"str",_,F.plainAttrs_str,F.slot_str_replace,F.type_str_replace,h1,h2,?_⟩
 rw[hs]
 refine Calls.callWith_builtin rfl (tI ?_)
 refine rh (vw (pos:=p1) (k:=j1) ?_)
 show cf _ _ (spliced [(false,eval (.Constant (.str z) j2 p2) X.env)]) _ _ _
 refine rh (vw (pos:=p2) (k:=j2) (Calls.spliced_nil ?_))
 have k0:0<s1.toks:=I1.tk
 have I2:Inv X pins σ H1 { s1 with toks:=s1.toks+1 }:=I1.tok _
 have I3:Inv X pins σ H1 { s1 with toks:=s1.toks+1+1 }:=I2.tok _
 subst hy hz
 refine TK.cH (ba (s1.toks+1+1)) (SC.replace (s:={ s1 with toks:=s1.toks+1+1 }) (ma k0) (Nat.succ_ne_zero _) (dy (ib _)) ?_ ?_ λt' k hk=>?_)
 ·exact beq_eq_false_iff_ne.mpr λe=>hne (by injection e with e;injection e with e;injection e)
 ·show a.cps.size+(a.cps.size+1)*1<=16777216
  omega
 ·refine⟨.str (oG c d a),H1,I3.tok k hk,⟨t',?_⟩,q⟩
  rw[←yf]
end
end
end L2
namespace GP
open PySem L2 pQ
section
noncomputable def kd(c:Nat):Nat:=HZ 98 50 (HZ 97 49 (HZ 112 48 c))
theorem rY{α:Type}{f:α->Int}{R:α->α->Prop}:∀{l:List α} {x y:α},l.Pairwise R->fmin f l=some x->y∈l->f y=f x->x=y\/R x y
 |[],_,_,_,_,h,_=>nomatch h
 |a::l,x,y,hp,hx,hy,e=>by
  rw[List.pairwise_cons]at hp
  unfold fmin at hx
  split at hx
  ·next e0 =>
   cases hx
   rcases cm.mp hy with z|z
   ·exact .inl z.symm
   ·exact .inr (hp.1 y z)
  ·next b eb =>
   split at hx
   ·next hlt =>
    cases hx
    rcases cm.mp hy with z|z
    ·rw[z]at e;omega
    ·exact rY hp.2 eb z e
   ·next hnl =>
    cases hx
    rcases cm.mp hy with z|z
    ·exact .inl z.symm
    ·exact .inr (hp.1 y z)
theorem Gd.Ia{g:Gd}(s:dm):(g.steps s).Pairwise λt u=>kd t.1.2.2<kd u.1.2.2:=by
 unfold Gd.steps
 by_cases h1:s.1<g.n<;>by_cases h2:s.2.1<g.m<;>simp[h1,h2]<;>decide
theorem Gd.uM{g:Gd}(ok:g.Ok):∀{mv:List Nat} {s e:dm},g.In s->g.walk s mv=some (g.rest s,e)->g.en e.1 e.2.1=true->¬mv.map kd<(g.moves s).map kd
 |[],s,e,hs,h,he=>by
  have h':some ((0:Int),s)=some (g.rest s,e):=h
  injection h' with h'
  injection h' with h1 h2
  have st:g.stop s=true:=by
   unfold Gd.stop
   rw[←h1,h2,he]
   rfl
  rw[Gd.o9 st]
  exact List.not_lt_nil _
 |v::vs,s,e,hs,h,he=>by
  by_cases st:g.stop s=true
  ·rw[Gd.o9 st]
   exact List.not_lt_nil _
  ·have st':g.stop s=false:=by simpa using st
   obtain⟨t,ht0,ht,en,ek,_⟩:=g.go ok hs st'
   rw[Gd.wY ok hs st',en]
   obtain⟨u,c',hu,hv,hw,ec⟩:=Gd.pR h
   have g1:=Gd.oF hw he
   have g2:g.rest s<=g.key u:=Gd.uc hu
   have g3:g.key u=u.2+g.rest u.1:=rfl
   have c1:c'=g.rest u.1:=by omega
   have c2:g.key u=g.key t:=by omega
   rw[c1]at hw
   rw[eJ,eJ,List.cons_lt_cons_iff]
   rcases rY (Gd.Ia s) ht0 hu c2 with z|z
   ·rw[←z]at hw hv
    have ih:=Gd.uM ok (Gd.ny ht hs) hw he
    rintro(q|⟨_,q⟩)
    ·rw[hv]at q;omega
    ·exact ih q
   ·rw[hv]at z
    rintro(q|⟨q,_⟩)<;>omega
end
section
noncomputable def xA(mv:List Nat):bv:=oG 98 50 (oG 97 49 (oG 112 48 ⟨mv.toArray⟩))
theorem qQ(mv:List Nat):(xA mv).cps.toList=mv.map kd:=by
 unfold xA oG
 simp only[kb]
 rfl
theorem EM{g:Gd}(ok:g.Ok){m:bv}{n k:Nat}(hn:g.n=n)(hk:g.m=k){b b':Nat×Nat}{mv:List Nat}{e:dm}(hb:fmin g.jS (iC m n k)=some b)(hw:(b',mv,g.jS b,e)∈g.pre (iC m n k))(he:g.en e.1 e.2.1=true):
  Cq (b'.1:Int) (b'.2:Int) (xA mv) (b.1:Int) (b.2:Int) (xA (g.moves (b.1,b.2,112)))=false:=by
 obtain⟨hb',hw⟩:=Gd.qO.mp hw
 have h1:=Gd.oF hw he
 have h2:=qR hb hb'
 have h3:g.jS b'=g.jS b:=Int.le_antisymm h1 h2
 have pw:(iC m n k).Pairwise Lc:=List.Pairwise.filter _ (ud n k)
 have hin:=f6.mp (fe.mp hb').1
 unfold Cq
 rcases rY pw hb hb' h3 with z|z
 ·subst z
  rw[if_pos ⟨rfl,rfl⟩,qQ,qQ]
  exact decide_eq_false (Gd.uM ok ⟨by rw[hn];exact hin.1,by rw[hk];exact hin.2,.inl rfl⟩ hw he)
 ·have z':b.1<b'.1\/(b.1=b'.1/\b.2<b'.2):=z
  rw[if_neg (by omega)]
  unfold FN
  rcases z' with z|⟨z1,z2⟩
  ·rw[if_neg (by omega)]
   exact decide_eq_false (by omega)
  ·rw[if_pos (by omega)]
   exact decide_eq_false (by omega)
end
section
theorem Jc{i j k l:Int}{m n:bv}(h1:Cq i j m k l n=false)(h2:Cq k l n i j m=false):i=k/\j=l/\m.cps.toList=n.cps.toList:=by
 unfold Cq at h1 h2
 by_cases c:i=k/\j=l
 ·rw[if_pos c]at h1
  rw[if_pos ⟨c.1.symm,c.2.symm⟩]at h2
  exact⟨c.1,c.2,List.le_antisymm (of_decide_eq_false h2) (of_decide_eq_false h1)⟩
 ·exfalso
  rw[if_neg c]at h1
  rw[if_neg λz=>c ⟨z.1.symm,z.2.symm⟩]at h2
  unfold FN at h1 h2
  by_cases a:i=k
  ·rw[if_pos a]at h1
   rw[if_pos a.symm]at h2
   have:=of_decide_eq_false h1
   have:=of_decide_eq_false h2
   exact c ⟨a,by omega⟩
  ·rw[if_neg a]at h1
   rw[if_neg λz=>a z.symm]at h2
   have:=of_decide_eq_false h1
   have:=of_decide_eq_false h2
   omega
theorem OG{c d:Nat}(hc:IY c)(hd:IY d)(h:kd c=kd d):c=d:=by
 rcases hc with rfl|rfl|rfl<;>rcases hd with rfl|rfl|rfl<;>first|rfl|exact absurd h (by decide)
theorem xj:∀{a b:List Nat},(∀c∈a,IY c)->(∀c∈b,IY c)->a.map kd=b.map kd->a=b
 |[],[],_,_,_=>rfl
 |[],_::_,_,_,h=>nomatch h
 |_::_,[],_,_,h=>nomatch h
 |x::a,y::b,ha,hb,h=>by
  rw[eJ,eJ]at h
  injection h with h1 h2
  rw[OG (ha x cw) (hb y cw) h1,xj (λc hc=>ha c (b0 _ hc)) (λc hc=>hb c (b0 _ hc)) h2]
theorem Gd.zQ{g:Gd}:∀{mv:List Nat} {x e:dm} {c:Int},g.walk x mv=some (c,e)->∀v∈mv,IY v
 |[],x,e,c,h,v,hv=>nomatch hv
 |y::vs,x,e,c,h,v,hv=>by
  obtain⟨t,c',ht,ey,hw,_⟩:=Gd.pR h
  rcases cm.mp hv with z|z
  ·rw[z,←ey]
   rcases Gd.gp.mp ht with⟨_,_,q⟩|⟨_,q⟩|⟨_,q⟩
   ·exact .inl (by rw[q])
   ·exact .inr (.inl (by rw[q]))
   ·exact .inr (.inr (by rw[q]))
  ·exact Gd.zQ hw v z
end
section
noncomputable def KQ(mv:List Nat)(w:T3):List Nat×Nat×Nat:=(mv++w.1,w.2.2.1,w.2.2.2.1)
noncomputable def T7(t:List Nat×Nat×Nat):HO:=.tup [.str ⟨t.1.toArray⟩,.int (t.2.1:Int),.int (t.2.2:Int)]
noncomputable def MQ(H:Hp)(l:a6)(ws:List (List Nat×Nat×Nat)):Prop:=∃ps:List a6,H l=some (.lst (ps.map V.ref))/\Paired (λp t=>H p=some (T7 t)) ps ws
theorem HM(g:Gd)(mv:List Nat)(t:dm×Int):((g.uG t.1).map λw=>(t.1.2.2::w.1,t.2+w.2.1,w.2.2)).map (KQ mv)=(g.uG t.1).map (KQ (mv++[t.1.2.2])):=by
 rw[kb]
 refine pz λw _=>?_
 show(mv++t.1.2.2::w.1,w.2.2.1,w.2.2.2.1)=(mv++[t.1.2.2]++w.1,w.2.2.1,w.2.2.2.1)
 rw[im]
 rfl
noncomputable def Gd.Hz(g:Gd)(mv:List Nat)(c:Prop)[Decidable c](t:dm×Int):List (List Nat×Nat×Nat):=if c then(g.uG t.1).map (KQ (mv++[t.1.2.2]))else []
theorem zM(g:Gd)(mv:List Nat)(s:dm):(g.uG s).map (KQ mv)=(mv,s.1,s.2.1)::(g.Hz mv (s.1<g.n/\s.2.1<g.m) ((s.1+1,s.2.1+1,112),g.pc s.1 s.2.1)++(g.Hz mv (s.1<g.n) ((s.1+1,s.2.1,97),g.ac 97 s.2.2)++g.Hz mv (s.2.1<g.m) ((s.1,s.2.1+1,98),g.ac 98 s.2.2))):=by
 rw[Gd.zP,eJ]
 congr 1
 ·show(mv++[],s.1,s.2.1)=_
  rw[eP]
 ·have one:∀(c:Prop) [Decidable c] (t:dm×Int),((if c then [t]else []).flatMap λt=>(g.uG t.1).map λw=>(t.1.2.2::w.1,t.2+w.2.1,w.2.2)).map (KQ mv)=g.Hz mv c t:=λc _ t=>by
   unfold Gd.Hz
   by_cases h:c
   ·rw[if_pos h,if_pos h,wf,List.flatMap_nil,eP,HM]
   ·rw[if_neg h,if_neg h];rfl
  unfold Gd.steps
  rw[ms,ms,du,du,one,one,one]
theorem Gd.zO{g:Gd}:∀(d:Nat) (s:dm),g.ht s<=d->2*(g.uG s).length+1<=3 ^ (d+1)
 |d,s,hd=>by
  have e:(g.uG s).length=((g.uG s).map (KQ [])).length:=(a_ ..).symm
  rw[e,zM]
  have one:∀(c:Prop) [Decidable c] (t:dm×Int),(c->t∈g.steps s)->2*(g.Hz [] c t).length+1<=3 ^ d:=λc _ t h=>by
   unfold Gd.Hz
   by_cases hc:c
   ·have ht:=Gd.jn (h hc)
    rw[if_pos hc,a_]
    cases d with
    |zero=>omega
    |succ d=>exact Gd.zO d t.1 (by omega)
   ·rw[if_neg hc];exact Nat.pow_pos (by decide)
  have h1:=one (s.1<g.n/\s.2.1<g.m) ((s.1+1,s.2.1+1,112),g.pc s.1 s.2.1) λc=>Gd.gp.mpr (.inl ⟨c.1,c.2,rfl⟩)
  have h2:=one (s.1<g.n) ((s.1+1,s.2.1,97),g.ac 97 s.2.2) λc=>Gd.gp.mpr (.inr (.inl ⟨c,rfl⟩))
  have h3:=one (s.2.1<g.m) ((s.1,s.2.1+1,98),g.ac 98 s.2.2) λc=>Gd.gp.mpr (.inr (.inr ⟨c,rfl⟩))
  rw[d_,ce,ce]
  have p:3 ^ (d+1)=3*3 ^ d:=by rw[Nat.pow_succ,Nat.mul_comm]
  omega
 termination_by d=>d
theorem B9{α β:Type}{F:α->β->Prop}:∀{l:List α} {m:List β} {l':List α} {m':List β},Paired F l m->Paired F l' m'->Paired F (l++l') (m++m')
 |_,_,_,_,.nil,h=>h
 |_,_,_,_,.cons a r,h=>.cons a (B9 r h)
theorem Dz{H H3:Hp}{l l3:a6}{ws T8:List (List Nat×Nat×Nat)}(h:MQ H l ws)(e:ai H H3)(h3:MQ H3 l3 T8):∃xs zs,H l=some (.lst xs)/\H3 l3=some (.lst zs)/\xs.length=ws.length/\zs.length=T8.length/\MQ (L2.upd H3 l (.lst (xs++zs))) l (ws++T8):=by
 obtain⟨ps,a,b⟩:=h
 obtain⟨qs,a',b'⟩:=h3
 have tp:∀p t,H3 p=some (T7 t)->L2.upd H3 l (.lst (ps.map V.ref++qs.map V.ref)) p=some (T7 t):=λp t z=>by rw[aq (λq=>by rw[q,e _ _ a]at z;cases z)];exact z
 refine⟨_,_,a,a',by rw[a_];exact Paired.len b,by rw[a_];exact Paired.len b',ps++qs,by rw[ah,du],B9 (Paired.gO b λ_ _ z=>tp _ _ (e _ _ z)) (Paired.gO b' λ_ _ z=>tp _ _ z)⟩
theorem zN{g:Gd}{mv:List Nat}{c:Prop}[Decidable c]{t:dm×Int}(h:c):g.Hz mv c t=(g.uG t.1).map (KQ (mv++[t.1.2.2])):=if_pos h
theorem oW{g:Gd}{mv:List Nat}{c:Prop}[Decidable c]{t:dm×Int}(h:¬c):g.Hz mv c t=[]:=if_neg h
noncomputable def zU(d:Nat):Sp:=λvs H Q _=>∃(f s:bv) (i j c:Nat) (mv:bv) (g:Gd),vs=[.str f,.str s,.int (i:Int),.int (j:Int),.str mv]/\g.n=f.cps.size/\g.m=s.cps.size/\g.n<=20/\g.m<=20/\i<=g.n/\j<=g.m/\g.ht (i,j,c)<=d/\d<=6/\mv.cps.size+d<=100 ∧
 ∀l H',ai H H'->H l=none->MQ H' l ((g.uG (i,j,c)).map (KQ mv.cps.toList))->Q (.ref l) H'
noncomputable def Mm:Sp:=λvs H Q _=>∃(p:a6) (mv:bv),vs=[.ref p,.str mv]/\mv.cps.size<=1000/\∀r H',ai H H'->H' r=some (.tup [.ref p,.str (xA mv.cps.toList)])->Q (.ref r) H'
noncomputable def Hy(H:Hp)(l:a6)(ws:List Hf):Prop:=∃ps:List a6,H l=some (.lst (ps.map V.ref))/\Paired (λp w=>∃q,H p=some (.tup [.int w.2.2.1,.ref q,.str ⟨w.2.1.toArray⟩])/\vQ H q w.1) ps ws
noncomputable def Gd.CN(g:Gd)(w:Hf):Bool:=g.en w.2.2.2.1 w.2.2.2.2.1
noncomputable def Ft(K:PySem.W.Frag)(C:a6):Sp:=λvs H Q _=>∃(pr:a6) (T:PT) (f s m:bv),vs=[.ref pr,.str f,.str s,.str m]/\Ga K C H pr T/\Of T.1 f/\Of T.1 s/\f.cps.size<=3/\s.cps.size<=3/\ko m=true ∧
 ∀l H',ai H H'->H l=none->Hy H' l (((ku T m f s).pre (iC m f.cps.size s.cps.size)).filter (ku T m f s).CN)->(((ku T m f s).pre (iC m f.cps.size s.cps.size)).filter (ku T m f s).CN).length<=20000->Q (.ref l) H'
noncomputable def Gd.Pu(g:Gd)(m:bv)(i j:Nat):List Hf:=if vo m ((i:Int),(j:Int))=true then((g.uG (i,j,112)).map λw=>((i,j),w)).filter g.CN else []
theorem zq{α β:Type}{p:α->Bool}{q:β->Bool}{F:α->List β}:∀l:List α,((l.filter p).flatMap F).filter q=l.flatMap λb=>if p b=true then(F b).filter q else []
 |[]=>rfl
 |a::l=>by
  rw[wf,←zq l]
  by_cases h:p a=true
  ·rw[ip h,wf,vy,if_pos h]
  ·rw[iq h,if_neg h]
   rfl
theorem Lb(g:Gd)(m:bv)(n k:Nat):(g.pre (iC m n k)).filter g.CN=(dk (n+1)).flatMap λi=>(dk (k+1)).flatMap λj=>g.Pu m i j:=by
 unfold Gd.pre iC
 rw[zq]
 unfold placesOf
 rw[List.flatMap_assoc]
 refine oj λi _=>?_
 rw[List.flatMap_map]
 rfl
theorem Hy.keep{H H':Hp}{l:a6}{ws:List Hf}(h:Hy H l ws)(e:ai H H'):Hy H' l ws:=by
 obtain⟨ps,a,b⟩:=h
 exact⟨ps,e _ _ a,Paired.gO b λ_ _ ⟨q,z1,z2⟩=>⟨q,e _ _ z1,e _ _ z2⟩⟩
theorem Hy.snoc{H:Hp}{l:a6}{ws:List Hf}{xs:List V}{r q:a6}{w:Hf}(h:Hy H l ws)(hl:H l=some (.lst xs))(hr:H r=some (.tup [.int w.2.2.1,.ref q,.str ⟨w.2.1.toArray⟩]))(hq:vQ H q w.1):Hy (L2.upd H l (.lst (xs++[.ref r]))) l (ws++[w]):=by
 obtain⟨ps,a,b⟩:=h
 rw[hl]at a
 cases a
 have tp:∀{p ys},H p=some (HO.tup ys)->L2.upd H l (.lst (ps.map V.ref++[.ref r])) p=some (HO.tup ys):=λ{p ys} z=>by rw[aq (λq=>by rw[q,hl]at z;cases z)];exact z
 exact⟨ps++[r],by rw[ah,du];rfl,GP.Paired.snoc (Paired.gO b λ_ _ ⟨q,z1,z2⟩=>⟨q,tp z1,tp z2⟩) ⟨q,tp hr,tp hq⟩⟩
theorem Gd.DA{g:Gd}:∀{mv:List Nat} {s e:dm} {c:Int},g.walk s mv=some (c,e)->mv.length<=g.ht s
 |[],_,_,_,_=>em _
 |v::vs,s,e,c,h=>by
  obtain⟨t,c',ht,_,hw,_⟩:=Gd.pR h
  have h1:=Gd.jn ht
  have h2:=Gd.DA hw
  rw[d_]
  omega
end
end GP
namespace L2
open PySem PySem.Spec PyProof.Rows
theorem WJ{k:Nat}{A:dL}(r:jT k A):A.units+10<cLine:=by have:=r.un;omega
end L2
namespace GP
open PySem L2 pQ
theorem GH{i j k l p q:Int}(h1:FN i j k l=true)(h2:FN k l p q=true):FN i j p q=true:=by
 unfold FN at *
 split at h1<;>split at h2<;>split<;>first
  |exact decide_eq_true (by have:=of_decide_eq_true h1;have:=of_decide_eq_true h2;omega)
theorem Ln{i j:Int}:FN i j i j=false:=by
 unfold FN
 rw[if_pos rfl]
 exact decide_eq_false (by omega)
theorem GI{i j k l p q:Int}{m n o:bv}(h1:Cq i j m k l n=true)(h2:Cq k l n p q o=true):Cq i j m p q o=true:=by
 unfold Cq at *
 by_cases a:i=k/\j=l
 ·obtain⟨rfl,rfl⟩:=a
  rw[if_pos ⟨rfl,rfl⟩]at h1
  by_cases b:i=p/\j=q
  ·rw[if_pos b]at h2 ⊢
   exact decide_eq_true (List.lt_trans (of_decide_eq_true h1) (of_decide_eq_true h2))
  ·rw[if_neg b]at h2 ⊢
   exact h2
 ·rw[if_neg a]at h1
  by_cases b:k=p/\l=q
  ·obtain⟨rfl,rfl⟩:=b
   rw[if_neg a]
   exact h1
  ·rw[if_neg b]at h2
   have h3:=GH h1 h2
   by_cases c:i=p/\j=q
   ·exfalso
    obtain⟨rfl,rfl⟩:=c
    rw[Ln]at h3
    cases h3
   ·rw[if_neg c]
    exact h3
noncomputable def HC(x y:Hf):Bool:=Cq (x.1.1:Int) (x.1.2:Int) (xA x.2.1) (y.1.1:Int) (y.1.2:Int) (xA y.2.1)
section
variable{g:Gd}{m:bv}{n k:Nat}{b:Nat×Nat}
theorem AO(ok:g.Ok)(hn:g.n=n)(hk:g.m=k)(hb:fmin g.jS (iC m n k)=some b):∃e,(b,g.moves (b.1,b.2,112),g.jS b,e)∈(g.pre (iC m n k)).filter g.CN:=by
 have hm:=m7 hb
 have hin:=f6.mp (fe.mp hm).1
 obtain⟨e,hw,_,he⟩:=Gd.vX ok _ (b.1,b.2,112) ⟨by rw[hn];exact hin.1,by rw[hk];exact hin.2,.inl rfl⟩ (ba _)
 exact⟨e,fe.mpr ⟨Gd.qO.mpr ⟨hm,hw⟩,he⟩⟩
theorem Jm(ok:g.Ok)(hn:g.n=n)(hk:g.m=k)(hb:fmin g.jS (iC m n k)=some b):vn (((g.pre (iC m n k)).filter g.CN).map (·.2.2.1))=g.jS b:=by
 obtain⟨e,he⟩:=AO ok hn hk hb
 refine FH (eI.mpr ⟨_,he,rfl⟩) λy hy=>?_
 obtain⟨⟨b',mv,c,e'⟩,hw,rfl⟩:=eI.mp hy
 obtain⟨h1,h2⟩:=fe.mp hw
 obtain⟨h3,h4⟩:=Gd.qO.mp h1
 exact Int.le_trans (qR hb h3) (Gd.oF h4 h2)
theorem O7(ok:g.Ok)(hn:g.n=n)(hk:g.m=k)(hb:fmin g.jS (iC m n k)=some b){d:Hf}(hd:d∈(g.pre (iC m n k)).filter g.CN)(hc:d.2.2.1=g.jS b)
  (hl:∀w∈(g.pre (iC m n k)).filter g.CN,w.2.2.1=g.jS b->HC w d=false):d.1=b/\d.2.1=g.moves (b.1,b.2,112):=by
 obtain⟨e,he⟩:=AO ok hn hk hb
 have h1:=hl _ he rfl
 obtain⟨⟨b1,b2⟩,mv,c,e'⟩:=d
 obtain rfl:c=g.jS b:=hc
 obtain⟨h2,h3⟩:=fe.mp hd
 have h4:=EM ok hn hk hb h2 h3
 obtain⟨i1,i2,i3⟩:=Jc h4 h1
 rw[qQ,qQ]at i3
 have hw:=(Gd.qO.mp h2).2
 have hw2:=(Gd.qO.mp (fe.mp he).1).2
 refine⟨Prod.ext (by show b1=b.1;have:=i1;omega) (by show b2=b.2;have:=i2;omega),xj (Gd.zQ hw) (Gd.zQ hw2) i3⟩
theorem EN{x:Int}(bs:List (Nat×Nat)):(((g.pre bs).filter g.CN).filter λw=>decide (w.2.2.1=x)).length=g.tot bs x:=by
 unfold Gd.tot
 rw[List.filter_filter,List.countP_eq_length_filter]
 congr 1
 refine List.filter_congr λw _=>?_
 rw[Bool.and_comm]
 rfl
end
theorem yX{α β:Type}{F:α->β->Prop}{p:β->Bool}{d:β}{a:α}:∀{l:List α} {m:List β},Paired F l m->Paired F (((dk l.length).filter λi=>p (m.getD i d)).map λi=>l.getD i a) (m.filter p)
 |_,_,.nil=>.nil
 |x::l,y::m,.cons h r=>by
  have ih:=yX (p:=p) (d:=d) (a:=a) r
  rw[d_,List.range_succ_eq_map,List.filter_cons]
  have e:(((dk l.length).map Nat.succ).filter λi=>p ((y::m).getD i d)).map (λi=>(x::l).getD i a)=((dk l.length).filter λi=>p (m.getD i d)).map λi=>l.getD i a:=by
   rw[List.filter_map,kb]
   rfl
  by_cases c:p y=true
  ·rw[if_pos (show p ((y::m).getD 0 d)=true from c),ip c,eJ,e]
   exact .cons h ih
  ·rw[if_neg (show ¬p ((y::m).getD 0 d)=true from c),iq c,e]
   exact ih
theorem Ll(w:Hf):HC w w=false:=by
 unfold HC Cq
 rw[if_pos ⟨rfl,rfl⟩]
 exact decide_eq_false (List.lt_irrefl _)
theorem Jb{w v d:Hf}(h1:HC w d=false)(h2:HC v d=true):HC w v=false:=by
 cases z:HC w v with
 |false=>rfl
 |true =>
  have:=GI z h2
  rw[show Cq _ _ _ _ _ _=HC w d from rfl,h1]at this
  cases this
end GP
namespace L2
open PySem PySem.Spec PyProof.Rows
noncomputable def gU(K:PySem.W.Frag)(nms:List bv):PySem.W.Frag:=K.filter λp=>!((nms.map (dJ K)).contains p.1)
theorem oh{f:a6->Bool}{a:a6}{o:lv}:∀{K:PySem.W.Frag},hJ a (K.filter λp=>f p.1)=some o->hJ a K=some o
 |[],h=>h
 |p::K,h=>by
  by_cases c:f p.1=true
  ·rw[ip (p:=λp:a6×lv=>f p.1) c]at h
   rw[kx]at h ⊢
   split at h
   ·exact h
   ·exact oh h
  ·rw[iq (p:=λp:a6×lv=>f p.1) c]at h
   have h2:=oh h
   rw[kx]
   split
   ·next e =>
    exfalso
    have e':a=p.1:=eq_of_beq e
    have:∀{L:PySem.W.Frag},hJ a (L.filter λp=>f p.1)=some o->f a=true:=λ{L}=>by
     induction L with
     |nil=>intro z;cases z
     |cons q L ih =>
      intro z
      by_cases d:f q.1=true
      ·rw[ip (p:=λp:a6×lv=>f p.1) d,kx]at z
       split at z
       ·next e=>rw[eq_of_beq e];exact d
       ·exact ih z
      ·rw[iq (p:=λp:a6×lv=>f p.1) d]at z
       exact ih z
    exact c (e'▸this h)
   ·exact h2
theorem LY{K:PySem.W.Frag}{nms:List bv}{h:dC}(X:K.In h):(gU K nms).In h:=λa o e=>X a o (oh (f:=λa=>!((nms.map (dJ K)).contains a)) e)
theorem ju{K:PySem.W.Frag}{nms:List bv}{a n y}(h:PySem.W.nsIn (gU K nms) a n=PySem.W.nsIn K a n)(e:PySem.W.nsIn K a n=y):PySem.W.nsIn (gU K nms) a n=y:=h.trans e
theorem cS{K:PySem.W.Frag}{nms:List bv}{a n y}(h:PySem.W.plainGet (gU K nms) a n=PySem.W.plainGet K a n)(e:PySem.W.plainGet K a n=y):PySem.W.plainGet (gU K nms) a n=y:=h.trans e
theorem ck{K:PySem.W.Frag}{nms:List bv}{a y}(h:PySem.W.hasDictIn (gU K nms) a=PySem.W.hasDictIn K a)(e:PySem.W.hasDictIn K a=y):PySem.W.hasDictIn (gU K nms) a=y:=h.trans e
theorem cj{K:PySem.W.Frag}{nms:List bv}{a y}(h:PySem.W.plainOver (gU K nms) a=PySem.W.plainOver K a)(e:PySem.W.plainOver K a=y):PySem.W.plainOver (gU K nms) a=y:=h.trans e
theorem fF{K:PySem.W.Frag}{nms:List bv}{a n y}(h:PySem.W.findIn (gU K nms) a n=PySem.W.findIn K a n)(e:PySem.W.findIn K a n=y):PySem.W.findIn (gU K nms) a n=y:=h.trans e
theorem dM{K:PySem.W.Frag}{nms:List bv}{a y}(h:PySem.W.makesIn (gU K nms) a=PySem.W.makesIn K a)(e:PySem.W.makesIn K a=y):PySem.W.makesIn (gU K nms) a=y:=h.trans e
theorem fE{K:PySem.W.Frag}{nms:List bv}{a y}(h:PySem.W.keepIn (gU K nms) a=PySem.W.keepIn K a)(e:PySem.W.keepIn K a=y):PySem.W.keepIn (gU K nms) a=y:=h.trans e
theorem gY{K:PySem.W.Frag}{nms:List bv}{a n m y}(h:PySem.W.excIn (gU K nms) a n m=PySem.W.excIn K a n m)(e:PySem.W.excIn K a n m=y):PySem.W.excIn (gU K nms) a n m=y:=h.trans e
theorem fG{K:PySem.W.Frag}{nms:List bv}{a n y}(h:PySem.W.codeIn (gU K nms) a n=PySem.W.codeIn K a n)(e:PySem.W.codeIn K a n=y):PySem.W.codeIn (gU K nms) a n=y:=h.trans e
theorem jv{K:PySem.W.Frag}{nms:List bv}{a y}(h:PySem.W.isFn (gU K nms) a=PySem.W.isFn K a)(e:PySem.W.isFn K a=y):PySem.W.isFn (gU K nms) a=y:=h.trans e
theorem gX{K:PySem.W.Frag}{nms:List bv}{a b y}(h:PySem.W.subIn (gU K nms) a b=PySem.W.subIn K a b)(e:PySem.W.subIn K a b=y):PySem.W.subIn (gU K nms) a b=y:=h.trans e
theorem fD{K:PySem.W.Frag}{nms:List bv}{a y}(h:hJ a (gU K nms)=hJ a K)(e:hJ a K=y):hJ a (gU K nms)=y:=h.trans e
end L2
set_option Elab.async false
set_option linter.all false
set_option maxRecDepth 100000
set_option maxHeartbeats 4000000
seal PySem.wpAny
namespace S0
open PySem L2 pQ GP
noncomputable def top(i:Nat):gl:=PySem.Challenge.pw_gapweave_k22_small_rows_listed.main.body.getD i (.Pass ⟨0,0,0,0⟩)
noncomputable abbrev yt(K:PySem.W.Frag):Lm:=⟨dJ K "first_begin",⟨187,34,187,65⟩,(("first_begin" :bv)++ ".<locals>.")++ "<lambda>",dJ K "state_behind",⟨189,40,189,77⟩,(("state_behind" :bv)++ ".<locals>.")++ "<lambda>"⟩
theorem kB{N P:List bv}{sc:lL}(a:sc.kind=.function:=by rfl)(b:sc.isCoroutine=false:=by rfl)(c:sc.isGenerator=false:=by rfl)(d:N.Nodup:=by decide +kernel)(e:N.take P.length=P:=by rfl)(f:∀x∈P,sc.names.lookup x=some .local\/sc.names.lookup x=some .cell:=by decide +kernel)(g:∀y∈sc.names,y.2≠.free:=by decide +kernel):aE N P sc:=⟨a,b,c,d,e,f,g⟩
noncomputable abbrev bV:gl:=inClass (top 4) 0
theorem rP:aE ["self","row","place"] ["self","row","place"] (ay bV):=kB
noncomputable abbrev cW:gl:=top 6
theorem gh:aE ["one","other","rest"] ["one","other"] (ay cW):=kB
noncomputable abbrev sF:gl:=top 7
theorem yV:aE ["fraction","divisor"] ["fraction"] (ay sF):=kB
noncomputable abbrev qH:gl:=top 12
theorem wD:aE ["sign","number"] ["sign"] (ay qH):=kB
noncomputable abbrev nK:gl:=top 13
theorem z5:aE ["text"] ["text"] (ay nK):=kB
noncomputable abbrev lC:gl:=top 14
theorem wG:aE ["signs"] ["signs"] (ay lC):=kB
noncomputable abbrev jr:gl:=top 15
theorem oH:aE ["signs","pairs","row"] ["signs","pairs"] (ay jr):=kB
noncomputable abbrev iJ:gl:=top 16
theorem vd:aE ["price"] ["price"] (ay iJ):=kB
noncomputable abbrev jo:gl:=top 17
theorem t8:aE ["row"] ["row"] (ay jo):=kB
noncomputable abbrev mE:gl:=top 18
theorem nX:aE ["pairs","opening","more","unders","row"] ["pairs","opening","more"] (ay mE):=kB
noncomputable abbrev jY:gl:=top 19
theorem fh:aE ["unders","factors","unit","under","factor"] ["unders"] (ay jY):=kB
noncomputable abbrev mj:gl:=top 20
theorem lg:aE ["factors","product","factor"] ["factors"] (ay mj):=kB
noncomputable abbrev oJ:gl:=top 21
theorem DV:aE ["price","unit"] ["price","unit"] (ay oJ):=kB
noncomputable abbrev iS:gl:=top 22
theorem dw:aE ["signs","pairs","unit","costs","one","row","other","price"] ["signs","pairs","unit"] (ay iS):=kB
noncomputable abbrev bU:gl:=inClass (top 23) 0
theorem rO:aE ["self","signs","pairs","opening","more"] ["self","signs","pairs","opening","more"] (ay bU):=kB
noncomputable abbrev lK:gl:=top 24
theorem zY:aE ["prices","one","other"] ["prices","one","other"] (ay lK):=kB
noncomputable abbrev iI:gl:=top 25
theorem vc:aE ["prices"] ["prices"] (ay iI):=kB
noncomputable abbrev lM:gl:=top 26
theorem zZ:aE ["prices"] ["prices"] (ay lM):=kB
noncomputable abbrev mY:gl:=top 27
theorem iG:aE ["prices","number","over","under","factor","divisor"] ["prices","number"] (ay mY):=kB
noncomputable abbrev lD:gl:=top 30
theorem iH:aE ["known","rows","number","row","place","sign"] ["known","rows"] (ay lD):=kB
noncomputable abbrev mz:gl:=top 31
theorem yd:aE ["prices","rows"] ["prices","rows"] (ay mz):=kB
noncomputable abbrev j3:gl:=top 32
theorem ve:aE ["manner"] ["manner"] (ay j3):=kB
noncomputable abbrev mD:gl:=top 33
theorem ye:aE ["prices","move","came"] ["prices","move","came"] (ay mD):=kB
noncomputable abbrev nE:gl:=top 34
theorem z0:aE ["manner","place"] ["manner","place"] (ay nE):=kB
noncomputable abbrev qB:gl:=top 35
theorem DS:aE ["manner","first","second","place"] ["manner","first","second","place"] (ay qB):=kB
noncomputable abbrev mF:gl:=top 38
theorem lu:aE ["first","second","places","i","j"] ["first","second"] (ay mF):=kB
noncomputable abbrev mh:gl:=top 39
theorem k9:aE ["prices","first","second","place","came","i","j","steps"] ["prices","first","second","place","came"] (ay mh):=kB
noncomputable abbrev nL:gl:=top 40
theorem lZ:aE ["prices","first","second","places","steps","place","came"] ["prices","first","second","places"] (ay nL):=kB
noncomputable abbrev o6:gl:=top 41
theorem pZ:aE ["first","second","places","manner","ends","place"] ["first","second","places","manner"] (ay o6):=kB
noncomputable abbrev bK:gl:=inClass (top 42) 0
theorem mU:aE ["self","prices","first","second","manner","places"] ["self","prices","first","second","manner"] (ay bK):=kB
noncomputable abbrev jj:gl:=top 43
theorem jV:aE ["ground","rests","state","costs"] ["ground"] (ay jj):=kB
noncomputable abbrev j0:gl:=top 44
theorem yc:aE ["ground","rests","state"] ["ground","rests","state"] (ay j0):=kB
noncomputable abbrev jk:gl:=top 45
theorem wF:aE ["ground","rests"] ["ground","rests"] (ay jk):=kB
noncomputable abbrev jZ:gl:=top 46
theorem uZ:aE ["ground","rests","state"] ["ground","rests","state"] (ay jZ):=kB
noncomputable abbrev lA:gl:=top 47
theorem jX:aE ["ground","rests","begin","state","moves"] ["ground","rests","begin"] (ay lA):=kB
noncomputable abbrev o5:gl:=top 48
theorem nD:aE ["prices","first","second","manner","ground","rests","begin"] ["prices","first","second","manner"] (ay o5):=kB
noncomputable abbrev mG:gl:=top 49
theorem fW:aE ["ground","rests","counts","state","many","behind","cost"] ["ground","rests"] (ay mG):=kB
noncomputable abbrev o4:gl:=top 50
theorem lJ:aE ["prices","first","second","manner","ground","rests","counts","least"] ["prices","first","second","manner"] (ay o4):=kB
noncomputable abbrev fX:gl:=top 52
theorem pY:aE ["_law_script","_law_at","_law_cell","_law_m"] ["_law_script","_law_at"] (ay fX):=kB
noncomputable abbrev nJ:gl:=top 53
theorem oY:aE ["_law_script","_law_at","_law_m","_law_cell"] ["_law_script","_law_at"] (ay nJ):=kB
noncomputable abbrev nG:gl:=top 54
theorem jW:aE ["_law_script","_law_at","_law_many","_law_every","_law_m","_law_step"] ["_law_script","_law_at","_law_many"] (ay nG):=kB
noncomputable abbrev nH:gl:=top 55
theorem sD:aE ["_law_script","_law_at","_law_sort","_law_m"] ["_law_script","_law_at","_law_sort"] (ay nH):=kB
noncomputable abbrev nF:gl:=top 56
theorem dO:aE ["_law_script","_law_at","_law_many","_law_m","_law_sort","_law_signs_here","_law_pairs","_law_k","_law_j","_law_opening","_law_more"] ["_law_script","_law_at","_law_many"] (ay nF):=kB
noncomputable abbrev mq:gl:=top 57
theorem ji:aE ["_law_script","_law_at","_law_signs_here","_law_pairs","_law_opening","_law_more"] ["_law_script","_law_at"] (ay mq):=kB
noncomputable abbrev qC:gl:=top 58
theorem jw:aE ["_law_script","_law_at","_law_signs_here","_law_most","_law_m","_law_sort","_law_row_here","_law_k"] ["_law_script","_law_at","_law_signs_here","_law_most"] (ay qC):=kB
noncomputable abbrev mw:gl:=top 59
theorem yb:aE ["_law_m"] ["_law_m"] (ay mw):=kB
noncomputable abbrev mW:gl:=top 60
theorem uJ:aE ["_law_found","_law_due"] ["_law_found","_law_due"] (ay mW):=kB
noncomputable abbrev qF:gl:=top 61
theorem DU:aE ["_law_prices_here","_law_goes_on"] ["_law_prices_here","_law_goes_on"] (ay qF):=kB
noncomputable abbrev oZ:gl:=top 62
theorem cC:aE ["_law_prices_here","_law_first","_law_second","_law_begin","_law_moves","_law_i","_law_j","_law_total","_law_last","_law_move"] ["_law_prices_here","_law_first","_law_second","_law_begin","_law_moves"] (ay oZ):=kB
noncomputable abbrev jq:gl:=top 63
theorem t9:aE ["_law_manner_here","_law_i","_law_j"] ["_law_manner_here","_law_i","_law_j"] (ay jq):=kB
noncomputable abbrev ly:gl:=top 64
theorem wC:aE ["_law_manner_here","_law_first","_law_second","_law_i","_law_j"] ["_law_manner_here","_law_first","_law_second","_law_i","_law_j"] (ay ly):=kB
noncomputable abbrev qD:gl:=top 65
theorem DT:aE ["_law_begin","_law_moves"] ["_law_begin","_law_moves"] (ay qD):=kB
noncomputable abbrev mV:gl:=top 66
theorem nB:aE ["_law_first","_law_second","_law_i","_law_j","_law_moves","_law_ways_here"] ["_law_first","_law_second","_law_i","_law_j","_law_moves"] (ay mV):=kB
noncomputable abbrev qG:gl:=top 67
theorem iF:aE ["_law_prices_here","_law_first","_law_second","_law_manner_here","_law_found","_law_i","_law_j","_law_moves","_law_down","_law_along","_law_cost"] ["_law_prices_here","_law_first","_law_second","_law_manner_here"] (ay qG):=kB
noncomputable abbrev qZ:gl:=top 68
theorem lS:aE ["_law_script","_law_at","_law_prices_here","_law_first","_law_second","_law_manner_here","_law_found","_law_least","_law_one","_law_best","_law_due"] ["_law_script"] (ay qZ):=kB
noncomputable abbrev l4:List bv:=["_law_script","_law_at"]
noncomputable abbrev l6:List bv:=["first_begin","state_behind"]
noncomputable abbrev l7:List bv:=["prices"]
noncomputable abbrev l8:List bv:=["ground","rests","state"]
noncomputable abbrev l9:List bv:=["ground","rests"]
noncomputable abbrev Jp:List bv:=["price"]
noncomputable abbrev Ky:List bv:=["prices","first","second","manner"]
noncomputable abbrev Kw:List bv:=["_law_script","_law_at","_law_many"]
noncomputable abbrev Lw:List bv:=["one","other"]
noncomputable abbrev MA:List bv:=["self","prices","first","second","manner"]
noncomputable abbrev Mz:List bv:=["_law_found","_law_due"]
noncomputable abbrev My:List bv:=["_law_first","_law_second","_law_i","_law_j","_law_moves"]
noncomputable abbrev Oz:List bv:=["price","unit"]
noncomputable abbrev Ox:List bv:=["prices","one","other"]
noncomputable abbrev Ow:List bv:=["prices","number"]
noncomputable abbrev Ov:List bv:=["ground"]
noncomputable abbrev PU:List bv:=["self","signs","pairs","opening","more"]
noncomputable abbrev PR:List bv:=["self","row","place"]
noncomputable abbrev PO:List bv:=["_law_script"]
noncomputable abbrev RB:List bv:=["fraction"]
noncomputable abbrev RA:List bv:=["pairs","opening","more"]
noncomputable abbrev Rz:List bv:=["signs","pairs"]
noncomputable abbrev Ry:List bv:=["signs","pairs","unit"]
noncomputable abbrev Rx:List bv:=["known","rows"]
noncomputable abbrev Rw:List bv:=["prices","rows"]
noncomputable abbrev Rv:List bv:=["prices","move","came"]
noncomputable abbrev Ru:List bv:=["manner","place"]
noncomputable abbrev Rt:List bv:=["manner","first","second","place"]
noncomputable abbrev Rr:List bv:=["first","second"]
noncomputable abbrev Rq:List bv:=["prices","first","second","place","came"]
noncomputable abbrev Rp:List bv:=["prices","first","second","places"]
noncomputable abbrev Ro:List bv:=["first","second","places","manner"]
noncomputable abbrev Rn:List bv:=["ground","rests","begin"]
noncomputable abbrev Rm:List bv:=["_law_script","_law_at","_law_sort"]
noncomputable abbrev Rl:List bv:=["_law_script","_law_at","_law_signs_here","_law_most"]
noncomputable abbrev Rk:List bv:=["_law_prices_here","_law_goes_on"]
noncomputable abbrev Rj:List bv:=["_law_manner_here","_law_i","_law_j"]
noncomputable abbrev Ri:List bv:=["_law_manner_here","_law_first","_law_second","_law_i","_law_j"]
noncomputable abbrev Rh:List bv:=["_law_prices_here","_law_first","_law_second","_law_begin","_law_moves"]
noncomputable abbrev Rg:List bv:=["_law_begin","_law_moves"]
noncomputable abbrev Rf:List bv:=["_law_prices_here","_law_first","_law_second","_law_manner_here"]
noncomputable abbrev Wn:List bv:=["behind","cost","rests"]
noncomputable abbrev Yz:List bv:=["_law_k","_law_every","_law_m","_law_step"]
noncomputable abbrev Yy:List bv:=["_law_j","_law_script","_law_at","_law_many","_law_sort"]
noncomputable abbrev Yx:List bv:=["_law_k","_law_script","_law_at","_law_sort"]
structure Pm where
 lX:wT
 nu:wT
 jB:a6
 kY:a6
 pH:a6
 au:a6
 aJ:a6
 fV:a6
 bz:a6
 aS:a6
structure Txt(K:PySem.W.Frag)(mg:bv->Option a9)(p:Pm)(base:dC):Prop where
 Ql:mg "abs" =none
 cu:mg "len" =none
 z_ord:mg "ord" =none
 Qk:mg "set" =none
 qA:mg "tuple" =none
 HK:mg "zip" =none
 uF:mg "enumerate" =none
 k6:mg "range" =none
 bC:mg "isinstance" =none
 Mb:mg "int" =none
 HL:mg "bool" =none
 Mc:mg "all" =none
 tT:mg "list" =none
 E6:mg "str" =none
 E7:mg "min" =none
 vS:mg "reversed" =none
 Qj:mg "sum" =none
 AD:mg "FIRST_SIGN" =some (.int 32 p.lX)
 CC:mg "LAST_SIGN" =some (.int 126 p.nu)
 EA:mg "NO_SIGNS" =some (.ref p.jB)
 DY:∀H:Hp,dD K H p.jB [.int 34,.int 37,.int 45]
 G0:mg "MANNERS" =some (.ref p.kY)
 Gq:∀H:Hp,dD K H p.kY [.str (bd "whole"),.str (bd "within"),.str (bd "over"),.str (bd "stretch")]
 O1:mg "CAME" =some (.ref p.pH)
 Iz:∀H:Hp,dD K H p.pH [.str (bd "p"),.str (bd "a"),.str (bd "b")]
 GC:mg "Prices" =some (.ref p.au)
 bq:Ma K p.au
 iL:bR K p.au "signs"
 m5:bR K p.au "pairs"
 kG:bR K p.au "opening"
 n8:bR K p.au "more"
 kH:bR K p.au "factors"
 lF:bR K p.au "unit"
 qf:bR K p.au "costs"
 j5:bR K p.au "opening_units"
 lV:bR K p.au "more_units"
 y9:mg "Ground" =some (.ref p.aJ)
 fC:Ma K p.aJ
 gk:bR K p.aJ "steps"
 lU:bR K p.aJ "begins"
 n9:bR K p.aJ "ends"
 yq:mg "WeaveError" =some (.ref p.fV)
 Cn:mg "NoManner" =some (.ref p.bz)
 Bx:Ke K p.bz
 GD:mg "NoSign" =some (.ref p.aS)
 yO:SD K p.aS
 Ge:∃f,F9 K p.aS f
 As:bR K p.aS "row"
 wX:bR K p.aS "place"
 x9:XBase K p.fV
 GN:PySem.W.subIn K (.ref p.aS) (.ref p.aS)=some true
 Ew:PySem.W.subIn K (.ref p.bz) (.ref p.aS)=some false
 Ct:PySem.W.subIn K (.ref p.bz) (.ref p.bz)=some true
 bm:MX base mg
 xu:pM K "first_begin" =true
 xr:∀f,mg "first_begin" =some (.ref f)->PySem.W.nsIn K cn "first_begin" =some (some (.ref f))
 vq:pM K "state_behind" =true
 vp:∀f,mg "state_behind" =some (.ref f)->PySem.W.nsIn K cn "state_behind" =some (some (.ref f))
theorem Po:bootBuiltins "abs" =some (.builtin "abs"):=by decide +kernel
theorem bB:bootBuiltins "len" =some (.builtin "len"):=by decide +kernel
theorem Pn:bootBuiltins "ord" =some (.builtin "ord"):=by decide +kernel
theorem Pk:bootBuiltins "set" =some (.type "set"):=by decide +kernel
theorem oU:bootBuiltins "tuple" =some (.type "tuple"):=by decide +kernel
theorem bu:bootBuiltins "isinstance" =some (.builtin "isinstance"):=by decide +kernel
theorem Ka:bootBuiltins "int" =some (.type "int"):=by decide +kernel
theorem F6:bootBuiltins "bool" =some (.type "bool"):=by decide +kernel
theorem Kc:bootBuiltins "all" =some (.builtin "all"):=by decide +kernel
theorem qV:bootBuiltins "list" =some (.type "list"):=by decide +kernel
theorem AM:bootBuiltins "str" =some (.type "str"):=by decide +kernel
theorem AN:bootBuiltins "min" =some (.builtin "min"):=by decide +kernel
theorem Pj:bootBuiltins "sum" =some (.builtin "sum"):=by decide +kernel
section
variable{P:bo}{w:df}{K:PySem.W.Frag}{mg:bv->Option a9}{base:dC}
theorem qX {aZ:a6}{aW:db}{p:Pm}(T:Txt K mg p base)(aH:Dn K mg "greatest_divisor" cW Lw aZ aW)  :aI P w K mg base cB 1 aZ aW Lw Fi:=by
 refine aH.fn.ok gh (λvs H Q E h=>?_) (λcdv A outer s H vs Q E hr h=>?_)
 ·obtain⟨a,b,rfl,_⟩:=h
  rfl
 ·obtain⟨a,b,rfl,hb,k⟩:=h
  refine⟨_,(aj (B4 dA (aK yY (pv 1) ak (aG _)) (aj (ag 2 gh.nd (aF cY (pv 0) (pv 1)))
   (aj (ag 0 gh.nd (pv 1))
   (ao (ag 1 gh.nd (pv 2))))))
   (ao (aM (aA (JZ) rfl T.Ql Po (aa (pv 0) af))))),?_⟩
  refine⟨λm σ H'=>H'=H/\∃(x y:Int) (r:Option V),σ=[some (.int x),some (.int y),r]/\0<=y/\eQ x y=eQ a b/\m=y.toNat,⟨b.toNat,rfl,a,b,none,rfl,hb,rfl,rfl⟩,?_⟩
  rintro m σ H' ⟨rfl,x,y,r,rfl,hy,hg,rfl⟩
  refine⟨_,rfl,rfl,_,rfl,?_⟩
  refine Ax (λh0=>?_) (λh0=>?_)
  ·have l1:=gL x h0
   have l2:=f8 x (show 0<y by omega)
   refine⟨λσ' MW=>MW=H'/\∃r,σ'=[some (.int y),some (.int (x % y)),r],?_,?_⟩
   ·rintro σ' MW ⟨rfl,r,rfl⟩
    exact⟨(x % y).toNat,by omega,rfl,y,x % y,r,rfl,l1,(JH x y).trans hg,rfl⟩
   ·exact⟨_,rfl,_,rfl,_,_,rfl,rfl,(by show 0<y;omega),_,rfl,_,rfl,rfl,_,rfl⟩
  ·subst h0
   refine⟨_,rfl,_,rfl,?_⟩
   rw[LQ,hg]
   exact k
theorem Gu {oR aZ:a6}{mL aW:db}{p:Pm}(T:Txt K mg p base)(lR:Dn K mg "lowest" sF RB oR mL)(aH:Dn K mg "greatest_divisor" cW Lw aZ aW)(eZ:aI P w K mg base cB 1 aZ aW Lw Fi):aI P w K mg base cB 2 oR mL RB (Ml K):=by
 refine lR.fn.ok yV (λvs H Q E h=>?_) (λcdv A outer s H vs Q E hr h=>?_)
 ·obtain⟨p,f,rfl,_⟩:=h
  rfl
 ·obtain⟨p,⟨a,b⟩,rfl,hS,hb,hb2,k⟩:=h
  have hb0:0<b:=hb
  have g1:=pC a hb0
  have g2:=Ez a hb0
  have hb':b<1073741824:=hb2
  refine⟨_,(aj (ag 1 yV.nd (ae eZ hr aH (aa (bw b7 (pv 0) ak (λ_ _=>rfl)) (aa (bw b7 (pv 0) ak (λ_ _=>rfl)) af))))
   (ao (aM (bG (aa (aF fH (bw b7 (pv 0) ak (λ_ _=>rfl)) (pv 1)) (aa (aF fH (bw b7 (pv 0) ak (λ_ _=>rfl)) (pv 1)) af)))))),?_⟩
  refine⟨_,rfl,_,_,_,_,rfl,rfl,hS,rfl,_,rfl,_,_,_,_,rfl,rfl,hS,rfl,a,b,rfl,jp hb,?_⟩
  refine⟨_,rfl,_,_,_,_,rfl,rfl,hS,rfl,_,rfl,_,_,rfl,rfl,⟨g1,by omega⟩,_,rfl,_,_,_,_,rfl,rfl,hS,rfl,_,rfl,_,_,rfl,rfl,⟨g1,by omega⟩,?_⟩
  exact⟨aw,λq hq=>k q hq⟩
theorem vj {cM oR:a6}{cg mL:db}{p:Pm}(T:Txt K mg p base)(bf:Dn K mg "lowest_price" iJ Jp cM cg)(lR:Dn K mg "lowest" sF RB oR mL)(Km:aI P w K mg base cB 2 oR mL RB (Ml K)):aI P w K mg base cB 3 cM cg Jp (rN K):=by
 refine bf.fn.ok vd (λvs H Q E h=>?_) (λcdv A outer s H vs Q E hr h=>?_)
 ·obtain⟨p,f,rfl,_⟩:=h
  rfl
 ·obtain⟨p,f,rfl,hS,⟨h1,h2⟩,k⟩:=h
  refine⟨_,(aj (bM (aK lN (bw b7 (pv 0) ak (λ_ _=>rfl)) ak (aG _)) eF aT)
   (ao (aM (ae Km hr lR (aa (pv 0) af))))),?_⟩
  refine⟨_,rfl,_,_,_,_,rfl,rfl,hS,rfl,_,_,rfl,rfl,_,rfl,?_⟩
  refine cI (λz=>absurd z (by omega)) λ_=>?_
  exact⟨_,rfl,p,f,rfl,hS,by omega,h2,k⟩
theorem uf {fu cM:a6}{eG cg:db}{p:Pm}(T:Txt K mg p base)(cT:Dn K mg "lowest_prices" jo ["row"] fu eG)(bf:Dn K mg "lowest_price" iJ Jp cM cg)(kc:aI P w K mg base cB 3 cM cg Jp (rN K)):aI P w K mg base cB 4 fu eG ["row"] (uI K):=by
 refine cT.fn.ok t8 (λvs H Q E h=>?_) (λcdv A outer s H vs Q E hr h=>?_)
 ·obtain⟨c,fs,rfl,_⟩:=h
  rfl
 ·obtain⟨c,fs,rfl,⟨ps,hc,hp⟩,ho,hz,k⟩:=h
  have hl:=Paired.len hp
  refine⟨_,(ao (aM (oM (rF) rfl T.qA oU (aa (nM (N:=Jp) rfl (λ_=>⟨[],cQ.plain (by decide +kernel) rfl (by decide +kernel) (by decide +kernel)⟩) (B6 (pv 0)) (λ_ _ _ _ _ _ _=>(aL (i:=0) (show(Jp:List bv).Nodup by decide +kernel) rfl (Or.inl rfl))) (λ_ _ _ _ _ _ _=>(ae kc hr bf (aa (pv 0) af)))) af)))),?_⟩
  refine⟨_,rfl,c,_,rfl,hc,λl HF=>?_⟩
  refine⟨λi m ys H2=>m=fs.length-i/\i<=fs.length/\ai H H2/\H2 l=some (.lst ys)/\∃qs:List a6,ys=qs.map V.ref/\qs.length=i/\Paired (λq f=>H2 q=some (.tup [.int f.1,.int f.2])) qs ((fs.map ki).take i),⟨fs.length,rfl,em _,ai.upd HF,ah,[],rfl,rfl,.nil⟩,?_⟩
  rintro i m ys H2 ⟨rfl,hi,s2,hl2,qs,rfl,hq,hP⟩
  have zc:c.at K H2 (ps.map V.ref):=ai.cp s2 hc
  by_cases hlt:i<fs.length
  ·have YR:i<ps.length:=by omega
   have e1:(ps.map V.ref)[i]? =some (.ref ps[i]):=by rw[cx,a7 YR];rfl
   refine .inr ⟨⟨_,_,zc,e1⟩,?_⟩
   rintro x H3 ⟨rfl,hx⟩
   have ex:=hx _ zc
   rw[e1]at ex
   cases ex
   obtain⟨f,ef,hf⟩:=Paired.at hp (a7 YR)
   refine⟨Kp.rep _ _,?_⟩
   refine⟨_,rfl,ps[i],f,rfl,hf.same s2,ho f (cb ef),λq hqn=>?_⟩
   have Tj:q≠l:=λz=>by rw[z,hl2]at hqn;cases hqn
   refine⟨by rw[aq (Ne.symm Tj)];exact hl2,?_,fs.length-(i+1),by omega,rfl,hlt,ai.at (s2.trans (ai.upd hqn)) HF,ah,qs++[q],by rw[du];rfl,by rw[ce,hq];rfl,?_⟩
   ·rw[a_,hq]
    exact cq hlt (bn hz (by decide))
   ·rw[rz ef]
    refine GP.Paired.snoc (Paired.gO hP λa b z=>?_) ?_
    ·have n1:a≠q:=aO z hqn
     have n2:a≠l:=qe z hl2 (by intro z;cases z)
     rw[aq n2,aq n1]
     exact z
    ·rw[aq Tj]
     exact ah
  ·have ei:i=fs.length:=by omega
   subst ei
   refine .inl ⟨⟨_,zc,by rw[a_];omega⟩,?_⟩
   refine⟨l,_,rfl,.inl ⟨cA.of hl2,λq hqn=>?_⟩⟩
   refine k q _ (s2.trans (ai.upd hqn)) (ai.free s2 hqn) ⟨qs,dD.of ah,?_⟩
   rw[fi (by rw[a_];exact ba _)]at hP
   exact Paired.gO hP λa b z=>dD.of (by rw[aq (aO z hqn)];exact z)
theorem ym {je:a6}{ie:db}{p:Pm}(T:Txt K mg p base)(fS:Dn K mg "all_unders" mE RA je ie)  :aI P w K mg base cB 1 je ie RA (BO K):=by
 refine fS.fn.ok nX (λvs H Q E h=>?_) (λcdv A outer s H vs Q E hr h=>?_)
 ·obtain⟨Pp,o,m,rows,fo,fm,rfl,_⟩:=h
  rfl
 ·obtain⟨Pp,o,m,rows,fo,fm,rfl,⟨cs,hc,hp⟩,hfo,hfm,aaA,OO,k⟩:=h
  refine⟨_,(aj (ag 3 nX.nd (kD (aa (bw b7 (pv 1) ak (λ_ _=>rfl)) (aa (bw b7 (pv 2) ak (λ_ _=>rfl)) af))))
   (aj (dH dA rfl (B6 (pv 0)) (al 4 nX.nd) (ao (e7 (nN PySem.F.plainAttrs_list PySem.F.slot_list_extend PySem.F.type_list_extend qM (pv 3) (aa (nM (N:=Jp) rfl (λ_=>⟨[],cQ.plain (by decide +kernel) rfl (by decide +kernel) (by decide +kernel)⟩) (B6 (pv 4)) (λ_ _ _ _ _ _ _=>(aL (i:=0) (show(Jp:List bv).Nodup by decide +kernel) rfl (Or.inl rfl))) (λ_ _ _ _ _ _ _=>(bw (Aw (K':=K) rfl) (pv 0) ak (λ_ _=>rfl)))) af)))))
   (ao (aM (pv 3))))),?_⟩
  refine⟨_,rfl,_,_,_,_,rfl,rfl,hfo,rfl,_,rfl,_,_,_,_,rfl,rfl,hfm,rfl,aw,λl hl=>?_⟩
  have Xy:∀i,((rows.take i).flatten.map (·.2)).length<=12*12:=λi=>by
   have:∀(q:List (List cG)),(∀r∈q,r.length<=12)->q.flatten.length<=12*q.length:=λq=>by
    induction q with
    |nil=>intro _;simp
    |cons r q ih =>
     intro h
     have a:=h r cw
     have b:=ih λr' hr=>h r' (b0 _ hr)
     rw[List.flatten_cons,ce,d_]
     omega
   have a:=this (rows.take i) λr hr=>OO r (List.mem_of_mem_take hr)
   have b:(rows.take i).length<=12:=by rw[mx];omega
   rw[a_]
   omega
  refine⟨_,rfl,.tup Pp,_,rfl,ai.cp (ai.upd hl) (c:=.tup Pp) hc,JJ (K:=K) (c:=.tup Pp) (xs:=cs.map Cp.val) (λi σ H2=>∃v4,σ=[some (.ref Pp),some (.ref o),some (.ref m),some (.ref l),v4]/\ai H H2/\H2 l=some (.lst ((fo.2::fm.2::(rows.take i).flatten.map (·.2)).map V.int)))
   ⟨_,rfl,ai.upd hl,ah⟩ (λi σ H2 _ ⟨_,_,s2,_⟩=>ai.cp s2 hc) ?_ ?_⟩
  ·rintro i x σ H2 hx ⟨v4,rfl,s2,hl2⟩
   obtain⟨c,ec,rfl⟩:=jz hx
   obtain⟨row,er,⟨ps,hc2,hp2⟩⟩:=Paired.at hp ec
   have Se:=ai.cp s2 hc2
   refine⟨_,rfl,.inl ⟨rfl,_,cA.of hl2⟩,?_⟩
   refine⟨_,rfl,c,_,rfl,Se,λlx hlx=>?_⟩
   refine⟨λj m' ys H3=>m'=row.length-j/\j<=row.length/\ai H2 H3/\H3 lx=some (.lst ys)/\ys=((row.take j).map (·.2)).map V.int,⟨row.length,rfl,em _,ai.upd hlx,ah,rfl⟩,?_⟩
   rintro j m' ys H3 ⟨rfl,hj,s3,OS,rfl⟩
   have zr:=ai.cp s3 Se
   by_cases TN:j<row.length
   ·have YQ:j<ps.length:=by rw[Paired.len hp2];exact TN
    have e1:(ps.map V.ref)[j]? =some (.ref ps[j]):=by rw[cx,a7 YQ];rfl
    refine .inr ⟨⟨_,_,zr,e1⟩,?_⟩
    rintro y H4 ⟨rfl,RM⟩
    have ey:=RM _ zr
    rw[e1]at ey
    cases ey
    refine⟨Kp.rep _ _,?_⟩
    obtain⟨f,ef,hf⟩:=Paired.at hp2 (a7 YQ)
    have hf':=hf.same (s2.trans s3)
    refine⟨_,rfl,_,_,_,_,rfl,rfl,hf',rfl,?_⟩
    refine⟨OS,?_,row.length-(j+1),by omega,rfl,TN,ai.at s3 hlx,ah,?_⟩
    ·rw[a_,a_,mx]
     have:=OO row (cb er)
     exact cq (show min j row.length<100 by omega) (by decide)
    ·rw[take_snoc ef,du,du]
     rfl
   ·have ej:j=row.length:=by omega
    subst ej
    rw[fi (ba _)]at OS
    refine .inl ⟨⟨_,zr,by rw[a_,Paired.len hp2];exact ba _⟩,?_⟩
    have hl3:=s3 _ _ hl2
    refine⟨l,lx,_,_,rfl,rfl,hl3,OS,?_,?_⟩
    ·have a:=Xy i
     have a2:=OO row (cb er)
     have a3:((fo.2::fm.2::(rows.take i).flatten.map (·.2)).map V.int).length+((row.map (·.2)).map V.int).length<=200:=by
      rw[a_,d_,d_,a_,a_,a_]
      rw[a_]at a
      omega
     exact bn a3 (by decide)
    refine⟨_,rfl,ai.at (s2.trans s3) hl,?_⟩
    rw[ah,take_snoc er,List.flatten_append,du]
    simp
  ·rintro σ H2 ⟨v4,rfl,s2,hl2⟩
   refine⟨_,rfl,?_⟩
   rw[a_,Paired.len hp,fi (ba _)]at hl2
   exact k l H2 s2 hl hl2
theorem vf {gx aZ:a6}{fj aW:db}{p:Pm}(T:Txt K mg p base)(dh:Dn K mg "unit_factors" jY ["unders"] gx fj)(aH:Dn K mg "greatest_divisor" cW Lw aZ aW)(eZ:aI P w K mg base cB 1 aZ aW Lw Fi):aI P w K mg base cB 2 gx fj ["unders"] (yU K):=by
 refine dh.fn.ok fh (λvs H Q E h=>?_) (λcdv A outer s H vs Q E hr h=>?_)
 ·obtain⟨l,ns,rfl,_⟩:=h
  rfl
 ·obtain⟨l,ns,rfl,hl,hn,hs,k⟩:=h
  refine⟨_,(aj (ag 1 fh.nd (kD af))
   (aj (ag 2 fh.nd ak)
   (aj (dH dA rfl (iT (pv 0)) (al 3 fh.nd) (aj (ag 4 fh.nd (aF fH (pv 3) (ae eZ hr aH (aa (pv 2) (aa (pv 3) af)))))
   (ao (bM (aK wL (pv 4) ak (aG _)) (aj (e7 (nN PySem.F.plainAttrs_list PySem.F.slot_list_append PySem.F.type_list_append iU (pv 1) (aa (pv 4) af)))
   (ao (ag 2 fh.nd (aF nY (pv 2) (pv 4))))) aT))))
   (ao (aM (pv 1)))))),?_⟩
  refine⟨am,λq hq=>?_⟩
  refine⟨_,rfl,l,rfl,⟨_,ai.seq (ai.upd hq) hl⟩,lP (K:=K) (a:=l) (xs:=ns.map V.int) (λi σ H2=>∃v3 v4,σ=[some (.ref l),some (.ref q),some (.int (oQ (ns.take i)).2),v3,v4]/\ai H H2/\H2 q=some (.lst ((oQ (ns.take i)).1.map V.int)))
   ⟨_,_,rfl,ai.upd hq,ah⟩ (λi σ H2 _ ⟨_,_,_,s2,_⟩=>ai.seq s2 hl) ?_ ?_⟩
  ·rintro i x σ H2 hx ⟨v3,v4,rfl,s2,hq2⟩
   obtain⟨b,eb,rfl⟩:=jz hx
   have hi:i<ns.length:=(bj.mp eb).1
   have hb:=hs b (cb eb)
   have F:=uA hs i (rg hi)
   have es:oQ (ns.take (i+1))=qS (oQ (ns.take i)) b:=by rw[take_snoc eb,xK]
   have fl:=F.len
   rw[mx]at fl
   rw[es]
   unfold qS
   generalize hp:oQ (ns.take i)=pr at *
   obtain⟨fs,u⟩:=pr
   obtain⟨b1,b2⟩:=hb
   have g1:=pC u b1
   have g2:=Ez u b1
   obtain⟨d1,d2⟩:=F1 (u:=u) ⟨b1,b2⟩
   refine⟨_,rfl,_,rfl,_,rfl,u,b,rfl,jp b1,_,_,rfl,rfl,⟨g1,by omega⟩,_,rfl,_,_,rfl,rfl,_,rfl,?_⟩
   refine cI (λh1=>?_) (λh1=>?_)
   ·rw[if_pos h1]
    refine⟨_,rfl,.inl ⟨rfl,_,cA.of hq2⟩,_,rfl,q,_,_,rfl,rfl,hq2,?_,?_⟩
    ·rw[a_]
     exact cr (show fs.length<=1000 by dsimp only at fl;omega) (by decide)
    refine⟨_,rfl,_,rfl,_,_,rfl,rfl,.inr ⟨by omega,by omega⟩,?_⟩
    exact⟨_,_,rfl,ai.at s2 hq,by rw[ah,du];rfl⟩
   ·rw[if_neg h1]
    exact⟨_,_,rfl,s2,hq2⟩
  ·rintro σ H2 ⟨v3,v4,rfl,s2,hq2⟩
   refine⟨_,rfl,?_⟩
   rw[a_,fi (ba _)]at hq2
   exact k q H2 s2 hq hq2
theorem yh {i8:a6}{g7:db}{p:Pm}(T:Txt K mg p base)(fO:Dn K mg "product_of" mj ["factors"] i8 g7)  :aI P w K mg base cB 1 i8 g7 ["factors"] (Ih K):=by
 refine fO.fn.ok lg (λvs H Q E h=>?_) (λcdv A outer s H vs Q E hr h=>?_)
 ·obtain⟨l,fs,rfl,_⟩:=h
  rfl
 ·obtain⟨l,fs,rfl,hl,hs,k⟩:=h
  refine⟨_,(aj (ag 1 lg.nd ak)
   (aj (dH dA rfl (iT (pv 0)) (al 2 lg.nd) (ao (ag 1 lg.nd (aF nY (pv 1) (pv 2)))))
   (ao (aM (pv 1))))),?_⟩
  refine⟨_,rfl,l,rfl,⟨_,hl⟩,lP (K:=K) (a:=l) (xs:=fs.map V.int) (λi σ H2=>H2=H/\∃v2,σ=[some (.ref l),some (.int (q8 (fs.take i))),v2])
   ⟨rfl,_,rfl⟩ (λi σ H2 _ ⟨e,_⟩=>by subst e;exact hl) ?_ ?_⟩
  ·rintro i x σ H2 hx ⟨rfl,v2,rfl⟩
   obtain⟨b,eb,rfl⟩:=jz hx
   obtain⟨b1,b2⟩:=hs b (cb eb)
   refine⟨_,rfl,_,rfl,_,_,rfl,rfl,.inr ⟨by omega,by omega⟩,rfl,some (.int b),?_⟩
   rw[take_snoc eb,rR]
   rfl
  ·rintro σ H2 ⟨rfl,v2,rfl⟩
   refine⟨_,rfl,?_⟩
   rw[a_,fi (ba _)]
   exact k
theorem Ef {jc:a6}{gQ:db}{p:Pm}(T:Txt K mg p base)(cR:Dn K mg "by_unit" oJ Oz jc gQ)  :aI P w K mg base cB 1 jc gQ Oz (wz K):=by
 refine cR.fn.ok DV (λvs H Q E h=>?_) (λcdv A outer s H vs Q E hr h=>?_)
 ·obtain⟨p,f,u,rfl,_⟩:=h
  rfl
 ·obtain⟨p,f,u,rfl,hS,⟨h1,h2⟩,b1,b2,k⟩:=h
  refine⟨_,(ao (aM (aF Lf (bw b7 (pv 0) ak (λ_ _=>rfl)) (aF fH (pv 1) (bw b7 (pv 0) ak (λ_ _=>rfl)))))),?_⟩
  exact⟨_,rfl,_,_,_,_,rfl,rfl,hS,rfl,_,rfl,_,rfl,_,_,_,_,rfl,rfl,hS,rfl,_,_,rfl,rfl,⟨by omega,h2⟩,_,_,rfl,rfl,⟨b1,b2⟩,k⟩
end
section
variable{P:bo}{w:df}{K:PySem.W.Frag}{mg:bv->Option a9}{base:dC}
theorem Ed {mT:a6}{kR:db}{p:Pm}(T:Txt K mg p base)(jQ:Dn K mg "is_sign" qH ["sign"] mT kR)  :aI P w K mg base cB 1 mT kR ["sign"] BV:=by
 refine jQ.fn.ok wD (λvs H Q E h=>?_) (λcdv A outer s H vs Q E hr h=>?_)
 ·obtain⟨c,rfl,_⟩:=h
  rfl
 ·obtain⟨c,rfl,k⟩:=h
  refine⟨_,(aj (ag 1 wD.nd (aA (JY) rfl T.z_ord Pn (aa (pv 0) af)))
   (ao (aM (kF (II Mt Mt (sH (v:=.int 32) rfl T.AD ⟨_,rfl⟩) (pv 1) (sH (v:=.int 126) rfl T.CC ⟨_,rfl⟩)) (kC (b8 sL (pv 1) (sH (v:=.ref p.jB) rfl T.EA rfl) (by with_unfolding_all rfl))))))),?_⟩
  refine⟨_,rfl,_,rfl,rfl,?_⟩
  have k':Q (.bl ((decide ((32:Int)<=(c:Int))&&decide ((c:Int)<=126))&& !LF (.int c) [.int 34,.int 37,.int 45])) H:=k
  refine⟨_,rfl,_,_,rfl,rfl,_,rfl,?_⟩
  refine cI (λh1=>?_) (λh1=>?_)
  ·refine⟨_,_,rfl,rfl,_,rfl,?_⟩
   have uv:(32:Int)<=(c:Int):=h1
   rw[decide_eq_true uv,sK]at k'
   refine cI (λh2=>?_) (λh2=>?_)
   ·have h2':(c:Int)<=126:=h2
    rw[decide_eq_true h2',sK]at k'
    exact⟨_,rfl,_,_,rfl,.inr (T.DY _),rfl,rfl,k'⟩
   ·have h2':¬(c:Int)<=126:=h2
    rw[decide_eq_false h2',mf]at k'
    exact k'
  ·have uv:¬(32:Int)<=(c:Int):=h1
   rw[decide_eq_false uv,mf,mf]at k'
   exact⟨_,rfl,gP k'⟩
theorem An {jM mT:a6}{i0 kR:db}{p:Pm}(T:Txt K mg p base)(gK:Dn K mg "are_signs" nK ["text"] jM i0)(jQ:Dn K mg "is_sign" qH ["sign"] mT kR)(Hv:aI P w K mg base cB 1 mT kR ["sign"] BV):aI P w K mg base cB 2 jM i0 ["text"] wB:=by
 refine gK.fn.ok z5 (λvs H Q E h=>?_) (λcdv A outer s H vs Q E hr h=>?_)
 ·obtain⟨x,rfl,_⟩:=h
  rfl
 ·obtain⟨x,rfl,hx,k⟩:=h
  refine⟨_,(ao (aM (aA (uU rfl) rfl T.Mc Kc (aa (nM (N:=["sign"]) rfl (λ_=>⟨[],cQ.plain (by decide +kernel) rfl (by decide +kernel) (by decide +kernel)⟩) (ID (pv 0)) (λ_ _ _ _ _ _ _=>(aL (i:=0) (show(["sign"]:List bv).Nodup by decide +kernel) rfl (Or.inl rfl))) (λ_ _ _ _ _ _ _=>(ae Hv hr jQ (aa (pv 0) af)))) af)))),?_⟩
  refine⟨_,rfl,x,rfl,λl hl=>?_⟩
  refine⟨λi m ys H2=>m=x.cps.size-i/\i<=x.cps.size/\ai H H2/\H2 l=some (.lst ys)/\ys=((x.cps.toList.take i).map pB).map V.bl,⟨x.cps.size,rfl,em _,ai.upd hl,ah,rfl⟩,?_⟩
  rintro i m ys H2 ⟨rfl,hi,s2,hl2,rfl⟩
  by_cases hlt:i<x.cps.size
  ·refine .inr ⟨hlt,?_⟩
   rintro y H3 ⟨rfl,c,ec,rfl⟩
   refine⟨Kp.rep _ _,?_⟩
   refine⟨_,rfl,c,rfl,?_⟩
   refine⟨hl2,?_,x.cps.size-(i+1),by omega,rfl,hlt,ai.at s2 hl,ah,?_⟩
   ·rw[a_,a_,mx]
    exact cr (show min i x.cps.toList.length<=1000 by omega) (by decide)
   ·rw[take_snoc (x:=c) (by rw[ft];exact ec),du,du]
    rfl
  ·have ei:i=x.cps.size:=by omega
   subst ei
   refine .inl ⟨ba _,?_⟩
   rw[fi (by rw[ij];exact ba _)]at hl2
   refine⟨l,_,rfl,cA.of hl2,?_⟩
   have e:(x.cps.toList.map pB).all id=x.cps.toList.all pB:=by rw[List.all_map];rfl
   rw[e]
   exact k H2 s2
theorem wV {iz jM:a6}{gv i0:db}{p:Pm}(T:Txt K mg p base)(ee:Dn K mg "check_signs" lC ["signs"] iz gv)(gK:Dn K mg "are_signs" nK ["text"] jM i0)(Dk:aI P w K mg base cB 2 jM i0 ["text"] wB):aI P w K mg base cB 3 iz gv ["signs"] sC:=by
 refine ee.fn.ok wG (λvs H Q E h=>?_) (λcdv A outer s H vs Q E hr h=>?_)
 ·obtain⟨x,rfl,_⟩:=h
  rfl
 ·obtain⟨x,rfl,⟨h1,h2,h3,h4⟩,k⟩:=h
  refine⟨_,(aj (bM (aK bW (aA (aR) rfl T.cu bB (aa (pv 0) af)) ak (aG _)) eF aT)
   (aj (bM (D0 (jx (ae Dk hr gK (aa (pv 0) af)))) eF aT)
   (ao (bM (aK yY (aA (yz) rfl T.cu bB (aa (oM (G6 rfl) rfl T.Qk Pk (aa (pv 0) af)) af)) (aA (aR) rfl T.cu bB (aa (pv 0) af)) (aG _)) eF aT)))),?_⟩
  have hz:x.length<=b_:=bn h2 (by decide)
  refine⟨_,rfl,_,_,rfl,⟨hz,rfl⟩,rfl,_,rfl,?_⟩
  refine oi (λz=>absurd z (by show ¬((x.cps.size:Nat):Int)=0;omega)) λ_=>?_
  refine⟨_,rfl,x,rfl,bn h2 (by decide),λH2 s2=>?_⟩
  refine⟨_,rfl,?_⟩
  rw[p_.mpr h3]
  refine Cv ?_
  refine⟨_,rfl,x,rfl,cr (rc h2) (by decide),λp hp=>?_⟩
  refine⟨p,_,rfl,ah,_,rfl,_,_,rfl,⟨hz,rfl⟩,rfl,_,rfl,?_⟩
  refine Ax (λz=>absurd (by rw[GF h4];rfl) z) λ_=>?_
  exact k _ (s2.trans (ai.upd hp))
theorem uh {fB:a6}{eN:db}{p:Pm}(T:Txt K mg p base)(cV:Dn K mg "check_lengths" jr Rz fB eN)  :aI P w K mg base cB 1 fB eN Rz (pW K):=by
 refine cV.fn.ok oH (λvs H Q E h=>?_) (λcdv A outer s H vs Q E hr h=>?_)
 ·obtain⟨x,c,rows,rfl,_⟩:=h
  rfl
 ·obtain⟨x,c,rows,rfl,⟨nc,cs,Yr,hc,hp⟩,hx,⟨hq1,hq2⟩,k⟩:=h
  refine⟨_,(aj (bM (aK yY (aA (aR) rfl T.cu bB (aa (pv 1) af)) (aA (aR) rfl T.cu bB (aa (pv 0) af)) (aG _)) eF aT)
   (ao (dH dA rfl (B6 (pv 1)) (al 2 oH.nd) (ao (bM (aK yY (aA (aR) rfl T.cu bB (aa (pv 2) af)) (aA (aR) rfl T.cu bB (aa (pv 0) af)) (aG _)) eF aT))))),?_⟩
  have hz:x.length<=b_:=bn hx (by decide)
  have hl:(cs.map Cp.val).length=x.cps.size:=by rw[a_,Paired.len hp,hq1]
  refine⟨_,rfl,_,_,rfl,JU hc nc,_,rfl,_,_,rfl,⟨hz,rfl⟩,rfl,_,rfl,?_⟩
  refine Ax (λz=>absurd (by rw[hl];rfl) z) λ_=>?_
  refine⟨_,rfl,c,_,rfl,hc,JJ (K:=K) (c:=c) (xs:=cs.map Cp.val) (λi σ H2=>H2=H/\∃v,σ=[some (.str x),some c.val,v]) ⟨rfl,_,rfl⟩ (λi σ H2 _ ⟨e,_⟩=>by subst e;exact hc) ?_ ?_⟩
  ·rintro i y σ H2 hy ⟨rfl,v,rfl⟩
   obtain⟨d,ed,rfl⟩:∃d,cs[i]? =some d/\y=d.val:=by
    rw[cx]at hy
    cases e:cs[i]? with
    |none=>rw[e]at hy;cases hy
    |some d=>rw[e]at hy;exact⟨d,rfl,(dn hy).symm⟩
   obtain⟨row,er,hr2⟩:=Paired.at hp ed
   refine⟨_,rfl,_,_,rfl,hr2.len (Yr d (cb ed)),_,rfl,_,_,rfl,⟨hz,rfl⟩,rfl,_,rfl,?_⟩
   refine Ax (λz=>absurd (by rw[hq2 row (cb er)];rfl) z) λ_=>?_
   exact⟨rfl,_,rfl⟩
  ·rintro σ H2 ⟨rfl,v,rfl⟩
   exact k
end
section
variable{P:bo}{w:df}{K:PySem.W.Frag}{mg:bv->Option a9}{base:dC}
theorem sM {eO jc:a6}{dB gQ:db}{p:Pm}(T:Txt K mg p base)(cE:Dn K mg "costs_by_signs" iS Ry eO dB)(cR:Dn K mg "by_unit" oJ Oz jc gQ)(qW:aI P w K mg base cB 1 jc gQ Oz (wz K)):aI P w K mg base cB 2 eO dB Ry (Fo K):=by
 refine cE.fn.ok dw (λvs H Q E h=>?_) (λcdv A outer s H vs Q E hr h=>?_)
 ·obtain⟨x,Pp,u,rows,rfl,_⟩:=h
  rfl
 ·obtain⟨x,Pp,u,rows,rfl,hM,hx,nd,⟨hq1,hq2⟩,ho,k⟩:=h
  refine⟨_,(aj (ag 3 dw.nd B7)
   (aj (dH dA rfl (D4 rfl rfl T.HK (aa (pv 0) (aa (pv 1) af))) (o8 (n:=2) rfl (bP (al 4 dw.nd) (bP (al 5 dw.nd) lE))) (ao (dH dA rfl (D4 rfl rfl T.HK (aa (pv 0) (aa (pv 5) af))) (o8 (n:=2) rfl (bP (al 6 dw.nd) (bP (al 7 dw.nd) lE))) (ao (Fx (Cw hr) (pv 3) (bG (aa (pv 4) (aa (pv 6) af))) (ae qW hr cR (aa (pv 7) (aa (pv 2) af))) rfl)))))
   (ao (aM (pv 3))))),?_⟩
  intro d hd
  obtain⟨qs,YJ,hp⟩:=hM
  have hlen:qs.length=x.cps.size:=by rw[Paired.len hp,hq1]
  have hmin:min (ff x).length (qs.map V.ref).length=x.cps.size:=by rw[signs_length,a_,hlen,Nat.min_self]
  refine⟨_,rfl,_,rfl,.txt x,.tup Pp,_,_,rfl,rfl,Dat.tup (Dat.of (ai.upd hd)) YJ,FY (K:=K) (c:=.txt x) (d:=.tup Pp) (xs:=ff x) (ys:=qs.map V.ref) (λi σ H2=>∃kvs v4 v5 v6 v7,σ=[some (.str x),some (.ref Pp),some (.int u),some (.ref d),v4,v5,v6,v7]/\ai H H2/\H2 d=some (.dT kvs)/\kvs.length<=i*x.cps.size/\kZ kvs x rows u i 0)
   ⟨[],_,_,_,_,rfl,ai.upd hd,ah,em _,kZ.nil x rows u⟩ (λi σ H2 _ ⟨kvs,v4,v5,v6,v7,_,s2,_⟩=>⟨rfl,Dat.tup (Dat.of s2) YJ⟩) ?_ ?_⟩
  ·rintro i y z p1 σ H2 hy hz hp1 ⟨kvs,v4,v5,v6,v7,rfl,s2,hd2,hk,hc⟩
   obtain⟨a,ha,rfl⟩:=signs_get hy
   obtain⟨q,hq,rfl⟩:=jz hz
   obtain⟨row,er,OL⟩:=Paired.at hp hq
   have hi:i<x.cps.size:=by rw[←hlen];exact(bj.mp hq).1
   obtain⟨ps,hps,hpp⟩:=OL
   have hpl:ps.length=x.cps.size:=by rw[Paired.len hpp,hq2 row (cb er)]
   have R1:min (ff x).length (ps.map V.ref).length=x.cps.size:=by rw[signs_length,a_,hpl,Nat.min_self]
   refine⟨p1,_,rfl,dD.of ah,rfl,_,_,rfl,_,_,rfl,rfl,?_⟩
   have Oi:d≠p1:=aO hd2 hp1
   refine⟨_,rfl,_,rfl,.txt x,.tup q,_,_,rfl,rfl,Dat.tup (Dat.of (s2.trans (ai.upd hp1))) hps,FY (K:=K) (c:=.txt x) (d:=.tup q) (xs:=ff x) (ys:=ps.map V.ref)
    (λj σ H3=>∃kvs v6 v7,σ=[some (.str x),some (.ref Pp),some (.int u),some (.ref d),some (.str ⟨#[a]⟩),some (.ref q),v6,v7]/\ai H H3/\H3 d=some (.dT kvs)/\kvs.length<=i*x.cps.size+j/\kZ kvs x rows u i j)
    ⟨kvs,v6,v7,rfl,s2.trans (ai.upd hp1),by rw[aq Oi];exact hd2,hk,hc⟩ (λj σ H3 _ ⟨kvs,v6,v7,_,s3,_⟩=>⟨rfl,Dat.tup (Dat.of s3) hps⟩) ?_ ?_⟩
   ·rintro j y z p2 σ H3 hy hz hp2 ⟨kvs,v6,v7,rfl,s3,JE,hk,hc⟩
    obtain⟨b,hb,rfl⟩:=signs_get hy
    obtain⟨pr,YO,rfl⟩:=jz hz
    obtain⟨f,ef,hf⟩:=Paired.at hpp YO
    have hj:j<x.cps.size:=by rw[←hpl];exact(bj.mp YO).1
    obtain⟨o1,o2,o3⟩:=ho row (cb er) f (cb ef)
    refine⟨p2,_,rfl,dD.of ah,rfl,_,_,rfl,_,_,rfl,rfl,?_⟩
    have s4:=s3.trans (ai.upd (o:=.tup [.str ⟨#[b]⟩,.ref pr]) hp2)
    have JD:upd H3 p2 (.tup [.str ⟨#[b]⟩,.ref pr]) d=some (.dT kvs):=by rw[aq (aO JE hp2)];exact JE
    refine⟨_,rfl,_,rfl,pr,f,u,rfl,hf.same s4,o1,o2.bg,o3.bg,?_⟩
    refine⟨_,rfl,_,rfl,_,rfl,aw,λt ht=>?_⟩
    have Xe:upd (upd H3 p2 (.tup [.str ⟨#[b]⟩,.ref pr])) t (.tup [.str ⟨#[a]⟩,.str ⟨#[b]⟩]) d=some (.dT kvs):=by rw[aq (aO JD ht)];exact JD
    have hsz:kvs.length<b_:=by
     have:i*x.cps.size<=100*100:=q5 (by omega) hx
     have:kvs.length<20000:=by omega
     exact cq this (by decide)
    refine⟨d,_,rfl,Hx.t (k:=keyOf a b) Xe ah hsz,?_⟩
    refine⟨putK kvs (keyOf a b) (.int (f.1*(u / f.2))),_,_,rfl,ai.at (s4.trans (ai.upd ht)) hd,ah,?_,hc.put nd ha hb ⟨row,er,ef⟩⟩
    have:=nO kvs (keyOf a b) (.int (f.1*(u / f.2)))
    omega
   ·rintro σ H3 ⟨kvs,v6,v7,rfl,s3,JE,hk,hc⟩
    rw[R1]at hk hc
    refine⟨kvs,_,_,_,_,rfl,s3,JE,?_,hc.row (ba _)⟩
    rw[Nat.succ_mul]
    exact hk
  ·rintro σ H2 ⟨kvs,v4,v5,v6,v7,rfl,s2,hd2,hk,hc⟩
   rw[hmin]at hc
   exact⟨_,rfl,k d H2 kvs s2 hd hd2 (hc.all (ba _))⟩
theorem Ag {fL:a6}{dQ:db}{p:Pm}(T:Txt K mg p base)(cD:Dn K mg "pair_cost" lK Ox fL dQ)  :aI P w K mg base cB 1 fL dQ Ox (rM K p.au):=by
 refine cD.fn.ok zY (λvs H Q E h=>?_) (λcdv A outer s H vs Q E hr h=>?_)
 ·obtain⟨x,sg,rows,fo,fm,i,j,a,b,f,rfl,_⟩:=h
  rfl
 ·obtain⟨x,sg,rows,fo,fm,i,j,a,b,f,rfl,⟨_,_,_,_,_,_,_,dx,Pp,o,m,d,kvs,h1,h2,h3,h4,h5,h6⟩,ha,hb,hf,k⟩:=h
  refine⟨_,(ao (aM (Ad (Cw hr) (cX (pv 0) rfl) (bG (aa (pv 1) (aa (pv 2) af))) (λ_ _=>rfl)))),?_⟩
  refine⟨_,rfl,x,_,_,_,_,rfl,h1,T.bq,T.qf,EE,?_⟩
  refine⟨_,rfl,_,rfl,aw,λt ht=>?_⟩
  have Xe:upd H t (.tup [.str ⟨#[a]⟩,.str ⟨#[b]⟩]) d.1=some (.dT kvs):=by rw[aq (aO h5 ht)];exact h5
  have z:=Dq.t (k:=keyOf a b) Xe ah
  rw[h6.1 i j a b f ha hb hf]at z
  exact⟨d.1,_,rfl,z,k _ (ai.upd ht)⟩
theorem vh {cL:a6}{b9:db}{p:Pm}(T:Txt K mg p base)(bE:Dn K mg "opening_cost" iI l7 cL b9)  :aI P w K mg base cB 2 cL b9 l7 (tZ K p.au):=by
 refine bE.fn.ok vc (λvs H Q E h=>?_) (λcdv A outer s H vs Q E hr h=>?_)
 ·obtain⟨x,sg,rows,fo,fm,rfl,_⟩:=h
  rfl
 ·obtain⟨x,sg,rows,fo,fm,rfl,⟨_,_,_,_,_,_,_,dx,Pp,o,m,d,kvs,h1,h2,h3,h4,h5,h6⟩,k⟩:=h
  refine⟨_,(ao (aM (cX (pv 0) rfl))),?_⟩
  exact⟨_,rfl,x,_,_,_,_,rfl,h1,T.bq,T.j5,se,k⟩
theorem Ah {fM:a6}{dR:db}{p:Pm}(T:Txt K mg p base)(bx:Dn K mg "more_cost" lM l7 fM dR)  :aI P w K mg base cB 2 fM dR l7 (DO K p.au):=by
 refine bx.fn.ok zZ (λvs H Q E h=>?_) (λcdv A outer s H vs Q E hr h=>?_)
 ·obtain⟨x,sg,rows,fo,fm,rfl,_⟩:=h
  rfl
 ·obtain⟨x,sg,rows,fo,fm,rfl,⟨_,_,_,_,_,_,_,dx,Pp,o,m,d,kvs,h1,h2,h3,h4,h5,h6⟩,k⟩:=h
  refine⟨_,(ao (aM (cX (pv 0) rfl))),?_⟩
  exact⟨_,rfl,x,_,_,_,_,rfl,h1,T.bq,T.lV,vA,k⟩
theorem Cc {gT aZ:a6}{fK aW:db}{p:Pm}(T:Txt K mg p base)(cZ:Dn K mg "in_units" mY Ow gT fK)(aH:Dn K mg "greatest_divisor" cW Lw aZ aW)(eZ:aI P w K mg base cB 1 aZ aW Lw Fi):aI P w K mg base cB 2 gT fK Ow (t7 K p.au):=by
 refine cZ.fn.ok iG (λvs H Q E h=>?_) (λcdv A outer s H vs Q E hr h=>?_)
 ·obtain⟨x,n,sg,rows,fo,fm,rfl,_⟩:=h
  rfl
 ·obtain⟨x,n,sg,rows,fo,fm,rfl,⟨_,_,_,_,_,u1,u2,dx,Pp,o,m,d,kvs,h1,h2,h3,h4,h5,h6,fs,h7,h8,h9⟩,k⟩:=h
  refine⟨_,(aj (ag 2 iG.nd (pv 1))
   (aj (ag 3 iG.nd ak)
   (aj (dH dA rfl (iT (cX (pv 0) rfl)) (al 4 iG.nd) (aj (ag 5 iG.nd (ae eZ hr aH (aa (pv 2) (aa (pv 4) af))))
   (aj (ag 2 iG.nd (aF fH (pv 2) (pv 5)))
   (ao (ag 3 iG.nd (aF nY (pv 3) (aF fH (pv 4) (pv 5))))))))
   (ao (aM (bG (aa (pv 2) (aa (pv 3) af)))))))),?_⟩
  refine⟨_,rfl,_,rfl,x,_,_,_,_,rfl,h1,T.bq,T.kH,pD,d.2,rfl,⟨_,cA.of h9⟩,lP (K:=K) (a:=d.2) (xs:=fs.map V.int) (λi σ H2=>H2=H/\∃(ov un:Int) (v4 v5:Option V),σ=[some (.ref x),some (.int n),some (.int ov),some (.int un),v4,v5]/\0<un/\eQ ov un=1/\ov*q8 (fs.take i)=n*un)
   ⟨rfl,n,1,_,_,rfl,by decide,Int.gcd_one_right n,by show n*q8 []=n*1;rfl⟩ (λi σ H2 _ ⟨e,_⟩=>by subst e;exact cA.of h9) ?_ ?_⟩
  ·rintro i y σ H2 hy ⟨rfl,ov,un,v4,v5,rfl,hun,hg,he⟩
   obtain⟨b,eb,rfl⟩:=jz hy
   obtain⟨b1,b2⟩:=h7 b (cb eb)
   have g1:=pC ov b1
   have g2:=Ez ov b1
   have d1:0<b / (eQ ov b:Int):=n_ b1 (jp g1) (mm ov b)
   have d2:b / (eQ ov b:Int)<=b:=Int.ediv_le_self _ (jp b1)
   refine⟨_,rfl,_,rfl,ov,b,rfl,jp b1,_,rfl,_,rfl,_,_,rfl,rfl,⟨g1,by omega⟩,_,rfl,_,rfl,_,rfl,_,_,rfl,rfl,⟨g1,by omega⟩,_,_,rfl,rfl,.inr ⟨by omega,by omega⟩,?_⟩
   refine⟨rfl,_,_,_,_,rfl,Int.mul_pos hun d1,JV b1 hg,?_⟩
   rw[take_snoc eb,rR]
   exact EH he
  ·rintro σ H2 ⟨rfl,ov,un,v4,v5,rfl,hun,hg,he⟩
   rw[a_,fi (ba _),h8]at he
   have el:=Q8 u1 hun hg he
   refine⟨_,rfl,_,rfl,aw,λq hq=>k q _ (ai.upd hq) hq ?_⟩
   rw[ah,el]
end
section
variable{P:bo}{w:df}{K:PySem.W.Frag}{mg:bv->Option a9}{base:dC}
theorem rT {br iz fB fu cM je gx i8 eO jc:a6}{eV gv eN eG cg ie fj g7 dB gQ:db}{p:Pm}(T:Txt K mg p base)(dF:Dm K "__init__" "Prices.__init__" bU PU br eV)(ee:Dn K mg "check_signs" lC ["signs"] iz gv)(yK:aI P w K mg base cB 3 iz gv ["signs"] sC)(cV:Dn K mg "check_lengths" jr Rz fB eN)(vJ:aI P w K mg base cB 1 fB eN Rz (pW K))(cT:Dn K mg "lowest_prices" jo ["row"] fu eG)(vH:aI P w K mg base cB 4 fu eG ["row"] (uI K))(bf:Dn K mg "lowest_price" iJ Jp cM cg)(kc:aI P w K mg base cB 3 cM cg Jp (rN K))(fS:Dn K mg "all_unders" mE RA je ie)(Bp:aI P w K mg base cB 1 je ie RA (BO K))(dh:Dn K mg "unit_factors" jY ["unders"] gx fj)(xY:aI P w K mg base cB 2 gx fj ["unders"] (yU K))(fO:Dn K mg "product_of" mj ["factors"] i8 g7)(Bk:aI P w K mg base cB 1 i8 g7 ["factors"] (Ih K))(cE:Dn K mg "costs_by_signs" iS Ry eO dB)(uE:aI P w K mg base cB 2 eO dB Ry (Fo K))(cR:Dn K mg "by_unit" oJ Oz jc gQ)(qW:aI P w K mg base cB 1 jc gQ Oz (wz K)):aI P w K mg base cB 5 br eV PU (Il K p.au):=by
 refine dF.fn.ok rO (λvs H Q E h=>?_) (λcdv A outer s H vs Q E hr h=>?_)
 ·obtain⟨x,dx,o,m,sg,c,rows,fo,fm,rfl,_⟩:=h
  rfl
 ·obtain⟨x,dx,o,m,sg,c,rows,fo,fm,rfl,hx,hS,h12,hM,Tv,hok,hfo,IM,hfm,IP,k⟩:=h
  have S:=hS
  obtain⟨q1,q2,q3,q4⟩:=S
  refine⟨_,(aj (e7 (ae yK hr ee (aa (pv 1) af)))
   (aj (e7 (ae vJ hr cV (aa (pv 1) (aa (pv 2) af))))
   (aj (lT (pv 0) (pv 1) rfl)
   (aj (lT (pv 0) (oM (rF) rfl T.qA oU (aa (nM (N:=["row"]) rfl (λ_=>⟨[],cQ.plain (by decide +kernel) rfl (by decide +kernel) (by decide +kernel)⟩) (B6 (pv 2)) (λ_ _ _ _ _ _ _=>(aL (i:=0) (show(["row"]:List bv).Nodup by decide +kernel) rfl (Or.inl rfl))) (λ_ _ _ _ _ _ _=>(ae vH hr cT (aa (pv 0) af)))) af)) rfl)
   (aj (lT (pv 0) (ae kc hr bf (aa (pv 3) af)) rfl)
   (aj (lT (pv 0) (ae kc hr bf (aa (pv 4) af)) rfl)
   (aj (lT (pv 0) (ae xY hr dh (aa (ae Bp hr fS (aa (cX (pv 0) rfl) (aa (cX (pv 0) rfl) (aa (cX (pv 0) rfl) af)))) af)) rfl)
   (aj (lT (pv 0) (ae Bk hr fO (aa (cX (pv 0) rfl) af)) rfl)
   (aj (lT (pv 0) (ae uE hr cE (aa (cX (pv 0) rfl) (aa (cX (pv 0) rfl) (aa (cX (pv 0) rfl) af)))) rfl)
   (aj (lT (pv 0) (ae qW hr cR (aa (cX (pv 0) rfl) (aa (cX (pv 0) rfl) af))) rfl)
   (ao (lT (pv 0) (ae qW hr cR (aa (cX (pv 0) rfl) (aa (cX (pv 0) rfl) af))) rfl)))))))))))),?_⟩
  refine⟨_,rfl,sg,rfl,hS,λH1 s1=>?_⟩
  refine⟨_,rfl,_,rfl,sg,c,rows,rfl,hM.dat (Dat.of s1),by omega,Tv,?_⟩
  have Tu:H1 x=some (.ins p.au dx []):=s1 _ _ hx
  refine⟨_,rfl,_,rfl,x,_,dx,_,rfl,Tu,T.bq,T.iL,by decide,?_⟩
  generalize TU:upd H1 x (.ins p.au dx (aC "signs" (.str sg) []))=H2
  have hx2:H2 x=some (.ins p.au dx (aC "signs" (.str sg) [])):=by rw[←TU];exact ah
  have f2:Off x H H2:=by rw[←TU];exact(Off.of s1).trans Off.set
  obtain⟨nc,cs,Yr,hcs,hp⟩:=hM.dat (f2.dat hx)
  refine⟨_,rfl,c,_,rfl,hcs,λl HF=>?_⟩
  refine⟨λi n ys H3=>n=rows.length-i/\i<=rows.length/\ai H2 H3/\H3 l=some (.lst ys)/\∃qs:List a6,ys=qs.map V.ref/\qs.length=i/\Paired (λq r=>j9 K H3 (.tup q) r) qs ((yr rows).take i),⟨rows.length,rfl,em _,ai.upd HF,ah,[],rfl,rfl,.nil⟩,?_⟩
  rintro i n ys H3 ⟨rfl,hi,s3,hl3,qs,rfl,hq,hP⟩
  have zc:c.at K H3 (cs.map Cp.val):=ai.cp s3 hcs
  have hcl:=Paired.len hp
  by_cases hlt:i<rows.length
  ·have YZ:i<cs.length:=by omega
   have e1:(cs.map Cp.val)[i]? =some cs[i].val:=by rw[cx,a7 YZ];rfl
   refine .inr ⟨⟨_,_,zc,e1⟩,?_⟩
   rintro y H4 ⟨rfl,hy⟩
   have ey:=hy _ zc
   rw[e1]at ey
   cases ey
   obtain⟨r,er,hr2⟩:=Paired.at hp (a7 YZ)
   have hrm:=cb er
   refine⟨Kp.rep _ _,?_⟩
   refine⟨_,rfl,cs[i],r,rfl,hr2.same s3,λf hf=>(hok r hrm f hf).1,by rw[Tv.2 r hrm];omega,λq H5 s5 hqn hR=>?_⟩
   have P1:H5 l=some (.lst (qs.map V.ref)):=s5 _ _ hl3
   refine⟨P1,?_,rows.length-(i+1),by omega,rfl,hlt,ai.at (s3.trans s5) HF,ah,qs++[q],by rw[du];rfl,by rw[ce,hq];rfl,?_⟩
   ·rw[a_,hq]
    have:i<100:=by rw[Tv.1]at hlt;omega
    exact cq this (by decide)
   ·rw[show(yr rows).take (i+1)=(yr rows).take i++[r.map ki] from rz er]
    refine GP.Paired.snoc (Paired.gO hP λa b z=>?_) ?_
    ·exact(z.same s5).off P1
    ·exact hR.off P1
  ·have ei:i=rows.length:=by omega
   subst ei
   refine .inl ⟨⟨_,zc,by rw[a_];omega⟩,?_⟩
   refine⟨l,_,rfl,.inl ⟨cA.of hl3,λPp Y8=>?_⟩⟩
   generalize Zf:upd H3 Pp (.tup (qs.map V.ref))=H4
   have s4:ai H2 H4:=by rw[←Zf];exact s3.trans (ai.upd Y8)
   have m4:AU K H4 Pp (yr rows):=by
    rw[←Zf]
    refine⟨qs,dD.of ah,?_⟩
    rw[fi (by unfold yr;rw[a_];exact ba _)]at hP
    exact Paired.gO hP λa b z=>z.same (ai.upd Y8)
   have RP:=s4 _ _ hx2
   refine⟨_,rfl,x,_,dx,_,rfl,RP,T.bq,T.m5,Yh,?_⟩
   generalize Xr:upd H4 x (.ins p.au dx (aC "pairs" (.ref Pp) (aC "signs" (.str sg) [])))=H5
   have WC:H5 x=some (.ins p.au dx (aC "pairs" (.ref Pp) (aC "signs" (.str sg) []))):=by rw[←Xr];exact ah
   have f5:Off x H H5:=by rw[←Xr];exact(f2.trans (Off.of s4)).trans Off.set
   have d5:Dat H4 H5:=by rw[←Xr];exact Dat.set RP
   refine⟨_,rfl,o,fo,rfl,hfo.dat (f5.dat hx),IM.1,λo' ho'=>?_⟩
   generalize Ze:upd H5 o' (.tup [.int (ki fo).1,.int (ki fo).2])=H6
   have s6:ai H5 H6:=by rw[←Ze];exact ai.upd ho'
   have ho6:kh K H6 o' (ki fo):=by rw[←Ze];exact dD.of ah
   have ME:=s6 _ _ WC
   refine⟨_,rfl,x,_,dx,_,rfl,ME,T.bq,T.kG,ZV,?_⟩
   generalize Xq:upd H6 x (.ins p.au dx (aC "opening" (.ref o') (aC "pairs" (.ref Pp) (aC "signs" (.str sg) []))))=H7
   have hx7:H7 x=some (.ins p.au dx (aC "opening" (.ref o') (aC "pairs" (.ref Pp) (aC "signs" (.str sg) [])))):=by rw[←Xq];exact ah
   have f7:Off x H H7:=by rw[←Xq];exact(f5.trans (Off.of s6)).trans Off.set
   have d7:Dat H6 H7:=by rw[←Xq];exact Dat.set ME
   refine⟨_,rfl,m,fm,rfl,hfm.dat (f7.dat hx),IP.1,λm' hm'=>?_⟩
   generalize Zd:upd H7 m' (.tup [.int (ki fm).1,.int (ki fm).2])=H8
   have s8:ai H7 H8:=by rw[←Zd];exact ai.upd hm'
   have hm8:kh K H8 m' (ki fm):=by rw[←Zd];exact dD.of ah
   have YD:=s8 _ _ hx7
   refine⟨_,rfl,x,_,dx,_,rfl,YD,T.bq,T.n8,ZU,?_⟩
   generalize Xp:upd H8 x (.ins p.au dx (aC "more" (.ref m') (aC "opening" (.ref o') (aC "pairs" (.ref Pp) (aC "signs" (.str sg) [])))))=H9
   have RO:H9 x=some (.ins p.au dx (aC "more" (.ref m') (aC "opening" (.ref o') (aC "pairs" (.ref Pp) (aC "signs" (.str sg) []))))):=by rw[←Xp];exact ah
   have f9:Off x H H9:=by rw[←Xp];exact(f7.trans (Off.of s8)).trans Off.set
   have d9:Dat H8 H9:=by rw[←Xp];exact Dat.set YD
   have Zo:Dat H6 H9:=d7.trans ((Dat.of s8).trans d9)
   have e49:Dat H4 H9:=d5.trans ((Dat.of s6).trans Zo)
   have M9:AU K H9 Pp (yr rows):=m4.dat e49
   have O9:kh K H9 o' (ki fo):=ho6.dat Zo
   have m9:kh K H9 m' (ki fm):=hm8.dat d9
   have QY:∀r∈yr rows,∀f∈r,De f:=Av λr hr f hf=>qi (hok r hr f hf).1
   have NZ:=Lp Tv
   refine⟨_,rfl,x,_,_,_,_,rfl,RO,T.bq,T.m5,I8,_,rfl,x,_,_,_,_,rfl,RO,T.bq,T.kG,Eo,_,rfl,x,_,_,_,_,rfl,RO,T.bq,T.n8,Lk,?_⟩
   refine⟨Pp,o',m',yr rows,ki fo,ki fm,rfl,M9.Z8,O9,m9,by rw[NZ.1];exact h12,λr hr=>by rw[NZ.2 r hr];exact h12,λl1 Ha sa hl1 hla=>?_⟩
   have Yi:∀n∈lH (ki fo) (ki fm) (yr rows),oq n:=λn hn=>by
    have z:∀{f:cG},De f->oq f.2:=λq=>⟨by have:=q.1;omega,q.2⟩
    rcases cm.mp hn with e|hn
    ·rw[e];exact z (qi IM.1)
    rcases cm.mp hn with e|hn
    ·rw[e];exact z (qi IP.1)
    obtain⟨f,hf,rfl⟩:=eI.mp hn
    obtain⟨r,hr,hfr⟩:=List.mem_flatten.mp hf
    exact z (QY r hr f hfr)
   have Wm:(lH (ki fo) (ki fm) (yr rows)).length<=1000:=by
    unfold lH
    rw[d_,d_,a_,xJ NZ.2,NZ.1]
    have:sg.cps.size*sg.cps.size<=12*12:=q5 h12 h12
    omega
   refine⟨l1,_,rfl,cA.of hla,Wm,Yi,λfl Hb sb hfl hlb=>?_⟩
   have FI:=LU Yi
   have eU:q8 (oQ (lH (ki fo) (ki fm) (yr rows))).1=cF (ki fo).2 (ki fm).2 (yr rows):=by rw[FI.prod,FI.unit,BB]
   have hsm:=FI.small
   generalize (oQ (lH (ki fo) (ki fm) (yr rows))).1=TV at hlb eU hsm
   clear FI
   have hxb:=sb _ _ (sa _ _ RO)
   refine⟨_,rfl,x,_,dx,_,rfl,hxb,T.bq,T.kH,ZT,?_⟩
   generalize TR:upd Hb x (.ins p.au dx (aC "factors" (.ref fl) (aC "more" (.ref m') (aC "opening" (.ref o') (aC "pairs" (.ref Pp) (aC "signs" (.str sg) []))))))=Hc
   have hxc:Hc x=some (.ins p.au dx (aC "factors" (.ref fl) (aC "more" (.ref m') (aC "opening" (.ref o') (aC "pairs" (.ref Pp) (aC "signs" (.str sg) [])))))):=by rw[←TR];exact ah
   have fc:Off x H Hc:=by rw[←TR];exact((f9.trans (Off.of sa)).trans (Off.of sb)).trans Off.set
   have dc:Dat H9 Hc:=by rw[←TR];exact((Dat.of sa).trans (Dat.of sb)).trans (Dat.set hxb)
   have R8:Hc fl=some (.lst (TV.map V.int)):=by rw[←TR];exact Dat.set hxb fl _ (λ_ _ _ z=>by cases z) hlb
   refine⟨_,rfl,x,_,_,_,_,rfl,hxc,T.bq,T.kH,Ep,fl,TV,rfl,cA.of R8,hsm,?_⟩
   have up:=HS (qi IM.1) (qi IP.1) QY
   have ub:=HU h12 NZ (qi IM.1) (qi IP.1) QY
   have PL:∀{f:cG},SJ f->SK (cF (ki fo).2 (ki fm).2 (yr rows)) (ki f):=λz=>⟨qi z.1,Lq z.2,Bu.div ub _⟩
   rw[eU]
   generalize hu:cF (ki fo).2 (ki fm).2 (yr rows)=u at *
   refine⟨_,rfl,x,_,dx,_,rfl,hxc,T.bq,T.lF,ZS,?_⟩
   generalize OZ:upd Hc x (.ins p.au dx (aC "unit" (.int u) (aC "factors" (.ref fl) (aC "more" (.ref m') (aC "opening" (.ref o') (aC "pairs" (.ref Pp) (aC "signs" (.str sg) [])))))))=Kl
   have LI:Kl x=some (.ins p.au dx (aC "unit" (.int u) (aC "factors" (.ref fl) (aC "more" (.ref m') (aC "opening" (.ref o') (aC "pairs" (.ref Pp) (aC "signs" (.str sg) []))))))):=by rw[←OZ];exact ah
   have f10:Off x H Kl:=by rw[←OZ];exact fc.trans Off.set
   have Su:Dat Hc Kl:=by rw[←OZ];exact Dat.set hxc
   have Qf:Dat H9 Kl:=dc.trans Su
   have R9:Kl fl=some (.lst (TV.map V.int)):=Su fl _ (λ_ _ _ z=>by cases z) R8
   refine⟨_,rfl,x,_,_,_,_,rfl,LI,T.bq,T.iL,I0,_,rfl,x,_,_,_,_,rfl,LI,T.bq,T.m5,GB,_,rfl,x,_,_,_,_,rfl,LI,T.bq,T.lF,Lj,?_⟩
   refine⟨sg,Pp,u,yr rows,rfl,M9.dat Qf,q2,q4,NZ,Av λr hr f hf=>PL (hok r hr f hf),λd H11 kvs Ks hdn Xg hc=>?_⟩
   have OI:=Ks _ _ LI
   refine⟨_,rfl,x,_,dx,_,rfl,OI,T.bq,T.qf,ZR,?_⟩
   generalize LP:upd H11 x (.ins p.au dx (aC "costs" (.ref d) (aC "unit" (.int u) (aC "factors" (.ref fl) (aC "more" (.ref m') (aC "opening" (.ref o') (aC "pairs" (.ref Pp) (aC "signs" (.str sg) []))))))))=L8
   have LH:L8 x=some (.ins p.au dx (jl sg Pp o' m' u (d,fl))):=by rw[←LP];exact ah
   have XH:Dat Kl L8:=by rw[←LP];exact(Dat.of Ks).trans (Dat.set OI)
   have f12:Off x H L8:=by rw[←LP];exact(f10.trans (Off.of Ks)).trans Off.set
   have Xf:L8 d=some (.dT kvs):=by rw[←LP];exact Dat.set OI d _ (λ_ _ _ z=>by cases z) Xg
   obtain⟨w1,w2,w3⟩:=PL IM
   obtain⟨y1,y2,y3⟩:=PL IP
   refine⟨_,rfl,x,_,_,_,_,rfl,LH,T.bq,T.kG,yx,_,rfl,x,_,_,_,_,rfl,LH,T.bq,T.lF,xH,o',ki fo,u,rfl,(O9.dat Qf).dat XH,w1,w2.bg,w3.bg,?_⟩
   refine⟨_,rfl,x,_,dx,_,rfl,LH,T.bq,T.j5,ZQ,?_⟩
   generalize OY:upd L8 x (.ins p.au dx (aC "opening_units" (.int ((ki fo).1*(u / (ki fo).2))) (jl sg Pp o' m' u (d,fl))))=SY
   have Jx:SY x=some (.ins p.au dx (aC "opening_units" (.int ((ki fo).1*(u / (ki fo).2))) (jl sg Pp o' m' u (d,fl)))):=by rw[←OY];exact ah
   have XG:Dat L8 SY:=by rw[←OY];exact Dat.set LH
   have f13:Off x H SY:=by rw[←OY];exact f12.trans Off.set
   refine⟨_,rfl,x,_,_,_,_,rfl,Jx,T.bq,T.n8,(rE (by decide +kernel)).trans EF,_,rfl,x,_,_,_,_,rfl,Jx,T.bq,T.lF,(rE (by decide +kernel)).trans xH,m',ki fm,u,rfl,((m9.dat Qf).dat XH).dat XG,y1,y2.bg,y3.bg,?_⟩
   refine⟨_,rfl,x,_,dx,_,rfl,Jx,T.bq,T.lV,ZP,?_⟩
   have TZ:Dat Kl (upd SY x (.ins p.au dx (vB sg Pp o' m' u (d,fl) ((ki fo).1*(u / (ki fo).2)) ((ki fm).1*(u / (ki fm).2))))):=XH.trans (XG.trans (Dat.set Jx))
   have f14:Off x H (upd SY x (.ins p.au dx (vB sg Pp o' m' u (d,fl) ((ki fo).1*(u / (ki fo).2)) ((ki fm).1*(u / (ki fm).2))))):=f13.trans Off.set
   refine k _ ⟨hS,NZ,?_,?_,?_,?_,?_,dx,Pp,o',m',(d,fl),kvs,?_,(M9.dat Qf).dat TZ,(O9.dat Qf).dat TZ,(m9.dat Qf).dat TZ,?_,?_,TV,hsm,?_,?_⟩ f14 (λc0 hc0 C' dx' fs' hx' hl'=>?_)
   ·rw[hu];exact Av λr hr f hf=>PL (hok r hr f hf)
   ·rw[hu];exact PL IM
   ·rw[hu];exact PL IP
   ·rw[hu];exact up
   ·rw[hu];exact ub
   ·rw[hu];exact ah
   ·exact(XG.trans (Dat.set Jx)) d _ (λ_ _ _ z=>by cases z) Xf
   ·rw[hu];exact hc
   ·rw[hu];exact eU
   ·exact TZ fl _ (λ_ _ _ z=>by cases z) R9
   ·rw[ah]at hx'
    cases hx'
    have e:fl=c0:=V.ref.inj (dn ((pD (x:=sg) (P:=Pp) (o:=o') (m:=m') (u:=u) (d:=(d,fl))).symm.trans hl'))
    subst e
    cases q:H fl with
    |none=>exact hc0 q
    |some u0 =>
     by_cases ex:fl=x
     ·rw[ex,sa _ _ RO]at hfl
      cases hfl
     ·rw[(f9.trans (Off.of sa)) fl u0 q ex]at hfl
      cases hfl
end
section
variable{P:bo}{w:df}{K:PySem.W.Frag}{mg:bv->Option a9}{base:dC}
end
section
variable{P:bo}{w:df}{K:PySem.W.Frag}{mg:bv->Option a9}{base:dC}
end
section
variable{P:bo}{w:df}{K:PySem.W.Frag}{mg:bv->Option a9}{base:dC}
end
section
variable{P:bo}{w:df}{K:PySem.W.Frag}{mg:bv->Option a9}{base:dC}
theorem rU {aY:a6}{eY:db}{p:Pm}(T:Txt K mg p base)(dG:Dm K "__init__" "NoSign.__init__" bV PR aY eY)  :aI P w K mg base (vR P w) 1 aY eY PR (BR p.aS):=by
 refine dG.fn.Od rP (λvs H Q E h=>?_) (λcdv A outer s H vs Q E hr h=>?_)
 ·obtain⟨e,i,j,rfl,_⟩:=h
  rfl
 ·obtain⟨e,i,j,rfl,he,hi,hj,k⟩:=h
  obtain⟨fI,xc⟩:=T.Ge
  refine⟨_,(aj (e7 (Le T.x9 rfl T.yq (aa (pv 0) (aa (FD (qL bA (qL (IG (pv 1)) (qL bA (qL (IG (pv 2)) IC))))) af))))
   (aj (Fw (pv 0) (pv 1) rfl)
   (ao (Fw (pv 0) (pv 2) rfl)))),?_⟩
  have li:=zh hi
  have lj:=zh hj
  have ti:=PyProof.Rows.int_text_len_1921 li
  have tj:=PyProof.Rows.int_text_len_1921 lj
  have l0:(wn++bd "no sign that may stand there: row ").length<=50:=by decide
  have l1:=AF l0 ti
  have l2:=AF l1 (show(bd ", place ").length<=20 by decide)
  have l3:=AF l2 tj
  refine⟨_,rfl,_,rfl,bn l0 (by decide),_,rfl,_,rfl,li,_,rfl,bn l1 (by decide),_,rfl,bn l2 (by decide),_,rfl,_,rfl,lj,_,rfl,bn l3 (by decide),bn l3 (by decide),?_⟩
  refine⟨e,p.aS,fI,none,_,rfl,he,xc,?_⟩
  refine⟨_,rfl,_,rfl,e,p.aS,rfl,T.yO,T.As,.inl ⟨he,λdx hdx=>?_⟩⟩
  have ne:dx≠e:=λz=>by rw[z,he]at hdx;cases hdx
  refine⟨_,rfl,_,rfl,e,p.aS,rfl,T.yO,T.wX,.inr ⟨dx,_,by rw[aq (Ne.symm ne),ah],ah,Yh,?_⟩⟩
  refine k dx _ (λb u hb LO=>?_) hdx (by rw[aq (Ne.symm ne),aq (Ne.symm ne),ah]) ah
  have nb:b≠dx:=λz=>by rw[z,hdx]at hb;cases hb
  rw[aq nb,aq nb,aq LO,aq nb]
  exact hb
theorem um {iA aY:a6}{gw eY:db}{p:Pm}(T:Txt K mg p base)(eE:Dn K mg "check_known" lD Rx iA gw)(dG:Dm K "__init__" "NoSign.__init__" bV PR aY eY)(xW:XQ K p.aS aY)(tP:aI P w K mg base (vR P w) 1 aY eY PR (BR p.aS)):aI P w K mg base (vR P w) 3 iA gw Rx (BU p.aS):=by
 refine eE.fn.Od iH (λvs H Q E h=>?_) (λcdv A outer s H vs Q E hr h=>?_)
 ·obtain⟨sg,l,a,b,rfl,_⟩:=h
  rfl
 ·obtain⟨sg,l,a,b,rfl,hl,la,lb,kq,k⟩:=h
  refine⟨_,(ao (dH sJ rfl (Fy rfl T.uF (aa (pv 1) af)) (o8 (n:=2) rfl (bP (al 2 iH.nd) (bP (al 3 iH.nd) lE))) (ao (dH sJ rfl (Fy rfl T.uF (aa (pv 3) af)) (o8 (n:=2) rfl (bP (al 4 iH.nd) (bP (al 5 iH.nd) lE))) (ao (bM (aK Af (pv 5) (pv 0) (by with_unfolding_all rfl)) (ao (Gr pA xW tP (hr.mono (by decide)) dG.b rfl rfl T.GD (aa (pv 2) (aa (pv 4) af)))) aT)))))),?_⟩
  refine⟨_,rfl,.lst l,_,rfl,cA.of hl,CF (K:=K) (c:=.lst l) (xs:=[.str a,.str b]) (λi σ H2=>∃v2 v3 v4 v5,σ=[some (.str sg),some (.ref l),v2,v3,v4,v5]/\ai H H2/\(0<i->Of sg a)/\(1<i->Of sg b)) ⟨_,_,_,_,rfl,ai.refl _,λz=>absurd z (g_ _),λz=>absurd z (Nat.not_lt_zero _)⟩ (λi σ H2 _ ⟨_,_,_,_,_,s2,_⟩=>cA.of (s2 _ _ hl)) ?_ ?_⟩
  ·rintro i y p1 σ H2 hy hp1 ⟨v2,v3,v4,v5,rfl,s2,oa,ob⟩
   obtain⟨z,rfl,hz,hi,hgo,hbad⟩:∃z:bv,y= .str z/\z.cps.size<=1000/\i<=1/\(Of sg z->(0<i+1->Of sg a)/\(1<i+1->Of sg b))/\(∀j,(∃c,z.cps[j]? =some c/\c∉sg.cps.toList)->(∀k c,k<j->z.cps[k]? =some c->c∈sg.cps.toList)->Dr sg a b i j):=by
    match i,hy,oa with
    | 0,hy,oa=>exact⟨a,(dn hy).symm,la,em _,λq=>⟨λ_=>q,λz=>absurd z (g_ _)⟩,λj h1 h2=>.inl ⟨rfl,h1,h2⟩⟩
    | 1,hy,oa=>exact⟨b,(dn hy).symm,lb,ba _,λq=>⟨λ_=>oa (Nat.zero_lt_succ _),λ_=>q⟩,λj h1 h2=>.inr ⟨rfl,oa (Nat.zero_lt_succ _),h1,h2⟩⟩
    |i+2,hy,oa=>simp at hy
   refine⟨p1,_,rfl,dD.of ah,rfl,_,_,rfl,_,_,rfl,rfl,?_⟩
   refine⟨_,rfl,.txt z,_,rfl,rfl,CF (K:=K) (c:=.txt z) (xs:=ff z) (λj σ H3=>∃v4 v5,σ=[some (.str sg),some (.ref l),some (.int (i:Int)),some (.str z),v4,v5]/\ai H H3/\∀k c,k<j->z.cps[k]? =some c->c∈sg.cps.toList) ⟨_,_,rfl,s2.trans (ai.upd hp1),λk c z=>absurd z (Nat.not_lt_zero _)⟩ (λj σ H3 _ _=>rfl) ?_ ?_⟩
   ·rintro j y p2 σ H3 hy hp2 ⟨v4,v5,rfl,s3,hp⟩
    obtain⟨c,hc,rfl⟩:=signs_get hy
    have hj:=Pb hc
    have s4:=s3.trans (ai.upd (o:=.tup [.int (j:Int),.str ⟨#[c]⟩]) hp2)
    refine⟨p2,_,rfl,dD.of ah,rfl,_,_,rfl,_,_,rfl,rfl,?_⟩
    refine⟨_,rfl,_,rfl,_,_,rfl,rfl,_,rfl,?_⟩
    rw[StrLaws.found_one]
    by_cases hm:c∈sg.cps.toList
    ·rw[decide_eq_true hm]
     refine Cv ⟨_,_,rfl,s4,λk d hk hd=>?_⟩
     by_cases z:k=j
     ·subst z
      rw[hc]at hd
      cases hd
      exact hm
     ·exact hp k d (by omega) hd
    ·rw[decide_eq_false hm]
     refine Jt ⟨_,rfl,_,rfl,aw,λe hn=>?_⟩
     have hne:H e=none:=ai.free s4 hn
     refine⟨e,i,j,rfl,ah,by omega,by omega,λdx H' hk hdx hx hd=>⟨rfl,some dx,hx,k i j (hbad j ⟨c,hc,hm⟩ hp) dx _ (λb u hb=>?_) ?_⟩⟩
     ·have nb:b≠e:=λz=>by rw[z,hne]at hb;cases hb
      rw[ql nb]
      exact hk b u (by rw[aq nb];exact s4 b u hb) nb
     ·have ne:dx≠e:=λz=>by rw[z,ah]at hdx;cases hdx
      rw[ql ne]
      exact hd
   ·rintro σ H3 ⟨v4,v5,rfl,s3,hp⟩
    have oz:Of sg z:=λc hc=>by
     obtain⟨k,hk,e⟩:=ll hc
     have hk':k<z.cps.size:=by simpa using hk
     exact hp k c (by rw[signs_length];exact hk') (by rw[←ft,a7 hk,e])
    exact⟨_,_,_,_,rfl,s3,(hgo oz).1,(hgo oz).2⟩
  ·rintro σ H2 ⟨v2,v3,v4,v5,rfl,s2,oa,ob⟩
   exact kq (oa (show 0<2 by decide)) (ob (show 1<2 by decide)) H2 s2
theorem vm {jb iA:a6}{ia gw:db}{p:Pm}(T:Txt K mg p base)(fR:Dn K mg "check_rows" mz Rw jb ia)(eE:Dn K mg "check_known" lD Rx iA gw)(yL:aI P w K mg base (vR P w) 3 iA gw Rx (BU p.aS)):aI P w K mg base (vR P w) 4 jb ia Rw (Fd K p.au p.aS):=by
 refine fR.fn.Od yd (λvs H Q E h=>?_) (λcdv A outer s H vs Q E hr h=>?_)
 ·obtain⟨x,l,sg,rows,fo,fm,a,b,rfl,_⟩:=h
  rfl
 ·obtain⟨x,l,sg,rows,fo,fm,a,b,rfl,⟨_,_,_,_,_,_,_,dx,Pp,o,m,d,kvs,h1,h2,h3,h4,h5,h6⟩,hl,la,lb,kq,k⟩:=h
  refine⟨_,(ao (e7 (az yL (hr.mono (by decide)) rfl eE.m eE.fn.kp eE.b .nil (Lets.passes pA) (aa (cX (pv 0) rfl) (aa (pv 1) af))))),?_⟩
  exact⟨_,rfl,x,_,_,_,_,rfl,h1,T.bq,T.iL,rZ,_,rfl,sg,l,a,b,rfl,hl,la,lb,kq,k⟩
theorem yl {jd fM cL:a6}{ic dR b9:db}{p:Pm}(T:Txt K mg p base)(cP:Dn K mg "alone_cost" mD Rv jd ic)(bx:Dn K mg "more_cost" lM l7 fM dR)(lQ:aI P w K mg base cB 2 fM dR l7 (DO K p.au))(bE:Dn K mg "opening_cost" iI l7 cL b9)(m8:aI P w K mg base cB 2 cL b9 l7 (tZ K p.au)):aI P w K mg base cB 3 jd ic Rv (Fq K p.au):=by
 refine cP.fn.ok ye (λvs H Q E h=>?_) (λcdv A outer s H vs Q E hr h=>?_)
 ·obtain⟨x,sg,rows,fo,fm,a,b,rfl,_⟩:=h
  rfl
 ·obtain⟨x,sg,rows,fo,fm,a,b,rfl,hP,k⟩:=h
  refine⟨_,(aj (bM (aK bW (pv 1) (pv 2) (aG _)) (ao (aM (ae lQ hr bx (aa (pv 0) af)))) aT)
   (ao (aM (aF bT (ae m8 hr bE (aa (pv 0) af)) (ae lQ hr bx (aa (pv 0) af)))))),?_⟩
  refine⟨_,rfl,_,rfl,rfl,_,rfl,?_⟩
  by_cases e:a=b
  ·rw[if_pos e]at k
   rw[decide_eq_true (show V.str a=V.str b by rw[e])]
   refine pO ?_
   exact⟨_,rfl,x,sg,rows,fo,fm,rfl,hP,k⟩
  ·rw[if_neg e]at k
   rw[decide_eq_false (show ¬V.str a=V.str b from λz=>e (V.str.inj z))]
   refine gP ?_
   exact⟨_,rfl,x,sg,rows,fo,fm,rfl,hP,_,rfl,x,sg,rows,fo,fm,rfl,hP,_,_,rfl,rfl,k⟩
theorem Ai {jH:a6}{iV:db}{p:Pm}(T:Txt K mg p base)(gF:Dn K mg "may_begin" nE Ru jH iV)  :aI P w K mg base cB 1 jH iV Ru (Ik K):=by
 refine gF.fn.ok z0 (λvs H Q E h=>?_) (λcdv A outer s H vs Q E hr h=>?_)
 ·obtain⟨m,a,q,rfl,_⟩:=h
  rfl
 ·obtain⟨m,a,q,rfl,hq,k⟩:=h
  refine⟨_,(aj (bM (aK bW (pv 0) bA (aG _)) (ao (aM (kF (b8 bW (bw b7 (pv 1) ak (λ_ _=>rfl)) ak (aG _)) (kC (b8 bW (bw b7 (pv 1) ak (λ_ _=>rfl)) ak (aG _)))))) aT)
   (aj (bM (aK bW (pv 0) bA (aG _)) (ao (aM (b8 bW (bw b7 (pv 1) ak (λ_ _=>rfl)) ak (aG _)))) aT)
   (aj (bM (aK bW (pv 0) bA (aG _)) (ao (aM (b8 bW (bw b7 (pv 1) ak (λ_ _=>rfl)) ak (aG _)))) aT)
   (ao (aM IJ))))),?_⟩
  unfold vo at k
  refine⟨_,rfl,rfl,_,rfl,?_⟩
  refine ite_str (λh1=>?_) λh1=>?_
  ·rw[if_pos h1]at k
   refine⟨_,rfl,_,_,_,_,rfl,rfl,hq,rfl,rfl,_,rfl,?_⟩
   refine oi (λz=>?_) λz=>?_
   ·refine⟨_,rfl,_,_,_,_,rfl,rfl,hq,rfl,rfl,?_⟩
    rw[decide_eq_true z,sK]at k
    rw[qm]
    exact k
   ·rw[decide_eq_false z,mf]at k
    exact k
  rw[if_neg h1]at k
  refine⟨_,rfl,rfl,_,rfl,?_⟩
  refine ite_str (λh2=>?_) λh2=>?_
  ·rw[if_pos h2]at k
   refine⟨_,rfl,_,_,_,_,rfl,rfl,hq,rfl,rfl,?_⟩
   rw[qm]
   exact k
  rw[if_neg h2]at k
  refine⟨_,rfl,rfl,_,rfl,?_⟩
  refine ite_str (λh3=>?_) λh3=>?_
  ·rw[if_pos h3]at k
   refine⟨_,rfl,_,_,_,_,rfl,rfl,hq,rfl,rfl,?_⟩
   rw[qm]
   exact k
  rw[if_neg h3]at k
  exact k
theorem D8 {mO:a6}{kK:db}{p:Pm}(T:Txt K mg p base)(jO:Dn K mg "may_end" qB Rt mO kK)  :aI P w K mg base cB 1 mO kK Rt (Ij K):=by
 refine jO.fn.ok DS (λvs H Q E h=>?_) (λcdv A outer s H vs Q E hr h=>?_)
 ·obtain⟨m,f,s,a,q,rfl,_⟩:=h
  rfl
 ·obtain⟨m,f,s,a,q,rfl,hq,hf,hs,k⟩:=h
  have zf:f.length<=b_:=bn hf (by decide)
  have zs:s.length<=b_:=bn hs (by decide)
  refine⟨_,(aj (bM (aK bW (pv 0) bA (aG _)) (ao (aM (kF (b8 bW (bw b7 (pv 3) ak (λ_ _=>rfl)) (aA (aR) rfl T.cu bB (aa (pv 1) af)) (aG _)) (kC (b8 bW (bw b7 (pv 3) ak (λ_ _=>rfl)) (aA (aR) rfl T.cu bB (aa (pv 2) af)) (aG _)))))) aT)
   (aj (bM (aK bW (pv 0) bA (aG _)) (ao (aM IJ)) aT)
   (ao (aM (b8 bW (bw b7 (pv 3) ak (λ_ _=>rfl)) (aA (aR) rfl T.cu bB (aa (pv 1) af)) (aG _)))))),?_⟩
  unfold Au at k
  refine⟨_,rfl,rfl,_,rfl,?_⟩
  refine ite_str (λh1=>?_) λh1=>?_
  ·rw[if_pos h1]at k
   refine⟨_,rfl,_,_,_,_,rfl,rfl,hq,rfl,_,rfl,_,_,rfl,⟨zf,rfl⟩,rfl,_,rfl,?_⟩
   refine oi (λz=>?_) λz=>?_
   ·refine⟨_,rfl,_,_,_,_,rfl,rfl,hq,rfl,_,rfl,_,_,rfl,⟨zs,rfl⟩,rfl,?_⟩
    rw[decide_eq_true (show q.1=(f.cps.size:Int) from z),sK]at k
    rw[qm]
    exact k
   ·rw[decide_eq_false (show ¬q.1=(f.cps.size:Int) from z),mf]at k
    exact k
  rw[if_neg h1]at k
  refine⟨_,rfl,rfl,_,rfl,?_⟩
  refine ite_str (λh2=>?_) λh2=>?_
  ·rw[if_pos h2]at k
   exact k
  rw[if_neg h2]at k
  refine⟨_,rfl,_,_,_,_,rfl,rfl,hq,rfl,_,rfl,_,_,rfl,⟨zf,rfl⟩,rfl,?_⟩
  rw[qm]
  exact k
end
section
variable{P:bo}{w:df}{K:PySem.W.Frag}{mg:bv->Option a9}{base:dC}
theorem sN {gz:a6}{fq:db}{p:Pm}(T:Txt K mg p base)(dj:Dn K mg "check_manner" j3 ["manner"] gz fq)  :aI P w K mg base (vR P w) 1 gz fq ["manner"] (pV p.bz):=by
 refine dj.fn.Od ve (λvs H Q E h=>?_) (λcdv A outer s H vs Q E hr h=>?_)
 ·obtain⟨m,rfl,_⟩:=h
  rfl
 ·obtain⟨m,rfl,kq,ke⟩:=h
  refine⟨_,(ao (bM (aK sL (pv 0) (sH (v:=.ref p.kY) rfl T.G0 rfl) (by with_unfolding_all rfl)) (ao (IB pA T.Bx rfl rfl T.Cn (aa (FD (qL (Ld (pv 0)) (qL bA IC))) af))) aT)),?_⟩
  refine⟨_,rfl,_,_,rfl,.inr (T.Gq _),rfl,rfl,_,rfl,?_⟩
  show if(if true=true then !LF (.str m) [.str (bd "whole"),.str (bd "within"),.str (bd "over"),.str (bd "stretch")]else _)=true then _ else _
  rw[if_pos rfl]
  cases hm:ko m with
  |true =>
   have e:LF (.str m) [.str (bd "whole"),.str (bd "within"),.str (bd "over"),.str (bd "stretch")]=true:=hm
   rw[e]
   exact Cv (kq hm)
  |false =>
   obtain⟨hl,k⟩:=ke hm
   have e:LF (.str m) [.str (bd "whole"),.str (bd "within"),.str (bd "over"),.str (bd "stretch")]=false:=hm
   rw[e]
   refine Jt ⟨_,rfl,_,rfl,bn hl (by decide),_,rfl,?_,_,rfl,?_,?_,ar,k⟩
   ·exact Kd hl (by decide)
   ·exact zG hl (by decide)
   ·exact zG hl (by decide)
end
section
variable{P:bo}{w:df}{K:PySem.W.Frag}{mg:bv->Option a9}{base:dC}
theorem yo {jf:a6}{ig:db}{p:Pm}(T:Txt K mg p base)(fT:Dn K mg "all_places" mF Rr jf ig)  :aI P w K mg base cB 1 jf ig Rr Mj:=by
 refine fT.fn.ok lu (λvs H Q E h=>?_) (λcdv A outer s H vs Q E hr h=>?_)
 ·obtain⟨f,s,rfl,_⟩:=h
  rfl
 ·obtain⟨f,s,rfl,hf,hs,kk⟩:=h
  have lf:f.length<=b_:=bn hf (by decide)
  have ls:s.length<=b_:=bn hs (by decide)
  have hf':f.length<=12:=hf
  have hs':s.length<=12:=hs
  refine⟨_,(aj (ag 2 lu.nd (kD af))
   (aj (dH dA rfl (gZ rfl T.k6 (aa (aF bT (aA (aR) rfl T.cu bB (aa (pv 0) af)) ak) af)) (al 3 lu.nd) (ao (dH dA rfl (gZ rfl T.k6 (aa (aF bT (aA (aR) rfl T.cu bB (aa (pv 1) af)) ak) af)) (al 4 lu.nd) (ao (e7 (nN PySem.F.plainAttrs_list PySem.F.slot_list_append PySem.F.type_list_append iU (pv 2) (aa (bG (aa (pv 3) (aa (pv 4) af))) af)))))))
   (ao (aM (pv 2))))),?_⟩
  refine⟨am,λl hl=>?_⟩
  refine⟨_,rfl,_,_,rfl,⟨lf,rfl⟩,_,_,rfl,rfl,_,rfl,by omega,by omega,?_⟩
  rw[show((f.length:Int)+1).toNat=f.cps.size+1 from by show((f.cps.size:Int)+1).toNat=_;omega]
  refine kJ (lo:=0) (n:=f.cps.size+1) (λi σ H2=>∃v3 v4,∃ps:List a6,σ=[some (.str f),some (.str s),some (.ref l),v3,v4]/\ai H H2/\H2 l=some (.lst (ps.map V.ref))/\Paired (vQ (Wo l H2)) ps (rws s.cps.size i))
   ⟨_,_,[],rfl,ai.upd hl,ah,.nil⟩ ?_ ?_
  ·rintro i σ H2 hi ⟨v3,v4,ps,rfl,s2,h2,pp⟩
   refine⟨_,rfl,_,_,rfl,⟨ls,rfl⟩,_,_,rfl,rfl,_,rfl,by omega,by omega,?_⟩
   rw[show((s.length:Int)+1).toNat=s.cps.size+1 from by show((s.cps.size:Int)+1).toNat=_;omega]
   refine kJ (lo:=0) (n:=s.cps.size+1) (λj σ H3=>∃v4,∃ps:List a6,σ=[some (.str f),some (.str s),some (.ref l),some (.int (0+(i:Int))),v4]/\ai H H3/\H3 l=some (.lst (ps.map V.ref))/\Paired (vQ (Wo l H3)) ps ((rws s.cps.size i)++(dk j).map λj=>(i,j)))
    ⟨_,ps,rfl,s2,h2,by simpa using pp⟩ ?_ ?_
   ·rintro j σ H3 hj ⟨v4,ps,rfl,s3,h3,pp⟩
    refine⟨_,rfl,.inl ⟨rfl,_,cA.of h3⟩,_,rfl,_,rfl,aw,λp hp=>?_⟩
    have np:p≠l:=λz=>by rw[z,h3]at hp;cases hp
    have hlen:=Paired.len pp
    rw[ce,K6,a_,io]at hlen
    refine⟨l,_,_,rfl,rfl,by rw[aq (Ne.symm np)];exact h3,?_,?_⟩
    ·rw[a_,hlen]
     have:i*(s.cps.size+1)<=f.cps.size*(s.cps.size+1):=Nat.mul_le_mul_right _ (by omega)
     have e:(f.cps.size+1)*(s.cps.size+1)=f.cps.size*(s.cps.size+1)+(s.cps.size+1):=Nat.succ_mul _ _
     exact GJ hf hs (by omega)
    ·refine⟨_,ps++[p],rfl,sE s3 hl hp,by rw[ah,du];rfl,?_⟩
     rw[mn,du,←im]
     refine GP.Paired.snoc (Paired.gO pp λ_ _ z=>z.same (MY hp)) ?_
     show Wo l _ p=some (.tup [.int (i:Int),.int (j:Int)])
     rw[HN np,kl,kl]
   ·rintro σ H3 ⟨v4,ps,rfl,s3,h3,pp⟩
    exact⟨_,_,ps,rfl,s3,h3,by rw[BY];exact pp⟩
  ·rintro σ H2 ⟨v3,v4,ps,rfl,s2,h2,pp⟩
   exact⟨_,rfl,kk l H2 s2 hl (N7 h2 pp)⟩
theorem yg {i7 fL jd:a6}{g6 dQ ic:db}{p:Pm}(T:Txt K mg p base)(fN:Dn K mg "steps_from" mh Rq i7 g6)(cD:Dn K mg "pair_cost" lK Ox fL dQ)(qu:aI P w K mg base cB 1 fL dQ Ox (rM K p.au))(cP:Dn K mg "alone_cost" mD Rv jd ic)(tN:aI P w K mg base cB 3 jd ic Rv (Fq K p.au)):aI P w K mg base cB 4 i7 g6 Rq (Fc K p.au):=by
 refine fN.fn.ok k9 (λvs H Q E h=>?_) (λcdv A outer s H vs Q E hr h=>?_)
 ·obtain⟨x,pl,T1,f,s,i,j,c,rfl,_⟩:=h
  rfl
 ·obtain⟨x,pl,T1,f,s,i,j,c,rfl,hP,of,os,hf,hs,hp,kk⟩:=h
  have lf:f.length<=b_:=bn hf (by decide)
  have ls:s.length<=b_:=bn hs (by decide)
  refine⟨_,(aj (ag 5 k9.nd (bw b7 (pv 3) ak (λ_ _=>rfl)))
   (aj (ag 6 k9.nd (bw b7 (pv 3) ak (λ_ _=>rfl)))
   (aj (ag 7 k9.nd (kD af))
   (bL (bM (PW.pt (rQ (aK lN (pv 5) (aA (aR) rfl T.cu bB (aa (pv 1) af)) (aG _)) (qK (aK lN (pv 6) (aA (aR) rfl T.cu bB (aa (pv 2) af)) (aG _))))) (ao (e7 (nN PySem.F.plainAttrs_list PySem.F.slot_list_append PySem.F.type_list_append iU (pv 7) (aa (bG (aa (bG (aa (bG (aa (aF bT (pv 5) ak) (aa (aF bT (pv 6) ak) af))) (aa bA af))) (aa (ae qu hr cD (aa (pv 0) (aa (bw uu (pv 1) (pv 5) (λ_ _=>rfl)) (aa (bw uu (pv 2) (pv 6) (λ_ _=>rfl)) af)))) af))) af)))) aT)
   (bL (bM (aK lN (pv 5) (aA (aR) rfl T.cu bB (aa (pv 1) af)) (aG _)) (ao (e7 (nN PySem.F.plainAttrs_list PySem.F.slot_list_append PySem.F.type_list_append iU (pv 7) (aa (bG (aa (bG (aa (bG (aa (aF bT (pv 5) ak) (aa (pv 6) af))) (aa bA af))) (aa (ae tN hr cP (aa (pv 0) (aa bA (aa (pv 4) af)))) af))) af)))) aT)
   (bL (bM (aK lN (pv 6) (aA (aR) rfl T.cu bB (aa (pv 2) af)) (aG _)) (ao (e7 (nN PySem.F.plainAttrs_list PySem.F.slot_list_append PySem.F.type_list_append iU (pv 7) (aa (bG (aa (bG (aa (bG (aa (pv 5) (aa (aF bT (pv 6) ak) af))) (aa bA af))) (aa (ae tN hr cP (aa (pv 0) (aa bA (aa (pv 4) af)))) af))) af)))) aT)
   (ao (aM (pv 7))))))))),?_⟩
  refine⟨_,rfl,pl,_,_,_,rfl,rfl,dD.of hp,rfl,?_⟩
  refine⟨_,rfl,pl,_,_,_,rfl,rfl,dD.of hp,rfl,?_⟩
  refine⟨am,λl hl=>?_⟩
  have Xn:∀{H2},ai H H2->nh K p.au H2 x T1.1 T1.2.1 T1.2.2.1 T1.2.2.2:=λe=>nh.same e hP
  refine⟨λσ H'=>∃ps:List a6,σ=[some (.ref x),some (.str f),some (.str s),some (.ref pl),some (.str ⟨#[c]⟩),some (.int (i:Int)),some (.int (j:Int)),some (.ref l)]/\ai H H'/\H' l=some (.lst (ps.map V.ref))/\ps.length<=1 ∧
   Paired (L4 (Wo l H')) ps (if i<f.cps.size/\j<s.cps.size then [((i+1,j+1,112),(ku T1 f f s).pc i j)]else []),?_,?_⟩
  ·refine⟨_,rfl,_,rfl,_,_,rfl,⟨lf,rfl⟩,_,_,rfl,rfl,_,rfl,?_⟩
   refine cI (λh1=>?_) (λh1=>?_)
   ·refine⟨_,rfl,_,rfl,_,_,rfl,⟨ls,rfl⟩,_,_,rfl,rfl,_,rfl,?_⟩
    have uv:i<f.cps.size:=by have z:(i:Int)<(f.cps.size:Int):=h1;omega
    refine cI (λh2=>?_) (λh2=>?_)
    ·have h2':j<s.cps.size:=by have z:(j:Int)<(s.cps.size:Int):=h2;omega
     obtain⟨a,ha⟩:=AH uv
     obtain⟨b,hb⟩:=AH h2'
     obtain⟨i',j',fr,hi',hj',hat,XC⟩:=IK (u:=uT T1) hP.X6 (of a (qU ha)) (os b (qU hb))
     refine⟨_,rfl,.inl ⟨rfl,_,cA.of ah⟩,_,rfl,_,_,rfl,rfl,_,rfl,_,_,rfl,rfl,aw,λp1 hp1=>⟨aw,λq1 hq1=>?_⟩⟩
     have s0:=(ai.upd (o:=.lst []) hl).trans ((ai.upd hp1).trans (ai.upd (o:=.tup [.ref p1,.str (bd "p")]) hq1))
     refine⟨_,rfl,_,rfl,_,rfl,f,_,a,rfl,rfl,lf,gW (j8 ha),_,rfl,_,rfl,s,_,b,rfl,rfl,ls,gW (j8 hb),x,T1.1,T1.2.1,T1.2.2.1,T1.2.2.2,i',j',a,b,fr,rfl,Xn s0,hi',hj',hat,λH5 s5=>⟨aw,λr1 hr1=>?_⟩⟩
     obtain⟨h5,nr,sw,st⟩:=DM (t:=((i+1,j+1,112),(ku T1 f f s).pc i j)) (y:=.lst ([]++[.ref r1])) ah hp1 hq1 s5 hr1 rfl rfl sP (by
      show V.int (fr.1*(uT T1 / fr.2))=V.int (QV T1.1 T1.2.1 (uT T1) (f.cps.toList.getD i 0) (s.cps.toList.getD j 0))
      rw[dv,dv,j8 ha,j8 hb]
      exact congrArg V.int XC.symm)
     refine⟨l,_,_,rfl,rfl,by rw[aq (Ne.symm nr)];exact h5,by show 0<b_;decide,[r1],rfl,sE (s0.trans s5) hl hr1,ah,ba _,?_⟩
     rw[if_pos ⟨uv,h2'⟩]
     exact .cons st .nil
    ·have h2':¬j<s.cps.size:=λz=>h2 (by show(j:Int)<(s.cps.size:Int);omega)
     exact⟨[],rfl,ai.upd hl,ah,em _,by rw[if_neg (λz=>h2' z.2)];exact .nil⟩
   ·have uv:¬i<f.cps.size:=λz=>h1 (by show(i:Int)<(f.cps.size:Int);omega)
    refine gP ?_
    exact⟨[],rfl,ai.upd hl,ah,em _,by rw[if_neg (λz=>uv z.1)];exact .nil⟩
  rintro σ H2 ⟨ps,rfl,s2,h2,l2,pp⟩
  refine⟨λσ H'=>∃ps:List a6,σ=[some (.ref x),some (.str f),some (.str s),some (.ref pl),some (.str ⟨#[c]⟩),some (.int (i:Int)),some (.int (j:Int)),some (.ref l)]/\ai H H'/\H' l=some (.lst (ps.map V.ref))/\ps.length<=2 ∧
   Paired (L4 (Wo l H')) ps ((if i<f.cps.size/\j<s.cps.size then [((i+1,j+1,112),(ku T1 f f s).pc i j)]else [])++(if i<f.cps.size then [((i+1,j,97),(ku T1 f f s).ac 97 c)]else [])),?_,?_⟩
  ·refine⟨_,rfl,_,rfl,_,_,rfl,⟨lf,rfl⟩,_,_,rfl,rfl,_,rfl,?_⟩
   refine cI (λh1=>?_) (λh1=>?_)
   ·have uv:i<f.cps.size:=by have z:(i:Int)<(f.cps.size:Int):=h1;omega
    refine⟨_,rfl,.inl ⟨rfl,_,cA.of h2⟩,_,rfl,_,_,rfl,rfl,_,rfl,aw,λp1 hp1=>⟨aw,λq1 hq1=>?_⟩⟩
    have s0:=s2.trans ((ai.upd hp1).trans (ai.upd (o:=.tup [.ref p1,.str (bd "a")]) hq1))
    refine⟨_,rfl,_,rfl,x,T1.1,T1.2.1,T1.2.2.1,T1.2.2.2,_,_,rfl,Xn s0,aw,λr1 hr1=>?_⟩
    obtain⟨h5,nr,sw,st⟩:=DM (t:=((i+1,j,97),(ku T1 f f s).ac 97 c)) (y:=.lst (ps.map V.ref++[.ref r1])) h2 hp1 hq1 (ai.refl _) hr1 rfl rfl sA (MP sA)
    refine⟨l,_,_,rfl,rfl,by rw[aq (Ne.symm nr)];exact h5,by rw[a_];exact cr l2 (by decide),ps++[r1],rfl,sE s0 hl hr1,by rw[ah,du];rfl,by rw[ce];exact rc l2,?_⟩
    rw[if_pos uv]
    exact GP.Paired.snoc (Paired.gO pp λ_ _ z=>z.same sw) st
   ·have uv:¬i<f.cps.size:=λz=>h1 (by show(i:Int)<(f.cps.size:Int);omega)
    exact⟨ps,rfl,s2,h2,by omega,by rw[if_neg uv,eP];exact pp⟩
  rintro σ H3 ⟨ps,rfl,s3,h3,l3,pp⟩
  refine⟨λσ H'=>∃ps:List a6,σ=[some (.ref x),some (.str f),some (.str s),some (.ref pl),some (.str ⟨#[c]⟩),some (.int (i:Int)),some (.int (j:Int)),some (.ref l)]/\ai H H'/\H' l=some (.lst (ps.map V.ref)) ∧
   Paired (L4 (Wo l H')) ps (((if i<f.cps.size/\j<s.cps.size then [((i+1,j+1,112),(ku T1 f f s).pc i j)]else [])++(if i<f.cps.size then [((i+1,j,97),(ku T1 f f s).ac 97 c)]else []))++(if j<s.cps.size then [((i,j+1,98),(ku T1 f f s).ac 98 c)]else [])),?_,?_⟩
  ·refine⟨_,rfl,_,rfl,_,_,rfl,⟨ls,rfl⟩,_,_,rfl,rfl,_,rfl,?_⟩
   refine cI (λh1=>?_) (λh1=>?_)
   ·have uv:j<s.cps.size:=by have z:(j:Int)<(s.cps.size:Int):=h1;omega
    refine⟨_,rfl,.inl ⟨rfl,_,cA.of h3⟩,_,rfl,_,rfl,_,_,rfl,rfl,aw,λp1 hp1=>⟨aw,λq1 hq1=>?_⟩⟩
    have s0:=s3.trans ((ai.upd hp1).trans (ai.upd (o:=.tup [.ref p1,.str (bd "b")]) hq1))
    refine⟨_,rfl,_,rfl,x,T1.1,T1.2.1,T1.2.2.1,T1.2.2.2,_,_,rfl,Xn s0,aw,λr1 hr1=>?_⟩
    obtain⟨h5,nr,sw,st⟩:=DM (t:=((i,j+1,98),(ku T1 f f s).ac 98 c)) (y:=.lst (ps.map V.ref++[.ref r1])) h3 hp1 hq1 (ai.refl _) hr1 rfl rfl sB (MP sB)
    refine⟨l,_,_,rfl,rfl,by rw[aq (Ne.symm nr)];exact h5,by rw[a_];exact cr l3 (by decide),ps++[r1],rfl,sE s0 hl hr1,by rw[ah,du];rfl,?_⟩
    rw[if_pos uv]
    exact GP.Paired.snoc (Paired.gO pp λ_ _ z=>z.same sw) st
   ·have uv:¬j<s.cps.size:=λz=>h1 (by show(j:Int)<(s.cps.size:Int);omega)
    exact⟨ps,rfl,s3,h3,by rw[if_neg uv,eP];exact pp⟩
  rintro σ H4 ⟨ps,rfl,s4,h4,pp⟩
  refine⟨_,rfl,kk l H4 s4 hl λm=>⟨ps,h4,?_⟩⟩
  rw[im]at pp
  exact Paired.gO pp λ_ _ z=>z.same Wo.sub
end
section
variable{P:bo}{w:df}{K:PySem.W.Frag}{mg:bv->Option a9}{base:dC}
theorem Ao {jN i7:a6}{i6 g6:db}{p:Pm}(T:Txt K mg p base)(gM:Dn K mg "all_steps" nL Rp jN i6)(fN:Dn K mg "steps_from" mh Rq i7 g6)(Bj:aI P w K mg base cB 4 i7 g6 Rq (Fc K p.au)):aI P w K mg base cB 5 jN i6 Rp (Ip P w K p.au):=by
 refine gM.fn.ok lZ (λvs H Q E h=>?_) (λcdv A outer s H vs Q E hr h=>?_)
 ·obtain⟨x,lp,T1,f,s,rfl,_⟩:=h
  rfl
 ·obtain⟨x,lp,T1,f,s,rfl,hP,of,os,hf,hs,⟨ps,PZ,pp⟩,kk⟩:=h
  have pw:=ud f.cps.size s.cps.size
  refine⟨_,(aj (ag 4 lZ.nd (Ab (Pr:=P) (wo:=w) rfl rfl))
   (aj (dH dA rfl (iT (pv 3)) (al 5 lZ.nd) (ao (dH dA rfl (N8 (sH (v:=.ref p.pH) rfl T.O1 rfl)) (al 6 lZ.nd) (ao (z6 (Pr:=P) (wo:=w) (jA hr) (pv 4) (bG (aa (pv 5) (aa (pv 6) af))) (ae Bj hr fN (aa (pv 0) (aa (pv 1) (aa (pv 2) (aa (pv 5) (aa (pv 6) af)))))) rfl rfl rfl)))))
   (ao (aM (pv 4))))),?_⟩
  refine λd hd=>?_
  have s1:ai H (L2.upd H d (Aq P w d [])):=ai.upd hd
  refine⟨_,rfl,lp,rfl,⟨_,cA.of (s1 _ _ PZ)⟩,?_⟩
  refine lP (K:=K) (a:=lp) (xs:=ps.map V.ref) (λa σ H2=>∃v5 v6 kvs,σ=[some (.ref x),some (.str f),some (.str s),some (.ref lp),some (.ref d),v5,v6]/\ai H H2/\H2 d=some (Aq P w d kvs)/\(∀e∈kvs,jm (Wo d H2) e.2.1 e.1)/\∀m,Hg (Wo d H2) (ku T1 m f s) kvs (c8 ((placesOf f.cps.size s.cps.size).take a)))
   ⟨_,_,[],rfl,s1,ah,(λe he=>nomatch he),λm=>by rw[List.take_zero];exact .nil⟩ (λa σ H2 _ ⟨_,_,_,_,s2,_⟩=>cA.of (s2 _ _ PZ)) ?_ ?_
  ·rintro a y σ H2 hy ⟨v5,v6,kvs,rfl,s2,hd2,hk2,hst⟩
   obtain⟨pl,hpl,rfl⟩:=jz hy
   obtain⟨q,hq,hpq⟩:=GP.Paired.at pp hpl
   have hqn:=f6.mp (cb hq)
   refine⟨p.pH,rfl,⟨_,T.Iz _⟩,?_⟩
   refine LS (K:=K) (a:=p.pH) (xs:=[V.str (bd "p"),V.str (bd "a"),V.str (bd "b")]) (λb σ H3=>∃v6 kvs,σ=[some (.ref x),some (.str f),some (.str s),some (.ref lp),some (.ref d),some (.ref pl),v6]/\ai H H3/\H3 d=some (Aq P w d kvs)/\(∀e∈kvs,jm (Wo d H3) e.2.1 e.1)/\∀m,Hg (Wo d H3) (ku T1 m f s) kvs (c8 ((placesOf f.cps.size s.cps.size).take a)++st3 q b))
    ⟨_,kvs,rfl,s2,hd2,hk2,λm=>by show Hg _ _ _ (_++[]);rw[eP];exact hst m⟩ (λb σ H3 _ _=>T.Iz _) ?_ ?_
   ·rintro b y σ H3 hy ⟨v6,kvs,rfl,s3,JE,TM,hst⟩
    obtain⟨c,hc,rfl⟩:=Pg hy
    refine⟨_,rfl,_,rfl,_,rfl,_,rfl,_,rfl,x,pl,T1,f,s,q.1,q.2,c,rfl,hP.same s3,of,os,hf,hs,s3 _ _ hpq,λl H4 s4 hl hsl=>?_⟩
    refine⟨_,rfl,_,rfl,_,rfl,aw,λq1 hq1=>?_⟩
    have JD:=s4 _ _ JE
    have nq:q1≠d:=λz=>by rw[z,JD]at hq1;cases hq1
    have nl:l≠d:=λz=>by rw[z,JE]at hl;cases hl
    have kq:jm (L2.upd H4 q1 (.tup [.ref pl,.str ⟨#[c]⟩])) q1 (fY (q.1,q.2,c)):=⟨pl,ah,by rw[aq (aO (s4 _ _ (s3 _ _ hpq)) hq1)];exact s4 _ _ (s3 _ _ hpq)⟩
    have sw:ai (Wo d H3) (L2.upd H4 q1 (.tup [.ref pl,.str ⟨#[c]⟩])):=λb u h=>ai.upd hq1 b u (s4 b u (Wo.sub b u h))
    have hno:=Mi (hst f) (NW pw hq hc)
    have hal:a<(placesOf f.cps.size s.cps.size).length:=(bj.mp hq).1
    have hlen:kvs.length<b_:=by
     have z:=NX (q:=q) (b:=b) hal
     rw[←Paired.len (hst f),places_len]at z
     exact GJ hf hs z
    refine⟨d,kvs,_,q1,rfl,rfl,⟨by rw[aq (Ne.symm nq)];exact JD,λe he=>jm.same (TM e he) sw⟩,kq,hlen,?_⟩
    rw[IQ hno]
    have X5:ai (Wo d H3) (Wo d (L2.upd (L2.upd H4 q1 (.tup [.ref pl,.str ⟨#[c]⟩])) d (Aq P w d (kvs++[(fY (q.1,q.2,c),q1,.ref l)])))):=λb u h=>Wo.in (Wo.ne h) (by rw[aq (Wo.ne h)];exact sw b u h)
    refine⟨_,_,rfl,?_,ah,λe he=>?_,λm=>?_⟩
    ·exact ai.at ((s3.trans s4).trans (ai.upd hq1)) hd
    ·rcases eM.mp he with he|he
     ·exact jm.same (TM e he) X5
     ·rw[c_.mp he]
      obtain⟨ZW,k1,k2⟩:=kq
      exact⟨ZW,Wo.in nq (by rw[aq nq];exact k1),Wo.in (λz=>by rw[z,aq (Ne.symm nq),JD]at k2;cases k2) (by rw[aq (λz=>by rw[z,aq (Ne.symm nq),JD]at k2;cases k2)];exact k2)⟩
    ·rw[Ib hc,←im]
     refine GP.Paired.snoc ((hst m).same X5) ⟨rfl,l,rfl,(hsl m).da.same λb u h=>?_⟩
     have h':H4 b=some u:=by
      unfold sr at h
      split at h
      ·next e=>cases h;exact e
      ·next e=>cases h;exact e
      ·cases h
     have nb:b≠d:=λz=>by
      rw[z,JD]at h'
      unfold sr at h
      rw[z,JD]at h
      cases h
     exact Wo.in nb (by rw[aq nb];exact ai.upd hq1 _ _ h')
   ·rintro σ H3 ⟨v6,kvs,rfl,s3,JE,TM,hst⟩
    exact⟨_,_,kvs,rfl,s3,JE,TM,λm=>by rw[BN hq];exact hst m⟩
  ·rintro σ H2 ⟨v5,v6,kvs,rfl,s2,hd2,hk2,hst⟩
   refine⟨_,rfl,kk d kvs H2 s2 hd ⟨hd2,λe he=>jm.same (hk2 e he) Wo.sub⟩ λm=>?_⟩
   have z:=(hst m).same Wo.sub
   rw[a_,Paired.len pp,my]at z
   exact z
theorem Cf {kX mO:a6}{jG kK:db}{p:Pm}(T:Txt K mg p base)(iR:Dn K mg "all_ends" o6 Ro kX jG)(jO:Dn K mg "may_end" qB Rt mO kK)(Ht:aI P w K mg base cB 1 mO kK Rt (Ij K)):aI P w K mg base cB 2 kX jG Ro Fj:=by
 refine iR.fn.ok pZ (λvs H Q E h=>?_) (λcdv A outer s H vs Q E hr h=>?_)
 ·obtain⟨lp,f,s,m,rfl,_⟩:=h
  rfl
 ·obtain⟨lp,f,s,m,rfl,hf,hs,⟨ps,PZ,pp⟩,kk⟩:=h
  refine⟨_,(aj (ag 4 pZ.nd B7)
   (aj (dH dA rfl (iT (pv 2)) (al 5 pZ.nd) (ao (Fx (Cw hr) (pv 4) (pv 5) (ae Ht hr jO (aa (pv 3) (aa (pv 0) (aa (pv 1) (aa (pv 5) af))))) rfl)))
   (ao (aM (pv 4))))),?_⟩
  refine λd hd=>?_
  have s1:ai H (L2.upd H d (.dT [])):=ai.upd hd
  refine⟨_,rfl,lp,rfl,⟨_,cA.of (s1 _ _ PZ)⟩,?_⟩
  refine lP (K:=K) (a:=lp) (xs:=ps.map V.ref) (λa σ H2=>∃v5 kvs,σ=[some (.str f),some (.str s),some (.ref lp),some (.str m),some (.ref d),v5]/\ai H H2/\H2 d=some (.dT kvs)/\kvs.length<=a/\∀q∈(placesOf f.cps.size s.cps.size).take a,lW kvs [.inl (q.1:Int),.inl (q.2:Int)]=some (.bl (Au m f s (q.1,q.2))))
   ⟨_,[],rfl,s1,ah,ba _,λq hq=>by rw[List.take_zero]at hq;exact nomatch hq⟩ (λa σ H2 _ ⟨_,_,_,s2,_⟩=>cA.of (s2 _ _ PZ)) ?_ ?_
  ·rintro a y σ H2 hy ⟨v5,kvs,rfl,s2,hd2,hk2,hst⟩
   obtain⟨pl,hpl,rfl⟩:=jz hy
   obtain⟨q,hq,hpq⟩:=GP.Paired.at pp hpl
   have hal:=(bj.mp hq).1
   rw[places_len]at hal
   refine⟨_,rfl,_,rfl,_,rfl,_,rfl,m,f,s,pl,((q.1:Int),(q.2:Int)),rfl,dD.of (s2 _ _ hpq),by omega,by omega,?_⟩
   refine⟨_,rfl,_,rfl,d,_,rfl,Hx.t (k:=[.inl (q.1:Int),.inl (q.2:Int)]) hd2 (s2 _ _ hpq) (GJ hf hs (by omega)),?_⟩
   refine⟨_,_,rfl,ai.at s2 hd,ah,bn (nO _ _ _) (rc hk2),λr hr=>?_⟩
   rw[take_snoc hq]at hr
   rw[By]
   by_cases e:r=q
   ·rw[if_pos (by rw[e]),e]
   ·rw[if_neg (λz=>e ?_)]
    ·rcases eM.mp hr with hr|hr
     ·exact hst r hr
     ·exact absurd (c_.mp hr) e
    ·have z1:=(u_ z).1
     have z2:=(u_ (u_ z).2).1
     have e1:(r.1:Int)=q.1:=Sum.inl.inj z1
     have e2:(r.2:Int)=q.2:=Sum.inl.inj z2
     exact Prod.ext (by omega) (by omega)
  ·rintro σ H2 ⟨v5,kvs,rfl,s2,hd2,hk2,hst⟩
   refine⟨_,rfl,kk d kvs H2 s2 hd hd2 λT1 i j hi hj=>?_⟩
   rw[a_,Paired.len pp,my]at hst
   exact hst (i,j) (f6.mpr ⟨hi,hj⟩)
theorem rV {aP jb gz jf jN jH kX:a6}{bQ ia fq ig i6 iV jG:db}{p:Pm}(T:Txt K mg p base)(bO:Dm K "__init__" "Ground.__init__" bK MA aP bQ)(fR:Dn K mg "check_rows" mz Rw jb ia)(Bo:aI P w K mg base (vR P w) 4 jb ia Rw (Fd K p.au p.aS))(dj:Dn K mg "check_manner" j3 ["manner"] gz fq)(x6:aI P w K mg base (vR P w) 1 gz fq ["manner"] (pV p.bz))(fT:Dn K mg "all_places" mF Rr jf ig)(Bq:aI P w K mg base cB 1 jf ig Rr Mj)(gM:Dn K mg "all_steps" nL Rp jN i6)(Dl:aI P w K mg base cB 5 jN i6 Rp (Ip P w K p.au))(gF:Dn K mg "may_begin" nE Ru jH iV)(Dg:aI P w K mg base cB 1 jH iV Ru (Ik K))(iR:Dn K mg "all_ends" o6 Ro kX jG)(E2:aI P w K mg base cB 2 kX jG Ro Fj):aI P w K mg base (vR P w) 6 aP bQ MA (wm P w K p.au p.aJ p.aS p.bz):=by
 refine bO.fn.Od mU (λvs H Q E h=>?_) (λcdv A outer s H vs Q E hr h=>?_)
 ·obtain⟨x,dx,pr,T1,f,s,m,rfl,_⟩:=h
  rfl
 ·obtain⟨x,dx,pr,T1,f,s,m,rfl,hx,hP,hf,hs,kk,kS,kM⟩:=h
  refine⟨_,(aj (e7 (az Bo (hr.mono (by decide)) rfl fR.m fR.fn.kp fR.b .nil (Lets.passes pA) (aa (pv 1) (aa (kD (aa (pv 2) (aa (pv 3) af))) af))))
   (aj (e7 (az x6 (hr.mono (by decide)) rfl dj.m dj.fn.kp dj.b .nil (Lets.passes pA) (aa (pv 4) af)))
   (aj (ag 5 mU.nd (ae Bq hr fT (aa (pv 2) (aa (pv 3) af))))
   (aj (lT (pv 0) (ae Dl hr gM (aa (pv 1) (aa (pv 2) (aa (pv 3) (aa (pv 5) af))))) rfl)
   (aj (lT (pv 0) (B8 (N:=["place","manner"]) rfl (cQ.sW (nt:=1) (ix:=[4]) rfl (by decide +kernel) (by decide +kernel) (by kernel_rfl) rfl (by kernel_rfl)) (iT (pv 5)) (λ_ _ _ _ _ _ _=>(aL (i:=0) (show(["place","manner"]:List bv).Nodup by decide +kernel) rfl (Or.inl rfl))) (λ_ _ _ _ _ _ _=>(pv 0)) (λ_ _ _ _ _ _ _=>(jx (ae Dg hr gF (aa (pv 1) (aa (pv 0) af)))))) rfl)
   (ao (lT (pv 0) (ae E2 hr iR (aa (pv 2) (aa (pv 3) (aa (pv 5) (aa (pv 4) af))))) rfl))))))),?_⟩
  refine⟨_,rfl,_,rfl,_,rfl,aw,λl hl=>?_⟩
  refine⟨pr,l,T1.1,T1.2.1,T1.2.2.1,T1.2.2.2,f,s,rfl,hP.same (ai.upd hl),ah,by omega,by omega,λof os H1 s1=>?_,λi j bad dx H1 s1 hd=>kS i j bad dx H1 ((ai.upd hl).trans s1) hd⟩
  have PK:=(ai.upd (o:=.lst [.str f,.str s]) hl).trans s1
  refine⟨_,rfl,m,rfl,λhm=>?_,λhm=>⟨(kM of os hm).1,(kM of os hm).2 H1 PK⟩⟩
  obtain⟨vz,vv,kk⟩:=kk of os hm
  refine⟨_,rfl,_,rfl,f,s,rfl,vz,vv,λlp H2 s2 PZ hpl=>?_⟩
  have N2:=PK.trans s2
  refine⟨_,rfl,_,rfl,_,rfl,_,rfl,pr,lp,T1,f,s,rfl,hP.same N2,of,os,vz,vv,hpl,λd kvs H3 s3 hd hnd hst=>?_⟩
  have Ku:=N2.trans s3
  have YE:=Ku _ _ hx
  refine⟨_,rfl,x,_,dx,[],rfl,YE,T.fC,T.gk,by show 0<1000;decide,?_⟩
  have d3:=Dat.set (fs':=aC "steps" (.ref d) []) YE
  have RV:=(hpl.same s3).da.same (sr.dat d3)
  obtain⟨ps,hps,pp⟩:=id RV
  have hlen:=Paired.len pp
  rw[places_len]at hlen
  refine⟨_,rfl,lp,rfl,⟨_,cA.of hps⟩,λlB hlB=>?_⟩
  have at_:∀i,i<ps.length->ps[i]? =some (ps.getD i 0)/\vQ (L2.upd H3 x (.ins p.aJ dx (aC "steps" (.ref d) []))) (ps.getD i 0) ((placesOf f.cps.size s.cps.size).getD i (0,0)):=λi hi=>by
   have e:ps[i]? =some (ps.getD i 0):=by rw[dv,a7 hi];rfl
   obtain⟨q,hq,hpq⟩:=GP.Paired.at pp e
   refine⟨e,?_⟩
   rw[dv (l:=placesOf _ _),hq]
   exact hpq
  refine AJ ps.length (λi=>vo m (((placesOf f.cps.size s.cps.size).getD i (0,0)).1,((placesOf f.cps.size s.cps.size).getD i (0,0)).2)) (λi=>.ref (ps.getD i 0)) hlB (GJ vz vv (by omega)) (λi H4 s4 hi=>?_) (λH4 s4=>?_) (λi y H4 H5 R S s4 hi hy hR hS=>?_) λH4 s4 W4=>?_
  ·exact⟨_,_,cA.of (s4 _ _ hps),by rw[cx,(at_ i hi).1];rfl⟩
  ·exact⟨_,cA.of (s4 _ _ hps),by rw[a_];exact ba _⟩
  ·obtain⟨rfl,hy⟩:=hy
   have ey:=hy _ (cA.of (s4 _ _ hps))
   rw[cx,(at_ i hi).1]at ey
   cases ey
   refine⟨Kp.DR,_,rfl,_,rfl,m,_,((((placesOf f.cps.size s.cps.size).getD i (0,0)).1:Int),(((placesOf f.cps.size s.cps.size).getD i (0,0)).2:Int)),rfl,dD.of (s4 _ _ (at_ i hi).2),_,rfl,?_⟩
   cases z:vo m (((placesOf f.cps.size s.cps.size).getD i (0,0)).1,((placesOf f.cps.size s.cps.size).getD i (0,0)).2)with
   |true=>exact pO ⟨_,rfl,hR z _ (ai.refl _)⟩
   |false=>exact gP (hS z _ (ai.refl _))
  have RP:=s4 _ _ (ah (H:=H3) (a:=x) (o:=.ins p.aJ dx (aC "steps" (.ref d) [])))
  refine⟨_,rfl,x,_,dx,_,rfl,RP,T.fC,T.lU,by show 1<1000;decide,?_⟩
  have d4:=Dat.set (fs':=aC "begins" (.ref lB) (aC "steps" (.ref d) [])) RP
  have WU:HG H4 lp (placesOf f.cps.size s.cps.size):=RV.same s4
  have WT:=WU.da.same (sr.dat d4)
  refine⟨_,rfl,_,rfl,_,rfl,_,rfl,lp,f,s,m,rfl,vz,vv,WT,λdE kE H6 s6 hdE hE6 hE=>?_⟩
  have ME:=s6 _ _ (ah (H:=H4) (a:=x) (o:=.ins p.aJ dx (aC "begins" (.ref lB) (aC "steps" (.ref d) []))))
  refine⟨_,rfl,x,_,dx,_,rfl,ME,T.fC,T.n9,by show 2<1000;decide,?_⟩
  have d6:=Dat.set (fs':=aC "ends" (.ref dE) (aC "begins" (.ref lB) (aC "steps" (.ref d) []))) ME
  have dd:Dat H3 (L2.upd H6 x (.ins p.aJ dx (aC "ends" (.ref dE) (aC "begins" (.ref lB) (aC "steps" (.ref d) []))))):=(((d3.trans (Dat.of s4)).trans d4).trans (Dat.of s6)).trans d6
  have de:Dat H4 (L2.upd H6 x (.ins p.aJ dx (aC "ends" (.ref dE) (aC "begins" (.ref lB) (aC "steps" (.ref d) []))))):=(d4.trans (Dat.of s6)).trans d6
  refine kk _ (λb u nb hb=>?_) ⟨dx,d,lB,dE,kvs,kE,ah,ND.dat hnd dd,(hst m).da.same (sr.dat dd),?_,d6 _ _ (λ_ _ _ z=>by cases z) hE6,hE T1⟩
  ·rw[aq nb]
   refine s6 _ _ ?_
   rw[aq nb]
   refine s4 _ _ ?_
   rw[aq nb]
   exact Ku _ _ hb
  ·refine⟨((dk ps.length).filter λi=>vo m (((placesOf f.cps.size s.cps.size).getD i (0,0)).1,((placesOf f.cps.size s.cps.size).getD i (0,0)).2)).map λi=>ps.getD i 0,?_,?_⟩
   ·rw[kb]
    exact de _ _ (λ_ _ _ z=>by cases z) W4
   ·unfold iC
    rw[←F0 (placesOf f.cps.size s.cps.size) (0,0),places_len,←hlen]
    refine uL λi hi=>?_
    have hi':=md.mp (fe.mp hi).1
    exact de _ _ (λ_ _ _ z=>by cases z) (s4 _ _ (at_ i hi').2)
end
section
variable{P:bo}{w:df}{K:PySem.W.Frag}{mg:bv->Option a9}{base:dC}
theorem wM {c6:a6}{cJ:db}{p:Pm}(T:Txt K mg p base)(bH:Dn K mg "least_rests" jj Ov c6 cJ)  :aI P w K mg base cB 1 c6 cJ Ov (DN P w p.aJ):=by
 refine bH.fn.ok jV (λvs H Q E h=>?_) (λcdv A outer s H vs Q E hr h=>?_)
 ·obtain⟨x,g,bs,rfl,_⟩:=h
  rfl
 ·obtain⟨x,g,bs,rfl,hG,ok,hn,hm,kk⟩:=h
  obtain⟨dx,dS,lB,dE,kS,kE,hx,hS,hst,hB,hE,Qc⟩:=id hG
  have hN:kS.length=g.states.length:=Paired.len hst
  have hN3:g.states.length=3*((g.n+1)*(g.m+1)):=by unfold Gd.states;rw[rL,places_len]
  refine⟨_,(aj (aD (i:=1) jV.nd rfl (Or.inr rfl) (Ab (Pr:=P) (wo:=w) rfl rfl))
   (aj (dH dA rfl (IE rfl T.vS (aa (oM (tD (Pr:=P) (wo:=w) rfl rfl rfl) rfl T.tT qV (aa (cX (pv 0) rfl) af)) af)) (al 2 jV.nd) (aj (wI (i:=3) (N:=Wn) jV.nd rfl (Or.inl rfl) rfl (cQ.sW (nt:=2) (ix:=[1]) rfl (by decide +kernel) (by decide +kernel) (by kernel_rfl) rfl (by kernel_rfl)) (iT (jt (Pr:=P) (wo:=w) (jA hr) (cX (pv 0) rfl) (pv 2) (λ_ _=>rfl) rfl rfl)) (λ_ _ _ _ _ _ _=>(Fz (K':=K) (n:=2) rfl rfl (bP (aL (i:=0) (show(Wn:List bv).Nodup by decide +kernel) rfl (Or.inl rfl)) (bP (aL (i:=1) (show(Wn:List bv).Nodup by decide +kernel) rfl (Or.inl rfl)) lE)))) (λ_ _ _ _ _ _ _=>(aF bT (pv 1) (jt (Pr:=P) (wo:=w) (jA hr) (pv 2) (pv 0) (λ_ _=>rfl) rfl rfl))))
   (bL (bM (jx (Ad (Cw hr) (cX (pv 0) rfl) (bw b7 (pv 2) ak (λ_ _=>rfl)) (λ_ _=>rfl))) (ao (e7 (nN PySem.F.plainAttrs_list PySem.F.slot_list_append PySem.F.type_list_append iU (pv 3) (aa ak af)))) aT)
   (ao (z6 (Pr:=P) (wo:=w) (jA hr) (pv 1) (pv 2) (aA (zA rfl) rfl T.E7 AN (aa (pv 3) af)) rfl rfl rfl)))))
   (ao (aM (pv 1))))),?_⟩
  refine λd hd=>?_
  have s1:ai H (L2.upd H d (Aq P w d [])):=ai.upd hd
  refine⟨_,rfl,x,_,dx,_,_,rfl,s1 _ _ hx,T.fC,T.gk,oO,dS,kS,rfl,ND.same hS s1,λl hl=>?_⟩
  have s2:=s1.trans (ai.upd (o:=.lst (kS.map λe=>.ref e.2.1)) hl)
  have Q4:l≠d:=λz=>by rw[z,ah]at hl;cases hl
  refine⟨l,_,rfl,cA.of ah,?_⟩
  refine FZ (K:=K) (a:=l) (xs:=kS.map λe=>V.ref e.2.1) (λk σ H2=>∃v2 v3 kvs,σ=[some (.ref x),some (.ref d),v2,v3]/\ai H H2/\H2 l=some (.lst (kS.map λe=>V.ref e.2.1))/\H2 d=some (Aq P w d kvs)/\kvs.length<=k/\(∀e∈kvs,jm (Wo d H2) e.2.1 e.1)/\∀s∈g.states.drop (g.states.length-k),jR kvs (fY s)=some (.int (g.rest s)))
   ⟨_,_,[],rfl,s2,ah,by rw[aq (Ne.symm Q4),ah],ba _,(λe he=>nomatch he),λs hs=>by rw[Nat.sub_zero,List.drop_length]at hs;exact nomatch hs⟩ (λk σ H2 _ ⟨_,_,_,_,_,h2,_⟩=>cA.of h2) ?_ ?_
  ·rintro k y σ H2 hk hy ⟨v2,v3,kvs,rfl,s2,hl2,hd2,hlen,hkey,hval⟩
   rw[a_,hN]at hk
   rw[a_,hN]at hy
   obtain⟨e,he,rfl⟩:=jz hy
   obtain⟨s,hs,Xb,l',hel,hsl⟩:=GP.Paired.at hst he
   have hin:=Gd.dI.mp (cb hs)
   have hke:jm H e.2.1 (fY s):=by rw[←Xb];exact hS.keys e (cb he)
   obtain⟨l'',R0,Jz⟩:=vN hst (Gd.dI.mpr hin)
   obtain⟨ps,hps,pp⟩:=Jz
   have hpl:=Paired.len pp
   refine⟨_,rfl,x,_,dx,_,_,rfl,s2 _ _ hx,T.fC,T.gk,oO,_,rfl,dS,kS,fY s,e.2.1,.ref l'',rfl,rfl,ND.same hS s2,jm.same hke s2,R0,l'',rfl,⟨_,cA.of (s2 _ _ hps)⟩,λlc MH=>?_⟩
   have WL:(g.steps s).length<=3:=by unfold Gd.steps;split<;>split<;>split<;>simp
   refine AI ps.length (λi=>.int (g.key ((g.steps s).getD i (s,0)))) MH (cr (show ps.length<=3 by omega) (by decide)) (λi H3 s3 hi=>?_) (λH3 s3=>?_) (λi y H3 H4 R s3 hi hy hR=>?_) λH3 s3 hl3=>?_
   ·exact⟨_,_,cA.of (s3 _ _ (s2 _ _ hps)),by rw[cx,a7 hi];rfl⟩
   ·exact⟨_,cA.of (s3 _ _ (s2 _ _ hps)),by rw[a_];exact ba _⟩
   ·obtain⟨rfl,hy⟩:=hy
    have ey:=hy _ (cA.of (s3 _ _ (s2 _ _ hps)))
    rw[cx,a7 hi]at ey
    cases ey
    obtain⟨t,ht,q,hq1,hq2⟩:=GP.Paired.at pp (a7 hi)
    have et:(g.steps s).getD i (s,0)=t:=by rw[dv,ht];rfl
    rw[et]at hR
    have hb:=Gd.uH hs (cb ht)
    rw[show g.states.length-1-k+1=g.states.length-k by omega]at hb
    refine⟨_,_,rfl,dD.of (s3 _ _ (s2 _ _ hq1)),rfl,_,_,rfl,_,_,rfl,rfl,Kp2,?_⟩
    exact⟨_,rfl,_,rfl,_,rfl,d,kvs,fY t.1,q,_,rfl,rfl,⟨s3 _ _ hd2,λe he=>jm.same (jm.same (hkey e he) Wo.sub) s3⟩,jm.same (jm.same hq2 s2) s3,hval t.1 hb,_,_,rfl,rfl,hR _ (ai.refl _)⟩
   have hls:(dk ps.length).map (λi=>V.int (g.key ((g.steps s).getD i (s,0))))=((g.steps s).map g.key).map V.int:=by
    rw[kb,hpl]
    refine List.ext_getElem (by simp) λi h1 h2=>?_
    simp only[List.getElem_map,List.getElem_range,Function.comp_apply]
    rw[dv,a7 (by simpa using h2)]
    rfl
   rw[hls]at hl3
   have Ku:=s2.trans s3
   have hcn:H2 lc=none:=MH
   have ncd:lc≠d:=λz=>by rw[z,hd2]at hcn;cases hcn
   have ncl:lc≠l:=λz=>by rw[z,hl2]at hcn;cases hcn
   obtain⟨pk,hk1,hk2⟩:=hke
   refine⟨λσ H'=>σ=[some (.ref x),some (.ref d),some (.ref e.2.1),some (.ref lc)]/\ai H2 H'/\H' lc=some (.lst ((g.costs g.rest s).map V.int)),?_,?_⟩
   ·refine⟨_,rfl,x,_,dx,_,_,rfl,Ku _ _ hx,T.fC,T.n9,CA,_,rfl,e.2.1,_,_,_,rfl,rfl,dD.of (Ku _ _ hk1),rfl,dE,.bl (g.en s.1 s.2.1),rfl,?_,_,rfl,?_⟩
    ·rw[←Qc s.1 s.2.1 hin.1 hin.2.1]
     exact Dq.t (Ku _ _ hE) (Ku _ _ hk2)
    ·unfold Gd.costs
     cases z:g.en s.1 s.2.1 with
     |true =>
      refine pO ⟨_,rfl,.inl ⟨rfl,_,cA.of hl3⟩,lc,_,_,rfl,rfl,hl3,by rw[a_,a_];exact cr WL (by decide),rfl,ai.at s3 hcn,?_⟩
      rw[ah,if_pos rfl,du]
      rfl
     |false=>exact gP ⟨rfl,s3,by rw[if_neg bt,eP];exact hl3⟩
   rintro σ H4 ⟨rfl,s4,W4⟩
   refine⟨_,rfl,lc,_,rfl,cA.of W4,Gd.CU ok hin,_,rfl,_,rfl,d,kvs,fY s,e.2.1,rfl,rfl,⟨s4 _ _ hd2,λe he=>jm.same (jm.same (hkey e he) Wo.sub) s4⟩,⟨pk,s4 _ _ (s2 _ _ hk1),s4 _ _ (s2 _ _ hk2)⟩,GJ hn hm (by omega),?_⟩
   rw[←g.rest_eq]
   have sw:ai (Wo d H2) (Wo d (L2.upd H4 d (Aq P w d (rW kvs (fY s) e.2.1 (.int (g.rest s)))))):=λb u h=>Wo.in (Wo.ne h) (by rw[aq (Wo.ne h)];exact s4 _ _ (Wo.sub b u h))
   have Oi:∀{b:a6} {xs:List V},H2 b=some (.tup xs)->b≠d:=λ{b xs} h z=>by rw[z,hd2]at h;cases h
   refine⟨_,_,_,rfl,ai.at (s2.trans s4) hd,by rw[aq Q4];exact s4 _ _ hl2,ah,bn (wW _ _ _ _) (rc hlen),yZ (λe he=>jm.same (hkey e he) sw) (jm.same ⟨pk,Wo.in (Oi (s2 _ _ hk1)) (s2 _ _ hk1),Wo.in (Oi (s2 _ _ hk2)) (s2 _ _ hk2)⟩ sw),λr hr=>?_⟩
   rw[Ci]
   rw[show g.states.length-(k+1)=g.states.length-1-k by omega,ge (by omega)]at hr
   rw[(bj.mp hs).2]at hr
   by_cases er:fY r=fY s
   ·rw[if_pos er,sG er]
   ·rw[if_neg er]
    rcases cm.mp hr with hr|hr
    ·exact absurd (by rw[hr]) er
    ·exact hval r (by rw[show g.states.length-k=g.states.length-1-k+1 by omega];exact hr)
  ·rintro σ H2 ⟨v2,v3,kvs,rfl,s2,hl2,hd2,hlen,hkey,hval⟩
   rw[a_,hN,Nat.sub_self,List.drop_zero]at hval
   exact⟨_,rfl,kk d kvs H2 s2 hd ⟨hd2,λe he=>jm.same (hkey e he) Wo.sub⟩ λs hs=>hval s (Gd.dI.mpr hs)⟩
theorem yk {dU:a6}{c5:db}{p:Pm}(T:Txt K mg p base)(bS:Dn K mg "ends_there" j0 l8 dU c5)  :aI P w K mg base cB 1 dU c5 l8 (zV P w p.aJ):=by
 refine bS.fn.ok yc (λvs H Q E h=>?_) (λcdv A outer s H vs Q E hr h=>?_)
 ·obtain⟨x,d,q,g,bs,kvs,s,rfl,_⟩:=h
  rfl
 ·obtain⟨x,d,q,g,bs,kvs,s,rfl,⟨hG,hd,hR⟩,hq,hin,kk⟩:=h
  obtain⟨dx,dS,lB,dE,kS,kE,hx,hS,hst,hB,hE,Qc⟩:=id hG
  obtain⟨pk,hk1,hk2⟩:=id hq
  refine⟨_,(ao (aM (kF (Ad (Cw hr) (cX (pv 0) rfl) (bw b7 (pv 2) ak (λ_ _=>rfl)) (λ_ _=>rfl)) (kC (b8 bW (jt (Pr:=P) (wo:=w) (jA hr) (pv 1) (pv 2) (λ_ _=>rfl) rfl rfl) ak (aG _)))))),?_⟩
  refine⟨_,rfl,x,_,dx,_,_,rfl,hx,T.fC,T.n9,CA,_,rfl,q,_,_,_,rfl,rfl,dD.of hk1,rfl,dE,.bl (g.en s.1 s.2.1),rfl,?_,_,rfl,?_⟩
  ·rw[←Qc s.1 s.2.1 hin.1 hin.2.1]
   exact Dq.t hE hk2
  ·unfold Gd.stop at kk
   cases z:g.en s.1 s.2.1 with
   |true =>
    rw[z,sK]at kk
    refine pO ⟨_,rfl,_,rfl,d,kvs,fY s,q,_,rfl,rfl,hd,hq,hR s hin,rfl,?_⟩
    rw[lG]
    exact kk
   |false =>
    rw[z,mf]at kk
    exact gP kk
theorem wU {c7:a6}{cK:db}{p:Pm}(T:Txt K mg p base)(bF:Dn K mg "first_begin" jk l9 c7 cK)  :aI P w K mg base cB 1 c7 cK l9 (wu P w p.aJ (yt K)):=by
 refine bF.fn.Yk T.xu (T.xr _ bF.m) wF (λvs H Q E h=>?_) (λcdv A outer s H vs Q E hC hr h=>?_)
 ·obtain⟨x,d,g,bs,kvs,rfl,_⟩:=h
  rfl
 ·obtain⟨x,d,g,bs,kvs,rfl,⟨hG,hd,hR⟩,hT,hne,hbs,kk⟩:=h
  obtain⟨dx,dS,lB,dE,kS,kE,hx,hS,hst,⟨ps,hps,pp⟩,hE,Qc⟩:=id hG
  have hlen:=Paired.len pp
  have at_:∀(i:Nat) (v:V),(ps.map V.ref)[i]? =some v->∃pl b,v= .ref pl/\bs[i]? =some b/\vQ H pl b:=λi v hv=>by
   obtain⟨pl,hpl,rfl⟩:=jz hv
   obtain⟨b,hb,GW⟩:=GP.Paired.at pp hpl
   exact⟨pl,b,rfl,hb,GW⟩
  refine⟨_,(ao (aM (FA (Pr:=P) (wo:=w) (P:=dJ K "first_begin") (ir:=1) (Lv ⟨λ_ _ _ _ _ _=>rfl,rfl,rfl,by decide +kernel,rfl,rfl,rfl,by decide,by decide,by decide⟩) Ly rfl rfl hC T.bm rfl (Fv hr) (FU hr) rfl T.E7 AN rfl rfl (aa (cX (pv 0) rfl) af) rfl rfl rfl))),?_⟩
  refine⟨_,rfl,x,_,dx,_,_,rfl,hx,T.fC,T.lU,xE,lB,_,.ref d,λi=>g.jS (bs.getD i (0,0)),rfl,rfl,cA.of hps,?_,λi v hv=>?_,hT.a,λH2 ap e t i v hv hL=>?_⟩
  ·rw[a_,hlen]
   exact List.length_pos_iff.mpr hne
  ·obtain⟨pl,b,rfl,hb,GW⟩:=at_ i v hv
   have hb':=hbs b (cb hb)
   refine⟨pl,d,kvs,b.1,b.2,rfl,GW,rfl,hd,?_⟩
   have z:=hR (b.1,b.2,112) ⟨hb'.1,hb'.2,.inl rfl⟩
   have e:bs.getD i (0,0)=b:=by rw[dv,hb];rfl
   dsimp only
   rw[e,sP]
   exact z
  ·obtain⟨pl,b,rfl,hb,GW⟩:=at_ i v hv
   have lo:=Lo.one (P:=P) (w:=w) (L:=yt K) hT ap e t
   refine kk pl b H2 lo (AE hb λj y hy=>?_) (lo.tup GW)
   have z:=hL j (by rw[a_,hlen];exact(bj.mp hy).1)
   dsimp only at z
   rw[dv,dv,hb,hy]at z
   exact z
theorem vg {gy:a6}{fk:db}{p:Pm}(T:Txt K mg p base)(cO:Dn K mg "state_behind" jZ l8 gy fk)  :aI P w K mg base cB 1 gy fk l8 (Io P w p.aJ (yt K)):=by
 refine cO.fn.Yk T.vq (T.vp _ cO.m) uZ (λvs H Q E h=>?_) (λcdv A outer s H vs Q E hC hr h=>?_)
 ·obtain⟨x,d,q,g,bs,kvs,s,rfl,_⟩:=h
  rfl
 ·obtain⟨x,d,q,g,bs,kvs,s,rfl,⟨hG,hd,hR⟩,hq,hin,hne,hT,kk⟩:=h
  obtain⟨dx,dS,lB,dE,kS,kE,hx,hS,hst,hB,hE,Qc⟩:=id hG
  obtain⟨l,R0,ps,hps,pp⟩:=vN hst (Gd.dI.mpr hin)
  have hlen:=Paired.len pp
  have at_:∀(i:Nat) (v:V),(ps.map V.ref)[i]? =some v->∃pl t,v= .ref pl/\(g.steps s)[i]? =some t/\L4 H pl t:=λi v hv=>by
   obtain⟨pl,hpl,rfl⟩:=jz hv
   obtain⟨b,hb,GW⟩:=GP.Paired.at pp hpl
   exact⟨pl,b,rfl,hb,GW⟩
  refine⟨_,(ao (aM (bw b7 (FA (Pr:=P) (wo:=w) (P:=dJ K "state_behind") (ir:=1) (Lu ⟨λ_ _ _ _ _ _=>rfl,rfl,rfl,by decide +kernel,rfl,rfl,rfl,by decide,by decide,by decide⟩) Lx rfl rfl hC T.bm rfl (Fv hr) (FU hr) rfl T.E7 AN rfl rfl (aa (jt (Pr:=P) (wo:=w) (jA hr) (cX (pv 0) rfl) (pv 2) (λ_ _=>rfl) rfl rfl) af) rfl rfl rfl) ak (λ_ _=>rfl)))),?_⟩
  refine⟨_,rfl,x,_,dx,_,_,rfl,hx,T.fC,T.gk,oO,_,rfl,dS,kS,fY s,q,.ref l,rfl,rfl,hS,hq,R0,l,_,.ref d,λi=>g.key ((g.steps s).getD i (s,0)),rfl,rfl,cA.of hps,?_,λi v hv=>?_,hT.b,λH2 ap e t i v hv hL=>?_⟩
  ·rw[a_,hlen]
   exact List.length_pos_iff.mpr hne
  ·obtain⟨pl,t,rfl,ht,q',h1,h2⟩:=at_ i v hv
   refine⟨pl,d,q',kvs,fY t.1,t.2,g.rest t.1,rfl,h1,h2,rfl,hd,hR t.1 (Gd.ny (cb ht) hin),?_⟩
   show g.key _=_
   rw[dv,ht]
   rfl
  ·obtain⟨pl,u,rfl,hu,q',h1,h2⟩:=at_ i v hv
   have lo:=Lo.two (P:=P) (w:=w) (L:=yt K) hT ap e t
   refine⟨pl,_,_,_,rfl,rfl,dD.of (lo.tup h1),rfl,kk q' u H2 lo (AE hu λj y hy=>?_) (lo.YC h2)⟩
   have z:=hL j (by rw[a_,hlen];exact(bj.mp hy).1)
   dsimp only at z
   rw[dv,dv,hu,hy]at z
   exact z
theorem wR {iy dU gy:a6}{gu c5 fk:db}{p:Pm}(T:Txt K mg p base)(d8:Dn K mg "first_moves" lA Rn iy gu)(bS:Dn K mg "ends_there" j0 l8 dU c5)(pJ:aI P w K mg base cB 1 dU c5 l8 (zV P w p.aJ))(cO:Dn K mg "state_behind" jZ l8 gy fk)(xZ:aI P w K mg base cB 1 gy fk l8 (Io P w p.aJ (yt K))):aI P w K mg base cB 2 iy gu Rn (Ii P w p.aJ (yt K)):=by
 refine d8.fn.ok jX (λvs H Q E h=>?_) (λcdv A outer s H vs Q E hr h=>?_)
 ·obtain⟨x,d,pl,g,bs,kvs,b,rfl,_⟩:=h
  rfl
 ·obtain⟨x,d,pl,g,bs,kvs,b,rfl,hG,hb,hin,ok,hn,hm,hT,kk⟩:=h
  refine⟨_,(aj (ag 3 jX.nd (bG (aa (pv 2) (aa bA af))))
   (aj (ag 4 jX.nd (kD af))
   (aj (B4 dA (D0 (jx (ae pJ hr bS (aa (pv 0) (aa (pv 1) (aa (pv 3) af)))))) (aj (ag 3 jX.nd (ae xZ hr cO (aa (pv 0) (aa (pv 1) (aa (pv 3) af)))))
   (ao (e7 (nN PySem.F.plainAttrs_list PySem.F.slot_list_append PySem.F.type_list_append iU (pv 4) (aa (bw b7 (pv 3) ak (λ_ _=>rfl)) af))))))
   (ao (aM (nN PySem.F.plainAttrs_str PySem.F.slot_str_join PySem.F.type_str_join FG bA (aa (pv 4) af))))))),?_⟩
  refine⟨_,rfl,aw,λq hq=>⟨am,λl hl=>?_⟩⟩
  have s1:ai H (L2.upd H q (.tup [.ref pl,.str (bd "p")])):=ai.upd hq
  have hln:H l=none:=ai.free s1 hl
  have Tj:q≠l:=λz=>by rw[z,ah]at hl;cases hl
  have k0:jm (L2.upd (L2.upd H q (.tup [.ref pl,.str (bd "p")])) l (.lst [])) q (fY (b.1,b.2,112)):=by
   refine⟨pl,by rw[aq Tj,ah,sP];rfl,?_⟩
   exact ai.upd hl _ _ (s1 _ _ hb)
  refine⟨λn σ H'=>∃(q:a6) (s:dm) (mv:List Nat),n=g.ht s/\σ=[some (.ref x),some (.ref d),some (.ref pl),some (.ref q),some (.ref l)]/\Lo P w (yt K) H H'/\jm H' q (fY s)/\g.In s/\H' l=some (.lst (mv.map sg))/\g.moves (b.1,b.2,112)=mv++g.moves s/\mv.length+g.ht s<=g.n+g.m,
   ⟨_,q,(b.1,b.2,112),[],rfl,rfl,.of hT (s1.trans (ai.upd hl)),k0,hin,ah,rfl,by show 0+(g.n-b.1+(g.m-b.2))<=_;omega⟩,?_⟩
  rintro n σ H1 ⟨q,s,mv,rfl,rfl,lo,hk,hs,hl1,TH,hle⟩
  refine⟨_,rfl,_,rfl,_,rfl,x,d,q,g,bs,kvs,s,rfl,lo.gR hG,hk,hs,_,rfl,?_⟩
  cases z:g.stop s with
  |true =>
   refine Cv ⟨rfl,_,rfl,l,mv,rfl,rfl,cA.of hl1,by omega,?_⟩
   rw[Gd.o9 z,eP]at TH
   rw[←TH]
   exact kk H1 lo
  |false =>
   obtain⟨t,hf,ht,hnx,_⟩:=g.go ok hs z
   refine Jt ⟨λσ' H'=>∃m',m'<g.ht s/\∃(q:a6) (s:dm) (mv:List Nat),m'=g.ht s/\σ'=[some (.ref x),some (.ref d),some (.ref pl),some (.ref q),some (.ref l)]/\Lo P w (yt K) H H'/\jm H' q (fY s)/\g.In s/\H' l=some (.lst (mv.map sg))/\g.moves (b.1,b.2,112)=mv++g.moves s/\mv.length+g.ht s<=g.n+g.m,λσ' H' h=>h,?_⟩
   refine⟨_,rfl,_,rfl,_,rfl,x,d,q,g,bs,kvs,s,rfl,lo.gR hG,hk,hs,r_ ht,lo.lt,λq' t' H2 lo2 hf' hk'=>?_⟩
   obtain rfl:t=t':=dn (hf.symm.trans hf')
   have hl2:=lo2.nx _ _ (Nt.lst hl1)
   obtain⟨pk,hk1,hk2⟩:=id hk'
   have hht:=Gd.jn ht
   refine⟨_,rfl,.inl ⟨rfl,_,cA.of hl2⟩,_,rfl,q',_,_,_,rfl,rfl,dD.of hk1,rfl,l,_,_,rfl,rfl,hl2,by rw[a_];exact cr (show mv.length<=24 by omega) (by decide),g.ht t.1,hht,q',t.1,mv++[t.1.2.2],rfl,rfl,(lo.trans lo2).put hln hl2,Lz hk' hl2,Gd.ny ht hs,by rw[ah,du];rfl,?_,?_⟩
   ·rw[TH,Gd.wY ok hs z,hnx,im]
    rfl
   ·rw[ce]
    show mv.length+1+_<=_
    omega
theorem Ce {kW aP c6 c7 gT iy:a6}{iM bQ cJ cK fK gu:db}{p:Pm}(T:Txt K mg p base)(iQ:Dn K mg "cheapest" o5 Ky kW iM)(bO:Dm K "__init__" "Ground.__init__" bK MA aP bQ)(oV:Mk K p.aJ aP)(kg:aI P w K mg base (vR P w) 6 aP bQ MA (wm P w K p.au p.aJ p.aS p.bz))(bH:Dn K mg "least_rests" jj Ov c6 cJ)(oB:aI P w K mg base cB 1 c6 cJ Ov (DN P w p.aJ))(bF:Dn K mg "first_begin" jk l9 c7 cK)(oE:aI P w K mg base cB 1 c7 cK l9 (wu P w p.aJ (yt K)))(cZ:Dn K mg "in_units" mY Ow gT fK)(sj:aI P w K mg base cB 2 gT fK Ow (t7 K p.au))(d8:Dn K mg "first_moves" lA Rn iy gu)(yJ:aI P w K mg base cB 2 iy gu Rn (Ii P w p.aJ (yt K))):aI P w K mg base (vR P w) 8 kW iM Ky (Fp P w K p.au p.aS p.bz (yt K)):=by
 refine iQ.fn.Od nD (λvs H Q E h=>?_) (λcdv A outer s H vs Q E hr h=>?_)
 ·obtain⟨pr,T1,f,s,m,rfl,_⟩:=h
  rfl
 ·obtain⟨pr,T1,f,s,m,rfl,hP,hT,hf,hs,kk,kS,kM⟩:=h
  refine⟨_,(aj (ag 4 nD.nd (Ac oV kg (hr.mono (by decide)) rfl T.y9 bO.b .nil (Lets.passes pA) (aa (pv 0) (aa (pv 1) (aa (pv 2) (aa (pv 3) af))))))
   (aj (ag 5 nD.nd (ae oB hr bH (aa (pv 4) af)))
   (aj (ag 6 nD.nd (ae oE hr bF (aa (pv 4) (aa (pv 5) af))))
   (ao (aM (bG (aa (ae sj hr cZ (aa (pv 0) (aa (jt (Pr:=P) (wo:=w) (jA hr) (pv 5) (bG (aa (pv 6) (aa bA af))) (λ_ _=>rfl) rfl rfl) af))) (aa (pv 6) (aa (ae yJ hr d8 (aa (pv 4) (aa (pv 5) (aa (pv 6) af)))) af))))))))),?_⟩
  refine⟨_,rfl,_,rfl,_,rfl,_,rfl,λx dx hx hdx Yp=>?_⟩
  have s1:ai H (L2.upd (L2.upd H dx (.own x)) x (.ins p.aJ dx [])):=ai.at (ai.upd hdx) hx
  refine⟨x,dx,pr,T1,f,s,m,rfl,ah,hP.same s1,hf,hs,λof os hm=>?_,λi j bad dx H1 s2 hd=>kS i j bad dx H1 (s1.trans s2) hd,λof os hm=>⟨(kM of os hm).1,λH1 s2=>(kM of os hm).2 H1 (s1.trans s2)⟩⟩
  obtain⟨vz,vv,kk⟩:=kk of os hm
  refine⟨vz,vv,λH1 e1 hG=>⟨rfl,?_⟩⟩
  have PK:ai H H1:=λb u q=>e1 b u (aO q hx) (s1 b u q)
  have ok:=EB T1 m f s
  refine⟨_,rfl,x,_,_,rfl,hG,ok,vz,vv,λd kvs H2 s2 hd hnd hR=>?_⟩
  have N2:=PK.trans s2
  refine⟨_,rfl,_,rfl,x,d,_,_,kvs,rfl,⟨hG.same s2,hnd,hR⟩,hT.same N2,AQ _ _ _,λb hb=>f6.mp (fe.mp hb).1,λpb b H3 Wh hb GW=>?_⟩
  have Rb:=ai.lo N2 hT Wh
  have Zj:=Wh.gR ⟨hG.same s2,hnd,hR⟩
  have hbi:(ku T1 m f s).In (b.1,b.2,112):=by
   have:=f6.mp (fe.mp (m7 hb)).1
   exact⟨this.1,this.2,.inl rfl⟩
  refine⟨_,rfl,_,rfl,_,rfl,aw,λq hq=>?_⟩
  have s4:ai H3 (L2.upd H3 q (.tup [.ref pb,.str (bd "p")])):=ai.upd hq
  refine⟨d,kvs,fY (b.1,b.2,112),q,_,rfl,rfl,ND.same Zj.2.1 s4,⟨pb,by rw[ah,sP];rfl,s4 _ _ GW⟩,hR _ hbi,pr,_,T1.1,T1.2.1,T1.2.2.1,T1.2.2.2,rfl,(Rb.pr hP).same s4,λc H5 s5 hc hc5=>?_⟩
  have QO:=s4.trans s5
  refine⟨_,rfl,_,rfl,_,rfl,_,rfl,x,d,pb,_,_,kvs,b,rfl,Zj.same QO,QO _ _ GW,hbi,ok,vz,vv,Wh.lt.same QO,λH6 Wf=>⟨ax,λr hr=>?_⟩⟩
  have Ra:=(Rb.then QO).trans Wf
  have s7:ai H6 (L2.upd H6 r _):=ai.upd (o:=.tup [.ref c,.ref pb,.str ⟨((ku T1 m f s).moves (b.1,b.2,112)).toArray⟩]) hr
  exact kk r _ (Ra.then s7) (Ra.dom r hr) ⟨b,c,pb,hb,ah,s7 _ _ (Wf.tup hc5),s7 _ _ (Wf.tup (QO _ _ GW))⟩
end
section
variable{P:bo}{w:df}{K:PySem.W.Frag}{mg:bv->Option a9}{base:dC}
theorem yp {jg dU:a6}{iu c5:db}{p:Pm}(T:Txt K mg p base)(fU:Dn K mg "all_counts" mG l9 jg iu)(bS:Dn K mg "ends_there" j0 l8 dU c5)(pJ:aI P w K mg base cB 1 dU c5 l8 (zV P w p.aJ)):aI P w K mg base cB 2 jg iu l9 (Im P w p.aJ):=by
 refine fU.fn.ok fW (λvs H Q E h=>?_) (λcdv A outer s H vs Q E hr h=>?_)
 ·obtain⟨x,d,g,bs,kvs,rfl,_⟩:=h
  rfl
 ·obtain⟨x,dr,g,bs,kr,rfl,Zg,hn,hm,kk⟩:=h
  obtain⟨hG,hdr,hR⟩:=id Zg
  obtain⟨dx,dS,lB,dE,kS,kE,hx,hS,hst,hB,hE,Qc⟩:=id hG
  have hN:kS.length=g.states.length:=Paired.len hst
  have hN3:g.states.length=3*((g.n+1)*(g.m+1)):=by unfold Gd.states;rw[rL,places_len]
  refine⟨_,(aj (ag 2 fW.nd (Ab (Pr:=P) (wo:=w) rfl rfl))
   (aj (dH dA rfl (IE rfl T.vS (aa (oM (tD (Pr:=P) (wo:=w) rfl rfl rfl) rfl T.tT qV (aa (cX (pv 0) rfl) af)) af)) (al 3 fW.nd) (bL (ag 4 fW.nd (oK (jx (ae pJ hr bS (aa (pv 0) (aa (pv 1) (aa (pv 3) af))))) ak ak))
   (aj (dH dA rfl (iT (jt (Pr:=P) (wo:=w) (jA hr) (cX (pv 0) rfl) (pv 3) (λ_ _=>rfl) rfl rfl)) (o8 (n:=2) rfl (bP (al 5 fW.nd) (bP (al 6 fW.nd) lE))) (ao (bM (aK bW (aF bT (pv 6) (jt (Pr:=P) (wo:=w) (jA hr) (pv 1) (pv 5) (λ_ _=>rfl) rfl rfl)) (jt (Pr:=P) (wo:=w) (jA hr) (pv 1) (pv 3) (λ_ _=>rfl) rfl rfl) (aG _)) (ao (ag 4 fW.nd (aF bT (pv 4) (jt (Pr:=P) (wo:=w) (jA hr) (pv 2) (pv 5) (λ_ _=>rfl) rfl rfl)))) aT)))
   (ao (z6 (Pr:=P) (wo:=w) (jA hr) (pv 2) (pv 3) (pv 4) rfl rfl rfl)))))
   (ao (aM (pv 2))))),?_⟩
  refine λd hd=>?_
  have s1:ai H (L2.upd H d (Aq P w d [])):=ai.upd hd
  refine⟨_,rfl,x,_,dx,_,_,rfl,s1 _ _ hx,T.fC,T.gk,oO,dS,kS,rfl,ND.same hS s1,λl hl=>?_⟩
  have s2:=s1.trans (ai.upd (o:=.lst (kS.map λe=>.ref e.2.1)) hl)
  have Q4:l≠d:=λz=>by rw[z,ah]at hl;cases hl
  refine⟨l,_,rfl,cA.of ah,?_⟩
  refine FZ (K:=K) (a:=l) (xs:=kS.map λe=>V.ref e.2.1) (λk σ H2=>∃v3 v4 v5 v6 kvs,σ=[some (.ref x),some (.ref dr),some (.ref d),v3,v4,v5,v6]/\ai H H2/\H2 l=some (.lst (kS.map λe=>V.ref e.2.1))/\H2 d=some (Aq P w d kvs)/\kvs.length<=k/\(∀e∈kvs,jm (Wo d H2) e.2.1 e.1)/\∀s∈g.states.drop (g.states.length-k),jR kvs (fY s)=some (.int (g.cnt s:Int)))
   ⟨_,_,_,_,[],rfl,s2,ah,by rw[aq (Ne.symm Q4),ah],ba _,(λe he=>nomatch he),λs hs=>by rw[Nat.sub_zero,List.drop_length]at hs;exact nomatch hs⟩ (λk σ H2 _ ⟨_,_,_,_,_,_,_,h2,_⟩=>cA.of h2) ?_ ?_
  ·rintro k y σ H2 hk hy ⟨v3,v4,v5,v6,kvs,rfl,s2,hl2,hd2,hlen,hkey,hval⟩
   rw[a_,hN]at hk
   rw[a_,hN]at hy
   obtain⟨e,he,rfl⟩:=jz hy
   obtain⟨s,hs,Xb,l',hel,hsl⟩:=GP.Paired.at hst he
   have hin:=Gd.dI.mp (cb hs)
   have hke:jm H e.2.1 (fY s):=by rw[←Xb];exact hS.keys e (cb he)
   obtain⟨l'',R0,Jz⟩:=vN hst (Gd.dI.mpr hin)
   obtain⟨ps,hps,pp⟩:=Jz
   have hpl:=Paired.len pp
   refine⟨λσ H'=>σ=[some (.ref x),some (.ref dr),some (.ref d),some (.ref e.2.1),some (.int (g.sY s 0:Int)),v5,v6]/\H2=H',?_,?_⟩
   ·refine⟨_,rfl,_,rfl,_,rfl,x,dr,e.2.1,g,bs,kr,s,rfl,Zg.same s2,jm.same hke s2,hin,_,rfl,?_⟩
    cases z:g.stop s with
    |true=>exact pO ⟨by unfold Gd.sY;rw[z];rfl,rfl⟩
    |false=>exact gP ⟨by unfold Gd.sY;rw[z];rfl,rfl⟩
   rintro σ _ ⟨rfl,rfl⟩
   refine⟨_,rfl,x,_,dx,_,_,rfl,s2 _ _ hx,T.fC,T.gk,oO,_,rfl,dS,kS,fY s,e.2.1,.ref l'',rfl,rfl,ND.same hS s2,jm.same hke s2,R0,l'',rfl,⟨_,cA.of (s2 _ _ hps)⟩,?_⟩
   have hc2:ND P w H2 d kvs:=⟨hd2,λe he=>jm.same (hkey e he) Wo.sub⟩
   refine lP (K:=K) (a:=l'') (xs:=ps.map V.ref) (λj σ H4=>∃v5 v6,σ=[some (.ref x),some (.ref dr),some (.ref d),some (.ref e.2.1),some (.int (g.sY s j:Int)),v5,v6]/\H2=H4)
    ⟨_,_,rfl,rfl⟩ (λj σ H4 _ ⟨_,_,_,e4⟩=>by rw[←e4];exact cA.of (s2 _ _ hps)) ?_ ?_
   ·rintro j y σ H4 hy ⟨v5,v6,rfl,rfl⟩
    obtain⟨pt,WS,rfl⟩:=jz hy
    obtain⟨t,ht,q,hq1,hq2⟩:=GP.Paired.at pp WS
    have hb:=Gd.uH hs (cb ht)
    rw[show g.states.length-1-k+1=g.states.length-k by omega]at hb
    have hit:=Gd.ny (cb ht) hin
    refine⟨_,_,rfl,dD.of (s2 _ _ hq1),rfl,_,_,rfl,_,_,rfl,rfl,?_⟩
    refine⟨_,rfl,_,rfl,_,rfl,dr,kr,fY t.1,q,_,rfl,rfl,ND.same hdr s2,jm.same hq2 s2,hR t.1 hit,_,_,rfl,rfl,?_⟩
    refine⟨_,rfl,_,rfl,dr,kr,fY s,e.2.1,_,rfl,rfl,ND.same hdr s2,jm.same hke s2,hR s hin,rfl,_,rfl,?_⟩
    have eC:=Gd.EJ ht
    rw[lG]
    refine cI (λz=>?_) λz=>?_
    ·refine⟨_,rfl,_,rfl,_,rfl,d,kvs,fY t.1,q,_,rfl,rfl,hc2,jm.same hq2 s2,hval t.1 hb,_,_,rfl,rfl,some (.ref q),some (.int t.2),?_,rfl⟩
     rw[eC,if_pos z,Int.natCast_add]
     rfl
    ·refine⟨some (.ref q),some (.int t.2),?_,rfl⟩
     rw[eC,if_neg z]
     rfl
   ·rintro σ H4 ⟨v5,v6,rfl,rfl⟩
    rw[a_,hpl,Gd.G3]
    refine⟨_,rfl,_,rfl,_,rfl,d,kvs,fY s,e.2.1,rfl,rfl,hc2,jm.same hke s2,GJ hn hm (by omega),?_⟩
    have sw:ai (Wo d H2) (Wo d (L2.upd H2 d (Aq P w d (rW kvs (fY s) e.2.1 (.int (g.cnt s:Int)))))):=λb u h=>Wo.in (Wo.ne h) (by rw[aq (Wo.ne h)];exact Wo.sub b u h)
    have Oi:∀{b:a6} {xs:List V},H2 b=some (.tup xs)->b≠d:=λ{b xs} h z=>by rw[z,hd2]at h;cases h
    obtain⟨pk,hk1,hk2⟩:=hke
    refine⟨_,_,_,_,_,rfl,ai.at s2 hd,by rw[aq Q4];exact hl2,ah,bn (wW _ _ _ _) (rc hlen),yZ (λe he=>jm.same (hkey e he) sw) (jm.same ⟨pk,Wo.in (Oi (s2 _ _ hk1)) (s2 _ _ hk1),Wo.in (Oi (s2 _ _ hk2)) (s2 _ _ hk2)⟩ sw),λr hr=>?_⟩
    rw[Ci]
    rw[show g.states.length-(k+1)=g.states.length-1-k by omega,ge (by omega)]at hr
    rw[(bj.mp hs).2]at hr
    by_cases er:fY r=fY s
    ·rw[if_pos er,sG er]
    ·rw[if_neg er]
     rcases cm.mp hr with hr|hr
     ·exact absurd (by rw[hr]) er
     ·exact hval r (by rw[show g.states.length-k=g.states.length-1-k+1 by omega];exact hr)
  ·rintro σ H2 ⟨v3,v4,v5,v6,kvs,rfl,s2,hl2,hd2,hlen,hkey,hval⟩
   rw[a_,hN,Nat.sub_self,List.drop_zero]at hval
   exact⟨_,rfl,kk d kvs H2 s2 hd ⟨hd2,λe he=>jm.same (hkey e he) Wo.sub⟩ λs hs=>hval s (Gd.dI.mpr hs)⟩
theorem Cd {kU aP c6 jg c7:a6}{jF bQ cJ iu cK:db}{p:Pm}(T:Txt K mg p base)(iP:Dn K mg "count_of" o4 Ky kU jF)(bO:Dm K "__init__" "Ground.__init__" bK MA aP bQ)(oV:Mk K p.aJ aP)(kg:aI P w K mg base (vR P w) 6 aP bQ MA (wm P w K p.au p.aJ p.aS p.bz))(bH:Dn K mg "least_rests" jj Ov c6 cJ)(oB:aI P w K mg base cB 1 c6 cJ Ov (DN P w p.aJ))(fU:Dn K mg "all_counts" mG l9 jg iu)(Br:aI P w K mg base cB 2 jg iu l9 (Im P w p.aJ))(bF:Dn K mg "first_begin" jk l9 c7 cK)(oE:aI P w K mg base cB 1 c7 cK l9 (wu P w p.aJ (yt K))):aI P w K mg base (vR P w) 8 kU jF Ky (Fl P w K p.au p.aS p.bz (yt K)):=by
 refine iP.fn.Od lJ (λvs H Q E h=>?_) (λcdv A outer s H vs Q E hr h=>?_)
 ·obtain⟨pr,T1,f,s,m,rfl,_⟩:=h
  rfl
 ·obtain⟨pr,T1,f,s,m,rfl,hP,hT,hf,hs,kk,kS,kM⟩:=h
  refine⟨_,(aj (ag 4 lJ.nd (Ac oV kg (hr.mono (by decide)) rfl T.y9 bO.b .nil (Lets.passes pA) (aa (pv 0) (aa (pv 1) (aa (pv 2) (aa (pv 3) af))))))
   (aj (aD (i:=5) lJ.nd rfl (Or.inr rfl) (ae oB hr bH (aa (pv 4) af)))
   (aj (aD (i:=6) lJ.nd rfl (Or.inr rfl) (ae Br hr fU (aa (pv 4) (aa (pv 5) af))))
   (aj (aD (i:=7) lJ.nd rfl (Or.inr rfl) (jt (Pr:=P) (wo:=w) (jA hr) (pv 5) (bG (aa (ae oE hr bF (aa (pv 4) (aa (pv 5) af))) (aa bA af))) (λ_ _=>rfl) rfl rfl))
   (ao (aM (aA (G5 (K':=K) rfl rfl) rfl T.Qj Pj (aa (B8 (N:=["begin","rests","counts","least"]) rfl (cQ.sW (nt:=1) (ix:=[5,6,7]) rfl (by decide +kernel) (by decide +kernel) (by kernel_rfl) rfl (by kernel_rfl)) (iT (cX (pv 4) rfl)) (λ_ _ _ _ _ _ _=>(aL (i:=0) (show(["begin","rests","counts","least"]:List bv).Nodup by decide +kernel) rfl (Or.inl rfl))) (λ_ _ _ _ _ _ _=>(jt (Pr:=P) (wo:=w) (jA hr) (pv 2) (bG (aa (pv 0) (aa bA af))) (λ_ _=>rfl) rfl rfl)) (λ_ _ _ _ _ _ _=>(aK bW (jt (Pr:=P) (wo:=w) (jA hr) (pv 1) (bG (aa (pv 0) (aa bA af))) (λ_ _=>rfl) rfl rfl) (pv 3) (aG _)))) af)))))))),?_⟩
  refine⟨_,rfl,_,rfl,_,rfl,_,rfl,λx dx hx hdx Yp=>?_⟩
  have s1:ai H (L2.upd (L2.upd H dx (.own x)) x (.ins p.aJ dx [])):=ai.at (ai.upd hdx) hx
  refine⟨x,dx,pr,T1,f,s,m,rfl,ah,hP.same s1,hf,hs,λof os hm=>?_,λi j bad dx H1 s2 hd=>kS i j bad dx H1 (s1.trans s2) hd,λof os hm=>⟨(kM of os hm).1,λH1 s2=>(kM of os hm).2 H1 (s1.trans s2)⟩⟩
  obtain⟨vz,vv,kk⟩:=kk of os hm
  refine⟨vz,vv,λH1 e1 hG=>⟨rfl,?_⟩⟩
  have PK:ai H H1:=λb u q=>e1 b u (aO q hx) (s1 b u q)
  have ok:=EB T1 m f s
  refine⟨_,rfl,x,_,_,rfl,hG,ok,vz,vv,λd kvs H2 s2 hd hnd hR=>?_⟩
  have N2:=PK.trans s2
  refine⟨_,rfl,_,rfl,x,d,_,_,kvs,rfl,⟨hG.same s2,hnd,hR⟩,vz,vv,λd2 Z9 H3 s3 hd2 WX hC=>?_⟩
  have Ku:=N2.trans s3
  refine⟨_,rfl,_,rfl,_,rfl,x,d,_,_,kvs,rfl,GR.same ⟨hG.same s2,hnd,hR⟩ s3,hT.same Ku,AQ _ _ _,λb hb=>f6.mp (fe.mp hb).1,λpb b H4 Wg hb GW=>?_⟩
  have Wj:=ai.lo Ku hT Wg
  have Zi:=Wg.gR (GR.same ⟨hG.same s2,hnd,hR⟩ s3)
  have hC4:=Wg.nk WX
  have hbi:∀b∈iC m f.cps.size s.cps.size,(ku T1 m f s).In (b.1,b.2,112):=λb hb=>by
   have:=f6.mp (fe.mp hb).1
   exact⟨this.1,this.2,.inl rfl⟩
  refine⟨aw,λq hq=>?_⟩
  have s5:ai H4 (L2.upd H4 q (.tup [.ref pb,.str (bd "p")])):=ai.upd hq
  refine⟨d,kvs,fY (b.1,b.2,112),q,_,rfl,rfl,ND.same Zi.2.1 s5,⟨pb,by rw[ah,sP];rfl,s5 _ _ GW⟩,hR _ (hbi b (m7 hb)),?_⟩
  generalize L2.upd H4 q (.tup [.ref pb,.str (bd "p")])=H5 at s5
  have Wi:=Wj.then s5
  have Zh:=Zi.same s5
  have hC5:=ND.same hC4 s5
  obtain⟨dx5,dS,lB,dE,kS5,kE,WC,hS5,aai,⟨ps,hps,pp⟩,hE5,aaY⟩:=id Zh.1
  refine⟨_,rfl,x,_,dx5,_,_,rfl,WC,T.fC,T.lU,xE,lB,rfl,⟨_,cA.of hps⟩,λlc MH=>?_⟩
  have hlen:=Paired.len pp
  have Xh:(iC m f.cps.size s.cps.size).length<=169:=by
   refine bn (List.length_filter_le _ _) ?_
   rw[places_len]
   exact q5 (show f.cps.size+1<=13 by omega) (show s.cps.size+1<=13 by omega)
  have at_:∀i,i<ps.length->ps[i]? =some (ps.getD i 0)/\(iC m f.cps.size s.cps.size)[i]? =some ((iC m f.cps.size s.cps.size).getD i (0,0))/\vQ H5 (ps.getD i 0) ((iC m f.cps.size s.cps.size).getD i (0,0)):=λi hi=>by
   have e:ps[i]? =some (ps.getD i 0):=by rw[dv,a7 hi];rfl
   obtain⟨q,hq,hpq⟩:=GP.Paired.at pp e
   have eq:=mH (d:=(0,0)) hq
   exact⟨e,by rw[eq];exact hq,by rw[eq];exact hpq⟩
  refine AJ ps.length (λi=>decide ((ku T1 m f s).jS ((iC m f.cps.size s.cps.size).getD i (0,0))=(ku T1 m f s).jS b)) (λi=>.int ((ku T1 m f s).cnt (((iC m f.cps.size s.cps.size).getD i (0,0)).1,((iC m f.cps.size s.cps.size).getD i (0,0)).2,112):Nat)) MH (cr (show ps.length<=1000 by omega) (by decide)) (λi H6 s6 hi=>?_) (λH6 s6=>?_) (λi y H6 H7 R S s6 hi hy hY hZ=>?_) λH6 s6 MI=>?_
  ·exact⟨_,_,cA.of (s6 _ _ hps),by rw[cx,(at_ i hi).1];rfl⟩
  ·exact⟨_,cA.of (s6 _ _ hps),by rw[a_];exact ba _⟩
  ·obtain⟨rfl,hy⟩:=hy
   have ey:=hy _ (cA.of (s6 _ _ hps))
   obtain⟨e1,e2,e3⟩:=at_ i hi
   rw[cx,e1]at ey
   cases ey
   have OX:=hbi _ (cb e2)
   generalize (iC m f.cps.size s.cps.size).getD i (0,0)=b' at hY hZ e3 OX
   refine⟨Kp.DR,_,rfl,_,rfl,aw,λq hq=>?_⟩
   have s7:=ai.upd (o:=.tup [.ref (ps.getD i 0),.str (bd "p")]) hq
   have VU:=s6.trans s7
   refine⟨d,kvs,fY (b'.1,b'.2,112),q,_,rfl,rfl,ND.same Zh.2.1 VU,⟨ps.getD i 0,by rw[ah,sP];rfl,VU _ _ e3⟩,hR _ OX,_,rfl,rfl,_,rfl,?_⟩
   rw[lG]
   refine cI (λz=>?_) λz=>hZ (decide_eq_false z) _ s7
   refine⟨_,rfl,_,rfl,aw,λq2 hq2=>?_⟩
   have s8:=ai.upd (o:=.tup [.ref (ps.getD i 0),.str (bd "p")]) hq2
   have X8:=VU.trans s8
   exact⟨d2,Z9,fY (b'.1,b'.2,112),q2,_,rfl,rfl,ND.same hC5 X8,⟨ps.getD i 0,by rw[ah,sP];rfl,X8 _ _ e3⟩,hC _ OX,hY (decide_eq_true z) _ (s7.trans s8)⟩
  ·rw[hlen,CL (iC m f.cps.size s.cps.size) (0,0) (λb'=>decide ((ku T1 m f s).jS b'=(ku T1 m f s).jS b)) (λb'=>V.int ((ku T1 m f s).cnt (b'.1,b'.2,112):Nat))]at MI
   refine⟨lc,((iC m f.cps.size s.cps.size).filter λb'=>decide ((ku T1 m f s).jS b'=(ku T1 m f s).jS b)).map (λb'=>((ku T1 m f s).cnt (b'.1,b'.2,112):Int)),rfl,cA.of (by rw[MI,kb];rfl),?_⟩
   rw[BK,←Gd.NP λb' hb'=>qR hb hb']
   exact kk b H6 (Wi.then s6) hb
end
section
variable{P:bo}{w:df}{K:PySem.W.Frag}{mg:bv->Option a9}{base:dC}
theorem Cb {bh:a6}{aU:db}{p:Pm}(T:Txt K mg p base)(aB:Dn K mg "_law_next" fX l4 bh aU)  :aI P w K mg base cB 1 bh aU l4 (pU K):=by
 refine aB.fn.ok pY (λvs H Q E h=>?_) (λcdv A outer s H vs Q E hr h=>?_)
 ·obtain⟨s,t,ns,k,rfl,_⟩:=h
  rfl
 ·obtain⟨s,t,ns,k,rfl,hC,hk2,kk⟩:=h
  have ht:=hC.at_
  have hk:=hC.k0
  refine⟨_,(aj (wJ (aF bT (bw dP (pv 1) ak (λ_ _=>rfl)) ak) (D5 (pv 1) ak set_list))
   (bL (ag 2 pY.nd (oK (aK wL (aA (aR) rfl T.cu bB (aa (pv 0) af)) ak (aG _)) (bw dP (pv 0) (aF cY (bw dP (pv 1) ak (λ_ _=>rfl)) (aA (aR) rfl T.cu bB (aa (pv 0) af))) (λ_ _=>rfl)) ak))
   (aj (ag 3 pY.nd (aF cY (aF nY (aF bT (aF bT (aF cY (pv 2) ak) (aF nY (aF nY (bw dP (pv 1) ak (λ_ _=>rfl)) (bw dP (pv 1) ak (λ_ _=>rfl))) ak)) ak) ak) ak))
   (ao (aM (aF cY (aF nY (pv 3) (pv 3)) ak)))))),?_⟩
  refine⟨_,rfl,t,_,_,_,rfl,rfl,cA.of ht,rfl,_,_,rfl,rfl,_,rfl,t,_,_,0,rfl,rfl,ht,rfl,?_⟩
  have hq:cA K (upd H t (.lst [.int (k+1)])) s (ns.map V.int):=hC.QI _
  have Sf:cA K (upd H t (.lst [.int (k+1)])) t [.int (k+1)]:=cA.of ah
  have rest:∀c:Int,∀m1:Int,m1=(c % 2147483647+(k+1)*(k+1)*7919+11)*48271 % 2147483647->Q (.int (m1*m1 % 1999999973)) (upd H t (.lst [.int (k+1)])):=λc m1 _ =>
   kk _ (gL _ (by decide)) (f8 _ (by decide))
  refine⟨λσ H2=>H2=upd H t (.lst [.int (k+1)])/\∃c:Int,σ=[some (.ref s),some (.ref t),some (.int c),none],?_,?_⟩
  ·refine⟨_,rfl,_,_,rfl,.inl ⟨_,hq,rfl⟩,_,_,rfl,rfl,_,rfl,?_⟩
   refine cI (λh0=>?_) (λh0=>?_)
   ·have hn:0<ns.length:=by rw[a_]at h0;omega
    have i1:=gL (k+1) (show((ns.length:Nat):Int)≠0 by omega)
    have i2:=f8 (k+1) (show(0:Int)<((ns.length:Nat):Int) by omega)
    obtain⟨j,hj⟩:∃j:Nat,(k+1) % ((ns.length:Nat):Int)=(j:Int):=⟨_,(lr i1).symm⟩
    have hjl:j<ns.length:=by omega
    refine⟨_,rfl,_,rfl,t,_,_,_,rfl,rfl,Sf,rfl,_,rfl,_,_,rfl,.inl ⟨_,hq,rfl⟩,_,_,rfl,rfl,(by show(0:Int)<(((ns.map V.int).length:Nat):Int);rw[a_];omega),?_⟩
    refine⟨s,_,_,.int ns[j],rfl,rfl,hq,?_,rfl,_,rfl⟩
    rw[a_,hj]
    exact gW (by rw[cx,a7 hjl];rfl)
   ·exact⟨rfl,_,rfl⟩
  ·rintro σ H2 ⟨rfl,c,rfl⟩
   refine⟨_,rfl,_,_,rfl,rfl,(by show(0:Int)<_;decide),?_⟩
   refine⟨_,rfl,t,_,_,_,rfl,rfl,Sf,rfl,_,rfl,t,_,_,_,rfl,rfl,Sf,rfl,_,_,rfl,rfl,.inl ⟨by omega,by omega⟩,_,_,rfl,rfl,.inr ⟨by decide,by decide⟩,_,_,rfl,rfl,_,_,rfl,rfl,_,_,rfl,rfl,.inr ⟨by decide,by decide⟩,_,_,rfl,rfl,(by show(0:Int)<_;decide),?_⟩
   have m0:=gL ((c % 2147483647+(k+1)*(k+1)*7919+11)*48271) (show(2147483647:Int)≠0 by decide)
   have m1:=f8 ((c % 2147483647+(k+1)*(k+1)*7919+11)*48271) (show(0:Int)<2147483647 by decide)
   exact⟨_,rfl,_,rfl,_,_,rfl,rfl,.inl ⟨by omega,by omega⟩,_,_,rfl,rfl,(by show(0:Int)<_;decide),rest c _ rfl⟩
theorem Am {jL bh:a6}{iZ aU:db}{p:Pm}(T:Txt K mg p base)(gJ:Dn K mg "_law_great" nJ l4 jL iZ)(aB:Dn K mg "_law_next" fX l4 bh aU)(cN:aI P w K mg base cB 1 bh aU l4 (pU K)):aI P w K mg base cB 2 jL iZ l4 (Fg K):=by
 refine gJ.fn.ok oY (λvs H Q E h=>?_) (λcdv A outer s H vs Q E hr h=>?_)
 ·obtain⟨s,t,ns,k,rfl,_⟩:=h
  rfl
 ·obtain⟨s,t,ns,k,rfl,hC,hk2,kk⟩:=h
  have hk:=hC.k0
  refine⟨_,(aj (ag 2 oY.nd (ae cN hr aB (aa (pv 0) (aa (pv 1) af))))
   (bL (ag 3 oY.nd (oK (aK wL (aA (aR) rfl T.cu bB (aa (pv 0) af)) ak (aG _)) (bw dP (pv 0) (aF cY (bw dP (pv 1) ak (λ_ _=>rfl)) (aA (aR) rfl T.cu bB (aa (pv 0) af))) (λ_ _=>rfl)) ak))
   (ao (aM (aF wK (aF cY (aF bT (aF cY (pv 3) (aF Ae ak ak)) (aF nY (pv 2) (aF Ae ak ak))) (aF nY ak (aF Ae ak ak))) (aF Ae ak ak)))))),?_⟩
  refine⟨_,rfl,_,rfl,s,t,ns,k,rfl,hC,hk2,λm hm hm2=>?_⟩
  have hq:cA K (upd H t (.lst [.int (k+1)])) s (ns.map V.int):=hC.QI _
  have Sf:cA K (upd H t (.lst [.int (k+1)])) t [.int (k+1)]:=cA.of ah
  refine⟨λσ H2=>H2=upd H t (.lst [.int (k+1)])/\∃c:Int,σ=[some (.ref s),some (.ref t),some (.int m),some (.int c)],?_,?_⟩
  ·refine⟨_,rfl,_,_,rfl,.inl ⟨_,hq,rfl⟩,_,_,rfl,rfl,_,rfl,?_⟩
   refine cI (λh0=>?_) (λh0=>?_)
   ·have hn:0<ns.length:=by rw[a_]at h0;omega
    have i1:=gL (k+1) (show((ns.length:Nat):Int)≠0 by omega)
    have i2:=f8 (k+1) (show(0:Int)<((ns.length:Nat):Int) by omega)
    obtain⟨j,hj⟩:∃j:Nat,(k+1) % ((ns.length:Nat):Int)=(j:Int):=⟨_,(lr i1).symm⟩
    have hjl:j<ns.length:=by omega
    refine⟨_,rfl,_,rfl,t,_,_,_,rfl,rfl,Sf,rfl,_,rfl,_,_,rfl,.inl ⟨_,hq,rfl⟩,_,_,rfl,rfl,(by show(0:Int)<(((ns.map V.int).length:Nat):Int);rw[a_];omega),?_⟩
    refine⟨s,_,_,.int ns[j],rfl,rfl,hq,?_,rfl,_,rfl⟩
    rw[a_,hj]
    exact gW (by rw[cx,a7 hjl];rfl)
   ·exact⟨rfl,_,rfl⟩
  ·rintro σ H2 ⟨rfl,c,rfl⟩
   have ZY:(0:Int)<(10:Int) ^ (39:Int).toNat:=by decide +kernel
   refine⟨_,rfl,_,_,rfl,rfl,⟨by decide,by decide,by decide⟩,_,_,rfl,rfl,ZY,_,rfl,_,_,rfl,rfl,⟨by decide,by decide,by decide⟩,_,_,rfl,rfl,.inl ⟨by omega,by omega⟩,_,_,rfl,rfl,?_⟩
   have p2:(0:Int)<2*(10:Int) ^ (39:Int).toNat:=by omega
   refine⟨_,_,rfl,rfl,⟨by decide,by decide,by decide⟩,_,_,rfl,rfl,.inl ⟨by decide,by decide⟩,_,_,rfl,rfl,p2,_,_,rfl,rfl,⟨by decide,by decide,by decide⟩,_,_,rfl,rfl,?_⟩
   have m0:=gL (c % (10:Int) ^ (39:Int).toNat+m*(10:Int) ^ (28:Int).toNat) (Int.ne_of_gt p2)
   have m1:=f8 (c % (10:Int) ^ (39:Int).toNat+m*(10:Int) ^ (28:Int).toNat) p2
   have Zp:(10:Int) ^ (39:Int).toNat=10 ^ 39:=rfl
   refine kk _ ?_ ?_
   ·rw[←Zp];omega
   ·rw[←Zp];omega
theorem Ak {jJ bh:a6}{iX aU:db}{p:Pm}(T:Txt K mg p base)(gH:Dn K mg "_law_signs" nG Kw jJ iX)(aB:Dn K mg "_law_next" fX l4 bh aU)(cN:aI P w K mg base cB 1 bh aU l4 (pU K)):aI P w K mg base cB 2 jJ iX Kw (BP K):=by
 refine gH.fn.ok jW (λvs H Q E h=>?_) (λcdv A outer s H vs Q E hr h=>?_)
 ·obtain⟨s,t,ns,k,n,rfl,_⟩:=h
  rfl
 ·obtain⟨s,t,ns,k,n,rfl,hC,hk,hn1,hn,kk⟩:=h
  refine⟨_,(aj (aD (i:=3) jW.nd rfl (Or.inr rfl) bA)
   (aj (aD (i:=3) jW.nd rfl (Or.inr rfl) (aF mZ (pv 3) bA))
   (aj (aD (i:=4) jW.nd rfl (Or.inr rfl) (ae cN hr aB (aa (pv 0) (aa (pv 1) af))))
   (aj (aD (i:=5) jW.nd rfl (Or.inr rfl) (bw dP (kD (aa ak (aa ak (aa ak (aa ak (aa ak (aa ak af))))))) (aF cY (pv 4) ak) (λ_ _=>rfl)))
   (ao (aM (nN PySem.F.plainAttrs_str PySem.F.slot_str_join PySem.F.type_str_join FG bA (aa (nM (N:=Yz) rfl (cQ.sW (nt:=1) (ix:=[3,4,5]) rfl (by decide +kernel) (by decide +kernel) (by kernel_rfl) rfl (by kernel_rfl)) (gZ rfl T.k6 (aa (pv 2) af)) (λ_ _ _ _ _ _ _=>(aL (i:=0) (show(Yz:List bv).Nodup by decide +kernel) rfl (Or.inl rfl))) (λ_ _ _ _ _ _ _=>(bw uu (pv 1) (aF cY (aF bT (aF fH (pv 2) ak) (aF nY (pv 0) (pv 3))) (aA (AL) rfl T.cu bB (aa (pv 1) af))) (λ_ _=>rfl)))) af)))))))),?_⟩
  refine⟨_,rfl,_,_,rfl,rfl,(by decide +kernel),?_⟩
  obtain⟨S,hS⟩:∃S:bv,S=bd " !#$&'()*+,./0123456789:;<=>?@ABCDEFGHIJKLMNOPQRSTUVWXYZ" ++bd "[\\]^_`abcdefghijklmnopqrstuvwxyz{|}~" :=⟨_,rfl⟩
  have Y7:S.cps.size=92:=by rw[hS];kernel_rfl
  have Xi:S.cps.all pB=true:=by rw[hS];kernel_rfl
  have hS3:S.cps.toList.Nodup:=xC (by rw[hS];kernel_rfl)
  rw[←hS]
  refine⟨_,rfl,_,rfl,s,t,ns,k,rfl,hC,hk,λm hm hm2=>?_⟩
  refine⟨by show 6<=b_;decide,λq hq=>?_⟩
  have s1:ai (upd H t (.lst [.int (k+1)])) (upd (upd H t (.lst [.int (k+1)])) q (.lst [.int 1,.int 3,.int 5,.int 7,.int 9,.int 11])):=ai.upd hq
  have hq1:upd (upd H t (.lst [.int (k+1)])) q (.lst [.int 1,.int 3,.int 5,.int 7,.int 9,.int 11]) q=some (.lst [.int 1,.int 3,.int 5,.int 7,.int 9,.int 11]):=ah
  generalize upd (upd H t (.lst [.int (k+1)])) q (.lst [.int 1,.int 3,.int 5,.int 7,.int 9,.int 11])=H1 at s1 hq1 ⊢
  obtain⟨tv,hmt,hat⟩:=CY [1,3,5,7,9,11] m (by decide)
  obtain⟨htv,ht1,Kz⟩:=(by decide:∀c∈[(1:Int),3,5,7,9,11],(c=1\/c=3\/c=5\/c=7\/c=9\/c=11)/\0<=c/\c<=11) tv hmt
  refine⟨_,rfl,_,_,rfl,rfl,(by show(0:Int)<6;decide),?_⟩
  refine⟨q,_,_,.int tv,rfl,rfl,cA.of hq1,hat,?_⟩
  refine⟨rfl,_,rfl,n,rfl,by omega,by omega,λl hl=>?_⟩
  refine AI n (λi=>sg (S.cps.toList.getD ((m / 6+(i:Int)*tv) % 92).toNat 0)) hl (cr hn (by decide)) (λi H2 s2 hi=>?_) (λH2 s2=>?_) (λi x H2 H3 R s2 hi y hR=>?_) λH2 s2 hl2=>?_
  ·show i<((n:Nat):Int).toNat
   omega
  ·show((n:Nat):Int).toNat<=n
   omega
  ·obtain⟨rfl,rfl⟩:=y
   refine⟨Kp.DR,?_⟩
   have i1:=gL (m / 6+(i:Int)*tv) (show(92:Int)≠0 by decide)
   have i2:=f8 (m / 6+(i:Int)*tv) (show(0:Int)<92 by decide)
   obtain⟨j,hj⟩:∃j:Nat,(m / 6+(i:Int)*tv) % 92=(j:Int):=⟨_,(lr i1).symm⟩
   have hjl:j<S.cps.toList.length:=by rw[ij];omega
   refine⟨_,rfl,_,rfl,_,_,rfl,rfl,⟨by decide,by decide⟩,_,rfl,_,rfl,_,_,rfl,rfl,.inl ⟨by omega,by omega⟩,_,_,rfl,rfl,_,rfl,S,rfl,(by show S.cps.size<=_;rw[Y7];decide),_,_,rfl,rfl,(by show(0:Int)<(S.cps.size:Int);omega),?_⟩
   have eS:((S.length:Nat):Int)=92:=by show((S.cps.size:Nat):Int)=92;omega
   refine⟨S,_,S.cps.toList[j],rfl,rfl,(by show S.cps.size<=_;rw[Y7];decide),(by rw[kl,eS,hj];exact gW (a7 hjl)),?_⟩
   have e:S.cps.toList[j]=S.cps.toList.getD ((m / 6+(i:Int)*tv) % 92).toNat 0:=by
    rw[hj,o0,mH (a7 hjl)]
   rw[e]
   exact hR _ (ai.refl _)
  ·refine⟨l,(dk n).map (λi:Nat=>S.cps.toList.getD ((m / 6+(i:Int)*tv) % 92).toNat 0),rfl,rfl,?_,?_,kk _ H2 ⟨?_,?_,λc hc=>?_,Ej hS3 n (λi _=>?_) λi j hij hj=>KU htv hij (by omega)⟩ ?_ (s1.trans s2)⟩
   ·rw[kb]
    exact cA.of hl2
   ·rw[a_,io];omega
   ·show 0<((dk n).map _).length
    rw[a_,io];omega
   ·show((dk n).map _).length<=100
    rw[a_,io];omega
   ·obtain⟨i,hi,rfl⟩:=eI.mp (show c∈(dk n).map _ from hc)
    have i1:=gL (m / 6+(i:Int)*tv) (show(92:Int)≠0 by decide)
    have i2:=f8 (m / 6+(i:Int)*tv) (show(0:Int)<92 by decide)
    obtain⟨j,hj⟩:∃j:Nat,(m / 6+(i:Int)*tv) % 92=(j:Int):=⟨_,(lr i1).symm⟩
    have hjl:j<S.cps.toList.length:=by rw[ij];omega
    rw[hj,o0,mH (a7 hjl)]
    exact Array.all_eq_true_iff_forall_mem.mp Xi _ (Array.mem_toList_iff.mp (g0 hjl))
   ·have i1:=gL (m / 6+(i:Int)*tv) (show(92:Int)≠0 by decide)
    have i2:=f8 (m / 6+(i:Int)*tv) (show(0:Int)<92 by decide)
    rw[ij]
    omega
   ·show((dk n).map _).length=n
    rw[a_,io]
theorem Al {jK bh jL:a6}{iY aU iZ:db}{p:Pm}(T:Txt K mg p base)(bZ:Dn K mg "_law_price" nH Rm jK iY)(aB:Dn K mg "_law_next" fX l4 bh aU)(cN:aI P w K mg base cB 1 bh aU l4 (pU K))(gJ:Dn K mg "_law_great" nJ l4 jL iZ)(Dj:aI P w K mg base cB 2 jL iZ l4 (Fg K)):aI P w K mg base cB 3 jK iY Rm (BQ K):=by
 refine bZ.fn.ok sD (λvs H Q E h=>?_) (λcdv A outer s H vs Q E hr h=>?_)
 ·obtain⟨s,t,ns,k,c,rfl,_⟩:=h
  rfl
 ·obtain⟨s,t,ns,k,c,rfl,hC,hk2,kk⟩:=h
  have hk:=hC.k0
  refine⟨_,(aj (ag 3 sD.nd (ae cN hr aB (aa (pv 0) (aa (pv 1) af))))
   (aj (bM (aK bW (pv 2) ak (aG _)) (ao (aM (bG (aa (aF wK (aF cY (pv 3) ak) ak) (aa ak af))))) aT)
   (aj (bM (aK bW (pv 2) ak (aG _)) (ao (aM (bG (aa (aF wK (aF cY (pv 3) ak) ak) (aa (aF bT ak (aF cY (aF fH (pv 3) ak) ak)) af))))) aT)
   (aj (bM (aK bW (pv 2) ak (aG _)) (ao (aM (bG (aa (aF wK (aF cY (pv 3) ak) ak) (aa ak af))))) aT)
   (ao (aM (bG (aa (ae Dj hr gJ (aa (pv 0) (aa (pv 1) af))) (aa (aF bT ak (aF cY (aF fH (pv 3) ak) ak)) af))))))))),?_⟩
  refine⟨_,rfl,_,rfl,s,t,ns,k,rfl,hC,by omega,λm hm hm2=>?_⟩
  have ht:upd H t (.lst [.int (k+1)]) t=some (.lst [.int (k+1)]):=ah
  have last:∀(f:cG) (r:a6),Py f->upd H t (.lst [.int (k+1)]) r=none->Q (.ref r) (upd (upd H t (.lst [.int (k+1)])) r (.tup [.int f.1,.int f.2])):=λf r hf hr=>by
   have nr:r≠t:=λz=>by rw[z,ht]at hr;cases hr
   exact kk f r _ (k+1) hf (Wo.step (ai.upd hr)) (by rw[aq (Ne.symm nr)];exact ht) (by omega) (by omega) (wc hr) ah
  refine⟨_,rfl,rfl,_,rfl,oi (λh0=>?_) λh0=>?_⟩
  ·exact⟨_,rfl,_,_,rfl,rfl,(by show(0:Int)<_;decide),_,_,rfl,rfl,aw,λr hr=>last (m % 7-1,1) r ⟨by show(1:Int)<=1;omega,by show(1:Int)<=999;omega,by show _<=m % 7-1;omega,by show m % 7-1<=_;omega⟩ hr⟩
  refine⟨_,rfl,rfl,_,rfl,oi (λh1=>?_) λh1=>?_⟩
  ·exact⟨_,rfl,_,_,rfl,rfl,(by show(0:Int)<_;decide),_,_,rfl,rfl,_,rfl,_,_,rfl,rfl,⟨by decide,by decide⟩,_,_,rfl,rfl,(by show(0:Int)<_;decide),_,_,rfl,rfl,aw,λr hr=>last (m % 13-4,1+m / 13 % 4) r ⟨by show 1<=1+m / 13 % 4;omega,by show 1+m / 13 % 4<=999;omega,by show _<=m % 13-4;omega,by show m % 13-4<=_;omega⟩ hr⟩
  refine⟨_,rfl,rfl,_,rfl,oi (λh2=>?_) λh2=>?_⟩
  ·exact⟨_,rfl,_,_,rfl,rfl,(by show(0:Int)<_;decide),_,_,rfl,rfl,aw,λr hr=>last (m % 9-6,1) r ⟨by show(1:Int)<=1;omega,by show(1:Int)<=999;omega,by show _<=m % 9-6;omega,by show m % 9-6<=_;omega⟩ hr⟩
  refine⟨_,rfl,_,rfl,s,t,ns,k+1,rfl,hC.step (by omega),by omega,λg g1 g2=>?_⟩
  refine⟨_,rfl,_,_,rfl,rfl,⟨by decide,by decide⟩,_,_,rfl,rfl,(by show(0:Int)<_;decide),_,_,rfl,rfl,aw,λr hr=>?_⟩
  have Kz:upd (upd H t (.lst [.int (k+1)])) t (.lst [.int (k+1+1)]) t=some (.lst [.int (k+1+1)]):=ah
  have nr:r≠t:=λz=>by rw[z,Kz]at hr;cases hr
  refine kk (g,1+m / 13 % 999) r _ (k+1+1) ⟨by show 1<=1+m / 13 % 999;omega,by show 1+m / 13 % 999<=999;omega,g1,g2⟩ ?_ (by rw[aq (Ne.symm nr)];exact Kz) (by omega) (by omega) (wc (wc hr)) ah
  have e:=Wo.step (H:=upd H t (.lst [.int (k+1)])) (ai.upd (o:=.tup [.int g,.int (1+m / 13 % 999)]) hr)
  rw[Wo.set]at e
  exact e
end
section
variable{P:bo}{w:df}{K:PySem.W.Frag}{mg:bv->Option a9}{base:dC}
theorem Aj {jI bh jJ jK:a6}{iW aU iX iY:db}{p:Pm}(T:Txt K mg p base)(gG:Dn K mg "_law_table" nF Kw jI iW)(aB:Dn K mg "_law_next" fX l4 bh aU)(cN:aI P w K mg base cB 1 bh aU l4 (pU K))(gH:Dn K mg "_law_signs" nG Kw jJ iX)(Di:aI P w K mg base cB 2 jJ iX Kw (BP K))(bZ:Dn K mg "_law_price" nH Rm jK iY)(qw:aI P w K mg base cB 3 jK iY Rm (BQ K)):aI P w K mg base cB 4 jI iW Kw (Fb K):=by
 refine gG.fn.ok dO (λvs H Q E h=>?_) (λcdv A outer s H vs Q E hr h=>?_)
 ·obtain⟨s,t,ns,k,n,rfl,_⟩:=h
  rfl
 ·obtain⟨s,t,ns,k,n,rfl,hC,hk,hn1,hn6,kk⟩:=h
  have hk0:=hC.k0
  refine⟨_,(aj (ag 3 dO.nd (ae cN hr aB (aa (pv 0) (aa (pv 1) af))))
   (bL (aD (i:=4) dO.nd rfl (Or.inr rfl) (bw dP (kD (aa ak (aa ak (aa ak (aa ak (aa ak (aa ak (aa ak (aa ak af))))))))) (aF cY (pv 3) ak) (λ_ _=>rfl)))
   (bL (ag 5 dO.nd (ae Di hr gH (aa (pv 0) (aa (pv 1) (aa (pv 2) af)))))
   (bL (wI (i:=6) (N:=Yy) dO.nd rfl (Or.inl rfl) rfl (cQ.sW (nt:=1) (ix:=[0,1,2,4]) rfl (by decide +kernel) (by decide +kernel) (by kernel_rfl) rfl (by kernel_rfl)) (gZ rfl T.k6 (aa (pv 2) af)) (λ_ _ _ _ _ _ _=>(aL (i:=0) (show(Yy:List bv).Nodup by decide +kernel) rfl (Or.inl rfl))) (λ_ _ _ _ _ _ _=>(nM (N:=Yx) rfl (cQ.sW (nt:=1) (ix:=[1,2,4]) rfl (by decide +kernel) (by decide +kernel) (by kernel_rfl) rfl (by kernel_rfl)) (gZ rfl T.k6 (aa (pv 3) af)) (λ_ _ _ _ _ _ _=>(aL (i:=0) (show(Yx:List bv).Nodup by decide +kernel) rfl (Or.inl rfl))) (λ_ _ _ _ _ _ _=>(ae qw hr bZ (aa (pv 1) (aa (pv 2) (aa (pv 3) af))))))))
   (bL (dH dA rfl (gZ rfl T.k6 (aa (pv 2) af)) (al 7 dO.nd) (bL (bM (aK wL (aF cY (aF fH (pv 3) ak) ak) ak (aG _)) (ao (wJ (bG (aa (aF wK (bw b7 (bw dP (bw dP (pv 6) (pv 7) (λ_ _=>rfl)) (pv 7) (λ_ _=>rfl)) ak (λ_ _=>rfl)) ak) (aa (bw b7 (bw dP (bw dP (pv 6) (pv 7) (λ_ _=>rfl)) (pv 7) (λ_ _=>rfl)) ak (λ_ _=>rfl)) af))) (D5 (bw dP (pv 6) (pv 7) (λ_ _=>rfl)) (pv 7) set_list))) aT)
   (ao (dH dA rfl (gZ rfl T.k6 (aa (pv 7) af)) (al 8 dO.nd) (ao (bM (aK bW (aF cY (aF fH (pv 3) ak) ak) ak (aG _)) (ao (wJ (bw dP (bw dP (pv 6) (pv 8) (λ_ _=>rfl)) (pv 7) (λ_ _=>rfl)) (D5 (bw dP (pv 6) (pv 7) (λ_ _=>rfl)) (pv 8) set_list))) aT))))))
   (bL (ag 9 dO.nd (oK (aK wL (aF cY (aF fH (pv 3) ak) ak) ak (aG _)) (bG (aa (aF cY (aF fH (pv 3) ak) ak) (aa ak af))) (ae qw hr bZ (aa (pv 0) (aa (pv 1) (aa (pv 4) af))))))
   (bL (ag 10 dO.nd (oK (aK wL (aF cY (aF fH (pv 3) ak) ak) ak (aG _)) (bG (aa (aF cY (aF fH (pv 3) ak) ak) (aa ak af))) (ae qw hr bZ (aa (pv 0) (aa (pv 1) (aa (pv 4) af))))))
   (ao (aM (bG (aa (pv 5) (aa (pv 6) (aa (pv 9) (aa (pv 10) af)))))))))))))),?_⟩
  refine⟨_,rfl,_,rfl,s,t,ns,k,rfl,hC,by omega,λm hm hm2=>?_⟩
  have w1:ai (Wo t H) (Wo t (upd H t (.lst [.int (k+1)]))):=by rw[Wo.set];exact ai.refl _
  have ht1:upd H t (.lst [.int (k+1)]) t=some (.lst [.int (k+1)]):=ah
  have C1:=hC.step (k':=k+1) (by omega)
  generalize upd H t (.lst [.int (k+1)])=H1 at w1 ht1 C1 ⊢
  refine⟨λσ H2=>∃c:Int,σ=[some (.ref s),some (.ref t),some (.int n),some (.int m),some (.int c),none,none,none,none,none,none]/\ai H1 H2,?_,?_⟩
  ·refine⟨by show 8<=b_;decide,λq hq=>⟨_,rfl,_,_,rfl,rfl,(by show(0:Int)<8;decide),?_⟩⟩
   obtain⟨c,_,hc⟩:=CY [0,1,2,0,3,2,0,1] m (by decide)
   exact⟨q,_,_,.int c,rfl,rfl,cA.of ah,hc,c,rfl,ai.upd hq⟩
  rintro σ H2 ⟨c,rfl,s2⟩
  refine⟨λσ H3=>∃sg,zH sg/\sg.cps.size=n/\σ=[some (.ref s),some (.ref t),some (.int n),some (.int m),some (.int c),some (.str sg),none,none,none,none,none]/\ai (Wo t H) (Wo t H3)/\H3 t=some (.lst [.int (k+1+1)]),?_,?_⟩
  ·refine⟨_,rfl,_,rfl,_,rfl,s,t,ns,k+1,n,rfl,C1.same s2,by omega,hn1,hn6,λsg H3 hsg hz s3=>⟨sg,hsg,hz,rfl,w1.trans ((Wo.same s2).trans (Wo.step s3)),s3 _ _ ah⟩⟩
  rintro σ H3 ⟨sg,hsg,hz,rfl,w3,LL⟩
  refine⟨λσ H4=>∃l k1,σ=[some (.ref s),some (.ref t),some (.int n),some (.int m),some (.int c),some (.str sg),some (.ref l),none,none,none,none]/\xU K H t l n 0 k1 H4/\H l=none/\k<=k1/\k1<=k+100,?_,?_⟩
  ·refine⟨_,rfl,n,rfl,by omega,by omega,λl hl=>?_⟩
   have PN:l≠t:=λz=>by rw[z,LL]at hl;cases hl
   have YU:H l=none:=Wo.back w3 LL hl
   refine⟨λi m' ys H4=>m'=n-i/\i<=n/\∃rs rows k1,ys=rs.map V.ref/\rs.length=i/\tM K (Wo t H4) l rs rows/\(∀r∈rows,r.length=n)/\(∀r∈rows,∀f∈r,Py f)/\(∀r∈rs,H r=none)/\ai (Wo t H3) (Wo t H4)/\H4 t=some (.lst [.int k1])/\k+2<=k1/\k1<=k+2+12*(i:Int),
    ⟨n,rfl,em _,[],[],_,rfl,rfl,?_,(λr hr=>by cases hr),(λr hr=>by cases hr),(λr hr=>by cases hr),?_,(by rw[aq PN.symm];exact LL),by omega,by omega⟩,?_⟩
   ·rw[Wo.aq PN]
    exact⟨rfl,ah,List.nodup_nil,(by simp),λi r row h1=>by simp at h1⟩
   ·rw[Wo.aq PN];exact ai.upd (Wo.free hl)
   rintro i m' ys H4 ⟨rfl,hi,rs,rows,k1,rfl,hrs,LM,r1,r2,r3,s4,RS,PY,Tt⟩
   have w4:=w3.trans s4
   by_cases hlt:i<n
   ·refine .inr ⟨(by show i<((n:Nat):Int).toNat;omega),?_⟩
    rintro x H5 ⟨rfl,rfl⟩
    refine⟨Kp.DR,?_⟩
    refine⟨_,rfl,n,rfl,by omega,by omega,λl2 hl2=>?_⟩
    have Ek:l2≠t:=λz=>by rw[z,RS]at hl2;cases hl2
    have W5:H l2=none:=Wo.back w4 RS hl2
    refine⟨λj m' ys H6=>m'=n-j/\j<=n/\H6 l2=some (.lst ys)/\∃ps row k2,ys=ps.map V.ref/\ps.length=j/\Paired (kh K (Wo t H6)) ps row/\(∀f∈row,Py f)/\ai (Wo t H5) (Wo t H6)/\H6 t=some (.lst [.int k2])/\k1<=k2/\k2<=k1+2*(j:Int),
     ⟨n,rfl,em _,ah,[],[],k1,rfl,rfl,.nil,(λf hf=>by cases hf),?_,(by rw[aq Ek.symm];exact RS),by omega,by omega⟩,?_⟩
    ·rw[Wo.aq Ek];exact ai.upd (Wo.free hl2)
    rintro j m' ys H6 ⟨rfl,hj,MI,ps,row,k2,rfl,hps,hP,ok,s6,LJ,Tr,Wt⟩
    by_cases TN:j<n
    ·refine .inr ⟨(by show j<((n:Nat):Int).toNat;omega),?_⟩
     rintro x H7 ⟨rfl,rfl⟩
     refine⟨Kp.DR,?_⟩
     refine⟨_,rfl,_,rfl,_,rfl,s,t,ns,k2,c,rfl,hC.off (w4.trans s6) LJ (by omega),by omega,λf q H8 k3 Kv w8 YH PX PV hqn YL=>?_⟩
     have nq:q≠t:=qe YL YH (by intro z;cases z)
     have W2:Wo t H8 l2=some (.lst (ps.map V.ref)):=w8 _ _ (Wo.in Ek MI)
     refine⟨Wo.sub _ _ W2,?_,n-(j+1),by omega,rfl,TN,ah,ps++[q],row++[f],k3,by rw[du];rfl,by rw[ce,hps];rfl,?_,?_,?_,by rw[aq Ek.symm];exact YH,by omega,by omega⟩
     ·rw[a_,hps]
      exact cq (show j<100 by omega) (by decide)
     ·rw[Wo.aq Ek]
      refine GP.Paired.snoc (Paired.gO hP λa b z=>dD.off W2 (z.same w8)) ?_
      exact dD.off W2 (dD.of (Wo.in nq YL))
     ·intro g hg
      rcases eM.mp hg with hg|hg
      ·exact ok g hg
      ·rw[c_.mp hg];exact Kv
     ·rw[Wo.aq Ek]
      exact ai.at (s6.trans w8) (Wo.free hl2)
    ·have ej:j=n:=by omega
     refine .inl ⟨(by show((n:Nat):Int).toNat<=j;omega),?_⟩
     have hlo:Wo t H6 l=some (.lst (rs.map V.ref)):=s6 _ _ LM.at_
     refine⟨Wo.sub _ _ hlo,?_,n-(i+1),by omega,rfl,hlt,rs++[l2],rows++[row],k2,by rw[du];rfl,by rw[ce,hrs];rfl,?_,?_,?_,?_,?_,by rw[aq PN.symm];exact LJ,by omega,by omega⟩
     ·rw[a_,hrs]
      exact cq (show i<100 by omega) (by decide)
     ·rw[Wo.aq PN]
      exact LM.snoc s6 (Wo.free hl2) (Wo.in Ek MI) hP
     ·intro r hr
      rcases eM.mp hr with hr|hr
      ·exact r1 r hr
      ·rw[c_.mp hr,←Paired.len hP,hps,ej]
     ·intro r hr
      rcases eM.mp hr with hr|hr
      ·exact r2 r hr
      ·rw[c_.mp hr];exact ok
     ·intro r hr
      rcases eM.mp hr with hr|hr
      ·exact r3 r hr
      ·rw[c_.mp hr];exact W5
     ·rw[Wo.aq PN]
      exact ai.at (s4.trans s6) (Wo.free hl)
   ·have ei:i=n:=by omega
    subst ei
    refine .inl ⟨(by show((i:Nat):Int).toNat<=i;omega),?_⟩
    refine⟨l,k1,rfl,⟨rs,rows,LM,⟨by rw[←LM.len,hrs],r1⟩,λa b f hf=>?_,r3,w4,RS⟩,YU,by omega,by omega⟩
    obtain⟨r,hr,hfr⟩:=hf.mem
    exact⟨(r2 r hr f hfr).l,λ_ _=>r2 r hr f hfr⟩
  rintro σ H4 ⟨l,k1,rfl,P4,YU,PY,Tt⟩
  refine⟨λσ H5=>∃v7 v8,σ=[some (.ref s),some (.ref t),some (.int n),some (.int m),some (.int c),some (.str sg),some (.ref l),v7,v8,none,none]/\xU K H t l n n k1 H5,?_,?_⟩
  ·refine⟨_,rfl,n,rfl,by omega,by omega,?_⟩
   rw[show((n:Nat):Int).toNat=n by omega]
   refine kJ (lo:=0) (n:=n) (λa σ H5=>∃v7 v8,σ=[some (.ref s),some (.ref t),some (.int n),some (.int m),some (.int c),some (.str sg),some (.ref l),v7,v8,none,none]/\xU K H t l n a k1 H5) ⟨_,_,rfl,P4⟩ ?_ (λσ H5 h=>h)
   rintro a σ H5 ha ⟨v7,v8,rfl,P5⟩
   refine⟨λσ H6=>σ=[some (.ref s),some (.ref t),some (.int n),some (.int m),some (.int c),some (.str sg),some (.ref l),some (.int (0+(a:Int))),v8,none,none]/\xU K H t l n (a+1) k1 H6,?_,?_⟩
   ·refine⟨_,rfl,_,_,rfl,rfl,⟨by decide,by decide⟩,_,_,rfl,rfl,(by show(0:Int)<3;decide),_,_,rfl,rfl,_,rfl,?_⟩
    obtain⟨rs,rows,LM,sq,dg,nw,s5,HD⟩:=P5
    refine cI (λ_=>?_) λ_=>⟨rfl,rs,rows,LM,sq,λi j f hf=>⟨(dg i j f hf).1,λe h=>(dg i j f hf).2 e (by omega)⟩,nw,s5,HD⟩
    have ha':a<rows.length:=by rw[sq.1];exact ha
    have ha2:a<rs.length:=by rw[LM.len];exact ha'
    obtain⟨ps,ON,hPa⟩:=LM.row a _ _ (a7 ha2) (a7 ha')
    have la:=sq.2 rows[a] (g0 ha')
    have hap:a<ps.length:=by rw[Paired.len hPa,la];exact ha
    obtain⟨f,ef,hf⟩:=Paired.at hPa (a7 hap)
    have Kv:=(dg a a f ⟨_,a7 ha',ef⟩).2 rfl (ba _)
    have P0:=Wo.sub _ _ LM.at_
    have OM:=Wo.sub _ _ ON
    have hf':dD K H5 ps[a] [.int f.1,.int f.2]:=kh.same Wo.sub hf
    have ea:G9 (rs.map V.ref) (0+(a:Int))=some (.ref rs[a]):=by rw[kl];exact gW (by rw[cx,a7 ha2];rfl)
    have eb:G9 (ps.map V.ref) (0+(a:Int))=some (.ref ps[a]):=by rw[kl];exact gW (by rw[cx,a7 hap];rfl)
    refine⟨_,rfl,_,rfl,l,_,_,_,rfl,rfl,cA.of P0,ea,_,rfl,rs[a],_,_,_,rfl,rfl,cA.of OM,eb,ps[a],_,_,_,rfl,rfl,hf',rfl,_,_,rfl,rfl,_,rfl,_,rfl,l,_,_,_,rfl,rfl,cA.of P0,ea,_,rfl,rs[a],_,_,_,rfl,rfl,cA.of OM,eb,ps[a],_,_,_,rfl,rfl,hf',rfl,aw,λq hq=>?_⟩
    have nq:q≠t:=λz=>by rw[z,HD]at hq;cases hq
    have N1:ai H5 (upd H5 q (.tup [.int (f.1-4),.int f.2])):=ai.upd hq
    have LM1:=LM.same (Wo.same (t:=t) N1)
    have WN:=Wo.same (t:=t) N1 _ _ ON
    have Oe:rs[a]≠t:=Wo.ne ON
    refine⟨_,rfl,_,rfl,l,_,_,.ref rs[a],rfl,rfl,cA.of (N1 _ _ P0),ea,_,rfl,rs[a],_,_,a,rfl,rfl,N1 _ _ OM,by rw[kl];exact Js (by rw[a_];exact hap),rfl,rs,rows.set a (rows[a].set a (f.1-4,f.2)),?_,⟨by rw[si];exact sq.1,λr hr=>?_⟩,λi j g hg=>?_,nw,?_,?_⟩
    ·rw[Wo.aq Oe]
     exact LM1.put (a7 ha2) (a7 ha') WN (Paired.gO hPa λ_ _ z=>z.same (Wo.same N1)) (dD.of (Wo.in nq ah))
    ·rcases List.mem_or_eq_of_mem_set hr with hr|hr
     ·exact sq.2 r hr
     ·rw[hr,si];exact la
    ·rcases F7 (a7 ha') hg with⟨rfl,rfl,rfl⟩|hg
     ·exact⟨⟨Kv.1,Kv.2.1,QF (by have:=Kv.2.2.1;show _<=f.1-4;omega) (by have:=Kv.2.2.2;show f.1-4<=_;omega)⟩,λ_ z=>by omega⟩
     ·exact⟨(dg i j g hg).1,λe h=>(dg i j g hg).2 e (by omega)⟩
    ·rw[Wo.aq Oe]
     exact ai.at (s5.trans (Wo.same N1)) (Wo.free (nw _ (g0 ha2)))
    ·rw[aq Oe.symm];exact N1 _ _ HD
   rintro σ H6 ⟨rfl,P6⟩
   refine⟨_,rfl,_,rfl,by omega,by omega,?_⟩
   rw[show(0+(a:Int)).toNat=a by omega]
   refine kJ (lo:=0) (n:=a) (λb σ H7=>∃v8,σ=[some (.ref s),some (.ref t),some (.int n),some (.int m),some (.int c),some (.str sg),some (.ref l),some (.int (0+(a:Int))),v8,none,none]/\xU K H t l n (a+1) k1 H7) ⟨_,rfl,P6⟩ ?_ (λσ H7 ⟨v8,h1,h2⟩=>⟨_,v8,h1,h2⟩)
   rintro b σ H7 hb ⟨v8,rfl,P7⟩
   obtain⟨rs,rows,LM,sq,dg,nw,s7,OJ⟩:=P7
   refine⟨_,rfl,_,_,rfl,rfl,⟨by decide,by decide⟩,_,_,rfl,rfl,(by show(0:Int)<2;decide),rfl,_,rfl,?_⟩
   refine oi (λ_=>?_) λ_=>⟨_,rfl,rs,rows,LM,sq,dg,nw,s7,OJ⟩
   have ha':a<rows.length:=by rw[sq.1];exact ha
   have hb':b<rows.length:=by rw[sq.1];omega
   have ha2:a<rs.length:=by rw[LM.len];exact ha'
   have hb2:b<rs.length:=by rw[LM.len];exact hb'
   obtain⟨ZN,ON,hPa⟩:=LM.row a _ _ (a7 ha2) (a7 ha')
   obtain⟨Yd,hrb,Y9⟩:=LM.row b _ _ (a7 hb2) (a7 hb')
   have la:=sq.2 rows[a] (g0 ha')
   have lb:=sq.2 rows[b] (g0 hb')
   have hab:a<Yd.length:=by rw[Paired.len Y9,lb];exact ha
   have hba:b<ZN.length:=by rw[Paired.len hPa,la];omega
   obtain⟨f,ef,hf⟩:=Paired.at Y9 (a7 hab)
   have P0:=Wo.sub _ _ LM.at_
   have Oe:rs[a]≠t:=Wo.ne ON
   refine⟨_,rfl,_,rfl,l,_,_,.ref rs[b],rfl,rfl,cA.of P0,(by rw[kl];exact gW (by rw[cx,a7 hb2];rfl)),?_⟩
   refine⟨_,rfl,rs[b],_,_,.ref Yd[a],rfl,rfl,cA.of (Wo.sub _ _ hrb),(by rw[kl];exact gW (by rw[cx,a7 hab];rfl)),?_⟩
   refine⟨_,rfl,_,rfl,l,_,_,.ref rs[a],rfl,rfl,cA.of P0,(by rw[kl];exact gW (by rw[cx,a7 ha2];rfl)),?_⟩
   refine⟨_,rfl,rs[a],_,_,b,rfl,rfl,Wo.sub _ _ ON,by rw[kl];exact Js (by rw[a_];exact hba),_,rfl,rs,rows.set a (rows[a].set b f),?_,⟨by rw[si];exact sq.1,λr hr=>?_⟩,λi j g hg=>?_,nw,?_,?_⟩
   ·rw[Wo.aq Oe]
    exact LM.put (a7 ha2) (a7 ha') ON hPa hf
   ·rcases List.mem_or_eq_of_mem_set hr with hr|hr
    ·exact sq.2 r hr
    ·rw[hr,si];exact la
   ·rcases F7 (a7 ha') hg with⟨rfl,rfl,rfl⟩|hg
    ·exact⟨(dg _ _ _ ⟨_,a7 hb',ef⟩).1,λz=>by omega⟩
    ·exact dg i j g hg
   ·rw[Wo.aq Oe]
    exact ai.at s7 (Wo.free (nw _ (g0 ha2)))
   ·rw[aq Oe.symm];exact OJ
  rintro σ H5 ⟨v7,v8,rfl,rs,rows,LM,sq,dg,nw,w5,HD⟩
  have C5:yM K H5 s t ns k1:=hC.off w5 HD (by omega)
  refine⟨λσ H6=>∃o fo k2,σ=[some (.ref s),some (.ref t),some (.int n),some (.int m),some (.int c),some (.str sg),some (.ref l),v7,v8,some (.ref o),none]/\KH fo/\TupAt (Wo t H6) o fo/\ai (Wo t H5) (Wo t H6)/\H6 t=some (.lst [.int k2])/\k1<=k2/\k2<=k1+2,?_,?_⟩
  ·refine⟨_,rfl,_,_,rfl,rfl,⟨by decide,by decide⟩,_,_,rfl,rfl,(by show(0:Int)<3;decide),_,_,rfl,rfl,_,rfl,?_⟩
   refine cI (λ_=>?_) λ_=>?_
   ·refine⟨_,rfl,_,_,rfl,rfl,⟨by decide,by decide⟩,_,_,rfl,rfl,(by show(0:Int)<4;decide),aw,λq hq=>?_⟩
    have nq:q≠t:=λz=>by rw[z,HD]at hq;cases hq
    exact⟨q,(m / 48 % 4,1),k1,rfl,⟨by show(1:Int)<=1;omega,by show(1:Int)<=999;omega,xO (by show _<=m / 48 % 4;omega) (by show m / 48 % 4<=_;omega)⟩,Wo.in nq ah,Wo.same (ai.upd hq),ai.upd hq _ _ HD,by omega,by omega⟩
   ·exact⟨_,rfl,_,rfl,_,rfl,s,t,ns,k1,c,rfl,C5,by omega,λf q H6 k3 Kv w6 LJ PX PV hqn YN=>⟨q,f,k3,rfl,Kv.l,Wo.in (qe YN LJ (by intro z;cases z)) YN,w6,LJ,PX,PV⟩⟩
  rintro σ H6 ⟨o,fo,k2,rfl,IM,ho,w6,LJ,Tr,Wt⟩
  have C6:yM K H6 s t ns k2:=C5.off w6 LJ (by omega)
  refine⟨λσ H7=>∃mo fm k3,σ=[some (.ref s),some (.ref t),some (.int n),some (.int m),some (.int c),some (.str sg),some (.ref l),v7,v8,some (.ref o),some (.ref mo)]/\KH fm/\TupAt (Wo t H7) mo fm/\ai (Wo t H6) (Wo t H7)/\H7 t=some (.lst [.int k3])/\k2<=k3/\k3<=k2+2,?_,?_⟩
  ·refine⟨_,rfl,_,_,rfl,rfl,⟨by decide,by decide⟩,_,_,rfl,rfl,(by show(0:Int)<3;decide),_,_,rfl,rfl,_,rfl,?_⟩
   refine cI (λ_=>?_) λ_=>?_
   ·refine⟨_,rfl,_,_,rfl,rfl,⟨by decide,by decide⟩,_,_,rfl,rfl,(by show(0:Int)<4;decide),aw,λq hq=>?_⟩
    have nq:q≠t:=λz=>by rw[z,LJ]at hq;cases hq
    exact⟨q,(m / 768 % 4,1),k2,rfl,⟨by show(1:Int)<=1;omega,by show(1:Int)<=999;omega,xO (by show _<=m / 768 % 4;omega) (by show m / 768 % 4<=_;omega)⟩,Wo.in nq ah,Wo.same (ai.upd hq),ai.upd hq _ _ LJ,by omega,by omega⟩
   ·exact⟨_,rfl,_,rfl,_,rfl,s,t,ns,k2,c,rfl,C6,by omega,λf q H7 k3 Kv w7 OJ PX PV hqn YM=>⟨q,f,k3,rfl,Kv.l,Wo.in (qe YM OJ (by intro z;cases z)) YM,w7,OJ,PX,PV⟩⟩
  rintro σ H7 ⟨mo,fm,k3,rfl,IP,hm7,w7,OJ,PX,PV⟩
  refine⟨_,rfl,_,rfl,_,rfl,_,rfl,a0,λr hr=>?_⟩
  have s8:ai H7 (upd H7 r (.tup [.str sg,.ref l,.ref o,.ref mo])):=ai.upd hr
  have w8:=Wo.same (t:=t) s8
  exact kk r l o mo rs rows fo fm sg _ k3 hsg hz ah (LM.same ((w6.trans w7).trans w8)) sq (JS dg) ((ho.same w7).same w8) IM (hm7.same w8) IP (((w5.trans w6).trans w7).trans w8) (s8 _ _ OJ) (by omega) (by omega)
end
section
variable{P:bo}{w:df}{K:PySem.W.Frag}{mg:bv->Option a9}{base:dC}
theorem yi {i9 bh jI br:a6}{g8 aU iW eV:db}{p:Pm}(T:Txt K mg p base)(fP:Dn K mg "_law_prices" mq l4 i9 g8)(aB:Dn K mg "_law_next" fX l4 bh aU)(cN:aI P w K mg base cB 1 bh aU l4 (pU K))(gG:Dn K mg "_law_table" nF Kw jI iW)(Dh:aI P w K mg base cB 4 jI iW Kw (Fb K))(dF:Dm K "__init__" "Prices.__init__" bU PU br eV)(xV:Mk K p.au br)(tO:aI P w K mg base cB 5 br eV PU (Il K p.au)):aI P w K mg base cB 7 i9 g8 l4 (yT K p.au):=by
 refine fP.fn.ok ji (λvs H Q E h=>?_) (λcdv A outer s H vs Q E hr h=>?_)
 ·obtain⟨s,t,ns,k,rfl,_⟩:=h
  rfl
 ·obtain⟨s,t,ns,k,rfl,hC,hk,kk⟩:=h
  have hk0:=hC.k0
  refine⟨_,(aj (wJ (ae Dh hr gG (aa (pv 0) (aa (pv 1) (aa (aF bT ak (aF cY (ae cN hr aB (aa (pv 0) (aa (pv 1) af))) ak)) af)))) (o8 (n:=4) rfl (bP (al 2 ji.nd) (bP (al 3 ji.nd) (bP (al 4 ji.nd) (bP (al 5 ji.nd) lE))))))
   (ao (aM (Ac xV tO (hr.mono (by decide)) rfl T.GC dF.b .nil aQ (aa (pv 2) (aa (pv 3) (aa (pv 4) (aa (pv 5) af)))))))),?_⟩
  refine⟨_,rfl,_,rfl,_,rfl,_,rfl,s,t,ns,k,rfl,hC,by omega,λm hm hm2=>?_⟩
  refine⟨_,_,rfl,rfl,(by show(0:Int)<4;decide),_,_,rfl,rfl,?_⟩
  obtain⟨n,hn⟩:∃n:Nat,1+m % 4=(n:Int):=⟨(1+m % 4).toNat,by omega⟩
  refine⟨s,t,ns,k+1,n,(by show [V.ref s,V.ref t,V.int (1+m % 4)]=_;rw[hn]),hC.step (by omega),by omega,by omega,by omega,λr l o mo rs rows fo fm sg H5 k5 hsg hz hr LM sq QY ho IM hmo IP w5 HD k51 k52=>?_⟩
  rw[Wo.set]at w5
  refine⟨r,_,rfl,dD.of hr,rfl,_,_,rfl,_,_,rfl,_,_,rfl,_,_,rfl,rfl,?_⟩
  refine⟨_,rfl,_,rfl,_,rfl,_,rfl,λx dx hx hdx Yp=>?_⟩
  have s6:ai H5 (upd (upd H5 dx (.own x)) x (.ins p.au dx [])):=ai.at (ai.upd hdx) hx
  have ME:upd (upd H5 dx (.own x)) x (.ins p.au dx []) x=some (.ins p.au dx []):=ah
  generalize upd (upd H5 dx (.own x)) x (.ins p.au dx [])=H6 at s6 ME ⊢
  refine⟨x,dx,o,mo,sg,.lst l,rows,fo,fm,rfl,ME,hsg,by omega,((LM.same Wo.sub).same s6).We,(by rw[hz];exact sq),λr hr f hf=>(QY r hr f hf).h,TupAt.fr ((ho.same Wo.sub).same s6),IM.h,TupAt.fr ((hmo.same Wo.sub).same s6),IP.h,λH7 P7 f7 Z7=>⟨rfl,?_⟩⟩
  have s7:ai H5 H7:=λb u e=>f7 b u (s6 b u e) λz=>by rw[z,hx]at e;cases e
  exact kk x H7 k5 (sg,yr rows,ki fo,ki fm) (P7.wo (s7 _ _ HD) (Z7 t (by rw[s6 _ _ HD];exact λz=>nomatch z))) (by show sg.cps.size<=4;omega) (Wo.back w5 HD hx) (w5.trans (Wo.same s7)) (s7 _ _ HD) (by omega) (by omega)
theorem D9 {mP bh:a6}{kL aU:db}{p:Pm}(T:Txt K mg p base)(gC:Dn K mg "_law_row" qC Rl mP kL)(aB:Dn K mg "_law_next" fX l4 bh aU)(cN:aI P w K mg base cB 1 bh aU l4 (pU K)):aI P w K mg base cB 2 mP kL Rl (Ig K):=by
 refine gC.fn.ok jw (λvs H Q E h=>?_) (λcdv A outer s H vs Q E hr h=>?_)
 ·obtain⟨s,t,ns,k,n,sg,rfl,_⟩:=h
  rfl
 ·obtain⟨s,t,ns,k,n,sg,rfl,hC,hk,hn,hs0,hs1,kk⟩:=h
  have hk0:=hC.k0
  have Yv:sg.length<=b_:=bn hs1 (by decide)
  refine⟨_,(aj (ag 4 jw.nd (ae cN hr aB (aa (pv 0) (aa (pv 1) af))))
   (aj (ag 5 jw.nd (aF cY (aF fH (pv 4) ak) ak))
   (aj (ag 6 jw.nd bA)
   (aj (dH dA rfl (gZ rfl T.k6 (aa (aF cY (pv 4) (aF bT (pv 3) ak)) af)) (al 7 jw.nd) (bL (bM (aK wL (pv 5) ak (aG _)) (ao (ag 4 jw.nd (ae cN hr aB (aa (pv 0) (aa (pv 1) af))))) aT)
   (ao (ag 6 jw.nd (aF mZ (pv 6) (bw uu (pv 2) (aF cY (aF fH (pv 4) ak) (aA (aR) rfl T.cu bB (aa (pv 2) af))) (λ_ _=>rfl)))))))
   (ao (aM (pv 6))))))),?_⟩
  refine⟨_,rfl,_,rfl,s,t,ns,k,rfl,hC,by omega,λm hm hm2=>?_⟩
  refine⟨_,rfl,_,_,rfl,rfl,⟨by decide,by decide⟩,_,_,rfl,rfl,(by show(0:Int)<4;decide),?_⟩
  have hm0:=gL m (show((n:Int)+1)≠0 by omega)
  have hm1:=f8 m (show(0:Int)<(n:Int)+1 by omega)
  refine⟨_,rfl,_,rfl,_,_,rfl,rfl,_,_,rfl,rfl,(by show(0:Int)<(n:Int)+1;omega),_,rfl,by omega,by omega,?_⟩
  have w1:ai (Wo t H) (Wo t (upd H t (.lst [.int (k+1)]))):=by rw[Wo.set];exact ai.refl _
  refine kJ (lo:=0) (n:=(m % ((n:Int)+1)).toNat) (λi σ H2=>∃(m1 k1:Int) (f:bv) (v7:Option V),σ=[some (.ref s),some (.ref t),some (.str sg),some (.int n),some (.int m1),some (.int (m / 97 % 4)),some (.str f),v7]/\0<=m1/\Of sg f/\f.cps.size=i/\ai (Wo t H) (Wo t H2)/\H2 t=some (.lst [.int k1])/\k<=k1/\k1<=k+1+(i:Int))
   ⟨m,k+1,_,_,rfl,hm,(λc hc=>by cases hc),rfl,w1,ah,by omega,by omega⟩ ?_ ?_
  ·rintro i σ H2 hi ⟨m1,k1,f,v7,rfl,R3,of,hf,w2,Kz,PY,Tt⟩
   refine⟨λσ H3=>∃(m2 k2:Int),σ=[some (.ref s),some (.ref t),some (.str sg),some (.int n),some (.int m2),some (.int (m / 97 % 4)),some (.str f),some (.int (0+(i:Int)))]/\0<=m2/\ai (Wo t H) (Wo t H3)/\H3 t=some (.lst [.int k2])/\k<=k2/\k2<=k1+1,?_,?_⟩
   ·refine⟨_,rfl,_,_,rfl,rfl,_,rfl,?_⟩
    refine cI (λ_=>?_) λ_=>⟨m1,k1,rfl,R3,w2,Kz,PY,by omega⟩
    refine⟨_,rfl,_,rfl,s,t,ns,k1,rfl,hC.off w2 Kz (by omega),by omega,λm3 h3 _=>⟨m3,k1+1,rfl,h3,by rw[Wo.set];exact w2,ah,by omega,by omega⟩⟩
   rintro σ H3 ⟨m2,k2,rfl,WY,w3,LL,Tr,Wt⟩
   have i1:=gL (m2 / 5) (show((sg.cps.size:Nat):Int)≠0 by omega)
   have i2:=f8 (m2 / 5) (show(0:Int)<((sg.cps.size:Nat):Int) by omega)
   obtain⟨j,hj⟩:∃j:Nat,(m2 / 5) % ((sg.cps.size:Nat):Int)=(j:Int):=⟨_,(lr i1).symm⟩
   have hjl:j<sg.cps.toList.length:=by rw[ij];omega
   refine⟨_,rfl,_,rfl,_,rfl,_,_,rfl,rfl,⟨by decide,by decide⟩,_,rfl,_,_,rfl,⟨Yv,rfl⟩,_,_,rfl,rfl,(by show(0:Int)<(sg.cps.size:Int);omega),sg,_,sg.cps.toList[j],rfl,rfl,Yv,?_,_,_,rfl,rfl,?_,?_⟩
   ·show G9 sg.cps.toList ((m2 / 5) % ((sg.cps.size:Nat):Int))=_
    rw[hj]
    exact gW (a7 hjl)
   ·show f.cps.size+1<=b_
    exact bn (show _<=100 by omega) (by decide)
   ·refine⟨m2,k2,_,_,rfl,WY,λc hc=>?_,?_,w3,LL,Tr,by omega⟩
    ·have e:(f.cps++ #[sg.cps.toList[j]]).toList=f.cps.toList++[sg.cps.toList[j]]:=by simp
     have hc':c∈f.cps.toList++[sg.cps.toList[j]]:=by rw[←e];exact hc
     rcases eM.mp hc' with hc|hc
     ·exact of c hc
     ·rw[c_.mp hc];exact g0 hjl
    ·show(f.cps++ #[sg.cps.toList[j]]).size=i+1
     rw[Array.size_append,hf]
     rfl
  ·rintro σ H2 ⟨m1,k1,f,v7,rfl,R3,of,hf,w2,Kz,PY,Tt⟩
   exact⟨_,rfl,kk f H2 k1 of (by omega) w2 Kz PY (by omega)⟩
theorem yj {ja:a6}{g9:db}{p:Pm}(T:Txt K mg p base)(fQ:Dn K mg "_law_manner" mw ["_law_m"] ja g9)  :aI P w K mg base cB 1 ja g9 ["_law_m"] BS:=by
 refine fQ.fn.ok yb (λvs H Q E h=>?_) (λcdv A outer s H vs Q E hr h=>?_)
 ·obtain⟨m,rfl,_⟩:=h
  rfl
 ·obtain⟨m,rfl,hm,kk⟩:=h
  refine⟨_,(ao (aM (bw dP (kD (aa bA (aa bA (aa bA (aa bA af))))) (aF cY (pv 0) ak) (λ_ _=>rfl)))),?_⟩
  refine⟨a0,λq hq=>⟨_,rfl,_,_,rfl,rfl,(by show(0:Int)<4;decide),?_⟩⟩
  obtain⟨x,hx,hi⟩:∃x:bv,G9 [V.str (bd "whole"),.str (bd "within"),.str (bd "over"),.str (bd "stretch")] (m % 4)=some (.str x)/\ko x=true:=by
   have e:m % 4=0\/m % 4=1\/m % 4=2\/m % 4=3:=by omega
   rcases e with e|e|e|e<;>rw[e]
   ·exact⟨_,rfl,by decide +kernel⟩
   ·exact⟨_,rfl,by decide +kernel⟩
   ·exact⟨_,rfl,by decide +kernel⟩
   ·exact⟨_,rfl,by decide +kernel⟩
  exact⟨q,_,_,_,rfl,rfl,cA.of ah,hx,kk x _ hi (ai.upd hq)⟩
end
section
variable{P:bo}{w:df}{K:PySem.W.Frag}{mg:bv->Option a9}{base:dC}
theorem wO {gf:a6}{dY:db}{p:Pm}(T:Txt K mg p base)(bJ:Dn K mg "_law_same" mW Mz gf dY)  :aI P w K mg base cB 1 gf dY Mz (vO K 0):=by
 refine bJ.fn.ok uJ (λvs H Q E h=>?_) (λcdv A outer s H vs Q E hr h=>?_)
 ·obtain⟨v,u,rfl,_⟩:=h
  rfl
 ·obtain⟨v,u,rfl,hE,k⟩:=h
  refine⟨_,(aj (bM (PW.pt (IA (jx (aA (bD) rfl T.bC bu (aa (pv 1) (aa (gi (v:=.ty "list") rfl T.tT qV rfl) af)))) (DZ (jx (aA (bD) rfl T.bC bu (aa (pv 1) (aa (gi (v:=.ty "tuple") rfl T.qA oU rfl) af))))))) eF aT)
   (aj (bM (aK IL (pv 1) D6 (by with_unfolding_all rfl)) eF aT)
   (aj (bM (jx (aA (bD) rfl T.bC bu (aa (pv 1) (aa (gi (v:=.ty "str") rfl T.E6 AM rfl) af)))) (ao (aM (kF (aA (bD) rfl T.bC bu (aa (pv 0) (aa (gi (v:=.ty "str") rfl T.E6 AM rfl) af))) (kC (b8 bW (pv 0) (pv 1) (aG _)))))) aT)
   (ao (aM (kF (aA (bD) rfl T.bC bu (aa (pv 0) (aa (gi (v:=.ty "int") rfl T.Mb Ka rfl) af))) (kF (IF (aA (bD) rfl T.bC bu (aa (pv 0) (aa (gi (v:=.ty "bool") rfl T.HL F6 rfl) af)))) (kC (b8 bW (pv 0) (pv 1) (aG _)))))))))),?_⟩
  rcases hE with⟨x,rfl,rfl⟩|⟨n,rfl,rfl⟩
  ·refine⟨_,rfl,_,_,_,_,rfl,.inl (.str x),sS,_,rfl,gP ?_⟩
   refine⟨_,rfl,_,_,_,_,rfl,.inl (.str x),rB,_,rfl,gP ?_⟩
   refine⟨_,rfl,rfl,_,rfl,gP ?_⟩
   refine⟨_,rfl,_,_,_,_,rfl,.inl (.str x),j6,_,rfl,pO ?_⟩
   refine⟨_,rfl,_,_,_,_,rfl,.inl (.str x),j6,_,rfl,pO ?_⟩
   refine⟨_,rfl,_,rfl,rfl,?_⟩
   rw[decide_eq_true rfl]
   exact k H (ai.refl H)
  ·refine⟨_,rfl,_,_,_,_,rfl,.inl (.int n),sU,_,rfl,gP ?_⟩
   refine⟨_,rfl,_,_,_,_,rfl,.inl (.int n),rC,_,rfl,gP ?_⟩
   refine⟨_,rfl,rfl,_,rfl,gP ?_⟩
   refine⟨_,rfl,_,_,_,_,rfl,.inl (.int n),uN,_,rfl,gP ?_⟩
   refine⟨_,rfl,_,_,_,_,rfl,.inl (.int n),j6,_,rfl,pO ?_⟩
   refine⟨_,rfl,_,_,_,_,rfl,.inl (.int n),sV,_,rfl,_,rfl,pO ?_⟩
   refine⟨_,rfl,_,rfl,rfl,?_⟩
   rw[decide_eq_true rfl]
   exact k H (ai.refl H)
theorem rj {d:Nat}{gf:a6}{dY:db}{p:Pm}(T:Txt K mg p base)(bJ:Dn K mg "_law_same" mW Mz gf dY)(pI:aI P w K mg base cB (d+1) gf dY Mz (vO K d)):aI P w K mg base cB (d+2) gf dY Mz (vO K (d+1)):=by
 refine bJ.fn.ok uJ (λvs H Q E h=>?_) (λcdv A outer s H vs Q E hr h=>?_)
 ·obtain⟨v,u,rfl,_⟩:=h
  rfl
 ·obtain⟨v,u,rfl,hE,k⟩:=h
  refine⟨_,(aj (bM (PW.pt (IA (jx (aA (bD) rfl T.bC bu (aa (pv 1) (aa (gi (v:=.ty "list") rfl T.tT qV rfl) af)))) (DZ (jx (aA (bD) rfl T.bC bu (aa (pv 1) (aa (gi (v:=.ty "tuple") rfl T.qA oU rfl) af))))))) (aj (bM (PW.pt (IA (aK yY (aA (bD) rfl T.bC bu (aa (pv 0) (aa (gi (v:=.ty "list") rfl T.tT qV rfl) af))) (aA (bD) rfl T.bC bu (aa (pv 1) (aa (gi (v:=.ty "list") rfl T.tT qV rfl) af))) (aG _)) (DZ (aK yY (aA (bD) rfl T.bC bu (aa (pv 0) (aa (gi (v:=.ty "tuple") rfl T.qA oU rfl) af))) (aA (bD) rfl T.bC bu (aa (pv 1) (aa (gi (v:=.ty "tuple") rfl T.qA oU rfl) af))) (aG _))))) (ao (aM IJ)) aT)
   (ao (aM (kF (b8 bW (aA (aR) rfl T.cu bB (aa (pv 0) af)) (aA (aR) rfl T.cu bB (aa (pv 1) af)) (aG _)) (kC (aA (uU rfl) rfl T.Mc Kc (aa (nM (N:=["_law_a","_law_b"]) rfl (λ_=>⟨[],cQ.plain (by decide +kernel) rfl (by decide +kernel) (by decide +kernel)⟩) (D4 rfl rfl T.HK (aa (pv 0) (aa (pv 1) af))) (λ_ _ _ _ _ _ _=>(Fz (K':=K) (n:=2) rfl rfl (bP (aL (i:=0) (show(["_law_a","_law_b"]:List bv).Nodup by decide +kernel) rfl (Or.inl rfl)) (bP (aL (i:=1) (show(["_law_a","_law_b"]:List bv).Nodup by decide +kernel) rfl (Or.inl rfl)) lE)))) (λ_ _ _ _ _ _ _=>(az pI (hr.mono (by omega)) rfl bJ.m bJ.fn.kp bJ.b .nil aQ (aa (pv 0) (aa (pv 1) af))))) af))))))) aT)
   (aj (bM (aK IL (pv 1) D6 (by with_unfolding_all rfl)) eF aT)
   (aj (bM (jx (aA (bD) rfl T.bC bu (aa (pv 1) (aa (gi (v:=.ty "str") rfl T.E6 AM rfl) af)))) (ao (aM (kF (aA (bD) rfl T.bC bu (aa (pv 0) (aa (gi (v:=.ty "str") rfl T.E6 AM rfl) af))) (kC (b8 bW (pv 0) (pv 1) (aG _)))))) aT)
   (ao (aM (kF (aA (bD) rfl T.bC bu (aa (pv 0) (aa (gi (v:=.ty "int") rfl T.Mb Ka rfl) af))) (kF (IF (aA (bD) rfl T.bC bu (aa (pv 0) (aa (gi (v:=.ty "bool") rfl T.HL F6 rfl) af)))) (kC (b8 bW (pv 0) (pv 1) (aG _)))))))))),?_⟩
  rcases hE with(⟨x,rfl,rfl⟩|⟨n,rfl,rfl⟩)|⟨p,q,xs,ys,rfl,rfl,hp,hq,hlen,R6,hall⟩
  ·refine⟨_,rfl,_,_,_,_,rfl,.inl (.str x),sS,_,rfl,gP ?_⟩
   refine⟨_,rfl,_,_,_,_,rfl,.inl (.str x),rB,_,rfl,gP ?_⟩
   refine⟨_,rfl,rfl,_,rfl,gP ?_⟩
   refine⟨_,rfl,_,_,_,_,rfl,.inl (.str x),j6,_,rfl,pO ?_⟩
   refine⟨_,rfl,_,_,_,_,rfl,.inl (.str x),j6,_,rfl,pO ?_⟩
   refine⟨_,rfl,_,rfl,rfl,?_⟩
   rw[decide_eq_true rfl]
   exact k H (ai.refl H)
  ·refine⟨_,rfl,_,_,_,_,rfl,.inl (.int n),sU,_,rfl,gP ?_⟩
   refine⟨_,rfl,_,_,_,_,rfl,.inl (.int n),rC,_,rfl,gP ?_⟩
   refine⟨_,rfl,rfl,_,rfl,gP ?_⟩
   refine⟨_,rfl,_,_,_,_,rfl,.inl (.int n),uN,_,rfl,gP ?_⟩
   refine⟨_,rfl,_,_,_,_,rfl,.inl (.int n),j6,_,rfl,pO ?_⟩
   refine⟨_,rfl,_,_,_,_,rfl,.inl (.int n),sV,_,rfl,_,rfl,pO ?_⟩
   refine⟨_,rfl,_,rfl,rfl,?_⟩
   rw[decide_eq_true rfl]
   exact k H (ai.refl H)
  ·have tp:∀{H':Hp} {a:a6} {zs:List V},dD K H' a zs->(tE K H' (.ref a) (.type "tuple")\/∃b ws,V.ref a= .ref b/\dD K H' b ws/\Value.type "tuple" = .type "tuple"):=λ{H' a zs} z=>.inr ⟨a,zs,rfl,z,rfl⟩
   refine⟨_,rfl,_,_,_,_,rfl,tp hq,m6,_,rfl,gP ?_⟩
   refine⟨_,rfl,_,_,_,_,rfl,tp hq,j6,_,rfl,pO ?_⟩
   refine⟨_,rfl,_,_,_,_,rfl,tp hp,m6,_,rfl,_,_,_,_,rfl,tp hq,m6,rfl,_,rfl,gP ?_⟩
   refine⟨_,rfl,_,_,_,_,rfl,tp hp,j6,_,rfl,_,_,_,_,rfl,tp hq,j6,rfl,_,rfl,gP ?_⟩
   refine⟨_,rfl,_,_,rfl,.inr ⟨_,hp,rfl⟩,_,rfl,_,_,rfl,.inr ⟨_,hq,rfl⟩,rfl,_,rfl,?_⟩
   refine oi (λ_=>?_) λz=>absurd (congrArg Nat.cast hlen) z
   refine⟨_,rfl,_,rfl,.tup p,.tup q,_,_,rfl,hp,hq,λl hl=>?_⟩
   refine AI xs.length (λ_=>V.bl true) hl (cr R6 (by decide)) (λi H2 s2 hi=>?_) (λH2 s2=>⟨_,_,ai.tup s2 hp,ai.tup s2 hq,.inl (ba _)⟩) (λi z H2 H3 R s2 hi hy hR=>?_) λH2 s2 hl2=>?_
   ·exact⟨_,_,_,_,ai.tup s2 hp,ai.tup s2 hq,a7 hi,a7 (by rw[←hlen];exact hi)⟩
   ·obtain⟨p',x',y',rfl,Tz,rfl,hxy⟩:=hy
    obtain⟨ex,ey⟩:=hxy _ _ (ai.tup s2 hp) (ai.tup s2 hq)
    refine⟨p',_,rfl,dD.of ah,rfl,_,_,rfl,_,_,rfl,rfl,Kp.rep _ _,?_⟩
    exact⟨_,rfl,_,rfl,x',y',rfl,(hall i x' y' ex ey).same (s2.trans (ai.upd Tz)),λH5 s5=>hR H5 ((ai.upd Tz).trans s5)⟩
   ·refine⟨l,(dk xs.length).map λ_=>true,rfl,cA.of (by rw[hl2,kb];rfl),?_⟩
    rw[show((dk xs.length).map λ_=>true).all id=true from p_.mpr λb hb=>by
     obtain⟨_,_,rfl⟩:=eI.mp hb
     rfl]
    exact k H2 s2
theorem Eb {mR fM cL:a6}{kP dR b9:db}{p:Pm}(T:Txt K mg p base)(gE:Dn K mg "_law_gap" qF Rk mR kP)(bx:Dn K mg "more_cost" lM l7 fM dR)(lQ:aI P w K mg base cB 2 fM dR l7 (DO K p.au))(bE:Dn K mg "opening_cost" iI l7 cL b9)(m8:aI P w K mg base cB 2 cL b9 l7 (tZ K p.au)):aI P w K mg base cB 3 mR kP Rk (Mn K p.au):=by
 refine gE.fn.ok DU (λvs H Q E h=>?_) (λcdv A outer s H vs Q E hr h=>?_)
 ·obtain⟨x,T1,b,rfl,_⟩:=h
  rfl
 ·obtain⟨x,T1,b,rfl,hP,kk⟩:=h
  refine⟨_,(ao (aM (oK (jx (pv 1)) (ae lQ hr bx (aa (pv 0) af)) (aF bT (ae m8 hr bE (aa (pv 0) af)) (ae lQ hr bx (aa (pv 0) af)))))),?_⟩
  refine⟨_,rfl,_,rfl,?_⟩
  cases b with
  |true=>exact pO ⟨_,rfl,x,T1.1,T1.2.1,T1.2.2.1,T1.2.2.2,rfl,hP,by rw[if_pos rfl]at kk;exact kk⟩
  |false=>exact gP ⟨_,rfl,x,T1.1,T1.2.1,T1.2.2.1,T1.2.2.2,rfl,hP,_,rfl,x,T1.1,T1.2.1,T1.2.2.1,T1.2.2.2,rfl,hP,_,_,rfl,rfl,by rw[if_neg bt]at kk;exact kk⟩
theorem ug {fz:a6}{eK:db}{p:Pm}(T:Txt K mg p base)(cU:Dn K mg "_law_may_begin" jq Rj fz eK)  :aI P w K mg base cB 1 fz eK Rj Ff:=by
 refine cU.fn.ok t9 (λvs H Q E h=>?_) (λcdv A outer s H vs Q E hr h=>?_)
 ·obtain⟨m,i,j,rfl,_⟩:=h
  rfl
 ·obtain⟨m,i,j,rfl,hm,kk⟩:=h
  refine⟨_,(aj (bM (aK bW (pv 0) bA (aG _)) (ao (aM (kF (b8 bW (pv 1) ak (aG _)) (kC (b8 bW (pv 2) ak (aG _)))))) aT)
   (aj (bM (aK bW (pv 0) bA (aG _)) (ao (aM (b8 bW (pv 1) ak (aG _)))) aT)
   (ao (aM (Ms (b8 bW (pv 0) bA (aG _)) (kC (b8 bW (pv 2) ak (aG _)))))))),?_⟩
  unfold vo at kk
  refine⟨_,rfl,rfl,_,rfl,xB (λh1=>?_) λh1=>?_⟩
  ·rw[if_pos h1]at kk
   refine⟨_,rfl,rfl,_,rfl,oi (λhi=>⟨_,rfl,rfl,?_⟩) λhi=>?_⟩
   ·rw[CT]
    rwa [decide_eq_true hi,sK]at kk
   ·rwa [decide_eq_false hi,mf]at kk
  rw[if_neg h1]at kk
  refine⟨_,rfl,rfl,_,rfl,xB (λh2=>?_) λh2=>?_⟩
  ·rw[if_pos h2]at kk
   exact⟨_,rfl,rfl,by rw[CT];exact kk⟩
  rw[if_neg h2]at kk
  refine⟨_,rfl,rfl,_,rfl,xB (λh3=>?_) λh3=>?_⟩
  ·rw[if_neg (λz=>by rw[h3]at z;exact absurd z (by decide +kernel))]at kk
   exact kk
  ·have h4:m=bd "over" :=by
    rcases OH hm with z|z|z|z
    ·exact absurd z h1
    ·exact absurd z h2
    ·exact z
    ·exact absurd z h3
   rw[if_pos h4]at kk
   exact⟨_,rfl,rfl,by rw[CT];exact kk⟩
theorem wQ {iw:a6}{gq:db}{p:Pm}(T:Txt K mg p base)(dZ:Dn K mg "_law_may_end" ly Ri iw gq)  :aI P w K mg base cB 1 iw gq Ri Fe:=by
 refine dZ.fn.ok wC (λvs H Q E h=>?_) (λcdv A outer s H vs Q E hr h=>?_)
 ·obtain⟨m,f,s,i,j,rfl,_⟩:=h
  rfl
 ·obtain⟨m,f,s,i,j,rfl,hm,hf,hs,kk⟩:=h
  have lf:f.length<=b_:=bn hf (by decide)
  have ls:s.length<=b_:=bn hs (by decide)
  refine⟨_,(aj (bM (aK bW (pv 0) bA (aG _)) (ao (aM (kF (b8 bW (pv 3) (aA (aR) rfl T.cu bB (aa (pv 1) af)) (aG _)) (kC (b8 bW (pv 4) (aA (aR) rfl T.cu bB (aa (pv 2) af)) (aG _)))))) aT)
   (ao (aM (Ms (b8 bW (pv 0) bA (aG _)) (kC (b8 bW (pv 3) (aA (aR) rfl T.cu bB (aa (pv 1) af)) (aG _))))))),?_⟩
  unfold Au at kk
  refine⟨_,rfl,rfl,_,rfl,xB (λh1=>?_) λh1=>?_⟩
  ·rw[if_pos h1]at kk
   refine⟨_,rfl,_,rfl,_,_,rfl,⟨lf,rfl⟩,rfl,_,rfl,oi (λhi=>⟨_,rfl,_,rfl,_,_,rfl,⟨ls,rfl⟩,rfl,?_⟩) λhi=>?_⟩
   ·rw[CT]
    rwa [decide_eq_true (show i=(f.cps.size:Int) from hi),sK]at kk
   ·rwa [decide_eq_false (show ¬i=(f.cps.size:Int) from hi),mf]at kk
  rw[if_neg h1]at kk
  refine⟨_,rfl,rfl,_,rfl,xB (λh3=>?_) λh3=>?_⟩
  ·rw[if_pos h3]at kk
   exact kk
  ·rw[if_neg h3]at kk
   exact⟨_,rfl,_,rfl,_,_,rfl,⟨lf,rfl⟩,rfl,by rw[CT];exact kk⟩
theorem Ca {kT fL mR:a6}{jE dQ kP:db}{p:Pm}(T:Txt K mg p base)(iO:Dn K mg "_law_walk" oZ Rh kT jE)(cD:Dn K mg "pair_cost" lK Ox fL dQ)(qu:aI P w K mg base cB 1 fL dQ Ox (rM K p.au))(gE:Dn K mg "_law_gap" qF Rk mR kP)(zL:aI P w K mg base cB 3 mR kP Rk (Mn K p.au)):aI P w K mg base cB 4 kT jE Rh (Ie K p.au):=by
 refine iO.fn.ok cC (λvs H Q E h=>?_) (λcdv A outer s H vs Q E hr h=>?_)
 ·obtain⟨x,b,T1,m,f,s,mv,q,rfl,_⟩:=h
  rfl
 ·obtain⟨x,b,T1,m,f,s,mv,q,rfl,hP,of,os,hf,hs,TH,hb,kN,kk⟩:=h
  have lf:f.length<=b_:=bn hf (by decide)
  have ls:s.length<=b_:=bn hs (by decide)
  generalize hg:ku T1 m f s=g at kN kk
  have gn:g.n=f.cps.size:=by rw[←hg];rfl
  have gm:g.m=s.cps.size:=by rw[←hg];rfl
  refine⟨_,(aj (wJ (pv 3) (o8 (n:=2) rfl (bP (al 5 cC.nd) (bP (al 6 cC.nd) lE))))
   (aj (ag 7 cC.nd ak)
   (aj (ag 8 cC.nd bA)
   (aj (dH dA rfl (ID (pv 4)) (al 9 cC.nd) (bL (bM (PW.pt (rQ (aK bW (pv 9) bA (aG _)) (rQ (aK lN (pv 5) (aA (aR) rfl T.cu bB (aa (pv 1) af)) (aG _)) (qK (aK lN (pv 6) (aA (aR) rfl T.cu bB (aa (pv 2) af)) (aG _)))))) (aj (ag 7 cC.nd (aF bT (pv 7) (ae qu hr cD (aa (pv 0) (aa (bw uu (pv 1) (pv 5) (λ_ _=>rfl)) (aa (bw uu (pv 2) (pv 6) (λ_ _=>rfl)) af))))))
   (ao (N6 (i:=5) (j:=6) rfl cC.nd rfl rfl (by decide) rfl rfl (aa (aF bT (pv 5) ak) (aa (aF bT (pv 6) ak) af)) (by rfl)))) (ao (bM (PW.pt (rQ (aK bW (pv 9) bA (aG _)) (qK (aK lN (pv 5) (aA (aR) rfl T.cu bB (aa (pv 1) af)) (aG _))))) (aj (ag 7 cC.nd (aF bT (pv 7) (ae zL hr gE (aa (pv 0) (aa (b8 bW (pv 8) bA (aG _)) af)))))
   (ao (ag 5 cC.nd (aF bT (pv 5) ak)))) (ao (bM (PW.pt (rQ (aK bW (pv 9) bA (aG _)) (qK (aK lN (pv 6) (aA (aR) rfl T.cu bB (aa (pv 2) af)) (aG _))))) (aj (ag 7 cC.nd (aF bT (pv 7) (ae zL hr gE (aa (pv 0) (aa (b8 bW (pv 8) bA (aG _)) af)))))
   (ao (ag 6 cC.nd (aF bT (pv 6) ak)))) (ao (aM D6)))))))
   (ao (ag 8 cC.nd (pv 9)))))
   (ao (aM (bG (aa (pv 7) (aa (bG (aa (pv 5) (aa (pv 6) af))) af))))))))),?_⟩
  refine⟨_,rfl,b,_,rfl,dD.of hb,rfl,_,_,rfl,_,_,rfl,rfl,?_⟩
  refine⟨_,rfl,mv,rfl,LR (x:=mv) (λi σ H2=>∃(tot:Int) (e:dm) (L:bv) (v9:Option V),σ=[some (.ref x),some (.str f),some (.str s),some (.ref b),some (.str mv),some (.int (e.1:Int)),some (.int (e.2.1:Int)),some (.int tot),some (.str L),v9]/\ai H H2/\g.walk (q.1,q.2,112) (mv.cps.toList.take i)=some (tot,e)/\(L=⟨#[97]⟩↔e.2.2=97)/\(L=⟨#[98]⟩↔e.2.2=98))
   ⟨0,(q.1,q.2,112),_,_,rfl,ai.refl H,rfl,(by show bd "" =⟨#[97]⟩↔(112:Nat)=97;decide +kernel),(by show bd "" =⟨#[98]⟩↔(112:Nat)=98;decide +kernel)⟩ ?_ ?_⟩
  ·rintro i v σ H2 hv ⟨tot,e,L,v9,rfl,s2,hw,Qa,P9⟩
   have hvl:=j8 hv
   have Xm:=hP.same s2
   refine⟨λσ H3=>∃t∈g.steps e,t.1.2.2=v/\σ=[some (.ref x),some (.str f),some (.str s),some (.ref b),some (.str mv),some (.int (t.1.1:Int)),some (.int (t.1.2.1:Int)),some (.int (tot+t.2)),some (.str L),some (.str ⟨#[v]⟩)]/\ai H H3,?_,?_⟩
   ·have fin:(∀t∈g.steps e,t.1.2.2≠v)->Q .jy H2:=λhn=>by
     refine kN ?_ H2 s2
     have e1:mv.cps.toList=mv.cps.toList.take i++v::mv.cps.toList.drop (i+1):=by
      have hi:=(bj.mp hvl).1
      have e2:=(s_ i mv.cps.toList).symm
      rw[ge hi,(bj.mp hvl).2]at e2
      exact e2
     rw[e1]
     exact Gd.DB hw hn
    have pN:v≠112->¬(⟨#[v]⟩:bv)=bd "p" :=λz=>by rw[sP];exact D7 z
    have aN:v≠97->¬(⟨#[v]⟩:bv)=bd "a" :=λz=>by rw[sA];exact D7 z
    have bN:v≠98->¬(⟨#[v]⟩:bv)=bd "b" :=λz=>by rw[sB];exact D7 z
    by_cases v1:v=112
    ·subst v1
     by_cases hi:e.1<f.cps.size
     ·by_cases hj:e.2.1<s.cps.size
      ·obtain⟨a,ha⟩:=AH hi
       obtain⟨c,hc⟩:=AH hj
       obtain⟨i',j',fr,hi',hj',hat,XC⟩:=IK (u:=uT T1) hP.X6 (of a (qU ha)) (os c (qU hc))
       refine⟨_,rfl,rfl,_,rfl,its sP.symm ⟨_,rfl,_,rfl,_,_,rfl,⟨lf,rfl⟩,_,_,rfl,rfl,_,rfl,RG (by show(e.1:Int)<(f.cps.size:Int);omega) ⟨_,rfl,_,rfl,_,_,rfl,⟨ls,rfl⟩,_,_,rfl,rfl,_,rfl,RG (by show(e.2.1:Int)<(s.cps.size:Int);omega) ?_⟩⟩⟩
       refine⟨_,rfl,_,rfl,_,rfl,_,rfl,f,_,a,rfl,rfl,lf,gW (j8 ha),_,rfl,_,rfl,s,_,c,rfl,rfl,ls,gW (j8 hc),x,T1.1,T1.2.1,T1.2.2.1,T1.2.2.2,i',j',a,c,fr,rfl,Xm,hi',hj',hat,λH5 s5=>⟨_,_,rfl,rfl,?_⟩⟩
       refine⟨_,rfl,_,_,rfl,rfl,_,rfl,_,_,rfl,rfl,_,_,rfl,((e.1+1,e.2.1+1,112),g.pc e.1 e.2.1),Gd.gp.mpr (.inl ⟨by omega,by omega,rfl⟩),rfl,?_,s2.trans s5⟩
       have ep:g.pc e.1 e.2.1=fr.1*(uT T1 / fr.2):=by
        rw[←hg]
        show QV T1.1 T1.2.1 (uT T1) (f.cps.toList.getD e.1 0) (s.cps.toList.getD e.2.1 0)=_
        rw[mH (j8 ha),mH (j8 hc),XC]
       show _=[_,_,_,_,_,_,_,some (V.int (tot+g.pc e.1 e.2.1)),_,_]
       rw[ep]
       rfl
      ·exact⟨_,rfl,rfl,_,rfl,its sP.symm ⟨_,rfl,_,rfl,_,_,rfl,⟨lf,rfl⟩,_,_,rfl,rfl,_,rfl,RG (by show(e.1:Int)<(f.cps.size:Int);omega) ⟨_,rfl,_,rfl,_,_,rfl,⟨ls,rfl⟩,_,_,rfl,rfl,_,rfl,Ex (by show ¬(e.2.1:Int)<(s.cps.size:Int);omega) ⟨_,rfl,rfl,_,rfl,Cu (aN (by decide)) (gP ⟨_,rfl,rfl,_,rfl,Cu (bN (by decide)) (gP (fin (Gd.sO (by omega) (by omega) (by omega))))⟩)⟩⟩⟩⟩
     ·exact⟨_,rfl,rfl,_,rfl,its sP.symm ⟨_,rfl,_,rfl,_,_,rfl,⟨lf,rfl⟩,_,_,rfl,rfl,_,rfl,Ex (by show ¬(e.1:Int)<(f.cps.size:Int);omega) (gP ⟨_,rfl,rfl,_,rfl,Cu (aN (by decide)) (gP ⟨_,rfl,rfl,_,rfl,Cu (bN (by decide)) (gP (fin (Gd.sO (by omega) (by omega) (by omega))))⟩)⟩)⟩⟩
    ·refine⟨_,rfl,rfl,_,rfl,Cu (pN v1) (gP ?_)⟩
     by_cases v2:v=97
     ·subst v2
      refine⟨_,rfl,rfl,_,rfl,its sA.symm ⟨_,rfl,_,rfl,_,_,rfl,⟨lf,rfl⟩,_,_,rfl,rfl,_,rfl,?_⟩⟩
      by_cases hi:e.1<f.cps.size
      ·refine RG (by show(e.1:Int)<(f.cps.size:Int);omega) ?_
       refine⟨_,rfl,_,rfl,_,rfl,rfl,x,T1,_,rfl,Xm,_,_,rfl,rfl,_,rfl,_,_,rfl,rfl,((e.1+1,e.2.1,97),g.ac 97 e.2.2),Gd.gp.mpr (.inr (.inl ⟨by omega,rfl⟩)),rfl,?_,s2⟩
       show _=[_,_,_,_,_,_,_,some (V.int (tot+g.ac 97 e.2.2)),_,_]
       rw[JI hg (sA.symm▸Qa)]
       rfl
      ·exact Ex (by show ¬(e.1:Int)<(f.cps.size:Int);omega) ⟨_,rfl,rfl,_,rfl,Cu (bN (by decide)) (gP (fin (Gd.sO (by omega) (by omega) (by omega))))⟩
     ·refine⟨_,rfl,rfl,_,rfl,Cu (aN v2) (gP ?_)⟩
      by_cases v3:v=98
      ·subst v3
       refine⟨_,rfl,rfl,_,rfl,its sB.symm ⟨_,rfl,_,rfl,_,_,rfl,⟨ls,rfl⟩,_,_,rfl,rfl,_,rfl,?_⟩⟩
       by_cases hj:e.2.1<s.cps.size
       ·refine RG (by show(e.2.1:Int)<(s.cps.size:Int);omega) ?_
        refine⟨_,rfl,_,rfl,_,rfl,rfl,x,T1,_,rfl,Xm,_,_,rfl,rfl,_,rfl,_,_,rfl,rfl,((e.1,e.2.1+1,98),g.ac 98 e.2.2),Gd.gp.mpr (.inr (.inr ⟨by omega,rfl⟩)),rfl,?_,s2⟩
        show _=[_,_,_,_,_,_,_,some (V.int (tot+g.ac 98 e.2.2)),_,_]
        rw[JI hg (sB.symm▸P9)]
        rfl
       ·exact Ex (by show ¬(e.2.1:Int)<(s.cps.size:Int);omega) (fin (Gd.sO (by omega) (by omega) (by omega)))
      ·exact⟨_,rfl,rfl,_,rfl,Cu (bN v3) (gP (fin (Gd.sO (by omega) (by omega) (by omega))))⟩
   ·rintro σ H3 ⟨t,ht,hv',rfl,s3⟩
    refine⟨_,rfl,tot+t.2,t.1,⟨#[v]⟩,_,rfl,s3,?_,?_,?_⟩
    ·rw[take_snoc hvl,←hv']
     exact Gd.Gg hw ht
    ·rw[hv'];exact⟨λz=>by simpa using congrArg Str.cps z,λz=>by rw[z]⟩
    ·rw[hv'];exact⟨λz=>by simpa using congrArg Str.cps z,λz=>by rw[z]⟩
  ·rintro σ H2 ⟨tot,e,L,v9,rfl,s2,hw,Qa,P9⟩
   rw[fi (by rw[ij];exact ba _)]at hw
   refine⟨_,rfl,_,rfl,_,rfl,aw,λp1 hp1=>⟨aw,λr1 hr1=>?_⟩⟩
   have s3:=s2.trans (ai.upd (o:=.tup [.int (e.1:Int),.int (e.2.1:Int)]) hp1)
   exact kk tot e hw r1 p1 _ (s3.trans (ai.upd hr1)) (ai.free s3 hr1) ah (by show upd _ _ _ _=_;rw[aq (aO ah hr1),ah])
end
section
variable{P:bo}{w:df}{K:PySem.W.Frag}{mg:bv->Option a9}{base:dC}
theorem Ea {mQ:a6}{kO:db}{p:Pm}(T:Txt K mg p base)(gD:Dn K mg "_law_key" qD Rg mQ kO)  :aI P w K mg base cB 1 mQ kO Rg Mm:=by
 refine gD.fn.ok DT (λvs H Q E h=>?_) (λcdv A outer s H vs Q E hr h=>?_)
 ·obtain⟨q,mv,rfl,_⟩:=h
  rfl
 ·obtain⟨q,mv,rfl,hm,kk⟩:=h
  have ez:∀(c d:Nat) (z:bv),(oG c d z).cps.size=z.cps.size:=λc d z=>by
   unfold oG
   show(z.cps.toList.map (HZ c d)).toArray.size=_
   rw[dq,a_,ij]
  have e:xA mv.cps.toList=oG 98 50 (oG 97 49 (oG 112 48 mv)):=by
   unfold xA
   rw[Array.toArray_toList]
  rw[e]at kk
  have hm':mv.cps.size<=1000000:=bn hm (by decide)
  refine⟨_,(ao (aM (bG (aa (pv 0) (aa (Aa (c:=98) (d:=50) (Aa (c:=97) (d:=49) (Aa (c:=112) (d:=48) (pv 1) (by kernel_rfl) (by kernel_rfl) (by decide)) (by kernel_rfl) (by kernel_rfl) (by decide)) (by kernel_rfl) (by kernel_rfl) (by decide)) af))))),?_⟩
  exact⟨_,rfl,_,rfl,mv,rfl,hm',_,rfl,by rw[ez];exact hm',_,rfl,by rw[ez,ez];exact hm',aw,λr hr=>kk r _ (ai.upd hr) ah⟩
theorem wN {gb:a6}{dX:db}{p:Pm}(T:Txt K mg p base)(aX:Dn K mg "_law_ways" mV My gb dX)  :aI P w K mg base cB 1 gb dX My (zU 0):=by
 refine aX.fn.ok nB (λvs H Q E h=>?_) (λcdv A outer s H vs Q E hr h=>?_)
 ·obtain⟨f,s,i,j,c,mv,g,rfl,_⟩:=h
  rfl
 ·obtain⟨f,s,i,j,c,mv,g,rfl,gn,gm,Tp,Tq,hi,hj,ht,hd,hm,kk⟩:=h
  have lf:f.length<=b_:=bn (show f.cps.size<=20 by omega) (by decide)
  have ls:s.length<=b_:=bn (show s.cps.size<=20 by omega) (by decide)
  have ht':g.n-i+(g.m-j)<=0:=ht
  have ni:¬i<g.n:=by omega
  have nj:¬j<g.m:=by omega
  have Yn:¬(i:Int)<((f.length:Nat):Int):=λz=>ni (by rw[gn];exact wl.mp z)
  have Z4:¬(j:Int)<((s.length:Nat):Int):=λz=>nj (by rw[gm];exact wl.mp z)
  rw[zM,oW (λz=>ni z.1),oW ni,oW nj]at kk
  refine⟨_,(aj (ag 5 nB.nd (kD (aa (bG (aa (pv 4) (aa (pv 2) (aa (pv 3) af)))) af)))
   (bL (bM (PW.pt (rQ (aK lN (pv 2) (aA (aR) rfl T.cu bB (aa (pv 0) af)) (aG _)) (qK (aK lN (pv 3) (aA (aR) rfl T.cu bB (aa (pv 1) af)) (aG _))))) eF aT)
   (bL (bM (aK lN (pv 2) (aA (aR) rfl T.cu bB (aa (pv 0) af)) (aG _)) eF aT)
   (bL (bM (aK lN (pv 3) (aA (aR) rfl T.cu bB (aa (pv 1) af)) (aG _)) eF aT)
   (ao (aM (pv 5))))))),?_⟩
  refine⟨_,rfl,_,rfl,_,rfl,ax,λq0 OP=>⟨ar,λl hl=>?_⟩⟩
  have s1:=(ai.upd (o:=.tup [.str mv,.int (i:Int),.int (j:Int)]) OP).trans (ai.upd (o:=.lst [.ref q0]) hl)
  have HF:=ai.free (ai.upd (o:=.tup [.str mv,.int (i:Int),.int (j:Int)]) OP) hl
  have z:=kk l _ s1 HF ⟨[q0],ah,.cons (ai.upd hl _ _ ah) .nil⟩
  generalize L2.upd (L2.upd H q0 (.tup [.str mv,.int (i:Int),.int (j:Int)])) l (.lst [.ref q0])=H1 at z ⊢
  refine⟨λσ H'=>σ=[some (.str f),some (.str s),some (.int (i:Int)),some (.int (j:Int)),some (.str mv),some (.ref l)]/\H1=H',⟨_,rfl,_,rfl,_,_,rfl,⟨lf,rfl⟩,_,_,rfl,rfl,_,rfl,Ex Yn (gP ⟨rfl,rfl⟩)⟩,?_⟩
  rintro σ _ ⟨rfl,rfl⟩
  refine⟨λσ H'=>σ=[some (.str f),some (.str s),some (.int (i:Int)),some (.int (j:Int)),some (.str mv),some (.ref l)]/\H1=H',⟨_,rfl,_,rfl,_,_,rfl,⟨lf,rfl⟩,_,_,rfl,rfl,_,rfl,Ex Yn ⟨rfl,rfl⟩⟩,?_⟩
  rintro σ _ ⟨rfl,rfl⟩
  refine⟨λσ H'=>σ=[some (.str f),some (.str s),some (.int (i:Int)),some (.int (j:Int)),some (.str mv),some (.ref l)]/\H1=H',⟨_,rfl,_,rfl,_,_,rfl,⟨ls,rfl⟩,_,_,rfl,rfl,_,rfl,Ex Z4 ⟨rfl,rfl⟩⟩,?_⟩
  rintro σ _ ⟨rfl,rfl⟩
  exact⟨_,rfl,z⟩
theorem fZ {d:Nat}{gb:a6}{dX:db}{p:Pm}(T:Txt K mg p base)(aX:Dn K mg "_law_ways" mV My gb dX)(ng:aI P w K mg base cB (d+1) gb dX My (zU d)):aI P w K mg base cB (d+2) gb dX My (zU (d+1)):=by
 refine aX.fn.ok nB (λvs H Q E h=>?_) (λcdv A outer s H vs Q E hr h=>?_)
 ·obtain⟨f,s,i,j,c,mv,g,rfl,_⟩:=h
  rfl
 ·obtain⟨f,s,i,j,c,mv,g,rfl,gn,gm,Tp,Tq,hi,hj,ht,hd,hm,kk⟩:=h
  have lf:f.length<=b_:=bn (show f.cps.size<=20 by omega) (by decide)
  have ls:s.length<=b_:=bn (show s.cps.size<=20 by omega) (by decide)
  have ht':g.n-i+(g.m-j)<=d+1:=ht
  have tot:=Gd.zO (d+1) (i,j,c) ht
  have t3:3 ^ (d+1+1)<=3 ^ 7:=ph (by decide) (by omega)
  have t4:(3:Nat) ^ 7=2187:=rfl
  have tl:((g.uG (i,j,c)).map (KQ mv.cps.toList)).length<=1093:=by rw[a_];omega
  rw[zM]at kk tl
  generalize eA:g.Hz mv.cps.toList (i<g.n/\j<g.m) ((i+1,j+1,112),g.pc i j)=LA at kk tl
  generalize eB:g.Hz mv.cps.toList (i<g.n) ((i+1,j,97),g.ac 97 c)=LB at kk tl
  generalize eC:g.Hz mv.cps.toList (j<g.m) ((i,j+1,98),g.ac 98 c)=LC at kk tl
  rw[d_,ce,ce]at tl
  have up:∀{x y:Nat} {z:bv},z.cps.size=y->((x:Int)<((z.length:Nat):Int)↔x<y):=λ{x y z} e=>by rw[←e];exact wl
  have app:∀(ch:Nat) (o:bv),o=⟨#[ch]⟩->(mv++o).cps.toList=mv.cps.toList++[ch]/\mv.length+o.length<=b_/\(mv++o).cps.size+d<=100:=λch o e=>by
   subst e
   have e1:(mv++(⟨#[ch]⟩:bv)).cps.toList=mv.cps.toList++[ch]:=by
    show(mv.cps++ #[ch]).toList=_
    rw[Array.toList_append]
   refine⟨e1,bn (show mv.cps.size+1<=101 by omega) (by decide),?_⟩
   have:(mv++(⟨#[ch]⟩:bv)).cps.size=mv.cps.size+1:=by
    show(mv.cps++ #[ch]).size=_
    rw[Array.size_append]
    rfl
   omega
  refine⟨_,(aj (ag 5 nB.nd (kD (aa (bG (aa (pv 4) (aa (pv 2) (aa (pv 3) af)))) af)))
   (bL (bM (PW.pt (rQ (aK lN (pv 2) (aA (aR) rfl T.cu bB (aa (pv 0) af)) (aG _)) (qK (aK lN (pv 3) (aA (aR) rfl T.cu bB (aa (pv 1) af)) (aG _))))) (ao (e7 (nN PySem.F.plainAttrs_list PySem.F.slot_list_extend PySem.F.type_list_extend qM (pv 5) (aa (az ng (hr.mono (by omega)) rfl aX.m aX.fn.kp aX.b .nil aQ (aa (pv 0) (aa (pv 1) (aa (aF bT (pv 2) ak) (aa (aF bT (pv 3) ak) (aa (aF mZ (pv 4) bA) af)))))) af)))) aT)
   (bL (bM (aK lN (pv 2) (aA (aR) rfl T.cu bB (aa (pv 0) af)) (aG _)) (ao (e7 (nN PySem.F.plainAttrs_list PySem.F.slot_list_extend PySem.F.type_list_extend qM (pv 5) (aa (az ng (hr.mono (by omega)) rfl aX.m aX.fn.kp aX.b .nil aQ (aa (pv 0) (aa (pv 1) (aa (aF bT (pv 2) ak) (aa (pv 3) (aa (aF mZ (pv 4) bA) af)))))) af)))) aT)
   (bL (bM (aK lN (pv 3) (aA (aR) rfl T.cu bB (aa (pv 1) af)) (aG _)) (ao (e7 (nN PySem.F.plainAttrs_list PySem.F.slot_list_extend PySem.F.type_list_extend qM (pv 5) (aa (az ng (hr.mono (by omega)) rfl aX.m aX.fn.kp aX.b .nil aQ (aa (pv 0) (aa (pv 1) (aa (pv 2) (aa (aF bT (pv 3) ak) (aa (aF mZ (pv 4) bA) af)))))) af)))) aT)
   (ao (aM (pv 5))))))),?_⟩
  refine⟨_,rfl,_,rfl,_,rfl,ax,λq0 OP=>⟨ar,λl hl=>?_⟩⟩
  have s1:=(ai.upd (o:=.tup [.str mv,.int (i:Int),.int (j:Int)]) OP).trans (ai.upd (o:=.lst [.ref q0]) hl)
  have HF:=ai.free (ai.upd (o:=.tup [.str mv,.int (i:Int),.int (j:Int)]) OP) hl
  have w1:MQ (L2.upd (L2.upd H q0 (.tup [.str mv,.int (i:Int),.int (j:Int)])) l (.lst [.ref q0])) l [(mv.cps.toList,i,j)]:=⟨[q0],ah,.cons (ai.upd hl _ _ ah) .nil⟩
  generalize L2.upd (L2.upd H q0 (.tup [.str mv,.int (i:Int),.int (j:Int)])) l (.lst [.ref q0])=H1 at s1 w1 ⊢
  refine⟨λσ H'=>σ=[some (.str f),some (.str s),some (.int (i:Int)),some (.int (j:Int)),some (.str mv),some (.ref l)]/\ai H H'/\MQ H' l ([(mv.cps.toList,i,j)]++LA),?_,?_⟩
  ·refine⟨_,rfl,_,rfl,_,_,rfl,⟨lf,rfl⟩,_,_,rfl,rfl,_,rfl,cI (λz1=>?_) λz1=>gP ⟨rfl,s1,by rw[←eA,oW (λz=>z1 ((up gn.symm).mpr z.1)),eP];exact w1⟩⟩
   refine⟨_,rfl,_,rfl,_,_,rfl,⟨ls,rfl⟩,_,_,rfl,rfl,_,rfl,cI (λz2=>?_) λz2=>⟨rfl,s1,by rw[←eA,oW (λz=>z2 ((up gm.symm).mpr z.2)),eP];exact w1⟩⟩
   have y1:=(up gn.symm).mp z1
   have y2:=(up gm.symm).mp z2
   obtain⟨a1,a2,a3⟩:=app 112 (bd "p") sP
   obtain⟨xs,hx,_⟩:=id w1
   refine⟨_,rfl,.inl ⟨rfl,_,cA.of hx⟩,_,rfl,_,rfl,_,rfl,_,_,rfl,rfl,_,rfl,_,_,rfl,rfl,_,rfl,_,_,rfl,rfl,a2,f,s,i+1,j+1,112,_,g,rfl,gn,gm,Tp,Tq,y1,y2,by show g.n-(i+1)+(g.m-(j+1))<=d;omega,by omega,a3,λl3 H3 s3 hl3 w3=>?_⟩
   rw[a1]at w3
   obtain⟨us,zs,hu,hz,e1,e2,w4⟩:=Dz w1 s3 w3
   rw[←zN (g:=g) (mv:=mv.cps.toList) (c:=i<g.n/\j<g.m) (t:=((i+1,j+1,112),g.pc i j)) ⟨y1,y2⟩,eA]at e2 w4
   exact⟨l,l3,us,zs,rfl,rfl,s3 _ _ hu,hz,bn (show us.length+zs.length<=2000 by rw[e1,e2,on];omega) (by decide),rfl,ai.at (s1.trans s3) HF,w4⟩
  rintro σ H2 ⟨rfl,s2,w2⟩
  refine⟨λσ H'=>σ=[some (.str f),some (.str s),some (.int (i:Int)),some (.int (j:Int)),some (.str mv),some (.ref l)]/\ai H H'/\MQ H' l (([(mv.cps.toList,i,j)]++LA)++LB),?_,?_⟩
  ·refine⟨_,rfl,_,rfl,_,_,rfl,⟨lf,rfl⟩,_,_,rfl,rfl,_,rfl,cI (λz1=>?_) λz1=>⟨rfl,s2,by rw[←eB,oW (λz=>z1 ((up gn.symm).mpr z)),eP];exact w2⟩⟩
   have y1:=(up gn.symm).mp z1
   obtain⟨a1,a2,a3⟩:=app 97 (bd "a") sA
   obtain⟨xs,hx,_⟩:=id w2
   refine⟨_,rfl,.inl ⟨rfl,_,cA.of hx⟩,_,rfl,_,rfl,_,rfl,_,_,rfl,rfl,_,rfl,_,rfl,_,_,rfl,rfl,a2,f,s,i+1,j,97,_,g,rfl,gn,gm,Tp,Tq,y1,hj,by show g.n-(i+1)+(g.m-(j))<=d;omega,by omega,a3,λl3 H3 s3 hl3 w3=>?_⟩
   rw[a1]at w3
   obtain⟨us,zs,hu,hz,e1,e2,w4⟩:=Dz w2 s3 w3
   rw[←zN (g:=g) (mv:=mv.cps.toList) (c:=i<g.n) (t:=((i+1,j,97),g.ac 97 c)) y1,eB]at e2 w4
   exact⟨l,l3,us,zs,rfl,rfl,s3 _ _ hu,hz,bn (show us.length+zs.length<=2000 by rw[e1,e2];simp only[ce,on];omega) (by decide),rfl,ai.at (s2.trans s3) HF,w4⟩
  rintro σ H5 ⟨rfl,s5,w5⟩
  refine⟨λσ H'=>σ=[some (.str f),some (.str s),some (.int (i:Int)),some (.int (j:Int)),some (.str mv),some (.ref l)]/\ai H H'/\MQ H' l (([(mv.cps.toList,i,j)]++LA++LB)++LC),?_,?_⟩
  ·refine⟨_,rfl,_,rfl,_,_,rfl,⟨ls,rfl⟩,_,_,rfl,rfl,_,rfl,cI (λz1=>?_) λz1=>⟨rfl,s5,by rw[←eC,oW (λz=>z1 ((up gm.symm).mpr z)),eP];exact w5⟩⟩
   have y1:=(up gm.symm).mp z1
   obtain⟨a1,a2,a3⟩:=app 98 (bd "b") sB
   obtain⟨xs,hx,_⟩:=id w5
   refine⟨_,rfl,.inl ⟨rfl,_,cA.of hx⟩,_,rfl,_,rfl,_,rfl,_,rfl,_,_,rfl,rfl,_,rfl,_,_,rfl,rfl,a2,f,s,i,j+1,98,_,g,rfl,gn,gm,Tp,Tq,hi,y1,by show g.n-(i)+(g.m-(j+1))<=d;omega,by omega,a3,λl3 H3 s3 hl3 w3=>?_⟩
   rw[a1]at w3
   obtain⟨us,zs,hu,hz,e1,e2,w4⟩:=Dz w5 s3 w3
   rw[←zN (g:=g) (mv:=mv.cps.toList) (c:=j<g.m) (t:=((i,j+1,98),g.ac 98 c)) y1,eC]at e2 w4
   exact⟨l,l3,us,zs,rfl,rfl,s3 _ _ hu,hz,bn (show us.length+zs.length<=2000 by rw[e1,e2];simp only[ce,on];omega) (by decide),rfl,ai.at (s5.trans s3) HF,w4⟩
  rintro σ H6 ⟨rfl,s6,w6⟩
  refine⟨_,rfl,kk l H6 s6 HF ?_⟩
  rw[im,im]at w6
  exact w6
theorem Ec {mS fz gb iw kT:a6}{kQ eK dX gq jE:db}{p:Pm}(T:Txt K mg p base)(jP:Dn K mg "_law_all" qG Rf mS kQ)(cU:Dn K mg "_law_may_begin" jq Rj fz eK)(vI:aI P w K mg base cB 1 fz eK Rj Ff)(aX:Dn K mg "_law_ways" mV My gb dX)(ng:aI P w K mg base cB 7 gb dX My (zU 6))(dZ:Dn K mg "_law_may_end" ly Ri iw gq)(yI:aI P w K mg base cB 1 iw gq Ri Fe)(iO:Dn K mg "_law_walk" oZ Rh kT jE)(EX:aI P w K mg base cB 4 kT jE Rh (Ie K p.au)):aI P w K mg base cB 8 mS kQ Rf (Ft K p.au):=by
 refine jP.fn.ok iF (λvs H Q E h=>?_) (λcdv A outer s H vs Q E hr h=>?_)
 ·obtain⟨pr,T1,f,s,m,rfl,_⟩:=h
  rfl
 ·obtain⟨pr,T1,f,s,m,rfl,hP,of,os,hf,hs,hm,kk⟩:=h
  have lf:f.length<=b_:=bn hf (by decide)
  have ls:s.length<=b_:=bn hs (by decide)
  refine⟨_,(aj (ag 4 iF.nd (kD af))
   (aj (dH dA rfl (gZ rfl T.k6 (aa (aF bT (aA (aR) rfl T.cu bB (aa (pv 1) af)) ak) af)) (al 5 iF.nd) (ao (dH dA rfl (gZ rfl T.k6 (aa (aF bT (aA (aR) rfl T.cu bB (aa (pv 2) af)) ak) af)) (al 6 iF.nd) (ao (bM (jx (ae vI hr cU (aa (pv 3) (aa (pv 5) (aa (pv 6) af))))) (ao (dH dA rfl (iT (ae ng hr aX (aa (pv 1) (aa (pv 2) (aa (pv 5) (aa (pv 6) (aa bA af))))))) (o8 (n:=3) rfl (bP (al 7 iF.nd) (bP (al 8 iF.nd) (bP (al 9 iF.nd) lE)))) (ao (bM (jx (ae yI hr dZ (aa (pv 3) (aa (pv 1) (aa (pv 2) (aa (pv 8) (aa (pv 9) af))))))) (aj (ag 10 iF.nd (bw b7 (ae EX hr iO (aa (pv 0) (aa (pv 1) (aa (pv 2) (aa (bG (aa (pv 5) (aa (pv 6) af))) (aa (pv 7) af)))))) ak (λ_ _=>rfl)))
   (ao (e7 (nN PySem.F.plainAttrs_list PySem.F.slot_list_append PySem.F.type_list_append iU (pv 4) (aa (bG (aa (pv 10) (aa (bG (aa (pv 5) (aa (pv 6) af))) (aa (pv 7) af)))) af))))) aT)))) aT)))))
   (ao (aM (pv 4))))),?_⟩
  generalize hg:ku T1 m f s=g at kk
  have gn:g.n=f.cps.size:=by rw[←hg];rfl
  have gm:g.m=s.cps.size:=by rw[←hg];rfl
  rw[Lb]at kk
  refine⟨am,λfo hfo=>?_⟩
  have A1:Hy (L2.upd H fo (.lst [])) fo []:=⟨[],ah,.nil⟩
  have s1:=ai.upd (o:=.lst []) hfo
  generalize L2.upd H fo (.lst [])=H1 at A1 s1 ⊢
  refine⟨_,rfl,_,_,rfl,⟨lf,rfl⟩,_,_,rfl,rfl,_,rfl,?_,?_,?_⟩
  ·show _<=(f.cps.size:Int)+1
   omega
  ·show(f.cps.size:Int)+1<_
   omega
  have en:(((f.length:Nat):Int)+1).toNat=f.cps.size+1:=rfl
  have en2:(((s.length:Nat):Int)+1).toNat=s.cps.size+1:=rfl
  rw[en]
  refine kJ (lo:=0) (n:=f.cps.size+1) (λi σ H2=>∃v5 v6 v7 v8 v9 v10 ws,σ=[some (.ref pr),some (.str f),some (.str s),some (.str m),some (.ref fo),v5,v6,v7,v8,v9,v10]/\ai H H2/\Hy H2 fo ws/\ws.length<=5000*i/\ws=(dk i).flatMap λi=>(dk (s.cps.size+1)).flatMap λj=>g.Pu m i j)
   ⟨_,_,_,_,_,_,[],rfl,s1,A1,ba _,rfl⟩ ?_ ?_
  ·rintro i σ H2 hi ⟨v5,v6,v7,v8,v9,v10,ws,rfl,s2,A2,hw,XA⟩
   refine⟨_,rfl,_,_,rfl,⟨ls,rfl⟩,_,_,rfl,rfl,_,rfl,?_,?_,?_⟩
   ·show _<=(s.cps.size:Int)+1
    omega
   ·show(s.cps.size:Int)+1<_
    omega
   rw[en2]
   refine kJ (lo:=0) (n:=s.cps.size+1) (λj σ H3=>∃v6 v7 v8 v9 v10 zs,σ=[some (.ref pr),some (.str f),some (.str s),some (.str m),some (.ref fo),some (.int (i:Int)),v6,v7,v8,v9,v10]/\ai H H3/\Hy H3 fo (ws++zs)/\zs.length<=1200*j/\zs=(dk j).flatMap λj=>g.Pu m i j)
    ⟨v6,v7,v8,v9,v10,[],by rw[kl];rfl,s2,by rw[eP];exact A2,ba _,rfl⟩ ?_ ?_
   ·rintro j σ H3 hj ⟨v6,v7,v8,v9,v10,zs,rfl,s3,A3,hz,Xz⟩
    have eR:∀xs,g.Pu m i j=xs->zs++xs=(dk (j+1)).flatMap λj=>g.Pu m i j:=λxs e=>by
     rw[mn,ms,←Xz,←e]
     simp
    refine⟨_,rfl,_,rfl,_,rfl,m,_,_,rfl,hm,_,rfl,?_⟩
    rw[kl]
    cases z:vo m ((i:Int),(j:Int))with
    |false =>
     refine gP ⟨_,_,_,_,_,zs,rfl,s3,A3,by omega,?_⟩
     rw[←eR [] (by unfold Gd.Pu;rw[z];rfl),eP]
    |true =>
     refine pO ⟨_,rfl,_,rfl,_,rfl,_,rfl,f,s,i,j,112,_,g,rfl,gn,gm,by omega,by omega,by omega,by omega,by show g.n-i+(g.m-j)<=6;omega,ba _,by decide,λl5 H5 s5 P1 w5=>?_⟩
     obtain⟨Ye,R5,Yg⟩:=w5
     have A5:=A3.keep s5
     obtain⟨fs3,hf3,_⟩:=id A3
     have Z3:l5≠fo:=λq=>by rw[q,hf3]at P1;cases P1
     have hwl:=Gd.zO 6 (i,j,112) (show g.n-i+(g.m-j)<=6 by omega)
     have p7:(3:Nat) ^ (6+1)=2187:=rfl
     refine⟨l5,rfl,⟨_,cA.of R5⟩,?_⟩
     refine lP (K:=K) (a:=l5) (xs:=Ye.map V.ref) (λk σ H6=>∃v7 v8 v9 v10 us,σ=[some (.ref pr),some (.str f),some (.str s),some (.str m),some (.ref fo),some (.int (i:Int)),some (.int (j:Int)),v7,v8,v9,v10]/\ai H H6/\ai (Wo fo H5) (Wo fo H6)/\Hy H6 fo (ws++zs++us)/\us.length<=k/\us=(((g.uG (i,j,112)).take k).map λw=>((i,j),w)).filter g.CN)
      ⟨v7,v8,v9,v10,[],rfl,s3.trans s5,ai.refl _,by rw[eP];exact A5,ba _,rfl⟩ (λk σ H6 _ ⟨_,_,_,_,_,_,_,w6,_⟩=>cA.of (Wo.sub _ _ (w6 _ _ (Wo.in Z3 R5)))) ?_ ?_
     ·rintro k y σ H6 hy ⟨v7,v8,v9,v10,us,rfl,s6,w6,A6,hu,TX⟩
      obtain⟨pt,WS,rfl⟩:=jz hy
      obtain⟨tw,htw,KA⟩:=GP.Paired.at Yg WS
      rw[cx]at htw
      obtain⟨wv,WE,rfl⟩:=gN.mp htw
      obtain⟨fs5,hf5,_⟩:=id A5
      have Z2:pt≠fo:=λq=>by rw[q,hf5]at KA;cases KA
      have RW:H6 pt=some (.tup [.str ⟨wv.1.toArray⟩,.int (wv.2.2.1:Int),.int (wv.2.2.2.1:Int)]):=Wo.sub _ _ (w6 _ _ (Wo.in Z2 KA))
      have WG:=Gd.qN.mp (cb WE)
      have TL:k<(g.uG (i,j,112)).length:=(bj.mp WE).1
      have eT:∀b,g.CN ((i,j),wv)=b->us++(if b=true then [((i,j),wv)]else [])=(((g.uG (i,j,112)).take (k+1)).map λw=>((i,j),w)).filter g.CN:=λb e=>by
       rw[take_snoc WE,du,vy,←TX]
       congr 1
       cases b with
       |true=>rw[if_pos rfl,List.map_singleton,ip e,List.filter_nil]
       |false=>rw[if_neg bt,List.map_singleton,iq (by rw[e];exact bt),List.filter_nil]
      refine⟨_,_,rfl,dD.of RW,rfl,_,_,rfl,_,_,rfl,_,_,rfl,rfl,?_⟩
      refine⟨_,rfl,_,rfl,_,rfl,_,rfl,_,rfl,m,f,s,_,_,rfl,hm,by omega,by omega,_,rfl,?_⟩
      have een:Au m f s ((wv.2.2.1:Int),(wv.2.2.2.1:Int))=g.CN ((i,j),wv):=by rw[←hg];rfl
      rw[een]
      cases ze:g.CN ((i,j),wv)with
      |false =>
       refine gP ⟨_,_,_,_,us,rfl,s6,w6,A6,by omega,?_⟩
       rw[←eT false ze,if_neg bt,eP]
      |true =>
       refine pO ⟨_,rfl,_,rfl,_,rfl,_,rfl,_,rfl,aw,λqb hqb=>⟨_,rfl,?_⟩⟩
       have s7:=ai.upd (o:=.tup [.int (i:Int),.int (j:Int)]) hqb
       have Y3:vQ (L2.upd H6 qb (.tup [.int (i:Int),.int (j:Int)])) qb (i,j):=ah
       generalize L2.upd H6 qb (.tup [.int (i:Int),.int (j:Int)])=H7 at s7 Y3 ⊢
       have hml:(⟨wv.1.toArray⟩:bv).cps.size<=1000:=by
        have z1:=Gd.DA WG
        have z2:g.ht (i,j,112)=g.n-i+(g.m-j):=rfl
        show wv.1.toArray.size<=1000
        rw[dq]
        omega
       refine⟨pr,qb,T1,m,f,s,⟨wv.1.toArray⟩,(i,j),rfl,(hP.same s6).same s7,of,os,by omega,by omega,hml,Y3,λhn=>?_,λc e YF r p8 H8 s8 hr hr8 hp8=>?_⟩
       ·rw[hg]at hn
        have hn':g.walk (i,j,112) wv.1=none:=hn
        rw[WG]at hn'
        cases hn'
       rw[hg]at YF
       have RQ:g.walk (i,j,112) wv.1=some (c,e):=YF
       rw[WG]at RQ
       cases RQ
       have X7:=s7.trans s8
       have A8:=A6.keep X7
       obtain⟨fs8,YW,ZX⟩:=id A8
       refine⟨r,_,_,_,rfl,rfl,dD.of hr8,rfl,?_⟩
       refine⟨_,rfl,.inl ⟨rfl,_,cA.of YW⟩,_,rfl,_,rfl,_,rfl,aw,λq9 YK=>⟨_,rfl,ax,λr9 YI=>?_⟩⟩
       have s9:=ai.upd (o:=.tup [.int (i:Int),.int (j:Int)]) YK
       have Y0:vQ (L2.upd H8 q9 (.tup [.int (i:Int),.int (j:Int)])) q9 (i,j):=ah
       generalize L2.upd H8 q9 (.tup [.int (i:Int),.int (j:Int)])=H9 at s9 Y0 YI ⊢
       have Gn:=ai.upd (o:=.tup [.int wv.2.1,.ref q9,.str ⟨wv.1.toArray⟩]) YI
       have RU:L2.upd H9 r9 (.tup [.int wv.2.1,.ref q9,.str ⟨wv.1.toArray⟩]) r9=some (.tup [.int wv.2.1,.ref q9,.str ⟨wv.1.toArray⟩]):=ah
       generalize L2.upd H9 r9 (.tup [.int wv.2.1,.ref q9,.str ⟨wv.1.toArray⟩])=Kl at Gn RU ⊢
       have BX:=s9.trans Gn
       have A10:=A8.keep BX
       have Sa:=BX _ _ YW
       have QN:=X7.trans BX
       have A11:=Hy.snoc (w:=((i,j),wv)) A10 Sa RU (Gn _ _ Y0)
       have hlen:=Paired.len ZX
       refine⟨fo,_,_,rfl,rfl,Sa,?_,_,_,_,_,us++[((i,j),wv)],rfl,ai.at (s6.trans QN) hfo,?_,by rw[←im];exact A11,by rw[ce];exact rc hu,?_⟩
       ·rw[a_,hlen]
        simp only[ce]
        exact cr (show _<=30000 by omega) (by decide)
       ·rw[Wo.set]
        exact w6.trans (Wo.same QN)
       ·rw[←eT true ze,if_pos rfl]
     ·rintro σ H6 ⟨v7,v8,v9,v10,us,rfl,s6,w6,A6,hu,TX⟩
      have e5:Ye.length=(g.uG (i,j,112)).length:=by rw[Paired.len Yg,a_]
      rw[a_,e5,my]at TX
      rw[a_,e5]at hu
      refine⟨_,_,_,_,_,zs++us,rfl,s6,by rw[←im];exact A6,by rw[ce];omega,?_⟩
      rw[←eR us (by unfold Gd.Pu;rw[if_pos z,TX])]
   ·rintro σ H3 ⟨v6,v7,v8,v9,v10,zs,rfl,s3,A3,hz,Xz⟩
    exact⟨_,_,_,_,_,_,ws++zs,rfl,s3,A3,by rw[ce];omega,by rw[mn (n:=i),ms,←XA,Xz];simp⟩
  ·rintro σ H2 ⟨v5,v6,v7,v8,v9,v10,ws,rfl,s2,A2,hw,XA⟩
   rw[XA]at A2 hw
   exact⟨_,rfl,kk fo H2 s2 hfo A2 (by omega)⟩
end
section
variable{P:bo}{w:df}{K:PySem.W.Frag}{mg:bv->Option a9}{base:dC}
theorem Oc {zu i9 mP ja bh mS mQ gf kW gT kU:a6}{JM g8 kL g9 aU kQ kO dY iM fK jF:db}{p:Pm}(T:Txt K mg p base)(Kq:Dn K mg "law" qZ PO zu JM)(fP:Dn K mg "_law_prices" mq l4 i9 g8)(Bl:aI P w K mg base cB 7 i9 g8 l4 (yT K p.au))(gC:Dn K mg "_law_row" qC Rl mP kL)(zJ:aI P w K mg base cB 2 mP kL Rl (Ig K))(fQ:Dn K mg "_law_manner" mw ["_law_m"] ja g9)(Bm:aI P w K mg base cB 1 ja g9 ["_law_m"] BS)(aB:Dn K mg "_law_next" fX l4 bh aU)(cN:aI P w K mg base cB 1 bh aU l4 (pU K))(jP:Dn K mg "_law_all" qG Rf mS kQ)(Hu:aI P w K mg base cB 8 mS kQ Rf (Ft K p.au))(gD:Dn K mg "_law_key" qD Rg mQ kO)(zK:aI P w K mg base cB 1 mQ kO Rg Mm)(bJ:Dn K mg "_law_same" mW Mz gf dY)(pI:aI P w K mg base cB 3 gf dY Mz (vO K 2))(iQ:Dn K mg "cheapest" o5 Ky kW iM){wg:wT}(x8:Binds K iM Ky [.str (bd "whole") wg])(EZ:aI P w K mg base cB 8 kW iM Ky (nv (Fp P w K p.au p.aS p.bz (yt K))))(cZ:Dn K mg "in_units" mY Ow gT fK)(sj:aI P w K mg base cB 2 gT fK Ow (t7 K p.au))(iP:Dn K mg "count_of" o4 Ky kU jF)(EY:aI P w K mg base cB 8 kU jF Ky (nv (Fl P w K p.au p.aS p.bz (yt K)))):aI P w K mg base cB 11 zu JM PO (zW K (yt K)):=by
 refine Kq.fn.ok lS (λvs H Q E h=>?_) (λcdv A outer s H vs Q E hr h=>?_)
 ·obtain⟨s,ns,rfl,_⟩:=h
  rfl
 ·obtain⟨s,ns,rfl,ha,hl,hT,kk⟩:=h
  refine⟨_,(aj (ag 1 lS.nd (kD (aa ak af)))
   (aj (ag 2 lS.nd (ae Bl hr fP (aa (pv 0) (aa (pv 1) af))))
   (aj (ag 3 lS.nd (ae zJ hr gC (aa (pv 0) (aa (pv 1) (aa (cX (pv 2) rfl) (aa ak af))))))
   (aj (ag 4 lS.nd (ae zJ hr gC (aa (pv 0) (aa (pv 1) (aa (cX (pv 2) rfl) (aa ak af))))))
   (bL (ag 5 lS.nd (ae Bm hr fQ (aa (ae cN hr aB (aa (pv 0) (aa (pv 1) af))) af)))
   (bL (ag 6 lS.nd (ae Hu hr jP (aa (pv 2) (aa (pv 3) (aa (pv 4) (aa (pv 5) af))))))
   (bL (aD (i:=7) lS.nd rfl (Or.inr rfl) (aA (zA rfl) rfl T.E7 AN (aa (nM (N:=["_law_one"]) rfl (λ_=>⟨[],cQ.plain (by decide +kernel) rfl (by decide +kernel) (by decide +kernel)⟩) (iT (pv 6)) (λ_ _ _ _ _ _ _=>(aL (i:=0) (show(["_law_one"]:List bv).Nodup by decide +kernel) rfl (Or.inl rfl))) (λ_ _ _ _ _ _ _=>(bw (Aw (K':=K) rfl) (pv 0) ak (λ_ _=>rfl)))) af)))
   (bL (B5 (i:=9) (N:=["_law_one","_law_least"]) lS.nd rfl (Or.inl rfl) rfl (cQ.sW (nt:=1) (ix:=[7]) rfl (by decide +kernel) (by decide +kernel) (by kernel_rfl) rfl (by kernel_rfl)) (iT (pv 6)) (λ_ _ _ _ _ _ _=>(aL (i:=0) (show(["_law_one","_law_least"]:List bv).Nodup by decide +kernel) rfl (Or.inl rfl))) (λ_ _ _ _ _ _ _=>(pv 0)) (λ_ _ _ _ _ _ _=>(aK bW (bw (Aw (K':=K) rfl) (pv 0) ak (λ_ _=>rfl)) (pv 1) (aG _))))
   (bL (ag 10 lS.nd (bw dP (pv 9) ak (λ_ _=>rfl)))
   (bL (dH dA rfl (iT (pv 9)) (al 8 lS.nd) (ao (bM (aK (Oa (K':=K) rfl (WJ hr)) (ae zK hr gD (aa (bw b7 (pv 8) ak (λ_ _=>rfl)) (aa (bw b7 (pv 8) ak (λ_ _=>rfl)) af))) (ae zK hr gD (aa (bw b7 (pv 10) ak (λ_ _=>rfl)) (aa (bw b7 (pv 10) ak (λ_ _=>rfl)) af))) (aG _)) (ao (ag 10 lS.nd (pv 8))) aT)))
   (bL (bM (D0 (jx (ae pI hr bJ (aa (ae EZ hr iQ (aa (pv 2) (aa (pv 3) (aa (pv 4) (aa (pv 5) af))))) (aa (bG (aa (ae sj hr cZ (aa (pv 2) (aa (pv 7) af))) (aa (bw b7 (pv 10) ak (λ_ _=>rfl)) (aa (bw b7 (pv 10) ak (λ_ _=>rfl)) af)))) af))))) eF aT)
   (ao (aM (ae pI hr bJ (aa (ae EY hr iP (aa (pv 2) (aa (pv 3) (aa (pv 4) (aa (pv 5) af))))) (aa (aA (aR) rfl T.cu bB (aa (pv 9) af)) af)))))))))))))))),?_⟩
  refine⟨ar,λt ht=>?_⟩
  have hC:yM K (upd H t (.lst [.int 0])) s t ns 0:=by
   refine⟨?_,hl,ah,by decide⟩
   rw[Wo.set]
   exact ai.seq (λb u e=>Wo.in (aO e ht) e) ha
  have Y4:LT (yt K) (upd H t (.lst [.int 0])):=hT.same (ai.upd ht)
  generalize upd H t (.lst [.int 0])=H0 at hC Y4 ⊢
  refine⟨_,rfl,_,rfl,s,t,ns,0,rfl,hC,by decide,λx H1 k1 T1 Zb h4 hx w1 ht1 PY Tt=>?_⟩
  have C1:=hC.off w1 ht1 (by omega)
  obtain⟨sig,_,_,_,_,_,_,dx,Pp,o,mo,d,kvs,Tu,_⟩:=id Zb
  have WD:=Wo.sub _ _ Tu
  refine⟨_,rfl,_,rfl,_,rfl,x,_,dx,_,_,rfl,WD,T.bq,T.iL,rZ,s,t,ns,k1,3,T1.1,rfl,C1,by omega,by decide,sig.1,sig.2.1,λf H2 k2 of hf w2 Kz Tr Wt=>?_⟩
  have C2:=C1.off w2 Kz (by omega)
  refine⟨_,rfl,_,rfl,_,rfl,x,_,dx,_,_,rfl,Wo.sub _ _ (w2 _ _ Tu),T.bq,T.iL,rZ,s,t,ns,k2,3,T1.1,rfl,C2,by omega,by decide,sig.1,sig.2.1,λg H3 k3 og hg w3 LL PX PV=>?_⟩
  have C3:=C2.off w3 LL (by omega)
  have ZC:=(w1.trans w2).trans w3
  refine⟨λσ H4=>∃m,ko m=true/\σ=[some (.ref s),some (.ref t),some (.ref x),some (.str f),some (.str g),some (.str m),none,none,none,none,none]/\ai (Wo t H3) (Wo t H4)/\H4 t=some (.lst [.int (k3+1)]),?_,?_⟩
  ·refine⟨_,rfl,_,rfl,s,t,ns,k3,rfl,C3,by omega,λm0 hm0 _=>⟨m0,rfl,hm0,λm H4 hm s4=>⟨m,hm,rfl,?_,s4 _ _ ah⟩⟩⟩
   exact Wo.step s4
  rintro σ H4 ⟨m,hm,rfl,w4,RS⟩
  have ZA:=ZC.trans w4
  have hT4:=Y4.step hC.at_ ZA
  have Za:=(Zb.same ((w2.trans w3).trans w4)).same Wo.sub
  have lf:f.length<=b_:=bn (show f.cps.size<=12 by omega) (by decide)
  have lz:g.length<=b_:=bn (show g.cps.size<=12 by omega) (by decide)
  obtain⟨b,hb⟩:=uz (f:=(ku T1 m f g).jS) (AQ m f.cps.size g.cps.size)
  have ok:=EB T1 m f g
  have OT:=Jm (n:=f.cps.size) (k:=g.cps.size) ok rfl rfl hb
  have OV:=λd hd hc hl=>O7 (n:=f.cps.size) (k:=g.cps.size) ok rfl rfl hb (d:=d) hd hc hl
  have LN:=EN (g:=ku T1 m f g) (x:=(ku T1 m f g).jS b) (iC m f.cps.size g.cps.size)
  obtain⟨e0,Cy⟩:=AO (n:=f.cps.size) (k:=g.cps.size) ok rfl rfl hb
  refine⟨λσ H5=>∃l,σ=[some (.ref s),some (.ref t),some (.ref x),some (.str f),some (.str g),some (.str m),some (.ref l),none,none,none,none]/\ai H4 H5/\Hy H5 l (((ku T1 m f g).pre (iC m f.cps.size g.cps.size)).filter (ku T1 m f g).CN)/\(((ku T1 m f g).pre (iC m f.cps.size g.cps.size)).filter (ku T1 m f g).CN).length<=20000,?_,?_⟩
  ·exact⟨_,rfl,_,rfl,_,rfl,_,rfl,x,T1,f,g,m,rfl,Za,of,og,hf,hg,hm,λl H5 s5 _ A5 hA=>⟨l,rfl,s5,A5,hA⟩⟩
  rintro σ H5 ⟨l,rfl,s5,A5,hA⟩
  generalize eW:((ku T1 m f g).pre (iC m f.cps.size g.cps.size)).filter (ku T1 m f g).CN=W at A5 hA OT OV LN Cy
  generalize eX:(ku T1 m f g).jS b=X0 at OT OV LN Cy
  obtain⟨ps,hps,pp⟩:=id A5
  have hpl:=Paired.len pp
  have wd:Hf:=((0,0),[],0,(0,0,0))
  have at_:∀i,i<ps.length->∃p q w,ps[i]? =some p/\W[i]? =some w/\W.getD i wd=w/\H5 p=some (.tup [.int w.2.2.1,.ref q,.str ⟨w.2.1.toArray⟩])/\vQ H5 q w.1:=λi hi=>by
   obtain⟨w,hw,q,h1,h2⟩:=GP.Paired.at pp (a7 hi)
   exact⟨_,q,w,a7 hi,hw,mH hw,h1,h2⟩
  have Yw:ps.length<b_:=cr (show ps.length<=20000 by omega) (by decide)
  refine⟨λσ H6=>σ=[some (.ref s),some (.ref t),some (.ref x),some (.str f),some (.str g),some (.str m),some (.ref l),some (.int X0),none,none,none]/\ai H5 H6,?_,?_⟩
  ·refine⟨_,rfl,l,rfl,⟨_,cA.of hps⟩,λlc MH=>?_⟩
   refine AI ps.length (λi=>.int (W.getD i wd).2.2.1) MH Yw (λi H6 s6 hi=>?_) (λH6 s6=>?_) (λi y H6 H7 R s6 hi hy hR=>?_) λH6 s6 MI=>?_
   ·exact⟨_,_,cA.of (s6 _ _ hps),by rw[cx,a7 hi];rfl⟩
   ·exact⟨_,cA.of (s6 _ _ hps),by rw[a_];exact ba _⟩
   ·obtain⟨rfl,hy⟩:=hy
    have ey:=hy _ (cA.of (s6 _ _ hps))
    obtain⟨pt,q,w,e1,e2,e3,e4,e5⟩:=at_ i hi
    rw[cx,e1]at ey
    cases ey
    rw[e3]at hR
    exact⟨Kp.DR,_,rfl,_,_,_,_,rfl,rfl,dD.of (s6 _ _ e4),rfl,hR _ (ai.refl _)⟩
   rw[hpl,K7 W wd (λo=>V.int o.2.2.1)]at MI
   have W3:H6 lc=some (.lst ((W.map (·.2.2.1)).map V.int)):=by rw[MI,kb];rfl
   refine⟨lc,W.map (·.2.2.1),rfl,cA.of W3,λz=>?_,?_⟩
   ·rw[List.map_eq_nil_iff]at z
    rw[z]at Cy
    exact nomatch Cy
   rw[OT]
   exact⟨rfl,s6⟩
  rintro σ H6 ⟨rfl,s6⟩
  refine⟨λσ H7=>∃lb qs,σ=[some (.ref s),some (.ref t),some (.ref x),some (.str f),some (.str g),some (.str m),some (.ref l),some (.int X0),none,some (.ref lb),none]/\ai H5 H7/\H7 lb=some (.lst (qs.map V.ref))/\Paired (λp w=>∃q,H7 p=some (.tup [.int w.2.2.1,.ref q,.str ⟨w.2.1.toArray⟩])/\vQ H7 q w.1) qs (W.filter λw=>decide (w.2.2.1=X0)),?_,?_⟩
  ·refine⟨_,rfl,l,rfl,⟨_,cA.of (s6 _ _ hps)⟩,λlc MH=>?_⟩
   refine AJ ps.length (λi=>decide ((W.getD i wd).2.2.1=X0)) (λi=>V.ref (ps.getD i 0)) MH Yw (λi H7 s7 hi=>?_) (λH7 s7=>?_) (λi y H7 H8 R S s7 hi hy hR hZ=>?_) λH7 s7 hl7=>?_
   ·exact⟨_,_,cA.of (s7 _ _ (s6 _ _ hps)),by rw[cx,a7 hi];rfl⟩
   ·exact⟨_,cA.of (s7 _ _ (s6 _ _ hps)),by rw[a_];exact ba _⟩
   ·obtain⟨rfl,hy⟩:=hy
    have ey:=hy _ (cA.of (s7 _ _ (s6 _ _ hps)))
    obtain⟨pt,q,w,e1,e2,e3,e4,e5⟩:=at_ i hi
    rw[cx,e1]at ey
    cases ey
    rw[e3]at hR hZ
    rw[show ps.getD i 0=pt from mH e1]at hR
    refine⟨Kp.DR,_,rfl,_,_,_,_,rfl,rfl,dD.of (s7 _ _ (s6 _ _ e4)),rfl,_,rfl,rfl,_,rfl,?_⟩
    rw[lG]
    exact cI (λz=>⟨_,rfl,hR (decide_eq_true z) _ (ai.refl _)⟩) λz=>hZ (decide_eq_false z) _ (ai.refl _)
   have pf:=yX (p:=λw:Hf=>decide (w.2.2.1=X0)) (d:=wd) (a:=(0:a6)) pp
   exact⟨lc,_,rfl,s6.trans s7,by rw[hl7,kb];rfl,Paired.gO pf λ_ _ ⟨q,z1,z2⟩=>⟨q,s7 _ _ (s6 _ _ z1),s7 _ _ (s6 _ _ z2)⟩⟩
  rintro σ H7 ⟨lb,qs,rfl,s7,hlb,pq⟩
  generalize eB:(W.filter λw=>decide (w.2.2.1=X0))=B at pq LN
  have WO:=Paired.len pq
  have Wu:∀w∈B,w∈W/\w.2.2.1=X0:=λw hw=>by
   rw[←eB]at hw
   exact⟨(fe.mp hw).1,of_decide_eq_true (fe.mp hw).2⟩
  have Zy:∀w∈W,w.2.2.1=X0->w∈B:=λw h1 h2=>by
   rw[←eB]
   exact fe.mpr ⟨h1,decide_eq_true h2⟩
  have hB0:=Zy _ Cy rfl
  have Xh:0<qs.length:=by rw[WO];exact List.length_pos_of_mem hB0
  obtain⟨d0,hd0,q0,OP,WR⟩:=GP.Paired.at pq (a7 Xh)
  refine⟨λσ H8=>σ=[some (.ref s),some (.ref t),some (.ref x),some (.str f),some (.str g),some (.str m),some (.ref l),some (.int X0),none,some (.ref lb),some (.ref qs[0])]/\H7=H8,⟨_,rfl,lb,_,_,_,rfl,rfl,cA.of hlb,(show G9 _ ((0:Nat):Int)=_ from gW (by rw[cx,a7 Xh];rfl)),rfl,rfl⟩,?_⟩
  rintro σ _ ⟨rfl,rfl⟩
  refine⟨λσ H8=>∃v8 pd d,σ=[some (.ref s),some (.ref t),some (.ref x),some (.str f),some (.str g),some (.str m),some (.ref l),some (.int X0),v8,some (.ref lb),some (.ref pd)]/\ai H7 H8/\d∈B/\(∃q,H7 pd=some (.tup [.int d.2.2.1,.ref q,.str ⟨d.2.1.toArray⟩])/\vQ H7 q d.1)/\∀w∈B,HC w d=false,?_,?_⟩
  ·refine⟨_,rfl,lb,rfl,⟨_,cA.of hlb⟩,?_⟩
   refine lP (K:=K) (a:=lb) (xs:=qs.map V.ref) (λk σ H8=>∃v8 pd d,σ=[some (.ref s),some (.ref t),some (.ref x),some (.str f),some (.str g),some (.str m),some (.ref l),some (.int X0),v8,some (.ref lb),some (.ref pd)]/\ai H7 H8/\d∈B/\(∃q,H7 pd=some (.tup [.int d.2.2.1,.ref q,.str ⟨d.2.1.toArray⟩])/\vQ H7 q d.1)/\∀w∈B.take k,HC w d=false)
    ⟨_,_,d0,rfl,ai.refl _,cb hd0,⟨q0,OP,WR⟩,λw hw=>nomatch hw⟩ (λk σ H8 _ ⟨_,_,_,_,s8,_⟩=>cA.of (s8 _ _ hlb)) ?_ ?_
   ·rintro k y σ H8 hy ⟨v8,pd,d,rfl,s8,OW,⟨q,hd1,hd2⟩,hmin⟩
    obtain⟨pv,hpv,rfl⟩:=jz hy
    obtain⟨v,hv,qv,hv1,hv2⟩:=GP.Paired.at pq hpv
    have YG:=cb hv
    have ml:∀w∈B,(⟨w.2.1.toArray⟩:bv).cps.size<=1000:=λw hw=>by
     have hW:=(Wu w hw).1
     rw[←eW]at hW
     obtain⟨b',mv,c,e⟩:=w
     have z1:=Gd.DA (Gd.qO.mp (fe.mp hW).1).2
     have z2:(ku T1 m f g).ht (b'.1,b'.2,112)=f.cps.size-b'.1+(g.cps.size-b'.2):=rfl
     show mv.toArray.size<=1000
     rw[dq]
     omega
    refine⟨_,rfl,pv,_,_,_,rfl,rfl,dD.of (s8 _ _ hv1),rfl,_,rfl,pv,_,_,_,rfl,rfl,dD.of (s8 _ _ hv1),rfl,qv,_,rfl,ml v YG,λr1 H9 s9 hr1=>?_⟩
    have VT:=s8.trans s9
    refine⟨_,rfl,pd,_,_,_,rfl,rfl,dD.of (VT _ _ hd1),rfl,_,rfl,pd,_,_,_,rfl,rfl,dD.of (VT _ _ hd1),rfl,q,_,rfl,ml d OW,λr2 Kl Gn hr2=>?_⟩
    have BX:=VT.trans Gn
    refine⟨r1,r2,qv,q,_,_,_,_,_,_,rfl,rfl,dD.of (Gn _ _ hr1),dD.of hr2,dD.of (BX _ _ hv2),dD.of (BX _ _ hd2),_,rfl,?_⟩
    have eL:Cq (v.1.1:Int) (v.1.2:Int) (xA (⟨v.2.1.toArray⟩:bv).cps.toList) (d.1.1:Int) (d.1.2:Int) (xA (⟨d.2.1.toArray⟩:bv).cps.toList)=HC v d:=rfl
    rw[eL]
    cases zl:HC v d with
    |true =>
     refine pO ⟨_,rfl,_,pv,v,rfl,BX,YG,⟨qv,hv1,hv2⟩,λw hw=>?_⟩
     rw[take_snoc hv]at hw
     rcases eM.mp hw with hw|hw
     ·exact Jb (hmin w hw) zl
     ·rw[c_.mp hw];exact Ll v
    |false =>
     refine gP ⟨_,pd,d,rfl,BX,OW,⟨q,hd1,hd2⟩,λw hw=>?_⟩
     rw[take_snoc hv]at hw
     rcases eM.mp hw with hw|hw
     ·exact hmin w hw
     ·rw[c_.mp hw];exact zl
   ·rintro σ H8 ⟨v8,pd,d,rfl,s8,OW,TQ,hmin⟩
    rw[a_,WO,my]at hmin
    exact⟨_,pd,d,rfl,s8,OW,TQ,hmin⟩
  rintro σ H8 ⟨v8,pd,d,rfl,s8,OW,⟨q,hd1,hd2⟩,hmin⟩
  obtain⟨JE,JD⟩:=OV d (Wu d OW).1 (Wu d OW).2 λw hw hc=>hmin w (Zy w hw hc)
  have Yb:=(s5.trans s7).trans s8
  have Xl:=Za.same Yb
  have hT8:=hT4.same Yb
  rw[JD]at hd1
  rw[JE]at hd2
  refine⟨λσ H9=>σ=[some (.ref s),some (.ref t),some (.ref x),some (.str f),some (.str g),some (.str m),some (.ref l),some (.int X0),v8,some (.ref lb),some (.ref pd)]/\Lo P w (yt K) H8 H9,?_,?_⟩
  ·refine⟨_,rfl,_,rfl,_,rfl,_,rfl,x,T1,f,g,m,rfl,Xl,hT8,by omega,by omega,λ_ _ _=>⟨by omega,by omega,λr1 H9 Mx _ ch1=>?_⟩,λi j bad=>absurd ⟨of,og⟩ bad.no,λ_ _ z=>by rw[hm]at z;cases z⟩
   obtain⟨b1,c1,p1,hb1,hr1,hc1,hp1⟩:=ch1
   rw[hb]at hb1
   cases hb1
   rw[eX]at hc1
   refine⟨_,rfl,_,rfl,x,X0,T1.1,T1.2.1,T1.2.2.1,T1.2.2.2,rfl,Mx.pr Xl,λq9 Kl Gn YK WQ=>?_⟩
   have YY:=Gn _ _ (Mx.nx _ _ (Nt.tup (s8 _ _ hd1)))
   have Xd:=Gn _ _ (Mx.nx _ _ (Nt.tup (s8 _ _ hd2)))
   refine⟨_,rfl,pd,_,_,_,rfl,rfl,dD.of YY,rfl,_,rfl,pd,_,_,_,rfl,rfl,dD.of YY,rfl,ax,λt3 LL=>?_⟩
   have Ks:=ai.upd (o:=.tup [.ref q9,.ref q,.str ⟨((ku T1 m f g).moves (b.1,b.2,112)).toArray⟩]) LL
   exact⟨_,_,rfl,Bv.of (dD.of (Ks _ _ (Gn _ _ hr1))) (dD.of ah) (by show 3<=100;decide) (.cons (Bv.of (dD.of (Ks _ _ (Gn _ _ hc1))) (dD.of (Ks _ _ WQ)) (by show 2<=100;decide) (.cons .int (.cons .int .nil))) (.cons (Bv.of (dD.of (Ks _ _ (Gn _ _ hp1))) (dD.of (Ks _ _ Xd)) (by show 2<=100;decide) (.cons .int (.cons .int .nil))) (.cons .str .nil))),λL8 s12=>⟨_,rfl,Cv ⟨rfl,Mx.then (Gn.trans (Ks.trans s12))⟩⟩⟩
  rintro σ H9 ⟨rfl,Mx⟩
  refine⟨_,rfl,_,rfl,_,rfl,_,rfl,x,T1,f,g,m,rfl,Mx.pr Xl,Mx.lt,by omega,by omega,λ_ _ _=>⟨by omega,by omega,λb2 Kl Q9 hb2=>?_⟩,λi j bad=>absurd ⟨of,og⟩ bad.no,λ_ _ z=>by rw[hm]at z;cases z⟩
  rw[hb]at hb2
  cases hb2
  have W6:=Q9.nx _ _ (Nt.lst (Mx.nx _ _ (Nt.lst (s8 _ _ hlb))))
  rw[eX,←LN]
  refine⟨_,rfl,_,_,rfl,.inl ⟨_,cA.of W6,rfl⟩,?_⟩
  rw[a_,WO]
  exact⟨_,_,rfl,.int,λL8 s12=>kk L8 (Q9.lt.same s12)⟩
end
noncomputable def kj(K:PySem.W.Frag)(x y:bv)(s:gl):Prop:=∃f oc od sl kV dc pm an cd ct,PySem.W.nsIn K cn x=some (some (.ref f))/\K.lookup f=some ⟨oc,od,.func (PySem.W.fnOf y y (gj s) (dW s) (ay s) .none kV dc pm an cd ct),sl⟩/\PySem.W.codeIn K cd y=true/\PySem.W.keepIn K (.ref f)=true
theorem kj.mk{K:PySem.W.Frag}{x y:bv}{s:gl}{f:a6}{oc kV dc pm cd ct:a9}{od an:Option a6}{sl:Array (Option a9)}(a:PySem.W.nsIn K cn x=some (some (.ref f)))(l:K.lookup f=some ⟨oc,od,.func (PySem.W.fnOf y y (gj s) (dW s) (ay s) .none kV dc pm an cd ct),sl⟩)(c:PySem.W.codeIn K cd y=true)(k:PySem.W.keepIn K (.ref f)=true):kj K x y s:=⟨f,oc,od,sl,kV,dc,pm,an,cd,ct,a,l,c,k⟩
theorem Sv{K:PySem.W.Frag}{h:dC}{mg:bv->Option a9}{x y:bv}{s:gl}{ps:List bv}(X:K.In h)(G:h.Ns cn mg)(d:kj K x y s)(b:∀(kV doc pm:a9) (an:Option a6) (cdv ct:a9) (us:List a9),us.length=ps.length->bindArgs (PySem.W.fnOf y y (gj s) (dW s) (ay s) .none kV doc pm an cdv ct) ⟨us,[]⟩=pure (ps.zip us):=by intro _ _ _ _ _ _ us hl;first|(obtain⟨_,rfl⟩:=GP.Ls hl;exact rfl)|(obtain⟨_,_,rfl⟩:=GP.Ou hl;exact rfl)|(obtain⟨_,_,_,rfl⟩:=GP.Jl hl;exact rfl)|(obtain⟨_,_,_,_,rfl⟩:=GP.Lr hl;exact rfl)|(obtain⟨_,_,_,_,_,rfl⟩:=GP.Jk hl;exact rfl)|(obtain⟨_,_,_,_,_,_,rfl⟩:=GP.Rc hl;exact rfl)):∃f fd,Da K mg x y s ps f fd:=by
 obtain⟨f,oc,od,sl,kV,dc,pm,an,cd,ct,a,l,c,k⟩:=d
 exact⟨f,_,ux l c k,Binds.all (b kV dc pm an cd ct),PySem.W.mg_of X G a⟩
theorem bI{K:PySem.W.Frag}{h:dC}{mg:bv->Option a9}{x:bv}{s:gl}{ps:List bv}(X:K.In h)(G:h.Ns cn mg)(d:kj K x x s)(b:∀(kV doc pm:a9) (an:Option a6) (cdv ct:a9) (us:List a9),us.length=ps.length->bindArgs (PySem.W.fnOf x x (gj s) (dW s) (ay s) .none kV doc pm an cdv ct) ⟨us,[]⟩=pure (ps.zip us):=by intro _ _ _ _ _ _ us hl;first|(obtain⟨_,rfl⟩:=GP.Ls hl;exact rfl)|(obtain⟨_,_,rfl⟩:=GP.Ou hl;exact rfl)|(obtain⟨_,_,_,rfl⟩:=GP.Jl hl;exact rfl)|(obtain⟨_,_,_,_,rfl⟩:=GP.Lr hl;exact rfl)|(obtain⟨_,_,_,_,_,rfl⟩:=GP.Jk hl;exact rfl)|(obtain⟨_,_,_,_,_,_,rfl⟩:=GP.Rc hl;exact rfl)):∃f fd,Dn K mg x s ps f fd:=by
 obtain⟨f,fd,e⟩:=Sv X G d b
 exact⟨f,fd,e.fn,e.b,e.m⟩
theorem kj.ns{K:PySem.W.Frag}{h:dC}{mg:bv->Option a9}{x y:bv}{s:gl}(d:kj K x y s)(X:K.In h)(G:h.Ns cn mg):∀f,mg x=some (.ref f)->PySem.W.nsIn K cn x=some (some (.ref f)):=λf hf=>by
 obtain⟨f',oc,od,sl,kV,dc,pm,an,cd,ct,a,_⟩:=d
 have e:=(PySem.W.mg_of X G a).symm.trans hf
 cases e
 exact a
noncomputable def S3(K:PySem.W.Frag)(x:bv)(s:gl)(v:bv):Prop:=∃f oc od sl D u QZ n sl2 kV dc pm an cd ct,PySem.W.nsIn K cn x=some (some (.ref f))/\K.lookup f=some ⟨oc,od,.func (PySem.W.fnOf x x (gj s) (dW s) (ay s) (.ref D) kV dc pm an cd ct),sl⟩/\PySem.W.codeIn K cd x=true/\PySem.W.keepIn K (.ref f)=true/\K.lookup D=some ⟨.type "tuple",QZ,.seq #[.str v u] n,sl2⟩
theorem S3.mk {K:PySem.W.Frag}{x v:bv}{s:gl}{f D:a6}{oc kV dc pm cd ct:a9}{od QZ an:Option a6}{sl sl2:Array (Option a9)}{u:wT}{n:Nat}(a:PySem.W.nsIn K cn x=some (some (.ref f)))(l:K.lookup f=some ⟨oc,od,.func (PySem.W.fnOf x x (gj s) (dW s) (ay s) (.ref D) kV dc pm an cd ct),sl⟩)(c:PySem.W.codeIn K cd x=true)(k:PySem.W.keepIn K (.ref f)=true)(e:K.lookup D=some ⟨.type "tuple",QZ,.seq #[.str v u] n,sl2⟩):S3 K x s v:=⟨f,oc,od,sl,D,u,QZ,n,sl2,kV,dc,pm,an,cd,ct,a,l,c,k,e⟩
theorem Pa{K:PySem.W.Frag}{h:dC}{mg:bv->Option a9}{x v a1 a2 a3 a4:bv}{s:gl}(X:K.In h)(G:h.Ns cn mg)(d:S3 K x s v)
  (b:∀(D:a6) (kV doc pm:a9) (an:Option a6) (cdv ct v1 v2 v3 v4:a9) (sh:bc) (o:lv) (u:wT) (n:Nat),sh.heap.get? D=some o->o.data= .seq #[.str v u] n->BindsTo sh (PySem.W.fnOf x x (gj s) (dW s) (ay s) (.ref D) kV doc pm an cdv ct) ⟨[v1,v2,v3,v4],[]⟩ [(a1,v1),(a2,v2),(a3,v3),(a4,v4)]:=by intro _ _ _ _ _ _ _ _ _ _ _ _ _ _ _ ho hs;exact BindsTo.of_defaults rfl ho hs rfl rfl)
  (b2:∀(D:a6) (kV doc pm:a9) (an:Option a6) (cdv ct v1 v2 v3:a9) (sh:bc) (o:lv) (u:wT) (n:Nat),sh.heap.get? D=some o->o.data= .seq #[.str v u] n->BindsTo sh (PySem.W.fnOf x x (gj s) (dW s) (ay s) (.ref D) kV doc pm an cdv ct) ⟨[v1,v2,v3],[]⟩ [(a1,v1),(a2,v2),(a3,v3),(a4,.str v u)]:=by intro _ _ _ _ _ _ _ _ _ _ _ _ _ _ ho hs;exact BindsTo.of_defaults rfl ho hs rfl rfl):∃f fd u,Dn K mg x s [a1,a2,a3,a4] f fd/\Binds K fd [a1,a2,a3,a4] [.str v u]:=by
 obtain⟨f,oc,od,sl,D,u,QZ,n,sl2,kV,dc,pm,an,cd,ct,a,l,c,k,e⟩:=d
 refine⟨f,_,u,⟨ux l c k,λsh us hX hl=>?_,PySem.W.mg_of X G a⟩,λsh us hX hl=>?_⟩
 ·rw[eP]at hl ⊢
  obtain⟨v1,v2,v3,v4,rfl⟩:=GP.Lr hl
  exact b D kV dc pm an cd ct v1 v2 v3 v4 sh _ u n (hX _ _ e) rfl
 ·obtain⟨v1,v2,v3,rfl⟩:=GP.Jl (show us.length=3 by rw[ce]at hl;exact Nat.succ.inj hl)
  exact b2 D kV dc pm an cd ct v1 v2 v3 sh _ u n (hX _ _ e) rfl
theorem all_mk {l:PySem.W.OpenLaw}{w:df}{K:PySem.W.Frag}{h:dC}{mg:bv->Option a9}{fa:a6}(X:K.In h)(G:h.Ns cn mg)(hfa:mg "law" =some (.ref fa))
  {lX:wT}
  {nu:wT}
  {jB:a6} {Cg:Option a6} {En:Nat} {BW:Array (Option a9)} {BH BG BF:wT}
  {kY:a6} {Eg:Option a6} {GA:Nat} {DP:Array (Option a9)} {DJ DI DH DG:wT}
  {pH:a6} {Li:Option a6} {Oj:Nat} {K4:Array (Option a9)} {K0 KZ KY:wT}
  {au:a6}
  {aJ:a6}
  {fV:a6}
  {bz:a6}
  {aS:a6}
  (u0:pM K "first_begin" =true)
  (u1:pM K "state_behind" =true)
  (u2:PySem.W.nsIn K cn "FIRST_SIGN" =some (some (.int 32 lX)))
  (u3:PySem.W.nsIn K cn "LAST_SIGN" =some (some (.int 126 nu)))
  (u4:PySem.W.nsIn K cn "NO_SIGNS" =some (some (.ref jB)))
  (u5:K.lookup jB=some ⟨.type "tuple",Cg,.seq #[.int 34 BH,.int 37 BG,.int 45 BF] En,BW⟩)
  (u6:PySem.W.nsIn K cn "MANNERS" =some (some (.ref kY)))
  (u7:K.lookup kY=some ⟨.type "tuple",Eg,.seq #[.str (bd "whole") DJ,.str (bd "within") DI,.str (bd "over") DH,.str (bd "stretch") DG] GA,DP⟩)
  (u8:PySem.W.nsIn K cn "CAME" =some (some (.ref pH)))
  (u9:K.lookup pH=some ⟨.type "tuple",Li,.seq #[.str (bd "p") K0,.str (bd "a") KZ,.str (bd "b") KY] Oj,K4⟩)
  (Vy:PySem.W.nsIn K cn "Prices" =some (some (.ref au)))
  (Vx:PySem.W.plainGet K au wn=true) (Vw:PySem.W.hasDictIn K au=true) (Vv:PySem.W.plainOver K au=true) (Vu:PySem.W.findIn K (.ref au) "__setattr__" =some (some (.builtin "object.__setattr__"))) (Vt:PySem.W.makesIn K au=true) (Vs:PySem.W.keepIn K (.ref au)=true)
  (u17:bR K au "signs")
  (Vr:bR K au "pairs")
  (Vq:bR K au "opening")
  (Vp:bR K au "more")
  (Vo:bR K au "factors")
  (Vn:bR K au "unit")
  (Vm:bR K au "costs")
  (Vl:bR K au "opening_units")
  (Vk:bR K au "more_units")
  (Vj:PySem.W.nsIn K cn "Ground" =some (some (.ref aJ)))
  (Vi:PySem.W.plainGet K aJ wn=true) (Vh:PySem.W.hasDictIn K aJ=true) (Vg:PySem.W.plainOver K aJ=true) (Vf:PySem.W.findIn K (.ref aJ) "__setattr__" =some (some (.builtin "object.__setattr__"))) (Ve:PySem.W.makesIn K aJ=true) (Vd:PySem.W.keepIn K (.ref aJ)=true)
  (Vc:bR K aJ "steps")
  (Vb:bR K aJ "begins")
  (Va:bR K aJ "ends")
  (U9:PySem.W.nsIn K cn "WeaveError" =some (some (.ref fV)))
  (U8:PySem.W.nsIn K cn "NoManner" =some (some (.ref bz)))
  (u38:PySem.W.excIn K bz [.type "ValueError",.type "Exception",.type "BaseException",.type "object"] "ValueError.__new__" =true)
  (U7:PySem.W.nsIn K cn "NoSign" =some (some (.ref aS)))
  (U6:PySem.W.hasDictIn K aS=true) (U5:((PySem.W.clsIn K aS).any λcd=>rJ cd.mro)=true) (U4:PySem.W.findIn K (.ref aS) "__setattr__" =some (some (.builtin "object.__setattr__"))) (U3:PySem.W.keepIn K (.ref aS)=true)
  (U1:bR K aS "row")
  (U0:bR K aS "place")
  (UZ:PySem.W.specialIn K (.ref fV) "__getattribute__" =some (some (.builtin "type.__getattribute__"))) (UY:PySem.W.readsIn K fV (.type "type")=true) (UX:PySem.W.findCls K (.ref fV) (.type "type") "__init__" =some (.val (.builtin "ValueError.__init__")))
  (UW:PySem.W.subIn K (.ref aS) (.ref aS)=some true)
  (UU:PySem.W.subIn K (.ref bz) (.ref aS)=some false)
  (UT:PySem.W.subIn K (.ref bz) (.ref bz)=some true)
  {ZZ an0:Option a6} {ZG:Array (Option a9)} {Z0 kV0 dc0 ZO Zq ct0:a9} {aY:a6}
  (XZ:PySem.W.findIn K (.ref aS) "__init__" =some (some (.ref aY))) (US:PySem.W.isFn K (.ref aY)=true) (UR:K.lookup aY=some ⟨Z0,ZZ,.func (PySem.W.fnOf "__init__" "NoSign.__init__" (gj bV) (dW bV) (ay bV) .none kV0 dc0 ZO an0 Zq ct0),ZG⟩) (UQ:PySem.W.codeIn K Zq "NoSign.__init__" =true) (UP:PySem.W.keepIn K (.ref aY)=true)
  (u57:kj K "greatest_divisor" "greatest_divisor" cW)
  (UO:kj K "lowest" "lowest" sF)
  (UN:kj K "is_sign" "is_sign" qH)
  (UM:kj K "are_signs" "are_signs" nK)
  (UL:kj K "check_signs" "check_signs" lC)
  (UK:kj K "check_lengths" "check_lengths" jr)
  (UJ:kj K "lowest_price" "lowest_price" iJ)
  (UI:kj K "lowest_prices" "lowest_prices" jo)
  (UH:kj K "all_unders" "all_unders" mE)
  (UG:kj K "unit_factors" "unit_factors" jY)
  (UE:kj K "product_of" "product_of" mj)
  (UD:kj K "by_unit" "by_unit" oJ)
  (UC:kj K "costs_by_signs" "costs_by_signs" iS)
  {V5 XN:Option a6} {VQ:Array (Option a9)} {V8 Ws XF V0 Sz XJ:a9} {br:a6}
  (UB:PySem.W.findIn K (.ref au) "__init__" =some (some (.ref br))) (UA:PySem.W.isFn K (.ref br)=true) (Uz:K.lookup br=some ⟨V8,V5,.func (PySem.W.fnOf "__init__" "Prices.__init__" (gj bU) (dW bU) (ay bU) .none Ws XF V0 XN Sz XJ),VQ⟩) (Uy:PySem.W.codeIn K Sz "Prices.__init__" =true) (Ux:PySem.W.keepIn K (.ref br)=true)
  (Uw:kj K "pair_cost" "pair_cost" lK)
  (Uv:kj K "opening_cost" "opening_cost" iI)
  (Uu:kj K "more_cost" "more_cost" lM)
  (Ut:kj K "in_units" "in_units" mY)
  (Us:kj K "check_known" "check_known" lD)
  (Ur:kj K "check_rows" "check_rows" mz)
  (Uq:kj K "check_manner" "check_manner" j3)
  (Up:kj K "alone_cost" "alone_cost" mD)
  (Uo:kj K "may_begin" "may_begin" nE)
  (Um:kj K "may_end" "may_end" qB)
  (Ul:kj K "all_places" "all_places" mF)
  (Uk:kj K "steps_from" "steps_from" mh)
  (Uj:kj K "all_steps" "all_steps" nL)
  (Ui:kj K "all_ends" "all_ends" o6)
  {V4 XM:Option a6} {VP:Array (Option a9)} {V7 Wr XE VZ Sy XI:a9} {aP:a6}
  (Uh:PySem.W.findIn K (.ref aJ) "__init__" =some (some (.ref aP))) (Ug:PySem.W.isFn K (.ref aP)=true) (Ue:K.lookup aP=some ⟨V7,V4,.func (PySem.W.fnOf "__init__" "Ground.__init__" (gj bK) (dW bK) (ay bK) .none Wr XE VZ XM Sy XI),VP⟩) (Ud:PySem.W.codeIn K Sy "Ground.__init__" =true) (Uc:PySem.W.keepIn K (.ref aP)=true)
  (Ub:kj K "least_rests" "least_rests" jj)
  (Ua:kj K "ends_there" "ends_there" j0)
  (Tc:kj K "first_begin" "first_begin" jk)
  (S9:kj K "state_behind" "state_behind" jZ)
  (T9:kj K "first_moves" "first_moves" lA)
  (u99:S3 K "cheapest" o5 (bd "whole"))
  (NN:kj K "all_counts" "all_counts" mG)
  (NL:kj K "count_of" "count_of" o4)
  (NJ:kj K "_law_next" "_law_next" fX)
  (NI:kj K "_law_great" "_law_great" nJ)
  (NH:kj K "_law_signs" "_law_signs" nG)
  (NG:kj K "_law_price" "_law_price" nH)
  (NF:kj K "_law_table" "_law_table" nF)
  (NC:kj K "_law_prices" "_law_prices" mq)
  (NB:kj K "_law_row" "_law_row" qC)
  (Nz:kj K "_law_manner" "_law_manner" mw)
  (Ny:kj K "_law_same" "_law_same" mW)
  (Nx:kj K "_law_gap" "_law_gap" qF)
  (Nv:kj K "_law_walk" "_law_walk" oZ)
  (Nu:kj K "_law_may_begin" "_law_may_begin" jq)
  (Nr:kj K "_law_may_end" "_law_may_end" ly)
  (Nq:kj K "_law_key" "_law_key" qD)
  (Np:kj K "_law_ways" "_law_ways" mV)
  (Nn:kj K "_law_all" "_law_all" qG)
  {V3 SA:Option a6} {VO:Array (Option a9)} {V6 RC Ss QU Pf Sw:a9} {zu:a6}
  (KS:PySem.W.nsIn K cn "law" =some (some (.ref zu))) (Nm:K.lookup zu=some ⟨V6,V3,.func (PySem.W.fnOf "law" "law" (gj qZ) (dW qZ) (ay qZ) .none RC Ss QU SA Pf Sw),VO⟩) (Nl:PySem.W.codeIn K Pf "law" =true) (Nk:PySem.W.keepIn K (.ref zu)=true)
  (KR:EG K aS aY=true)
  (Nj:PySem.W.nsIn K cn "abs" =some none)
  (Ni:PySem.W.nsIn K cn "len" =some none)
  (Nh:PySem.W.nsIn K cn "ord" =some none)
  (Ng:PySem.W.nsIn K cn "set" =some none)
  (Nf:PySem.W.nsIn K cn "tuple" =some none)
  (Nd:PySem.W.nsIn K cn "zip" =some none)
  (Nc:PySem.W.nsIn K cn "enumerate" =some none)
  (Nb:PySem.W.nsIn K cn "range" =some none)
  (Na:PySem.W.nsIn K cn "isinstance" =some none)
  (M8:PySem.W.nsIn K cn "int" =some none)
  (M7:PySem.W.nsIn K cn "bool" =some none)
  (M6:PySem.W.nsIn K cn "all" =some none)
  (M5:PySem.W.nsIn K cn "list" =some none)
  (M4:PySem.W.nsIn K cn "str" =some none)
  (M3:PySem.W.nsIn K cn "min" =some none)
  (M1:PySem.W.nsIn K cn "reversed" =some none)
  (M0:PySem.W.nsIn K cn "sum" =some none)
  : ∃fd:db,(∀(s:bc) (v:a9),BindsTo s fd ⟨[v],[]⟩ [("_law_script",v)])/\∀base:dC,K.In base->base.Ns cn mg->MX base mg->aI l.prog w K mg base cB 11 fa fd PO (zW K (yt K)):=by
 have e:=hfa.symm.trans (PySem.W.mg_of X G KS)
 cases e
 obtain⟨p,hp⟩:∃p:Pm,p=(⟨lX,nu,jB,kY,pH,au,aJ,fV,bz,aS⟩:Pm):=⟨_,rfl⟩
 have tR:=ux (st:=bV) UR UQ UP
 have dG:Dm K "__init__" "NoSign.__init__" bV PR _ _:=⟨tR,Binds.all (ps:=PR) λus hl=>by obtain⟨_,_,_,rfl⟩:=GP.Jl hl;exact rfl⟩
 obtain⟨aZ,aW,aH⟩:=bI (ps:=Lw) X G u57
 obtain⟨oR,mL,lR⟩:=bI (ps:=RB) X G UO
 obtain⟨mT,kR,jQ⟩:=bI (ps:=["sign"]) X G UN
 obtain⟨jM,i0,gK⟩:=bI (ps:=["text"]) X G UM
 obtain⟨iz,gv,ee⟩:=bI (ps:=["signs"]) X G UL
 obtain⟨fB,eN,cV⟩:=bI (ps:=Rz) X G UK
 obtain⟨cM,cg,bf⟩:=bI (ps:=Jp) X G UJ
 obtain⟨fu,eG,cT⟩:=bI (ps:=["row"]) X G UI
 obtain⟨je,ie,fS⟩:=bI (ps:=RA) X G UH
 obtain⟨gx,fj,dh⟩:=bI (ps:=["unders"]) X G UG
 obtain⟨i8,g7,fO⟩:=bI (ps:=["factors"]) X G UE
 obtain⟨jc,gQ,cR⟩:=bI (ps:=Oz) X G UD
 obtain⟨eO,dB,cE⟩:=bI (ps:=Ry) X G UC
 have tQ:=ux (st:=bU) Uz Uy Ux
 have dF:Dm K "__init__" "Prices.__init__" bU PU _ _:=⟨tQ,Binds.all (ps:=PU) λus hl=>by obtain⟨_,_,_,_,_,rfl⟩:=GP.Jk hl;exact rfl⟩
 obtain⟨fL,dQ,cD⟩:=bI (ps:=Ox) X G Uw
 obtain⟨cL,b9,bE⟩:=bI (ps:=l7) X G Uv
 obtain⟨fM,dR,bx⟩:=bI (ps:=l7) X G Uu
 obtain⟨gT,fK,cZ⟩:=bI (ps:=Ow) X G Ut
 obtain⟨iA,gw,eE⟩:=bI (ps:=Rx) X G Us
 obtain⟨jb,ia,fR⟩:=bI (ps:=Rw) X G Ur
 obtain⟨gz,fq,dj⟩:=bI (ps:=["manner"]) X G Uq
 obtain⟨jd,ic,cP⟩:=bI (ps:=Rv) X G Up
 obtain⟨jH,iV,gF⟩:=bI (ps:=Ru) X G Uo
 obtain⟨mO,kK,jO⟩:=bI (ps:=Rt) X G Um
 obtain⟨jf,ig,fT⟩:=bI (ps:=Rr) X G Ul
 obtain⟨i7,g6,fN⟩:=bI (ps:=Rq) X G Uk
 obtain⟨jN,i6,gM⟩:=bI (ps:=Rp) X G Uj
 obtain⟨kX,jG,iR⟩:=bI (ps:=Ro) X G Ui
 have tS:=ux (st:=bK) Ue Ud Uc
 have bO:Dm K "__init__" "Ground.__init__" bK MA _ _:=⟨tS,Binds.all (ps:=MA) λus hl=>by obtain⟨_,_,_,_,_,rfl⟩:=GP.Jk hl;exact rfl⟩
 obtain⟨c6,cJ,bH⟩:=bI (ps:=Ov) X G Ub
 obtain⟨dU,c5,bS⟩:=bI (ps:=l8) X G Ua
 obtain⟨c7,cK,bF⟩:=bI (ps:=l9) X G Tc
 obtain⟨gy,fk,cO⟩:=bI (ps:=l8) X G S9
 obtain⟨iy,gu,d8⟩:=bI (ps:=Rn) X G T9
 obtain⟨kW,iM,wg,iQ,x8⟩:=Pa (a1:= "prices") (a2:= "first") (a3:= "second") (a4:= "manner") X G u99
 obtain⟨jg,iu,fU⟩:=bI (ps:=l9) X G NN
 obtain⟨kU,jF,iP⟩:=bI (ps:=Ky) X G NL
 obtain⟨bh,aU,aB⟩:=bI (ps:=l4) X G NJ
 obtain⟨jL,iZ,gJ⟩:=bI (ps:=l4) X G NI
 obtain⟨jJ,iX,gH⟩:=bI (ps:=Kw) X G NH
 obtain⟨jK,iY,bZ⟩:=bI (ps:=Rm) X G NG
 obtain⟨jI,iW,gG⟩:=bI (ps:=Kw) X G NF
 obtain⟨i9,g8,fP⟩:=bI (ps:=l4) X G NC
 obtain⟨mP,kL,gC⟩:=bI (ps:=Rl) X G NB
 obtain⟨ja,g9,fQ⟩:=bI (ps:=["_law_m"]) X G Nz
 obtain⟨gf,dY,bJ⟩:=bI (ps:=Mz) X G Ny
 obtain⟨mR,kP,gE⟩:=bI (ps:=Rk) X G Nx
 obtain⟨kT,jE,iO⟩:=bI (ps:=Rh) X G Nv
 obtain⟨fz,eK,cU⟩:=bI (ps:=Rj) X G Nu
 obtain⟨iw,gq,dZ⟩:=bI (ps:=Ri) X G Nr
 obtain⟨mQ,kO,gD⟩:=bI (ps:=Rg) X G Nq
 obtain⟨gb,dX,aX⟩:=bI (ps:=My) X G Np
 obtain⟨mS,kQ,jP⟩:=bI (ps:=Rf) X G Nn
 have S1:=ux (st:=qZ) Nm Nl Nk
 have Kq:Dn K mg "law" qZ PO _ _:=⟨S1,Binds.all (ps:=PO) λus hl=>by obtain⟨_,rfl⟩:=GP.Ls hl;exact rfl,PySem.W.mg_of X G KS⟩
 have xW:XQ K p.aS aY:=by subst hp;exact⟨Bw KR,US,U3⟩
 have xV:Mk K p.au br:=by subst hp;exact⟨Vt,UB,UA,Vs⟩
 have oV:Mk K p.aJ aP:=by subst hp;exact⟨Ve,Uh,Ug,Vd⟩
 refine⟨PySem.W.fnOf "law" "law" (gj qZ) (dW qZ) (ay qZ) .none RC Ss QU SA Pf Sw,λs v=>.of_eq rfl,λbase _ _ bb=>?_⟩
 have T:Txt K mg p base:=by subst hp;exact⟨PySem.W.mg_none_of X G Nj,PySem.W.mg_none_of X G Ni,PySem.W.mg_none_of X G Nh,PySem.W.mg_none_of X G Ng,PySem.W.mg_none_of X G Nf,PySem.W.mg_none_of X G Nd,PySem.W.mg_none_of X G Nc,PySem.W.mg_none_of X G Nb,PySem.W.mg_none_of X G Na,PySem.W.mg_none_of X G M8,PySem.W.mg_none_of X G M7,PySem.W.mg_none_of X G M6,PySem.W.mg_none_of X G M5,PySem.W.mg_none_of X G M4,PySem.W.mg_none_of X G M3,PySem.W.mg_none_of X G M1,PySem.W.mg_none_of X G M0,PySem.W.mg_of X G u2,PySem.W.mg_of X G u3,PySem.W.mg_of X G u4,λH=>.inr ⟨_,_,_,u5,rfl,rfl,ax,.cons ⟨_,rfl⟩ (.cons ⟨_,rfl⟩ (.cons ⟨_,rfl⟩ (.nil)))⟩,PySem.W.mg_of X G u6,λH=>.inr ⟨_,_,_,u7,rfl,rfl,a0,.cons ⟨_,rfl⟩ (.cons ⟨_,rfl⟩ (.cons ⟨_,rfl⟩ (.cons ⟨_,rfl⟩ (.nil))))⟩,PySem.W.mg_of X G u8,λH=>.inr ⟨_,_,_,u9,rfl,rfl,ax,.cons ⟨_,rfl⟩ (.cons ⟨_,rfl⟩ (.cons ⟨_,rfl⟩ (.nil)))⟩,PySem.W.mg_of X G Vy,⟨Vx,Vw,Vv,Vu⟩,u17,Vr,Vq,Vp,Vo,Vn,Vm,Vl,Vk,PySem.W.mg_of X G Vj,⟨Vi,Vh,Vg,Vf⟩,Vc,Vb,Va,PySem.W.mg_of X G U9,PySem.W.mg_of X G U8,KP u38,PySem.W.mg_of X G U7,⟨U6,U5,U4⟩,⟨_,Bw KR⟩,U1,U0,⟨UZ,UY,UX⟩,UW,UU,UT,bb,u0,Tc.ns X G,u1,S9.ns X G⟩
 have jD:=qX (P:=l.prog) (w:=w) (base:=base) T aH
 have Kf:=Gu T lR aH jD
 have qt:=vj T bf lR Kf
 have vC:=uf T cT bf qt
 have Be:=ym (P:=l.prog) (w:=w) (base:=base) T fS
 have xQ:=vf T dh aH jD
 have AX:=yh (P:=l.prog) (w:=w) (base:=base) T fO
 have zI:=Ef (P:=l.prog) (w:=w) (base:=base) T cR
 have Hq:=Ed (P:=l.prog) (w:=w) (base:=base) T jQ
 have Dc:=An T gK jQ Hq
 have yH:=wV T ee gK Dc
 have vE:=uh (P:=l.prog) (w:=w) (base:=base) T cV
 have uC:=sM T cE cR zI
 have uW:=Ag (P:=l.prog) (w:=w) (base:=base) T cD
 have qq:=vh (P:=l.prog) (w:=w) (base:=base) T bE
 have uX:=Ah (P:=l.prog) (w:=w) (base:=base) T bx
 have xS:=Cc T cZ aH jD
 have tH:=rT T dF ee yH cV vE cT vC bf qt fS Be dh xQ fO AX cE uC cR zI
 have tK:=rU (P:=l.prog) (w:=w) (base:=base) T dG
 have vF:=um T eE dG xW tK
 have xT:=vm T fR eE vF
 have Bd:=yl T cP bx uX bE qq
 have C0:=Ai (P:=l.prog) (w:=w) (base:=base) T gF
 have Hh:=D8 (P:=l.prog) (w:=w) (base:=base) T jO
 have uD:=sN (P:=l.prog) (w:=w) (base:=base) T dj
 have Bf:=yo (P:=l.prog) (w:=w) (base:=base) T fT
 have AW:=yg T fN cD uW cP Bd
 have Dd:=Ao T gM fN AW
 have EV:=Cf T iR jO Hh
 have nR:=rV T bO fR xT dj uD fT Bf gM Dd gF C0 iR EV
 have rG:=wM (P:=l.prog) (w:=w) (base:=base) T bH
 have tG:=yk (P:=l.prog) (w:=w) (base:=base) T bS
 have rH:=wU (P:=l.prog) (w:=w) (base:=base) T bF
 have xR:=vg (P:=l.prog) (w:=w) (base:=base) T cO
 have yG:=wR T d8 bS tG cO xR
 have EU:=Ce T iQ bO oV nR bH rG bF rH cZ xS d8 yG
 have Bh:=yp T fU bS tG
 have ET:=Cd T iP bO oV nR bH rG fU Bh bF rH
 have jC:=Cb (P:=l.prog) (w:=w) (base:=base) T aB
 have C9:=Am T gJ aB jC
 have C7:=Ak T gH aB jC
 have C8:=Al T bZ aB jC gJ C9
 have C4:=Aj T gG aB jC gH C7 bZ C8
 have Bb:=yi T fP aB jC gG C4 dF xV tH
 have Hi:=D9 T gC aB jC
 have Bc:=yj (P:=l.prog) (w:=w) (base:=base) T fQ
 have yE:=wO (P:=l.prog) (w:=w) (base:=base) T bJ
 have Ba:=rj (d:=0) T bJ yE
 have A9:=rj (d:=1) T bJ Ba
 have Hl:=Eb T gE bx uX bE qq
 have vD:=ug (P:=l.prog) (w:=w) (base:=base) T cU
 have yF:=wQ (P:=l.prog) (w:=w) (base:=base) T dZ
 have ES:=Ca T iO cD uW gE Hl
 have Hj:=Ea (P:=l.prog) (w:=w) (base:=base) T gD
 have yD:=wN (P:=l.prog) (w:=w) (base:=base) T aX
 have A7:=fZ (d:=0) T aX yD
 have A4:=fZ (d:=1) T aX A7
 have A0:=fZ (d:=2) T aX A4
 have AZ:=fZ (d:=3) T aX A0
 have AY:=fZ (d:=4) T aX AZ
 have tF:=fZ (d:=5) T aX AY
 have L5:=fZ (d:=6) T aX tF
 have Ho:=Ec T jP cU vD aX tF dZ yF iO ES
 have SG:=Oc T Kq fP Bb gC Hi fQ Bc aB jC jP Ho gD Hj bJ A9 iQ x8 (aI.nv EU) cZ xS iP (aI.nv ET)
 exact SG
theorem walk{l:PySem.W.OpenLaw}{N t:Nat}{q:bo}{loose:List bv}{XP:(bv->Option a9)->dC->Prop}{as:List a6}{d:DefRec}{K:Params->PySem.W.Frag}(hn:l.most=some 63)(hdf:d.params.defaults=[])(hk:∀P,as=(K P).map (·.1))(ht:0<t)
  (hY1:∀P,(K P).lookup (dJ (gU (K P) l6) "first_begin")=some (PySem.W.tabObj #[])) (hY2:∀P,(K P).lookup (dJ (gU (K P) l6) "state_behind")=some (PySem.W.tabObj #[]))
  (Qa:∀P,pM (gU (K P) l6) "first_begin" =true) (P9:∀P,pM (gU (K P) l6) "state_behind" =true)
  (hne:∀P,Nat.beq (dJ (gU (K P) l6) "first_begin") (dJ (gU (K P) l6) "state_behind")=false)
  (F:∀(w:df) (mg:bv->Option a9) (fa:a6) (h:dC),(gU (K w.params) l6).In h->h.Ns cn mg->mg d.name=some (.ref fa) →
   ∃fd:db,(∀(s:bc) (u:a9),BindsTo s fd ⟨[u],[]⟩ [("_law_script",u)])/\∀base:dC,(gU (K w.params) l6).In base->base.Ns cn mg->MX base mg->aI l.prog w (gU (K w.params) l6) mg base cB 11 fa fd PO (zW (gU (K w.params) l6) (yt (gU (K w.params) l6)))) :
  PySem.W.WalkX q loose XP (PySem.W.X.obsZ as) (PySem.W.X.valZ K N t) l.row.toRowW d [] (λf vs=>PySem.call f vs) :=
 L2.Gh (K:=K) (K':=λP=>gU (K P) l6) (n:=63) (k:=11) (x:= "_law_script") (nms:=l6) (CX:=λ_=>cB) (sp:=λw=>zW (gU (K w.params) l6) (yt (gU (K w.params) l6))) hn (by decide) hdf ⟨rfl,by decide,by decide⟩ hk ht (λ_ _ X=>LY X) (λP h X=>zR (X _ _ (hY1 P)) (X _ _ (hY2 P))) (λw=>zR (Qa w.params) (P9 w.params)) F
  (λw H a ns hl hT hS=>⟨a,ns,rfl,hS,hl,⟨.inl (hT _ cw),.inl (hT _ (b0 _ cw)),Nat.ne_of_beq_eq_false (hne w.params)⟩,λH' Y5=>⟨rfl,zR (BD Y5.a) (BD Y5.b)⟩⟩) λ_ _ _ _ _ z=>z
end S0
namespace PySem.W.Fast
def tw12870315330886078110:=0
def tw5065522981834803793:=0
def tw1853565967171995043:=0
def tw4047451293667402482:=0
def tw3500600707873067924:=0
def tw6770581250377178643:=0
def tw17255756037814301388:=0
def tw8300193865372003753:=0
def tw14206306485560675407:=0
def tw1088634561917375440:=0
def tw2381049922163687437:=0
def tw15569847020105168530:=0
def tw16933364824722729309:=0
def tw4080752431327814164:=0
def tw1655964135260024091:=0
def tw95748423252800981:=0
def tw3276379988599385054:=0
def tw10497800197079708068:=0
def tw8045335491966818255:=0
def tw8116354402990547232:=0
def tw18126716357565238148:=0
def tw1714531977830845621:=0
def tw7875874413516444105:=0
def tw13365840537769503212:=0
def tw13585951541416592457:=0
def tw17264260007465850578:=0
def tw14451547480172178351:=0
def tw13638154632747506714:=0
def tw11992263354089383998:=0
def tw7603179293020487551:=0
def tw13477949370865674698:=0
def tw12145155519947948096:=0
def tw1989811121737735770:=0
def tw4376619852988588428:=0
def tw7075870663996074929:=0
def tw3377756835775293937:=0
def tw14232171603726401170:=0
def tw6236860287380796991:=0
def tw81979793469361152:=0
def tw11198806522421614736:=0
def tw262642340342250001:=0
def tw2544264019982690491:=0
def tw10233060544421310556:=0
def tw12656402270134343942:=0
def tw8850606291796185596:=0
def tw1006131333708499123:=0
def tw18186667173341301856:=0
def tw5160510789869310031:=0
def tw17016741750023712914:=0
def tw9931803127850060310:=0
def tw12043213594643137168:=0
def tw5507151106856920354:=0
def tw16104255410456218802:=0
def tw16518569620646811877:=0
def tw14793955583821901807:=0
def tw7185697456990064221:=0
def tw16776162773586141335:=0
def tw9704323228302625274:=0
def tw7587245427334030938:=0
def tw4471897513031567500:=0
def tw14521874512609879752:=0
def tw11813000036468680249:=0
def tw10127030371248196151:=0
def tw17225147285808499752:=0
def tw7669351514838212144:=0
def tw8759196141995312781:=0
def tw2355031248074932422:=0
def tw5438519536385781057:=0
def tw14621356581222023020:=0
def tw5228130431179223440:=0
def tw16765704109962705770:=0
def tw15552776797312343784:=0
def tw18322020527858181779:=0
def tw13005709784924201:=0
def tw4452985483719679956:=0
def tw13556278224111084811:=0
def tw270728177759407211:=0
def tw12385228812625921825:=0
def tw13173433653846635596:=0
def tw15014759503177826498:=0
def tw17773680292281722250:=0
def tw14388336495922984403:=0
def tw6437593977688598172:=0
def tw4690830872255123188:=0
def tw13672668272066637323:=0
def tw12695338842768419596:=0
def tw8329291566987068301:=0
def tw3422140897344504170:=0
def tw16398361799257546572:=0
def tw18205848777896027301:=0
def tw2763150769194528577:=0
def tw16619770705884387217:=0
def tw3348159766217921173:=0
def tw7746861710026347790:=0
def tw13482368622546272108:=0
def tw11655761457276056409:=0
def tw6592926843463906689:=0
def tw493627166151297972:=0
def tw4922942864049651859:=0
def tw16104010509199828602:=0
def tw15458731511496219822:=0
def tw8387025658772659093:=0
def tw6029365911496963205:=0
def tw11944039442485922250:=0
def tw10438527068397630637:=0
def tw17150553118481440776:=0
def tw16806996668656926680:=0
def tw10160252454792173099:=0
def tw1223527912550196823:=0
def tw14300862153905616875:=0
def tw9286558629475848871:=0
def tw2743031355678505242:=0
def tw9681291191150888345:=0
def tw14053457968075152744:=0
def tw12863886849062651997:=0
def tw17657511998014624774:=0
def tw13829969415088238515:=0
def tw3233487325517147508:=0
def tw8972149380391049938:=0
def tw18245157143389936757:=0
def tw10296007031080567660:=0
def tw3013519746864426861:=0
def tw17104571046221501149:=0
def tw10777148029345639431:=0
def tw8864989201187546966:=0
def tw17698406352138399379:=0
def tw17433554079324341:=0
def tw3758658435047892456:=0
def tw4787001037475171985:=0
def tw6766291833348193903:=0
def tw8261606451948705111:=0
def tw92263824750271853:=0
def tw12166464582706208382:=0
def tw14260443164844481611:=0
def tw13224357388677669840:=0
def tw16609907854617931206:=0
def tw8199338692058532747:=0
def tw5123443731845320407:=0
def tw1892696255897465763:=0
def tw8977057090179271630:=0
def tw1135424078590679642:=0
def tw1722651070932387720:=0
def tw9516206253154829770:=0
def tw11680504855864500369:=0
def tw8153174416732755222:=0
def tw9368719385803795725:=0
def tw18058537090178159923:=0
def tw3691170282953255007:=0
def tw9942324722605411981:=0
def tw16366119936044538749:=0
def tw3374862046248020350:=0
def tw12874108652482655771:=0
def tw4712082961589523799:=0
def tw9173339358175509399:=0
def tw1070424296254976942:=0
def tw4919253716597916034:=0
def tw3289916670648332427:=0
def tw4093373852156107713:=0
def tw12230317544034145190:=0
def tw7171784454002692348:=0
def tw17524601086698056593:=0
def tw3062606004965748846:=0
def tw12546625600103228629:=0
def tw17241678825877396668:=0
def tw15861723490616954076:=0
def tw12849643971160961376:=0
def tw10107130902525179477:=0
def tw5097805268291936740:=0
def tw3897162300185904381:=0
def tw12899673934017954248:=0
def tw207652537718818312:=0
def tw3047608526629023565:=0
def tw12607714016414886971:=0
def tw12920560472484550246:=0
def tw5778194056679158624:=0
def tw12833769806500393680:=0
def tw17923060227112667386:=0
def tw2075386079902237673:=0
def tw13897217368898723078:=0
def tw17531918015271247695:=0
def tw3261264169513225085:=0
def tw559515240896477362:=0
def tw428959013767512757:=0
def tw7196575557466294676:=0
def tw507139247786705626:=0
def tw18143915155637139245:=0
def tw710694751480904451:=0
def tw6478042192515088795:=0
def tw9692100013937141723:=0
def tw9337188451114291259:=0
def tw9339986032464594482:=0
def tw2749796200594712321:=0
def tw17681219262168921967:=0
def tw11904290643064931917:=0
def tw18284389950455639014:=0
def tw1972093251962718871:=0
def tw7359380444503288443:=0
def tw6138412664079500227:=0
def tw2595416143025494125:=0
def tw9679596773712516469:=0
def tw9187083235267175457:=0
def tw7046021295205107185:=0
def tw1405309279569509729:=0
def tw9082361853914105271:=0
def tw6838036498501635090:=0
def tw12770109166796984560:=0
def tw634864397568633963:=0
def tw15160088820218142453:=0
def tw12973505789137006152:=0
def tw13244189516143876898:=0
def tw11025539444564516516:=0
def tw7742904133798151038:=0
def tw3430657616510473670:=0
def tw15892779146135891715:=0
def tw2476682919025101214:=0
def tw81265418834510533:=0
def tw919547978403600085:=0
def tw3928095196606459019:=0
def tw6188962750159539705:=0
def tw11691891049007179536:=0
def tw11295172614446237671:=0
def tw11640894926346529298:=0
def tw3230576690855550420:=0
def tw13837843738386912961:=0
def tw5770711798642996707:=0
def tw13092807980340245106:=0
def tw14930062823727455006:=0
def tw9478545678458984686:=0
def tw9134349918224506834:=0
def tw16894141051097200568:=0
def tw8335305272108575063:=0
def tw4741176299849701720:=0
def tw15506647896569401149:=0
def tw1825423537303506680:=0
def tw16996136512460814742:=0
def tw71840666387952220:=0
def tw1360729076956897979:=0
def tw7756676361445603701:=0
def tw6013760996701016944:=0
def tw12223568455721983400:=0
def tw2667127806657891713:=0
def tw14163534290125930676:=0
def tw1867638985073475461:=0
def tw17558695550478693619:=0
def tw18287622864994102000:=0
def tw2539294171677139004:=0
def tw14364691443675365352:=0
def tw2340357669444578313:=0
def tw2121138634120452487:=0
def tw11997312674414921249:=0
def tw18018907839025030918:=0
def tw9241525859673871418:=0
def tw16719815202592976329:=0
def tw12949700664570667729:=0
def tw3662644192108086885:=0
def tw9227891115499041323:=0
def tw12596939300998136861:=0
def tw4829229161819474010:=0
def tw580605896662280997:=0
def tw18250899855628031899:=0
def tw7064132330529903311:=0
def tw1720680219876743930:=0
def tw6370449709704278067:=0
def tw2406471270111689713:=0
def tw14364116158938731696:=0
def tw41368548199711540:=0
def tw4352985949097240778:=0
def tw1881023136018444414:=0
def tw12046754162103730042:=0
def tw12930720253032156096:=0
def tw9613721578620620464:=0
def tw7176756258590511791:=0
def tw16639252899131396528:=0
def tw13090600891540312297:=0
def tw11140540477114933053:=0
def tw15198815711338563831:=0
def tw5557368010739214914:=0
def tw6926469223599358008:=0
def tw6759240532391430878:=0
def tw9843405730991077649:=0
def tw10287638379975962134:=0
def tw3142473524777896095:=0
def tw4995881911652895603:=0
def tw9102313115426353864:=0
def tw5291751832390638672:=0
def tw10092127477267524737:=0
def tw10451075562171249221:=0
def tw10406328494857185379:=0
def tw13246615319927429529:=0
def tw4110211467286935996:=0
def tw4769998912582353628:=0
def tw14138953092792778770:=0
def tw14546239980355416222:=0
def tw3213352137045524763:=0
def tw2212117356274497586:=0
def tw8674199708410449361:=0
def tw6861859352221137785:=0
def tw11791868764324839325:=0
def tw15015836532085660564:=0
def tw16516599059344367698:=0
def tw2195145597961578457:=0
def tw12290333881443131087:=0
def tw15511874291382507597:=0
def tw4031884468828709313:=0
def tw3158213958868545586:=0
def tw12049892257996820978:=0
def tw14055979557451691208:=0
def tw2134254066000871587:=0
def tw4827195251554917091:=0
def tw3995703644140720629:=0
def tw13817054550253487447:=0
def tw6272080840967507205:=0
def tw10361470980833908174:=0
def tw889836108742621310:=0
def tw13524758946356956081:=0
def tw18054718084155666527:=0
def tw4119509339090007759:=0
def tw8716406819421676876:=0
def tw10495058944810951152:=0
def tw4014723753289031690:=0
def tw7417449422055746972:=0
def tw10036637149057354021:=0
def tw17845070457388053854:=0
def tw2464966213201493069:=0
def tw3448621587040428834:=0
def tw10699388735427799711:=0
def tw272426481547147695:=0
def tw5194664970960946422:=0
def tw4827805422677775271:=0
def tw9071623388857344329:=0
def tw15460853933767054876:=0
def tw14224854378376334632:=0
def tw1268102471204928506:=0
def tw17378405447132054326:=0
def tw16847116749618421420:=0
def tw14866890217474877817:=0
def tw2349865352598604986:=0
def tw6098735351519489919:=0
def tw17908612307685362972:=0
def tw6448686858912413803:=0
def tw5620268725304774437:=0
def tw8088426353878318363:=0
def tw13851507540407550283:=0
def tw15144808314966731086:=0
def tw11016658382130780874:=0
def tw17051796896337122786:=0
def tw16219061939060983901:=0
def tw14606473428635817660:=0
def tw12415106604378373182:=0
def tw9325409621865729112:=0
def tw4804164365983439547:=0
def tw1880019302617311118:=0
def tw3754479349553290754:=0
def tw5666373158512298660:=0
def tw17738999703531695422:=0
def tw6903865513705941484:=0
def tw13633382301000566874:=0
def tw7110276331100216455:=0
def tw10796003259735633412:=0
def tw4054587891366639250:=0
def tw15439852525369853109:=0
def tw6812298794751799437:=0
def tw8013408614410024246:=0
def tw3368397260562444546:=0
def tw8702925370359540133:=0
def tw14902782887334030343:=0
def tw10780678923708959683:=0
def tw16028974322270149074:=0
def tw6885567935416344389:=0
def tw396877603122838969:=0
def tw10583513409534336055:=0
def tw6871187073572640944:=0
def tw10829056211856897856:=0
def tw99242610497639771:=0
def tw13064646540087887016:=0
def tw17242710827101257266:=0
def tw11543618479083255793:=0
def tw15729011888477683181:=0
def tw7781729531808028065:=0
def tw11345000387744141207:=0
def tw14517176904740203275:=0
def tw13470093896793714408:=0
def tw4803061906967301577:=0
def tw17612589028077473950:=0
def tw16289073498735283113:=0
def tw10004512696821609802:=0
def tw2270201668005570533:=0
def tw11013696545326916924:=0
def tw9100919905515969919:=0
def tw7015202092970991289:=0
def tw13658746954971080956:=0
def tw4957837916422988123:=0
def tw15517086884138459064:=0
def tw9194308051275772322:=0
def tw5059701551223158479:=0
def tw2122300493703766856:=0
def tw13543968575551691801:=0
def tw6769877265773247441:=0
def tw7654191297155755146:=0
def tw18418864423160976729:=0
def tw4792401433495057557:=0
def tw12272719954535961944:=0
def tw5422615670397952150:=0
def tw14743038031309057478:=0
def tw7756233978841870670:=0
def tw17090186304703483205:=0
def tw8153075461267799043:=0
def tw14283064113477265037:=0
def tw1034887881616112194:=0
def tw5746786837764177412:=0
def tw17922046851582054693:=0
def tw16623069303161846484:=0
def tw11347179835168315293:=0
def tw11011221632714103325:=0
def tw18028669904385047434:=0
def tw8672837549892248029:=0
def tw1325678389277323783:=0
def tw9802240696079498643:=0
def tw12084912037946817372:=0
def tw16165898408503322688:=0
def tw15070340955303110917:=0
def tw11976999968826440401:=0
def tw10730691736927308025:=0
def tw822609900893410784:=0
def tw15308316775961705053:=0
def tw3196282283181265057:=0
end PySem.W.Fast
open PySem PySem.W PyProof.Rows
set_option maxRecDepth 100000 in
set_option maxHeartbeats 0 in
theorem PySem.Challenge.cw_gapweave_k22_small_rows_listed_holds : PySem.Challenge.rw_gapweave_k22_small_rows_listed.Holds := by
 w_on;o_law;z_head;(case hw=>w_witness2)
 refine S0.walk (l:=PySem.Challenge.rw_gapweave_k22_small_rows_listed) rfl rfl (λ_=>by kernel_rfl) (by decide) (λ_=>by kernel_rfl) (λ_=>by kernel_rfl) (λ_=>by kernel_rfl) (λ_=>by kernel_rfl) (λ_=>by kernel_rfl) ?F
 case F =>
  intro w mg fa h KX G hmg
  refine' S0.all_mk KX G hmg ?u0 ?u1 ?u2 ?u3 ?u4 ?u5 ?u6 ?u7 ?u8 ?u9 ?Vy ?Vx ?Vw ?Vv ?Vu ?Vt ?Vs ?u17 ?Vr ?Vq ?Vp ?Vo ?Vn ?Vm ?Vl ?Vk ?Vj ?Vi ?Vh ?Vg ?Vf ?Ve ?Vd ?Vc ?Vb ?Va ?U9 ?U8 ?u38 ?U7 ?U6 ?U5 ?U4 ?U3 ?U1 ?U0 ?UZ ?UY ?UX ?UW ?UU ?UT ?XZ ?US ?UR ?UQ ?UP ?u57 ?UO ?UN ?UM ?UL ?UK ?UJ ?UI ?UH ?UG ?UE ?UD ?UC ?UB ?UA ?Uz ?Uy ?Ux ?Uw ?Uv ?Uu ?Ut ?Us ?Ur ?Uq ?Up ?Uo ?Um ?Ul ?Uk ?Uj ?Ui ?Uh ?Ug ?Ue ?Ud ?Uc ?Ub ?Ua ?Tc ?S9 ?T9 ?u99 ?NN ?NL ?NJ ?NI ?NH ?NG ?NF ?NC ?NB ?Nz ?Ny ?Nx ?Nv ?Nu ?Nr ?Nq ?Np ?Nn ?KS ?Nm ?Nl ?Nk ?KR ?Nj ?Ni ?Nh ?Ng ?Nf ?Nd ?Nc ?Nb ?Na ?M8 ?M7 ?M6 ?M5 ?M4 ?M3 ?M1 ?M0
  case u2|u3|u4|u5|u6|u7|u8|u9|Vy|Vx|Vw|Vv|Vu|Vt|Vs|Vj|Vi|Vh|Vg|Vf|Ve|Vd|U9|U8|U7|U6|U4|U3|UW|UU|UT|XZ|US|UR|UQ|UP|UB|UA|Uz|Uy|Ux|Uh|Ug|Ue|Ud|Uc|KS|Nm|Nl|Nk|Nj|Ni|Nh|Ng|Nf|Nd|Nc|Nb|Na|M8|M7|M6|M5|M4|M3|M1|M0=>((first|with_reducible refine L2.ju ?xh ?xe|with_reducible refine L2.fD ?xh ?xe|with_reducible refine L2.fG ?xh ?xe|with_reducible refine L2.fE ?xh ?xe|with_reducible refine L2.fF ?xh ?xe|with_reducible refine L2.gY ?xh ?xe|with_reducible refine L2.gB ?xh ?xe|with_reducible refine L2.iN ?xh ?xe|with_reducible refine L2.ck ?xh ?xe|with_reducible refine L2.cS ?xh ?xe|with_reducible refine L2.cj ?xh ?xe|with_reducible refine L2.dM ?xh ?xe|with_reducible refine L2.c9 ?xh ?xe|with_reducible refine L2.jv ?xh ?xe|with_reducible refine L2.gX ?xh ?xe);(case xe=>k_is);(case xh=>kernel_rfl))
  case u0|u1|U5|UZ|UY|UX|KR=>kernel_rfl
  case u17|Vr|Vq|Vp|Vo|Vn|Vm|Vl|Vk|Vc|Vb|Va|U1|U0=>(show PySem.W.findIn _ _ _=_;((first|with_reducible refine L2.ju ?xh ?xe|with_reducible refine L2.fD ?xh ?xe|with_reducible refine L2.fG ?xh ?xe|with_reducible refine L2.fE ?xh ?xe|with_reducible refine L2.fF ?xh ?xe|with_reducible refine L2.gY ?xh ?xe|with_reducible refine L2.gB ?xh ?xe|with_reducible refine L2.iN ?xh ?xe|with_reducible refine L2.ck ?xh ?xe|with_reducible refine L2.cS ?xh ?xe|with_reducible refine L2.cj ?xh ?xe|with_reducible refine L2.dM ?xh ?xe|with_reducible refine L2.c9 ?xh ?xe|with_reducible refine L2.jv ?xh ?xe|with_reducible refine L2.gX ?xh ?xe);(case xe=>k_is);(case xh=>kernel_rfl)))
  case u38=>((first|with_reducible refine L2.ju ?xh ?xe|with_reducible refine L2.fD ?xh ?xe|with_reducible refine L2.fG ?xh ?xe|with_reducible refine L2.fE ?xh ?xe|with_reducible refine L2.fF ?xh ?xe|with_reducible refine L2.gY ?xh ?xe|with_reducible refine L2.gB ?xh ?xe|with_reducible refine L2.iN ?xh ?xe|with_reducible refine L2.ck ?xh ?xe|with_reducible refine L2.cS ?xh ?xe|with_reducible refine L2.cj ?xh ?xe|with_reducible refine L2.dM ?xh ?xe|with_reducible refine L2.c9 ?xh ?xe|with_reducible refine L2.jv ?xh ?xe|with_reducible refine L2.gX ?xh ?xe);(case xe=>k_exc);(case xh=>kernel_rfl))
  case u57|UO|UN|UM|UL|UK|UJ|UI|UH|UG|UE|UD|UC|Uw|Uv|Uu|Ut|Us|Ur|Uq|Up|Uo|Um|Ul|Uk|Uj|Ui|Ub|Ua|Tc|S9|T9|NN|NL|NJ|NI|NH|NG|NF|NC|NB|Nz|Ny|Nx|Nv|Nu|Nr|Nq|Np|Nn=>(refine' S0.kj.mk ?a ?l ?c ?k;(case a=>((first|with_reducible refine L2.ju ?xh ?xe|with_reducible refine L2.fD ?xh ?xe|with_reducible refine L2.fG ?xh ?xe|with_reducible refine L2.fE ?xh ?xe|with_reducible refine L2.fF ?xh ?xe|with_reducible refine L2.gY ?xh ?xe|with_reducible refine L2.gB ?xh ?xe|with_reducible refine L2.iN ?xh ?xe|with_reducible refine L2.ck ?xh ?xe|with_reducible refine L2.cS ?xh ?xe|with_reducible refine L2.cj ?xh ?xe|with_reducible refine L2.dM ?xh ?xe|with_reducible refine L2.c9 ?xh ?xe|with_reducible refine L2.jv ?xh ?xe|with_reducible refine L2.gX ?xh ?xe);(case xe=>k_is);(case xh=>kernel_rfl)));(case l=>((first|with_reducible refine L2.ju ?xh ?xe|with_reducible refine L2.fD ?xh ?xe|with_reducible refine L2.fG ?xh ?xe|with_reducible refine L2.fE ?xh ?xe|with_reducible refine L2.fF ?xh ?xe|with_reducible refine L2.gY ?xh ?xe|with_reducible refine L2.gB ?xh ?xe|with_reducible refine L2.iN ?xh ?xe|with_reducible refine L2.ck ?xh ?xe|with_reducible refine L2.cS ?xh ?xe|with_reducible refine L2.cj ?xh ?xe|with_reducible refine L2.dM ?xh ?xe|with_reducible refine L2.c9 ?xh ?xe|with_reducible refine L2.jv ?xh ?xe|with_reducible refine L2.gX ?xh ?xe);(case xe=>k_is);(case xh=>kernel_rfl)));(case c=>((first|with_reducible refine L2.ju ?xh ?xe|with_reducible refine L2.fD ?xh ?xe|with_reducible refine L2.fG ?xh ?xe|with_reducible refine L2.fE ?xh ?xe|with_reducible refine L2.fF ?xh ?xe|with_reducible refine L2.gY ?xh ?xe|with_reducible refine L2.gB ?xh ?xe|with_reducible refine L2.iN ?xh ?xe|with_reducible refine L2.ck ?xh ?xe|with_reducible refine L2.cS ?xh ?xe|with_reducible refine L2.cj ?xh ?xe|with_reducible refine L2.dM ?xh ?xe|with_reducible refine L2.c9 ?xh ?xe|with_reducible refine L2.jv ?xh ?xe|with_reducible refine L2.gX ?xh ?xe);(case xe=>k_is);(case xh=>kernel_rfl)));(case k=>((first|with_reducible refine L2.ju ?xh ?xe|with_reducible refine L2.fD ?xh ?xe|with_reducible refine L2.fG ?xh ?xe|with_reducible refine L2.fE ?xh ?xe|with_reducible refine L2.fF ?xh ?xe|with_reducible refine L2.gY ?xh ?xe|with_reducible refine L2.gB ?xh ?xe|with_reducible refine L2.iN ?xh ?xe|with_reducible refine L2.ck ?xh ?xe|with_reducible refine L2.cS ?xh ?xe|with_reducible refine L2.cj ?xh ?xe|with_reducible refine L2.dM ?xh ?xe|with_reducible refine L2.c9 ?xh ?xe|with_reducible refine L2.jv ?xh ?xe|with_reducible refine L2.gX ?xh ?xe);(case xe=>k_is);(case xh=>kernel_rfl))))
  case u99=>(refine' S0.S3.mk ?a ?l ?c ?k ?e;(case a=>((first|with_reducible refine L2.ju ?xh ?xe|with_reducible refine L2.fD ?xh ?xe|with_reducible refine L2.fG ?xh ?xe|with_reducible refine L2.fE ?xh ?xe|with_reducible refine L2.fF ?xh ?xe|with_reducible refine L2.gY ?xh ?xe|with_reducible refine L2.gB ?xh ?xe|with_reducible refine L2.iN ?xh ?xe|with_reducible refine L2.ck ?xh ?xe|with_reducible refine L2.cS ?xh ?xe|with_reducible refine L2.cj ?xh ?xe|with_reducible refine L2.dM ?xh ?xe|with_reducible refine L2.c9 ?xh ?xe|with_reducible refine L2.jv ?xh ?xe|with_reducible refine L2.gX ?xh ?xe);(case xe=>k_is);(case xh=>kernel_rfl)));(case l=>((first|with_reducible refine L2.ju ?xh ?xe|with_reducible refine L2.fD ?xh ?xe|with_reducible refine L2.fG ?xh ?xe|with_reducible refine L2.fE ?xh ?xe|with_reducible refine L2.fF ?xh ?xe|with_reducible refine L2.gY ?xh ?xe|with_reducible refine L2.gB ?xh ?xe|with_reducible refine L2.iN ?xh ?xe|with_reducible refine L2.ck ?xh ?xe|with_reducible refine L2.cS ?xh ?xe|with_reducible refine L2.cj ?xh ?xe|with_reducible refine L2.dM ?xh ?xe|with_reducible refine L2.c9 ?xh ?xe|with_reducible refine L2.jv ?xh ?xe|with_reducible refine L2.gX ?xh ?xe);(case xe=>k_is);(case xh=>kernel_rfl)));(case c=>((first|with_reducible refine L2.ju ?xh ?xe|with_reducible refine L2.fD ?xh ?xe|with_reducible refine L2.fG ?xh ?xe|with_reducible refine L2.fE ?xh ?xe|with_reducible refine L2.fF ?xh ?xe|with_reducible refine L2.gY ?xh ?xe|with_reducible refine L2.gB ?xh ?xe|with_reducible refine L2.iN ?xh ?xe|with_reducible refine L2.ck ?xh ?xe|with_reducible refine L2.cS ?xh ?xe|with_reducible refine L2.cj ?xh ?xe|with_reducible refine L2.dM ?xh ?xe|with_reducible refine L2.c9 ?xh ?xe|with_reducible refine L2.jv ?xh ?xe|with_reducible refine L2.gX ?xh ?xe);(case xe=>k_is);(case xh=>kernel_rfl)));(case k=>((first|with_reducible refine L2.ju ?xh ?xe|with_reducible refine L2.fD ?xh ?xe|with_reducible refine L2.fG ?xh ?xe|with_reducible refine L2.fE ?xh ?xe|with_reducible refine L2.fF ?xh ?xe|with_reducible refine L2.gY ?xh ?xe|with_reducible refine L2.gB ?xh ?xe|with_reducible refine L2.iN ?xh ?xe|with_reducible refine L2.ck ?xh ?xe|with_reducible refine L2.cS ?xh ?xe|with_reducible refine L2.cj ?xh ?xe|with_reducible refine L2.dM ?xh ?xe|with_reducible refine L2.c9 ?xh ?xe|with_reducible refine L2.jv ?xh ?xe|with_reducible refine L2.gX ?xh ?xe);(case xe=>k_is);(case xh=>kernel_rfl)));(case e=>((first|with_reducible refine L2.ju ?xh ?xe|with_reducible refine L2.fD ?xh ?xe|with_reducible refine L2.fG ?xh ?xe|with_reducible refine L2.fE ?xh ?xe|with_reducible refine L2.fF ?xh ?xe|with_reducible refine L2.gY ?xh ?xe|with_reducible refine L2.gB ?xh ?xe|with_reducible refine L2.iN ?xh ?xe|with_reducible refine L2.ck ?xh ?xe|with_reducible refine L2.cS ?xh ?xe|with_reducible refine L2.cj ?xh ?xe|with_reducible refine L2.dM ?xh ?xe|with_reducible refine L2.c9 ?xh ?xe|with_reducible refine L2.jv ?xh ?xe|with_reducible refine L2.gX ?xh ?xe);(case xe=>k_is);(case xh=>kernel_rfl))))
