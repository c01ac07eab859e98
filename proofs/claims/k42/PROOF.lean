import PyProof.Rows.All
import Wide.All
import OpenK.AllK
import Wide.FinOn
import Lean
import PyProof.EqAt
import PyProof.EqKinds
import PyProof.TupleCall
import PyProof.NeKinds
import PyProof.Rows.StrStrike
import PyProof.SumWalkG
import PyProof.StrCalls2
import PyProof.Rows.StrItems
import PyProof.Rows.StrJoin2
import PyProof.Truth
import PySem.Challenge.RW_gapweave_k42_joined
set_option Elab.async false
set_option linter.all false
set_option maxRecDepth 100000
namespace TK
open PySem
theorem sQ{M:Model}{Γ:Ctx}{p:Pos}{t:Sem PySem.Fin}{fs:List Frame}{s s':Shared}{e:End}(h:Runs M Γ p t fs s e s'):s.toks<=s'.toks:=by
 induction h with
 |fresh _ ih=>exact Nat.le_trans (Nat.le_succ _) ih
 |call _ _ a b=>exact Nat.le_trans a b
 |segRet _ _ a b=>exact Nat.le_trans a b
 |segGen _ _ a b=>exact Nat.le_trans a b
 |resumeFresh _ _ _ _ a b=>exact Nat.le_trans a b
 |resumeSuspended _ _ _ _ a b=>exact Nat.le_trans a b
 |segSuspGen _ _ _ _ a b=>exact Nat.le_trans a b
 |_=>first|exact Nat.le_refl _|assumption
theorem PB{M:Model}{Γ:Ctx}{p:Pos}{g:Nat}{r:Resume}{s s':Shared}{res:GenResult}(h:Wakes M Γ p g r s res s'):s.toks<=s'.toks:=by
 unfold Wakes at h
 split at h
 ·exact h.elim
 ·split at h
  ·obtain⟨e,s1,a,_,_,rfl⟩:=h;have z:=sQ a;exact z
  ·obtain⟨_,rfl⟩:=h;exact Nat.le_refl _
  ·obtain⟨_,rfl⟩:=h;exact Nat.le_refl _
 ·obtain⟨e,s1,a,_,_,rfl⟩:=h;have z:=sQ a;exact z
 ·obtain⟨_,rfl⟩:=h;exact Nat.le_refl _
 ·obtain⟨_,rfl⟩:=h;exact Nat.le_refl _
theorem abv{α:Type}{M:Model}{Γ:Ctx}{n:Nat}(t:Sem α):∀{Q:α->Pos->Shared->Prop} {E:Value->Pos->Shared->Prop} {p:Pos} {s:Shared},n<=s.toks →
  Sem.wp M Γ t (λa p s'=>n<=s'.toks->Q a p s') (λe p s'=>n<=s'.toks->E e p s') p s->Sem.wp M Γ t Q E p s:=by
 induction t with
 |pure a=>intro Q E p s hn h;exact h hn
 |raise e=>intro Q E p s hn h;exact h hn
 |unsupported w=>intro Q E p s hn h;exact h
 |finish e=>intro Q E p s hn h;exact h
 |rule t k ih=>intro Q E p s hn h;exact ih () hn h
 | «at» p' k ih=>intro Q E p s hn h;exact ih () hn h
 |load a q k ih=>intro Q E p s hn h;obtain⟨o,e,h⟩:=h;exact⟨o,e,ih o hn h⟩
 |update a q f k ih=>intro Q E p s hn h;exact⟨h.1,ih () hn h.2⟩
 |alloc o k ih=>intro Q E p s hn h;exact ih _ hn h
 |loadIfAlive a k ih=>intro Q E p s hn h;exact ih _ hn h
 |point l k ih=>intro Q E p s hn h;exact ih () hn h
 |register a k ih=>intro Q E p s hn h;exact h
 |fresh k ih=>intro Q E p s hn h;exact ih _ (Nat.le_succ_of_le hn) h
 |ask k ih=>intro Q E p s hn h;exact ih _ hn h
 |choose src m k ih=>intro Q E p s hn h;exact⟨h.1,ih _ hn h.2⟩
 |os q l k ih=>intro Q E p s hn h;exact ih _ hn h
 |call c hd g l k ih=>intro Q E p s hn h;obtain⟨r,s1,a,h⟩:=h;exact⟨r,s1,a,ih r (Nat.le_trans hn (sQ a)) h⟩
 |handled own k ih=>intro Q E p s hn h;exact ih _ hn h
 |newGen c k ih=>intro Q E p s hn h;exact ih _ hn h
 |genState g k ih=>intro Q E p s hn h;obtain⟨st,e,h⟩:=h;exact⟨st,e,ih _ hn h⟩
 |resume g r l k ih=>intro Q E p s hn h;obtain⟨res,s1,a,h⟩:=h;exact⟨res,s1,a,ih _ (Nat.le_trans hn (PB a)) h⟩
 |yield v g l k ih=>intro Q E p s hn h;exact h
 |stack k ih=>intro Q E p s hn h;exact ih _ hn h
 |fork c k ih=>intro Q E p s hn h;exact h
 |thread k ih=>intro Q E p s hn h;exact ih _ hn h
 |await a tk tm l k ih=>intro Q E p s hn h;exact h
theorem cZ{α:Type}{M:Model}{A:Around}{t:Sem α}{Q:α->Shared->Prop}{E:Value->Shared->Prop}{s:Shared}{n:Nat}(hn:n<=s.toks)(h:wpAny M A t (λa s'=>n<=s'.toks->Q a s') (λe s'=>n<=s'.toks->E e s') s):wpAny M A t Q E s :=
 λΓ p hΓ=>abv t hn (h Γ p hΓ)
theorem QH{M:Model}{A:Around}{c:Code}{R:Result->Shared->Prop}{s:Shared}{n:Nat}(hn:n<=s.toks)(h:codeAny M A c (λr s'=>n<=s'.toks->R r s') s):codeAny M A c R s:=λΓ p hc hb=>by
 obtain⟨r,s1,a,h⟩:=h Γ p hc hb
 exact⟨r,s1,a,h (Nat.le_trans hn (sQ a))⟩
end TK
set_option Elab.async false
set_option linter.all false
set_option maxRecDepth 100000
namespace L2
open PySem PySem.Spec PyProof.Rows
noncomputable abbrev Key:=Sum Int Str
noncomputable def A6:Key->Value->Bool
 | .inl k,v=>Value.isInt k v
 | .inr x,v=>Value.isStrOf x v
noncomputable def agE(w:World):Key->Int
 | .inl k=>hashInt k
 | .inr x=>hashStr w x
theorem gC:∀{k:Key} {v:Value},A6 k v=true->(∃i t,k=Sum.inl i/\v=Value.int i t)\/(∃x t,k=Sum.inr x/\v=Value.str x t)
 | .inl i,v,h=>by
  obtain⟨t,e⟩:=Value.isInt_shape (k:=i) (v:=v) h
  exact .inl ⟨i,t,rfl,e⟩
 | .inr x,v,h=>by
  obtain⟨t,e⟩:=Value.isStrOf_shape (x:=x) (v:=v) h
  exact .inr ⟨x,t,rfl,e⟩
theorem SN(i:Int)(t:Tok):A6 (.inl i) (.int i t)=true:=by simp[A6,Value.isInt]
theorem SM(x:Str)(t:Tok):A6 (.inr x) (.str x t)=true:=by simp[A6,Value.isStrOf]
theorem aap(a b:Int):decide ((Sum.inl a:Key)=Sum.inl b)=(a==b):=by
 by_cases e:a=b
 ·subst e;simp
 ·have h:¬(Sum.inl a:Key)=Sum.inl b:=λq=>e (Sum.inl.inj q)
  rw[decide_eq_false h]
  exact(beq_eq_false_iff_ne.mpr e).symm
theorem aam(a b:Str):decide ((Sum.inr a:Key)=Sum.inr b)=decide (a=b):=by
 by_cases e:a=b
 ·subst e;simp
 ·have h:¬(Sum.inr a:Key)=Sum.inr b:=λq=>e (Sum.inr.inj q)
  rw[decide_eq_false h,decide_eq_false e]
theorem aao(a:Int)(b:Str):decide ((Sum.inl a:Key)=Sum.inr b)=false:=decide_eq_false (λq=>nomatch q)
theorem aan(a:Str)(b:Int):decide ((Sum.inr a:Key)=Sum.inl b)=false:=decide_eq_false (λq=>nomatch q)
noncomputable def jh(prog:Program)(w:World):PySem.KeyKind prog w Key where
 is:=A6
 hash:=agE w
 inj:=λv a b ha hb=>by
  rcases gC ha with⟨i,t,rfl,rfl⟩|⟨x,t,rfl,rfl⟩
  ·rcases gC hb with⟨j,u,rfl,e⟩|⟨y,u,rfl,e⟩
   ·injection e with e1 _;rw[e1]
   ·exact nomatch e
  ·rcases gC hb with⟨j,u,rfl,e⟩|⟨y,u,rfl,e⟩
   ·exact nomatch e
   ·injection e with e1 _;rw[e1]
 byValue:=λk v h=>by
  rcases gC h with⟨i,t,rfl,rfl⟩|⟨x,t,rfl,rfl⟩<;>rfl
 pyHash:=λhv h=>by
  rcases gC hv with⟨i,t,rfl,rfl⟩|⟨x,t,rfl,rfl⟩
  ·exact wpAny_pyHash_int h
  ·exact wpAny_pyHash_str h
 eqBool:=λhu hv h=>by
  rcases gC hu with⟨i,t,rfl,rfl⟩|⟨x,t,rfl,rfl⟩
  ·rcases gC hv with⟨j,u,rfl,rfl⟩|⟨y,u,rfl,rfl⟩
   ·rw[aap]at h;exact wpAny_eqBool_int h
   ·rw[aao]at h;exact SeqAt.EqAt.int_str i t y u _ _ _ _ h
  ·rcases gC hv with⟨j,u,rfl,rfl⟩|⟨y,u,rfl,rfl⟩
   ·rw[aan]at h;exact SeqAt.EqAt.str_int x t j u _ _ _ _ h
   ·rw[aam]at h;exact wpAny_eqBool_str h
 «strs» :=λk x t v h=>by
  rcases gC h with⟨i,u,rfl,e⟩|⟨y,u,rfl,e⟩
  ·exact nomatch e
  ·injection e with e1 _
   subst e1
   cases v<;>rfl
theorem Oq(prog:Program)(w:World)(i:Int)(t:Tok):(jh prog w).is (.inl i) (.int i t)=true:=SN i t
theorem rY(prog:Program)(w:World)(x:Str)(t:Tok):(jh prog w).is (.inr x) (.str x t)=true:=SM x t
end L2
namespace L2
open PySem PySem.Spec PyProof.Rows
inductive V where
 |ko|bl (b:Bool)|int (i:Int)|str (x:Str)|RV (b:Array UInt8)|BB (b:UInt64)|ref (a:Addr)|ty (n:String)
 deriving DecidableEq
noncomputable def RelV:V->Value->Prop
 | .ko,u=>u=Value.none
 | .bl b,u=>u=Value.bool b
 | .int i,u=>∃t,u=Value.int i t
 | .str x,u=>∃t,u=Value.str x t
 | .RV b,u=>∃t,u=Value.bytes b t
 | .BB b,u=>∃t,u=Value.float b t
 | .ref a,u=>u=Value.ref a
 | .ty n,u=>u=Value.type n
noncomputable abbrev Vals:List V->List Value->Prop:=Paired RelV
theorem Vals.length{xs:List V}{us:List Value}(r:Vals xs us):xs.length=us.length:=Paired.length r
theorem Vals.get:∀{xs:List V} {us:List Value} {i:Nat} {x:V},Vals xs us->xs[i]? =some x->∃u,us[i]? =some u/\RelV x u
 |_,_,_,_,.nil,e=>by simp at e
 |_,_,0,_,.cons r _,e=>by simp at e;subst e;exact⟨_,rfl,r⟩
 |_,_,i+1,x,.cons _ t,e=>by
  obtain⟨u,h1,h2⟩:=Vals.get (i:=i) (x:=x) t (by simpa using e)
  exact⟨u,by simpa using h1,h2⟩
theorem Vals.set{x:V}{u:Value}(r:RelV x u):∀{xs:List V} {us:List Value} (i:Nat),Vals xs us->Vals (xs.set i x) (us.set i u)
 |_,_,_,.nil=>.nil
 |_,_,0,.cons _ t=>.cons r t
 |_,_,i+1,.cons q t=>.cons q (Vals.set r i t)
theorem Vals.append:∀{xs ys:List V} {us ws:List Value},Vals xs us->Vals ys ws->Vals (xs++ys) (us++ws)
 |_,_,_,_,.nil,s=>s
 |_,_,_,_,.cons r t,s=>.cons r (Vals.append t s)
theorem Vals.take:∀{xs:List V} {us:List Value} (n:Nat),Vals xs us->Vals (xs.take n) (us.take n)
 |_,_,0,_=>.nil
 |_,_,_+1,.nil=>.nil
 |_,_,n+1,.cons r t=>.cons r (Vals.take n t)
theorem Vals.drop:∀{xs:List V} {us:List Value} (n:Nat),Vals xs us->Vals (xs.drop n) (us.drop n)
 |_,_,0,r=>r
 |_,_,_+1,.nil=>.nil
 |_,_,n+1,.cons _ t=>Vals.drop n t
theorem Vals.none_of:∀{xs:List V} {us:List Value} {i:Nat},Vals xs us->xs[i]? =none->us[i]? =none:=λ{xs us i} r e=>by
 have h1:=r.length
 have h2:xs.length<=i:=List.getElem?_eq_none_iff.mp e
 exact List.getElem?_eq_none_iff.mpr (by omega)
noncomputable def qV:Option V->Option Value->Prop
 |some v,some u=>RelV v u
 |none,none=>True
 |_,_=>False
noncomputable def KV{κ:Type}:List (κ×V)->List (κ×Value)->Prop:=Paired λ(p:κ×V) (q:κ×Value)=>p.1=q.1/\RelV p.2 q.2
noncomputable def kV:Key->V
 | .inl i=>.int i
 | .inr x=>.str x
inductive HO where
 |lst (xs:List V)
 |tup (xs:List V)
 |dK (kvs:List (Key×V))|dT (kvs:List (List Key×V))
 |set (S:Int->Bool) (n:Nat)
 |ins (C dx:Addr) (fs:List (Str×V))
 |own (x:Addr)
 |xd (fs:List (Str×V))
 |met (f x:Addr)
 |CV (lo hi:Int)
 |Qz (o:Obj) (u:HO)
 |XJ (ps:Array Value)
 |ext (φ:Heap->Prop)
noncomputable abbrev Hp:=Addr->Option HO
noncomputable def upd(H:Hp)(a:Addr)(o:HO):Hp:=λb=>if b=a then some o else H b
theorem ah{H:Hp}{a:Addr}{o:HO}:upd H a o a=some o:=by unfold upd;rw[if_pos rfl]
theorem aA{H:Hp}{a b:Addr}{o:HO}(h:b≠a):upd H a o b=H b:=by unfold upd;rw[if_neg h]
theorem pL{H:Hp}{a b:Addr}{o u:HO}(h:H a=some o)(h':H b=some u)(d:o≠u):a≠b:=by
 intro e;subst e;rw[h]at h';exact d (Option.some.inj h')
theorem bC{H:Hp}{a b:Addr}{o:HO}(h:H a=some o)(h':H b=none):a≠b:=by
 intro e;subst e;rw[h]at h';cases h'
section
variable(P:Program)(w:World)
noncomputable def c7(H:Hp)(h:Heap)(a:Addr):HO->Prop
 | .lst xs=>xs.length<=sizeLine/\∃(its:List Value) (n:Nat),Vals xs its/\h.get? a=some { cls:=.type "list",data:=.seq its.toArray n }
 | .tup xs=>xs.length<=sizeLine/\∃its:List Value,Vals xs its/\IsTup h a its.toArray
 | .dK kvs=>kvs.length<=sizeLine/\(a==sysModules)=false/\∃vs,KV kvs vs/\h.DictOf (jh P w) a vs
 | .dT kvs=>kvs.length<=sizeLine/\(a==sysModules)=false/\∃xs:List (List Key×Addr×Value),
   Paired (λ(p:List Key×V) (q:List Key×Addr×Value)=>p.1=q.1/\H q.2.1=some (.tup (p.1.map kV))/\RelV p.2 q.2.2) kvs xs ∧
   ∃o es ep,h.get? a=some o/\o.ExactDict/\o.data= .dict es ep/\es.toList=xs.map (entryOfKey (tupleKind (jh P w)))/\(xs.map (·.1)).Nodup
 | .set S n=>h.SetOf (intKind P w) a S n
 | .ins C dx fs=>H dx=some (.own a)/\fs.length<=1000/\dx≠a/\h.get? a=some (PySem.W.instObj C dx) ∧
   ∃mA,h.Ns1 dx mA/\(∀f,qV (fs.lookup f) (mA f))/\PySem.Within mA (fs.map (·.1))
 | .own _=>∃o,h.get? a=some o
 | .xd fs=>∃mA,h.Ns1 a mA/\∀f,qV (fs.lookup f) (mA f)
 | .CV lo hi=>∃t u v,h.get? a=some { cls:=.type "range",data:=.fields #[.int lo t,.int hi u,.int 1 v] }
 | .Qz o u=>h.get? a=some o/\c7 H h a u
 | .XJ ps=>h.get? a=some { cls:=.none,data:=.fields ps }
 | .met f x=>h.get? a=some (PySem.W.methodObj (.ref f) (.ref x))
 | .ext φ=>φ h/\(∃o,h.get? a=some o)/\∀h1 h2:Heap,φ h1->(∀o,h1.get? a=some o->h2.get? a=some o)->φ h2
noncomputable def qc(H:Hp)(h:Heap):Prop:=∀a o,H a=some o->c7 P w H h a o
end
section
variable{P:Program}{w:World}{H H':Hp}{h h':Heap}{a:Addr}{o:HO}
theorem c7.lt(x:c7 P w H h a o):a<h.objs.size:=by
 cases o with
 |lst xs=>obtain⟨_,_,_,_,e⟩:=x;exact Heap.lt_size e
 |tup xs=>obtain⟨_,_,_,p⟩:=x;exact p.lt
 |dK kvs=>obtain⟨_,_,_,_,o,_,_,e,_⟩:=x;exact Heap.lt_size e
 |dT kvs=>obtain⟨_,_,_,_,o,_,_,e,_⟩:=x;exact Heap.lt_size e
 |set S n=>obtain⟨o,_,_,_,e,_⟩:=x;exact Heap.lt_size e
 |ins C dx fs=>obtain⟨_,_,_,e,_⟩:=x;exact Heap.lt_size e
 |own y=>obtain⟨_,e⟩:=x;exact Heap.lt_size e
 |xd fs=>obtain⟨_,⟨_,_,_,e,_⟩,_⟩:=x;exact Heap.lt_size e
 |CV lo hi=>obtain⟨_,_,_,e⟩:=x;exact Heap.lt_size e
 |Qz ob u=>obtain⟨e,_⟩:=x;exact Heap.lt_size e
 |XJ ps=>exact Heap.lt_size (show h.get? a=some _ from x)
 |met f y=>exact Heap.lt_size (show h.get? a=some _ from x)
 |ext φ=>obtain⟨_,⟨_,e⟩,_⟩:=x;exact Heap.lt_size e
theorem Paired.qm{α β:Type}{F G:α->β->Prop}:∀{l₁:List α} {l₂:List β},Paired F l₁ l₂->(∀a b,F a b->G a b)->Paired G l₁ l₂
 |_,_,.nil,_=>.nil
 |_,_,.cons r t,f=>.cons (f _ _ r) (Paired.qm t f)
theorem c7.stay(x:c7 P w H h a o)(k:∀b u,(b=a\/H b=some (.own a))->h.get? b=some u->h'.get? b=some u)
  (ho:∀b,H b=some (.own a)->H' b=some (.own a)) (ht:∀b xs,H b=some (.tup xs)->H' b=some (.tup xs)):c7 P w H' h' a o:=by
 induction o with
 |lst xs=>obtain⟨z,its,n,r,e⟩:=x;exact⟨z,its,n,r,k _ _ (.inl rfl) e⟩
 |tup xs=>obtain⟨z,its,r,ob,e,c⟩:=x;exact⟨z,its,r,ob,k _ _ (.inl rfl) e,c⟩
 |dK kvs=>obtain⟨z,y,vs,r,ob,es,ep,e,c⟩:=x;exact⟨z,y,vs,r,ob,es,ep,k _ _ (.inl rfl) e,c⟩
 |dT kvs =>
  obtain⟨z,y,xs,r,ob,es,ep,e,c⟩:=x
  exact⟨z,y,xs,Paired.qm r λp q z=>⟨z.1,ht _ _ z.2.1,z.2.2⟩,ob,es,ep,k _ _ (.inl rfl) e,c⟩
 |set S n=>obtain⟨ob,es,ep,t,e,c⟩:=x;exact⟨ob,es,ep,t,k _ _ (.inl rfl) e,c⟩
 |ins C dx fs =>
  obtain⟨d,z,ne,e,mA,⟨od,es,ep,e2,c⟩,r⟩:=x
  exact⟨ho _ d,z,ne,k _ _ (.inl rfl) e,mA,⟨od,es,ep,k _ _ (.inr d) e2,c⟩,r⟩
 |own y=>obtain⟨ob,e⟩:=x;exact⟨ob,k _ _ (.inl rfl) e⟩
 |xd fs=>obtain⟨mA,⟨od,es,ep,e,c⟩,r⟩:=x;exact⟨mA,⟨od,es,ep,k _ _ (.inl rfl) e,c⟩,r⟩
 |CV lo hi=>obtain⟨t,u,v,e⟩:=x;exact⟨t,u,v,k _ _ (.inl rfl) e⟩
 |Qz ob u ih=>obtain⟨e,q⟩:=x;exact⟨k _ _ (.inl rfl) e,ih q⟩
 |XJ ps =>
  have e:h.get? a=some { cls:=.none,data:=.fields ps }:=x
  show h'.get? a=some { cls:=.none,data:=.fields ps }
  exact k a _ (.inl rfl) e
 |met f y =>
  have e:h.get? a=some (PySem.W.methodObj (.ref f) (.ref y)):=x
  show h'.get? a=some (PySem.W.methodObj (.ref f) (.ref y))
  exact k a _ (.inl rfl) e
 |ext φ=>obtain⟨p,⟨o,e⟩,st⟩:=x;exact⟨st _ _ p λo q=>k _ _ (.inl rfl) q,⟨o,k _ _ (.inl rfl) e⟩,st⟩
theorem qc.lt(x:qc P w H h)(e:H a=some o):a<h.objs.size:=(x a o e).lt
theorem qc.fresh(x:qc P w H h)(e:h.objs.size<=a):H a=none:=by
 cases q:H a with
 |none=>rfl
 |some u=>exact absurd (Nat.lt_of_lt_of_le (x.lt q) e) (Nat.lt_irrefl _)
theorem qc.kept(x:qc P w H h)(k:∀b u,h.get? b=some u->h'.get? b=some u):qc P w H h':=λa o e =>
 (x a o e).stay (λb u _ q=>k b u q) (λ_ q=>q) λ_ _ q=>q
theorem qc.laid(x:qc P w H h)(k:∀b u,h.get? b=some u->h'.get? b=some u)(hp:h.objs.size<=a)(new:c7 P w (upd H a o) h' a o):qc P w (upd H a o) h':=λb u e=>by
 have hn:=x.fresh hp
 by_cases hb:b=a
 ·subst hb;rw[ah]at e;cases e;exact new
 ·rw[aA hb]at e
  exact(x b u e).stay (λc v _ q=>k c v q) (λc q=>by rw[aA (bC q hn)];exact q) λc xs q=>by rw[aA (bC q hn)];exact q
end
noncomputable def Rd(H:Hp)(a:Addr)(u:HO):Prop:=H a=some u\/∃o,H a=some (.Qz o u)
theorem Rd.ok{P:Program}{w:World}{H:Hp}{h:Heap}{a:Addr}{u:HO}(r:Rd H a u)(x:qc P w H h):c7 P w H h a u:=by
 rcases r with r|⟨o,r⟩
 ·exact x a u r
 ·obtain⟨_,q⟩:=x a _ r
  exact q
noncomputable def Cu:Option HO->Prop
 |some (.lst _)=>True
 |some (.dK _)=>True
 |some (.dT _)=>True
 |some (.set _ _)=>True
 |some (.ins _ _ _)=>True
 |some (.ext _)=>True
 |_=>False
section
variable{P:Program}{w:World}{H:Hp}{h h':Heap}{x e:Addr}{o':HO}
theorem qc.write(ok:qc P w H h)(mu:Cu (H x))(he:e=x\/H e=some (.own x))(k:∀b u,b≠e->h.get? b=some u->h'.get? b=some u)(BO:∃u,h'.get? e=some u)
  (new:c7 P w (upd H x o') h' x o'):qc P w (upd H x o') h':=λb u q=>by
 have K8:∀c y,H c=some (.own y)->c≠x:=λc y r z=>by subst z;rw[r]at mu;exact mu
 have agw:∀c xs,H c=some (.tup xs)->c≠x:=λc xs r z=>by subst z;rw[r]at mu;exact mu
 by_cases hb:b=x
 ·subst hb;rw[ah]at q;cases q;exact new
 ·rw[aA hb]at q
  by_cases Vx:b=e
  ·have q':H b=some (.own x):=by
    rcases he with z|z
    ·exact absurd (Vx.trans z) hb
    ·rw[Vx];exact z
   rw[q]at q';cases q'
   obtain⟨v,hv⟩:=BO
   exact⟨v,by rw[Vx];exact hv⟩
  ·refine(ok b u q).stay (λc v hc r=>k c v ?_ r) (λc r=>by rw[aA (K8 c b r)];exact r) λc xs r=>by rw[aA (agw c xs r)];exact r
   rcases hc with rfl|hc
   ·exact Vx
   ·rintro rfl
    rcases he with z|z
    ·exact K8 c b hc z
    ·rw[hc]at z;cases z;exact hb rfl
end
structure Un(fs ex:List Addr)(H H':Hp)(h h':Heap):Prop where
 keep:∀b o,h.get? b=some o->H b=none->b∉fs->b∉ex->h'.get? b=some o
 slot:∀b o,h.get? b=some o->H b=none->b∈fs->b∉ex->∃sl,h'.get? b=some { o with slots:=sl }
 free:∀b o,h.get? b=some o->H b=none->b∉ex->H' b=none
 there:∀b o,h.get? b=some o->b∉ex->∃o',h'.get? b=some o'
 tups:∀b xs,H b=some (.tup xs)->H' b=some (.tup xs)
 uD:∀b o u,H b=some (.Qz o u)->H' b=some (.Qz o u)
 uV:∀b ps,H b=some (.XJ ps)->∃more,H' b=some (.XJ (ps++more))
section
variable{fs fs' ex ex':List Addr}{H H1 H2:Hp}{h h1 h2 h':Heap}{a x e:Addr}{o:HO}
theorem Un.any(u:Un fs ex H H1 h h1){b:Addr}{ob:Obj}(q:h.get? b=some ob)(n:H b=none)(hx:b∉ex):∃sl,h1.get? b=some { ob with slots:=sl }:=by
 by_cases hb:b∈fs
 ·exact u.slot b ob q n hb hx
 ·exact⟨ob.slots,u.keep b ob q n hb hx⟩
theorem Un.kept(k:∀b u,h.get? b=some u->h'.get? b=some u):Un fs ex H H h h' :=
 ⟨λb ob q _ _ _=>k b ob q,λb ob q _ _ _=>⟨ob.slots,k b ob q⟩,λ_ _ _ n _=>n,λb ob q _=>⟨ob,k b ob q⟩,λ_ _ q=>q,λ_ _ _ q=>q,λ_ ps q=>⟨#[],by rw[q];simp⟩⟩
theorem Un.refl:Un fs ex H H h h:=Un.kept λ_ _ q=>q
theorem Un.laid(k:∀b u,h.get? b=some u->h'.get? b=some u)(hp:h.objs.size<=a)(hn:H a=none):Un fs ex H (upd H a o) h h' where
 keep:=λb u q _ _ _=>k b u q
 slot:=λb u q _ _ _=>⟨u.slots,k b u q⟩
 free:=λb u q n _=>by rw[aA (Nat.ne_of_lt (Nat.lt_of_lt_of_le (Heap.lt_size q) hp))];exact n
 there:=λb u q _=>⟨u,k b u q⟩
 tups:=λb xs q=>by rw[aA (bC q hn)];exact q
 uD:=λb u xs q=>by rw[aA (bC q hn)];exact q
 uV:=λb ps q=>⟨#[],by rw[aA (bC q hn),q];simp⟩
theorem Un.write(mu:Cu (H x))(he:e=x\/H e=some (.own x))(k:∀b u,b≠e->h.get? b=some u->h'.get? b=some u)(BO:∃u,h'.get? e=some u):Un fs ex H (upd H x o) h h':=by
 have hx:∀b,H b=none->b≠x:=λb n z=>by subst z;rw[n]at mu;exact mu
 have hb:∀b,H b=none->b≠e:=λb n z=>by
  subst z
  rcases he with r|r
  ·exact hx b n r
  ·rw[n]at r;cases r
 have hm:∀b u,H b=some u->¬Cu (some u)->b≠x:=λb u q nm z=>by subst z;rw[q]at mu;exact nm mu
 refine⟨λb u q n _ _=>k b u (hb b n) q,λb u q n _ _=>⟨u.slots,k b u (hb b n) q⟩,λb u q n _=>by rw[aA (hx b n)];exact n,λb u q _=>?_,
  λb xs q=>by rw[aA (hm b _ q λz=>z)];exact q,λb u xs q=>by rw[aA (hm b _ q λz=>z)];exact q,λb ps q=>⟨#[],by rw[aA (hm b _ q λz=>z),q];simp⟩⟩
 by_cases Vx:b=e
 ·subst Vx;exact BO
 ·exact⟨u,k b u Vx q⟩
end
noncomputable def CN(h:Heap)(H:Hp):List Addr:=(List.range h.objs.size).filter λa=>(H a).isSome
noncomputable def G8(h:Heap)(H:Hp):Heap:=PySem.W.hideAll h (CN h H)
theorem S1(h:Heap)(H:Hp):(G8 h H).objs.size=h.objs.size:=PySem.W.hideAll_size _ _
theorem Vw{h:Heap}{H:Hp}{b:Addr}{o:Obj}(e:h.get? b=some o)(n:H b=none):(G8 h H).get? b=some o :=
 PySem.W.hideAll_get _ e λhm=>by
  have q:(H b).isSome=true:=(List.mem_filter.mp hm).2
  rw[n]at q;simp at q
theorem WW{h:Heap}{H:Hp}{b:Addr}{o:Obj}(e:(G8 h H).get? b=some o):h.get? b=some o/\H b=none:=by
 have e':h.get? b=some o:=PySem.W.of_hideAll (CN h H) e
 refine⟨e',?_⟩
 cases q:H b with
 |none=>rfl
 |some x =>
  have hm:b∈CN h H:=List.mem_filter.mpr ⟨List.mem_range.mpr (Heap.lt_size e'),by simp[q]⟩
  have z:(G8 h H).get? b=none:=PySem.W.hideAll_none (CN h H) hm
  rw[z]at e;cases e
end L2
namespace L2
open PySem PySem.Spec PyProof.Rows
structure Mod(K:PySem.W.Frag)(mg:Str->Option Value)(base:Heap):Prop where
 XY:K.In base
 glob:base.Ns mainGlobals mg
 blt:∃mb,base.Ns builtinsNs mb/\∀x:Str,x≠ "__name__" ->mb x=bootBuiltins x
 nolimit:base.NoLimit
structure Cx where
 prog:Program
 w:World
 K:PySem.W.Frag
 mg:Str->Option Value
 base:Heap
 A:Around
 N:List Str
 s₀:Shared
 H₀:Hp
 env:Env
 outer:List Env
 stack:List Env
 ex:List Addr
 fn:Str->Bool
 calm:Bool
 pn:List (Addr×Obj)
 xe:Value->Shared->Prop
noncomputable def frs(l:List Env):List Addr:=l.filterMap (·.frame)
noncomputable abbrev Cx.fs(X:Cx):List Addr:=frs X.outer
noncomputable def DB(sc:Scope)(x:Str):Prop:=sc.names.lookup x=some .local\/sc.names.lookup x=some .cell\/sc.names.lookup x=some .free
noncomputable def Loc(sc:Scope)(x:Str):Prop:=sc.names.lookup x=some .local\/sc.names.lookup x=some .cell
noncomputable def Look(env:Env)(h:Heap)(m:Str->Option Value)(x:Str)(u:Value):Prop :=
 (env.kindOf x=some .local/\m x=some u)\/((env.kindOf x=some .cell\/env.kindOf x=some .free)/\∃c,env.cells.lookup x=some c/\h.IsCell c (some u))
noncomputable def OY(mg:Str->Option Value)(n:Nat):Prop:=∀x v u,mg x=some (.str v u)->u<n/\u≠0
theorem OY.mono{mg:Str->Option Value}{n m:Nat}(h:OY mg n)(l:n<=m):OY mg m:=λx v u e=>⟨Nat.lt_of_lt_of_le (h x v u e).1 l,(h x v u e).2⟩
structure Cx.Ok(X:Cx):Prop where
 mod:Mod X.K X.mg X.base
 kind:X.env.scope.kind= .function
 glob:X.env.globals=mainGlobals
 blt:X.env.builtins=builtinsNs
 above:X.s₀.heap.objs.size<=X.env.locals
 inj:∀x y c,X.env.cells.lookup x=some c->X.env.cells.lookup y=some c->x=y
 has:∀x,(X.env.kindOf x=some .cell\/X.env.kindOf x=some .free)->∃c,X.env.cells.lookup x=some c
 Xw:∀x c,X.fn x=true->X.env.cells.lookup x=some c->X.s₀.heap.objs.size<=c
 hd:X.calm=true->X.A.handled=none
 frames:X.A.frames=some X.stack
 stk:X.stack=X.outer\/(X.stack=X.env::X.outer/\X.env.frame=some X.env.locals)
 Dv:∀b∈X.ex,b≠X.env.locals/\∀x c,X.env.cells.lookup x=some c->c≠b
 bs:∀b o,X.base.get? b=some o->X.s₀.heap.get? b=some o/\X.H₀ b=none
 V0:X.base.objs.size<=X.s₀.heap.objs.size
 Qh:∀b o,X.base.get? b=some o->b∉X.ex
 S3:∀b∈X.ex,b∉X.fs
 uB:X.s₀.heap.FunFrames X.base X.outer
 Xj:∀b∈X.fs,X.H₀ b=none
 tk:OY X.mg X.s₀.toks
structure Inv(X:Cx)(pins:List (Addr×Obj))(σ:List (Option V))(H:Hp)(s:Shared):Prop where
 ok:X.Ok
 os:s.os=X.s₀.os
 bare:AllBare s.gens
 base:Un X.fs X.ex X.H₀ H X.s₀.heap s.heap
 loc:∃m,s.heap.Ns X.env.locals m/\∀(i:Nat) (x:Str) (v:V),X.N[i]? =some x->σ[i]? =some (some v)->DB X.env.scope x->∃u,RelV v u/\Look X.env s.heap m x u
 cell:∀x c,X.env.cells.lookup x=some c->∃v,s.heap.IsCell c v
 free:H X.env.locals=none
 mj:∀x c,X.env.cells.lookup x=some c->H c=none
 pin:∀p∈X.pn++pins,s.heap.get? p.1=some p.2/\H p.1=none/\p.1≠X.env.locals/\p.1∉X.fs/\∀v,p.2.data≠ .cell v
 hok:qc X.prog X.w H s.heap
 len:σ.length=X.N.length
 up:X.s₀.toks<=s.toks
section
variable{X:Cx}{pins:List (Addr×Obj)}{σ:List (Option V)}{H H':Hp}{s:Shared}{h':Heap}
theorem Cx.Ok.agz(ok:X.Ok){b:Addr}{o:Obj}(e:X.base.get? b=some o):b∉X.fs:=λhb=>by
 have:=(ok.uB.mem hb).1
 rw[e]at this;cases this
theorem Inv.tk(I:Inv X pins σ H s):OY X.mg s.toks:=I.ok.tk.mono I.up
theorem Inv.bs(I:Inv X pins σ H s):∀b o,X.base.get? b=some o->s.heap.get? b=some o/\H b=none:=λb o e =>
 ⟨I.base.keep b o (I.ok.bs b o e).1 (I.ok.bs b o e).2 (I.ok.agz e) (I.ok.Qh b o e),I.base.free b o (I.ok.bs b o e).1 (I.ok.bs b o e).2 (I.ok.Qh b o e)⟩
theorem Inv.bk(I:Inv X pins σ H s):∀b o,X.base.get? b=some o->s.heap.get? b=some o:=λb o e=>(I.bs b o e).1
theorem Inv.mod(I:Inv X pins σ H s):Mod X.K X.mg X.base:=I.ok.mod
theorem Inv.rq(I:Inv X pins σ H s):X.K.In s.heap:=I.ok.mod.XY.keeps I.bk
theorem Inv.lt(I:Inv X pins σ H s):X.env.locals<s.heap.objs.size:=let ⟨_,hn,_⟩:=I.loc;hn.lt
theorem Inv.sz(I:Inv X pins σ H s):X.s₀.heap.objs.size<=s.heap.objs.size:=Nat.le_trans I.ok.above (Nat.le_of_lt I.lt)
theorem Inv.agy(I:Inv X pins σ H s){a:Addr}(h:s.heap.objs.size<=a):a∉X.fs:=λhb=>by
 obtain⟨_,o,ho,_⟩:=I.ok.uB.mem hb
 exact absurd (Nat.lt_of_lt_of_le (Heap.lt_size ho) (Nat.le_trans I.sz h)) (Nat.lt_irrefl _)
theorem Inv.Yj(I:Inv X pins σ H s):∀x c,X.env.cells.lookup x=some c->c≠X.env.locals:=λx c e z=>by
 obtain⟨v,o,ho,hd⟩:=I.cell x c e
 obtain⟨m,⟨o',es,ep,ho',hd',_⟩,_⟩:=I.loc
 rw[z,ho']at ho;cases ho;rw[hd']at hd;cases hd
theorem Inv.uB(I:Inv X pins σ H s):s.heap.FunFrames X.base X.outer:=by
 have all:∀(l:List Env),(∀b∈frs l,b∈X.fs)->X.s₀.heap.FunFrames X.base l->s.heap.FunFrames X.base l:=by
  intro l
  induction l with
  |nil=>intro _ _;trivial
  |cons env r ih =>
   intro hs hl
   obtain⟨hk,⟨L,o,hf,hn,ho,hd⟩,hr⟩:=hl
   have hL:L∈X.fs:=hs L (by unfold frs;rw[List.filterMap_cons,hf];exact List.mem_cons_self)
   obtain⟨sl,e⟩:=I.base.slot L o ho (I.ok.Xj L hL) hL λz=>I.ok.S3 L z hL
   exact⟨hk,⟨L,_,hf,hn,e,hd⟩,ih (λb hb=>hs b (by unfold frs;rw[List.filterMap_cons,hf];exact List.mem_cons_of_mem _ hb)) hr⟩
 exact all X.outer (λ_ hb=>hb) I.ok.uB
theorem Inv.stack(I:Inv X pins σ H s):s.heap.FunFrames X.base X.stack:=by
 rcases I.ok.stk with e|⟨e,hf⟩
 ·rw[e];exact I.uB
 ·rw[e]
  obtain⟨m,hn,_⟩:=I.loc
  refine .cons (by rw[I.ok.kind];decide) hf hn ?_ I.uB
  exact Heap.get?_none_of_le (Nat.le_trans I.ok.V0 I.ok.above)
theorem Inv.ue(I:Inv X pins σ H s):∀b∈frs X.stack,b∈X.env.locals::X.fs:=λb hb=>by
 rcases I.ok.stk with e|⟨e,hf⟩
 ·rw[e]at hb;exact List.mem_cons_of_mem _ hb
 ·rw[e]at hb
  unfold frs at hb
  rw[List.filterMap_cons,hf]at hb
  exact hb
theorem Inv.Gi(I:Inv X pins σ H s):∀b∈frs X.stack,H b=none:=λb hb=>by
 rcases List.mem_cons.mp (I.ue b hb)with e|hb
 ·rw[e];exact I.free
 ·obtain⟨_,o,ho,_⟩:=I.ok.uB.mem hb
  exact I.base.free b o ho (I.ok.Xj b hb) λz=>I.ok.S3 b z hb
theorem Inv.step{g':Array GenState}{t':Nat}{d':Drawn}{ch:List Addr}(I:Inv X pins σ H s)
  (hch:∀b∈ch,(b∈X.ex\/X.s₀.heap.objs.size<=b)/\b≠X.env.locals/\(∀x c,X.env.cells.lookup x=some c->c≠b)/\∀p∈X.pn++pins,p.1≠b)
  (keep:∀b o,b≠X.env.locals->b∉X.fs->b∉ch->s.heap.get? b=some o->H b=none->h'.get? b=some o)
  (slot:∀b o,b≠X.env.locals->b∈X.fs->b∉ch->s.heap.get? b=some o->H b=none->∃sl,h'.get? b=some { o with slots:=sl }) (free:∀b o,b∉ch->s.heap.get? b=some o->H b=none->H' b=none)
  (there:∀b o,b∉ch->s.heap.get? b=some o->∃o',h'.get? b=some o')
  (tups:∀b xs,H b=some (.tup xs)->H' b=some (.tup xs)) (uD:∀b o u,H b=some (.Qz o u)->H' b=some (.Qz o u)) (uV:∀b ps,H b=some (.XJ ps)->∃more,H' b=some (.XJ (ps++more)))
  (ns:∀m,s.heap.Ns X.env.locals m->h'.Ns X.env.locals m) (hok:qc X.prog X.w H' h') (hg:AllBare g') (ht:X.s₀.toks<=t') :
  Inv X pins σ H' { s with heap:=h',gens:=g',drawn:=d',toks:=t' }:=by
 have IZ:∀b o,X.s₀.heap.get? b=some o->b≠X.env.locals:=λb o e=>Nat.ne_of_lt (Nat.lt_of_lt_of_le (Heap.lt_size e) I.ok.above)
 have C0:∀b o,X.s₀.heap.get? b=some o->b∉X.ex->b∉ch:=λb o e hx hb=>by
  rcases(hch b hb).1 with z|z
  ·exact hx z
  ·exact absurd (Nat.lt_of_lt_of_le (Heap.lt_size e) z) (Nat.lt_irrefl _)
 have cellK:∀x c,X.env.cells.lookup x=some c->∀v,s.heap.IsCell c v->h'.IsCell c v:=λx c e v ⟨o,ho,hd⟩=>by
  have XU:c∉ch:=λz=>(hch c z).2.2.1 x c e rfl
  by_cases hc:c∈X.fs
  ·obtain⟨sl,q⟩:=slot c o (I.Yj x c e) hc XU ho (I.mj x c e)
   exact⟨_,q,hd⟩
  ·exact⟨o,keep c o (I.Yj x c e) hc XU ho (I.mj x c e),hd⟩
 refine⟨I.ok,I.os,hg,⟨λb o e n hb hx=>?_,λb o e n hb hx=>?_,λb o e n hx=>?_,λb o e hx=>?_,λb xs e=>tups b xs (I.base.tups b xs e),λb o xs e=>uD b o xs (I.base.uD b o xs e),λb ps e=>?_⟩,?_,λx c e=>?_,?_,λx c e=>?_,λp hp=>?_,hok,I.len,ht⟩
 ·exact keep b o (IZ b o e) hb (C0 b o e hx) (I.base.keep b o e n hb hx) (I.base.free b o e n hx)
 ·obtain⟨sl,e1⟩:=I.base.slot b o e n hb hx
  obtain⟨Tu,e2⟩:=slot b _ (IZ b o e) hb (C0 b o e hx) e1 (I.base.free b o e n hx)
  exact⟨Tu,e2⟩
 ·obtain⟨o',e1⟩:=I.base.there b o e hx
  exact free b o' (C0 b o e hx) e1 (I.base.free b o e n hx)
 ·obtain⟨o',e1⟩:=I.base.there b o e hx
  exact there b o' (C0 b o e hx) e1
 ·obtain⟨m1,e1⟩:=I.base.uV b ps e
  obtain⟨m2,e2⟩:=uV b _ e1
  exact⟨m1++m2,by rw[e2,Array.append_assoc]⟩
 ·obtain⟨m,hn,hl⟩:=I.loc
  refine⟨m,ns m hn,λi x v e1 e2 e3=>?_⟩
  obtain⟨u,r,l⟩:=hl i x v e1 e2 e3
  refine⟨u,r,?_⟩
  rcases l with l|⟨k,c,e,z⟩
  ·exact .inl l
  ·exact .inr ⟨k,c,e,cellK x c e _ z⟩
 ·obtain⟨v,z⟩:=I.cell x c e
  exact⟨v,cellK x c e v z⟩
 ·obtain⟨m,⟨o,_,_,ho,_⟩,_⟩:=I.loc
  exact free _ o (λz=>(hch _ z).2.1 rfl) ho I.free
 ·obtain⟨v,o,ho,hd⟩:=I.cell x c e
  exact free c o (λz=>(hch c z).2.2.1 x c e rfl) ho (I.mj x c e)
 ·obtain⟨e,n,ne,nf,d⟩:=I.pin p hp
  have XU:p.1∉ch:=λz=>(hch p.1 z).2.2.2 p hp rfl
  exact⟨keep p.1 p.2 ne nf XU e n,free p.1 p.2 XU e n,ne,nf,d⟩
theorem Inv.un{t':Nat}(I:Inv X pins σ H s)(u:Un X.fs [] H H' s.heap h')(hok:qc X.prog X.w H' h')(ht:s.toks<=t':=by first|exact Nat.le_refl _|exact Nat.le_succ _|assumption|omega):Inv X pins σ H' { s with heap:=h',toks:=t' }:=by
 obtain⟨m,⟨o,es,ep,ho,r⟩,_⟩:=id I.loc
 obtain⟨sl,hL⟩:=u.any ho I.free (by simp)
 exact I.step (g':=s.gens) (d':=s.drawn) (ch:=[]) (λ_ z=>nomatch z) (λb o _ hb _ e n=>u.keep b o e n hb (by simp)) (λb o _ hb _ e n=>u.slot b o e n hb (by simp)) (λb o _ e n=>u.free b o e n (by simp)) (λb o _ e=>u.there b o e (by simp)) u.tups u.uD u.uV (λm' hm=>by
  obtain⟨o',es',Dw,ho',r'⟩:=hm
  rw[ho]at ho';cases ho'
  exact⟨_,es',Dw,hL,r'⟩) hok I.bare (Nat.le_trans I.up ht)
theorem Inv.call{g':Array GenState}{t':Nat}{d':Drawn}{ch:List Addr}(I:Inv X pins σ H s)(u:Un (frs X.stack) ch H H' s.heap h')(hok:qc X.prog X.w H' h')(hg:AllBare g')
  (hch:∀b∈ch,(b∈X.ex\/X.s₀.heap.objs.size<=b)/\b≠X.env.locals/\(∀x c,X.env.cells.lookup x=some c->c≠b)/\∀p∈X.pn++pins,p.1≠b) (ht:X.s₀.toks<=t') :
  Inv X pins σ H' { s with heap:=h',gens:=g',drawn:=d',toks:=t' }:=by
 obtain⟨m,⟨o,es,ep,ho,r⟩,_⟩:=id I.loc
 obtain⟨sl,hL⟩:=u.any ho I.free λz=>(hch _ z).2.1 rfl
 exact I.step (ch:=ch) hch (λb o hL hb hc e n=>u.keep b o e n (λz=>(List.mem_cons.mp (I.ue b z)).elim hL hb) hc) (λb o _ _ hc e n=>u.any e n hc) (λb o hc e n=>u.free b o e n hc) (λb o hc e=>u.there b o e hc) u.tups u.uD u.uV (λm' hm=>by
  obtain⟨o',es',Dw,ho',r'⟩:=hm
  rw[ho]at ho';cases ho'
  exact⟨_,es',Dw,hL,r'⟩) hok hg ht
theorem Inv.turned{t':Nat}{it:Addr}(I:Inv X pins σ H s)(k:∀b o,b≠it->s.heap.get? b=some o->h'.get? b=some o)(hn:H it=none)(hL:it≠X.env.locals)
  (h1:it∈X.ex\/X.s₀.heap.objs.size<=it) (h2:∀x c,X.env.cells.lookup x=some c->c≠it) (h3:∀p∈X.pn++pins,p.1≠it) (ht:s.toks<=t':=by first|exact Nat.le_refl _|exact Nat.le_succ _|assumption|omega):Inv X pins σ H { s with heap:=h',toks:=t' }:=by
 have IY:∀b u,H b=some u->b≠it:=λb u e z=>by rw[z,hn]at e;cases e
 refine I.step (g':=s.gens) (d':=s.drawn) (ch:=[it]) (λb hb=>?_) (λb o _ _ hc e _=>k b o (λz=>hc (by simp[z])) e) (λb o _ _ hc e _=>⟨o.slots,k b o (λz=>hc (by simp[z])) e⟩) (λ_ _ _ _ n=>n)
  (λb o hc e=>⟨o,k b o (λz=>hc (by simp[z])) e⟩) (λ_ _ e=>e) (λ_ _ _ e=>e) (λb ps e=>⟨#[],by rw[e];simp⟩) (λm hm=>?_) (λb u e=>?_) I.bare (Nat.le_trans I.up ht)
 ·have e:b=it:=by simpa using hb
  subst e
  exact⟨h1,hL,h2,h3⟩
 ·obtain⟨o,es,ep,ho,r⟩:=hm
  exact⟨o,es,ep,k _ o (Ne.symm hL) ho,r⟩
 ·refine(I.hok b u e).stay (λc v hc q=>k c v ?_ q) (λ_ q=>q) λ_ _ q=>q
  rcases hc with z|z
  ·rw[z];exact IY b u e
  ·exact IY c _ z
theorem Inv.tok(I:Inv X pins σ H s)(t':Nat)(ht:s.toks<=t':=by first|exact Nat.le_refl _|exact Nat.le_succ _|assumption|omega):Inv X pins σ H { s with toks:=t' }:=I.un (h':=s.heap) (t':=t') Un.refl I.hok ht
theorem Inv.kept{t':Nat}(I:Inv X pins σ H s)(k:∀b u,s.heap.get? b=some u->h'.get? b=some u)(ht:s.toks<=t':=by first|exact Nat.le_refl _|exact Nat.le_succ _|assumption|omega):Inv X pins σ H { s with heap:=h',toks:=t' }:=I.un (Un.kept k) (I.hok.kept k) ht
theorem Inv.laid{a:Addr}{o:HO}{t':Nat}(I:Inv X pins σ H s)(k:∀b u,s.heap.get? b=some u->h'.get? b=some u)(hp:s.heap.objs.size<=a)(new:c7 X.prog X.w (upd H a o) h' a o)(ht:s.toks<=t':=by first|exact Nat.le_refl _|exact Nat.le_succ _|assumption|omega):
  Inv X pins σ (upd H a o) { s with heap:=h',toks:=t' }:=I.un (Un.laid k hp (I.hok.fresh hp)) (I.hok.laid k hp new) ht
theorem Inv.write{x e:Addr}{o:HO}{t':Nat}(I:Inv X pins σ H s)(mu:Cu (H x))(he:e=x\/H e=some (.own x))(k:∀b u,b≠e->s.heap.get? b=some u->h'.get? b=some u)(BO:∃u,h'.get? e=some u)
  (new:c7 X.prog X.w (upd H x o) h' x o) (ht:s.toks<=t':=by first|exact Nat.le_refl _|exact Nat.le_succ _|assumption|omega):Inv X pins σ (upd H x o) { s with heap:=h',toks:=t' }:=I.un (Un.write mu he k BO) (I.hok.write mu he k BO new) ht
theorem Inv.weak{σ':List (Option V)}(I:Inv X pins σ H s)(hl:σ'.length=σ.length)(w:∀(i:Nat) v,σ'[i]? =some (some v)->σ[i]? =some (some v)):Inv X pins σ' H s :=
 ⟨I.ok,I.os,I.bare,I.base,let ⟨m,hn,hl'⟩:=I.loc;⟨m,hn,λi x v e1 e2 e3=>hl' i x v e1 (w i v e2) e3⟩,I.cell,I.free,I.mj,I.pin,I.hok,hl.trans I.len,I.up⟩
theorem Inv.GC{XS:List (Addr×Obj)}(I:Inv X pins σ H s)(h:∀p∈XS,s.heap.get? p.1=some p.2/\H p.1=none/\p.1≠X.env.locals/\p.1∉X.fs/\∀v,p.2.data≠ .cell v):Inv X XS σ H s :=
 ⟨I.ok,I.os,I.bare,I.base,I.loc,I.cell,I.free,I.mj,λp hp=>(List.mem_append.mp hp).elim (λz=>I.pin p (List.mem_append_left _ z)) (h p),I.hok,I.len,I.up⟩
theorem yT{N:List Str}(hN:N.Nodup){i j:Nat}{x:Str}(a:N[i]? =some x)(b:N[j]? =some x):i=j:=by
 obtain⟨h1,e1⟩:=List.getElem?_eq_some_iff.mp a
 obtain⟨h2,e2⟩:=List.getElem?_eq_some_iff.mp b
 exact(List.getElem_inj hN).mp (e1.trans e2.symm)
theorem AV{M:Model}{A:Around}{E:Value->Shared->Prop}{i:Nat}{x:Str}{v:V}{u:Value}{Q:Unit->Shared->Prop}(I:Inv X pins σ H s)(hN:X.N.Nodup)(hi:X.N[i]? =some x)(hx:Loc X.env.scope x)(r:RelV v u)
  (h:∀s',Inv X pins (σ.set i (some v)) H s'->(∃a,Heap.SameBut a s.heap s'.heap/\(a=X.env.locals\/X.env.cells.lookup x=some a))->Q () s') (hf:X.fn x=true\/X.env.scope.names.lookup x=some .local:=by first|exact .inl rfl|exact .inr rfl|assumption):wpAny M A (storeName X.env x u) Q E s:=by
 obtain⟨m,hn,hl⟩:=id I.loc
 have hcls:(X.env.scope.kind== .class||(X.env.scope.kind== .module&&X.env.locals != X.env.globals))=false:=by rw[I.ok.kind];rfl
 have KC:i<σ.length:=by rw[I.len];exact(List.getElem?_eq_some_iff.mp hi).1
 have Yj:=I.Yj
 have tracked:∀{a:Addr} {h':Heap},(∃o,s.heap.get? a=some o/\H a=none)->Heap.SameBut a s.heap h'->qc X.prog X.w H h':=λ{a h'} ha hs b ob e=>by
  obtain⟨_,_,hfree⟩:=ha
  refine(I.hok b ob e).stay (λc w' hc q=>(hs.2 c ?_).trans q) (λ_ q=>q) λ_ _ q=>q
  rintro rfl
  rcases hc with rfl|hc
  ·rw[hfree]at e;cases e
  ·rw[hfree]at hc;cases hc
 rcases hx with hk|hk
 ·refine wpAny_storeName_local hk hn (λh' hn' hs=>?_) hcls
  obtain⟨oL,_,_,Ml,_⟩:=id hn
  refine h _ ⟨I.ok,I.os,I.bare,⟨λb o e n hb hx=>?_,λb o e n hb hx=>?_,I.base.free,λb o e hx=>?_,I.base.tups,I.base.uD,I.base.uV⟩,⟨_,hn',λj y v' e1 e2 e3=>?_⟩,λy c e=>?_,I.free,I.mj,λp hp=>?_,tracked ⟨oL,Ml,I.free⟩ hs,by simpa using I.len,Nat.le_trans I.up (by first|exact Nat.le_refl _|exact Nat.le_succ _|exact Nat.le_add_right _ _)⟩ ⟨_,hs,.inl rfl⟩
  ·exact(hs.2 b (Nat.ne_of_lt (Nat.lt_of_lt_of_le (Heap.lt_size e) I.ok.above))).trans (I.base.keep b o e n hb hx)
  ·obtain⟨sl,e1⟩:=I.base.slot b o e n hb hx
   exact⟨sl,(hs.2 b (Nat.ne_of_lt (Nat.lt_of_lt_of_le (Heap.lt_size e) I.ok.above))).trans e1⟩
  ·obtain⟨o',e1⟩:=I.base.there b o e hx
   exact⟨o',(hs.2 b (Nat.ne_of_lt (Nat.lt_of_lt_of_le (Heap.lt_size e) I.ok.above))).trans e1⟩
  ·by_cases hj:j=i
   ·subst hj
    rw[hi]at e1;cases e1
    rw[List.getElem?_set_self KC]at e2
    cases e2
    exact⟨u,r,.inl ⟨hk,by simp⟩⟩
   ·rw[List.getElem?_set_ne (Ne.symm hj)]at e2
    obtain⟨u',r',q⟩:=hl j y v' e1 e2 e3
    refine⟨u',r',?_⟩
    rcases q with⟨k,e⟩|⟨k,c,e,z⟩
    ·refine .inl ⟨k,?_⟩
     have:y≠x:=λe=>hj (yT hN e1 (e▸hi))
     simp[this,e]
    ·exact .inr ⟨k,c,e,z.sameBut hs (Yj y c e)⟩
  ·obtain⟨w',z⟩:=I.cell y c e
   exact⟨w',z.sameBut hs (Yj y c e)⟩
  ·obtain⟨e,n,ne,nf,d⟩:=I.pin p hp
   exact⟨(hs.2 p.1 ne).trans e,n,ne,nf,d⟩
 ·have hfn:X.fn x=true:=by
   rcases hf with z|z
   ·exact z
   ·rw[z]at hk;cases hk
  obtain⟨c,hc⟩:=I.ok.has x (.inl hk)
  obtain⟨w',z⟩:=I.cell x c hc
  refine wpAny_storeName_cell I.ok.kind hk hc z (λh' hc' hs=>?_)
  obtain⟨oc,hoc,ag2⟩:=id z
  refine h { s with heap:=h' } ⟨I.ok,I.os,I.bare,⟨λb o e n hb hx=>?_,λb o e n hb hx=>?_,I.base.free,λb o e hx=>?_,I.base.tups,I.base.uD,I.base.uV⟩,⟨m,hn.sameBut hs (Ne.symm (Yj x c hc)),λj y v' e1 e2 e3=>?_⟩,λy c' e=>?_,I.free,I.mj,λp hp=>?_,tracked ⟨oc,hoc,I.mj x c hc⟩ hs,by simpa using I.len,I.up⟩ ⟨c,hs,.inr hc⟩
  ·exact(hs.2 b (Nat.ne_of_lt (Nat.lt_of_lt_of_le (Heap.lt_size e) (I.ok.Xw x c hfn hc)))).trans (I.base.keep b o e n hb hx)
  ·obtain⟨sl,e1⟩:=I.base.slot b o e n hb hx
   exact⟨sl,(hs.2 b (Nat.ne_of_lt (Nat.lt_of_lt_of_le (Heap.lt_size e) (I.ok.Xw x c hfn hc)))).trans e1⟩
  ·obtain⟨o',e1⟩:=I.base.there b o e hx
   exact⟨o',(hs.2 b (Nat.ne_of_lt (Nat.lt_of_lt_of_le (Heap.lt_size e) (I.ok.Xw x c hfn hc)))).trans e1⟩
  ·by_cases hj:j=i
   ·subst hj
    rw[hi]at e1;cases e1
    rw[List.getElem?_set_self KC]at e2
    cases e2
    exact⟨u,r,.inr ⟨.inl hk,c,hc,hc'⟩⟩
   ·rw[List.getElem?_set_ne (Ne.symm hj)]at e2
    obtain⟨u',r',q⟩:=hl j y v' e1 e2 e3
    refine⟨u',r',?_⟩
    rcases q with q|⟨k,c',e,z'⟩
    ·exact .inl q
    ·refine .inr ⟨k,c',e,z'.sameBut hs ?_⟩
     rintro rfl
     exact hj (yT hN e1 (I.ok.inj _ _ _ e hc▸hi))
  ·by_cases hcc:c'=c
   ·subst hcc;exact⟨_,hc'⟩
   ·obtain⟨w2,z2⟩:=I.cell y c' e
    exact⟨w2,z2.sameBut hs hcc⟩
  ·obtain⟨e,n,ne,nf,d⟩:=I.pin p hp
   refine⟨(hs.2 p.1 ?_).trans e,n,ne,nf,d⟩
   intro q
   rw[q,hoc]at e
   have q':oc=p.2:=Option.some.inj e
   exact d w' (by rw[←q'];exact ag2)
theorem yq{M:Model}{A:Around}{E:Value->Shared->Prop}{i:Nat}{x:Str}{v:V}{u:Value}{Q:Unit->Shared->Prop}(I:Inv X pins σ H s)(hN:X.N.Nodup)(hi:X.N[i]? =some x)(hx:Loc X.env.scope x)(r:RelV v u)
  (h:∀s',Inv X pins (σ.set i (some v)) H s'->Q () s') (hf:X.fn x=true\/X.env.scope.names.lookup x=some .local:=by first|exact .inl rfl|exact .inr rfl|assumption):wpAny M A (storeName X.env x u) Q E s :=
 AV I hN hi hx r (λs' I' _=>h s' I') hf
theorem Inv.VZ{s':Shared}{ch:List Addr}(I:Inv X pins σ H s)(ho:s'.os=s.os)(u:Un (frs X.stack) ch H H' s.heap s'.heap)(hok:qc X.prog X.w H' s'.heap)(hg:AllBare s'.gens)
  (hch:∀b∈ch,(b∈X.ex\/X.s₀.heap.objs.size<=b)/\b≠X.env.locals/\(∀x c,X.env.cells.lookup x=some c->c≠b)/\∀p∈X.pn++pins,p.1≠b) (ht:X.s₀.toks<=s'.toks):Inv X pins σ H' s':=by
 obtain⟨h',g',d',t',o'⟩:=s'
 have e:o'=s.os:=ho
 subst e
 exact I.call (g':=g') (t':=t') (d':=d') u hok hg hch ht
end
noncomputable abbrev XK:=Value->Option Addr->Hp->Prop
noncomputable abbrev St:=List (Option V)
noncomputable abbrev VK:=V->Hp->Prop
noncomputable abbrev TE:=St->Hp->VK->Prop
noncomputable abbrev TT:=St->Hp->(Bool->Hp->Prop)->Prop
noncomputable abbrev TA:=St->Hp->(List V->Hp->Prop)->Prop
structure Ends where
 nx:St->Hp->Prop
 rt:VK
 bk:St->Hp->Prop:=λ_ _=>False
 ct:St->Hp->Prop:=λ_ _=>False
noncomputable abbrev TS:=Ends->St->Hp->Prop
noncomputable def EP(X:Cx)(pins:List (Addr×Obj))(σ:St)(Q:VK)(u:Value)(s':Shared):Prop:=∃v H',Inv X pins σ H' s'/\RelV v u/\Q v H'
noncomputable def TP(X:Cx)(pins:List (Addr×Obj))(σ:St)(Q:Bool->Hp->Prop)(b:Bool)(s':Shared):Prop:=∃H',Inv X pins σ H' s'/\Q b H'
noncomputable def AP(X:Cx)(pins:List (Addr×Obj))(σ:St)(Q:List V->Hp->Prop)(us:List Value)(s':Shared):Prop:=∃vs H',Inv X pins σ H' s'/\Vals vs us/\Q vs H'
noncomputable def SP(X:Cx)(pins:List (Addr×Obj))(D:Ends)(f:Flow)(s':Shared):Prop :=
 match f with
 | .next=>∃ σ' H',Inv X pins σ' H' s'/\D.nx σ' H'
 | .brk=>∃ σ' H',Inv X pins σ' H' s'/\D.bk σ' H'
 | .cont=>∃ σ' H',Inv X pins σ' H' s'/\D.ct σ' H'
 | .ret u=>∃v σ' H',Inv X pins σ' H' s'/\RelV v u/\D.rt v H'
noncomputable def PE(X:Cx)(e:Expr)(t:TE):Prop :=
 ∀(pins:List (Addr×Obj)) (s:Shared) (σ:St) (H:Hp) (Q:VK),Inv X pins σ H s->t σ H Q->wpAny (model X.prog X.w) X.A (eval e X.env) (EP X pins σ Q) X.xe s
noncomputable def PT(X:Cx)(e:Expr)(t:TT):Prop :=
 ∀(pins:List (Addr×Obj)) (s:Shared) (σ:St) (H:Hp) (Q:Bool->Hp->Prop),Inv X pins σ H s->t σ H Q->wpAny (model X.prog X.w) X.A (isTrue e X.env (eval e X.env)) (TP X pins σ Q) X.xe s
noncomputable def PW(X:Cx)(e:Expr)(t:TT):Prop :=
 ∀(whole:Sem Value) (pins:List (Addr×Obj)) (s:Shared) (σ:St) (H:Hp) (Q:Bool->Hp->Prop),Inv X pins σ H s->t σ H Q->wpAny (model X.prog X.w) X.A (isTrue e X.env whole) (TP X pins σ Q) X.xe s
theorem PW.pt{X:Cx}{e:Expr}{t:TT}(h:PW X e t):PT X e t:=h _
noncomputable def PA(X:Cx)(es:List Expr)(t:TA):Prop :=
 ∀(pos:Pos) (pins:List (Addr×Obj)) (s:Shared) (σ:St) (H:Hp) (Q:List V->Hp->Prop),Inv X pins σ H s->t σ H Q->wpAny (model X.prog X.w) X.A (spliced (backTo pos (starEach es X.env))) (AP X pins σ Q) X.xe s
noncomputable def PS(X:Cx)(st:Stmt)(t:TS):Prop :=
 ∀(pins:List (Addr×Obj)) (s:Shared) (σ:St) (H:Hp) (D:Ends),Inv X pins σ H s->t D σ H->wpAny (model X.prog X.w) X.A (exec st X.env) (SP X pins D) X.xe s
noncomputable def HP(X:Cx)(st:List Stmt)(t:TS):Prop :=
 ∀(pins:List (Addr×Obj)) (s:Shared) (σ:St) (H:Hp) (D:Ends),Inv X pins σ H s->t D σ H->wpAny (model X.prog X.w) X.A (execs st X.env) (SP X pins D) X.xe s
theorem gB{α:Type}{t:Sem α}{Q Q':α->Shared->Prop}{M:Model}{A:Around}{E:Value->Shared->Prop}{s:Shared}(h:wpAny M A t Q E s)(hQ:∀a s,Q a s->Q' a s):wpAny M A t Q' E s:=wpAny_mono h hQ λ_ _ x=>x
end L2
namespace L2
open PySem PySem.Spec PyProof.Rows
section
variable{X:Cx}
noncomputable def KU(i:Nat):TE:=λσ H Q=>∃v,σ[i]? =some (some v)/\Q v H
noncomputable def tC(v:V):TE:=λ_ H Q=>Q v H
theorem Z7 {i:Nat} {x:Str} {pos:Pos} (hN:X.N[i]? =some x) (hv:DB X.env.scope x) (hd:(x==("__debug__" :Str))=false:=by decide) (hcd:(x==("__classdict__" :Str))=false:=by decide):PE X (.Name x pos) (KU i):=by
 intro pins s σ H Q I h
 obtain⟨v,e,h⟩:=h
 obtain⟨m,hn,hl⟩:=I.loc
 obtain⟨u,r,l⟩:=hl i x v hN e hv
 have fin:EP X pins σ Q u s:=⟨v,H,I,r,h⟩
 rcases l with⟨hk,hm⟩|⟨hk,c,hc,hcell⟩
 ·exact wpAny_Name (wpAny_loadName_local I.ok.kind hk hn hm fin) hd
 ·rcases hk with hk|hk
  ·exact wpAny_Name (wpAny_loadName_cell I.ok.kind hk hc hcell fin) hd
  ·exact wpAny_Name (wpAny_loadName_free I.ok.kind hk hc hcell fin hcd) hd
theorem ak{i j pos}:PE X (.Constant (.int i) j pos) (tC (.int i)):=λ_ _ _ H _ I h=>wpAny_Constant_int ⟨.int i,H,I.tok _,⟨_,rfl⟩,h⟩
theorem rS{b j pos}:PE X (.Constant (.bool b) j pos) (tC (.bl b)):=λ_ _ _ H _ I h=>Constant_bool ⟨.bl b,H,I,rfl,h⟩
theorem Z8{j pos}:PE X (.Constant .none j pos) (tC .ko):=λ_ _ _ H _ I h=>Constant_none ⟨.ko,H,I,rfl,h⟩
theorem bH{x j pos}:PE X (.Constant (.str x) j pos) (tC (.str x)):=λ_ _ _ H _ I h=>Calls.Constant_str ⟨.str x,H,I.tok _,⟨_,rfl⟩,h⟩
noncomputable def Gl(X:Cx)(x:Str):Prop:=X.env.kindOf x=some .globalImplicit
theorem oF{E:Value->Shared->Prop}{pins:List (Addr×Obj)}{s:Shared}{σ:St}{H:Hp}{x:Str}{u:Value}{pos:Pos}{Q:Value->Shared->Prop}(I:Inv X pins σ H s)(hg:Gl X x)(hm:X.mg x=some u)(h:Q u s)
  (hd:(x==("__debug__" :Str))=false:=by decide):wpAny (model X.prog X.w) X.A (eval (.Name x pos) X.env) Q E s :=
 Calls.Name_function_global I.ok.kind hg (Calls.loadGlobal_global (by rw[I.ok.glob];exact I.mod.glob.keeps I.bk) hm h) hd
theorem qS{E:Value->Shared->Prop}{pins:List (Addr×Obj)}{s:Shared}{σ:St}{H:Hp}{x:Str}{u:Value}{pos:Pos}{Q:Value->Shared->Prop}(I:Inv X pins σ H s)(hg:Gl X x)(hm:X.mg x=none)(hv:bootBuiltins x=some u)(h:Q u s)
  (hn:x≠ "__name__" :=by decide) (hd:(x==("__debug__" :Str))=false:=by decide):wpAny (model X.prog X.w) X.A (eval (.Name x pos) X.env) Q E s:=by
 obtain⟨mb,h1,h2⟩:=I.mod.blt
 exact Calls.Name_function_global I.ok.kind hg (Calls.loadGlobal_builtin (by rw[I.ok.glob];exact I.mod.glob.keeps I.bk) hm (by rw[I.ok.blt];exact h1.keeps I.bk) ((h2 x hn).trans hv) h) hd
theorem kM {x:Str} {v:V} {u:Value} {pos:Pos} (hg:Gl X x) (hm:X.mg x=some u) (r:RelV v u) (hd:(x==("__debug__" :Str))=false:=by decide):PE X (.Name x pos) (tC v) :=
 λ_ _ _ H _ I h=>oF I hg hm ⟨v,H,I,r,h⟩ hd
theorem WO {x:Str} {v:V} {u:Value} {pos:Pos} (hg:Gl X x) (hm:X.mg x=none) (hv:bootBuiltins x=some u) (r:RelV v u) (hn:x≠ "__name__" :=by decide) (hd:(x==("__debug__" :Str))=false:=by decide):PE X (.Name x pos) (tC v) :=
 λ_ _ _ H _ I h=>qS I hg hm hv ⟨v,H,I,r,h⟩ hn hd
variable{a b:Expr}{ta tb:TE}{pos:Pos}
noncomputable def tB(t:TE):TT:=λσ H Q=>t σ H λx H1=>∃c,x= .bl c/\Q c H1
theorem kP{e:Expr}{t:TE}(h:PE X e t)(he:∀whole,isTrue e X.env whole=(do let v ←whole;standAt e.pos;holding [v] (truthy v)):=by intro _;rfl):PT X e (tB t):=by
 intro pins s σ H Q I hw
 refine isTrue_plain (gB (h pins s σ H _ I hw) λv s1 ⟨x,H1,I1,r1,q1⟩=>?_) (he _)
 obtain⟨d,rfl,q⟩:=q1
 cases r1
 exact wpAny_truthy_bool ⟨H1,I1,q⟩
variable{tA CQ:TT}{rest:List Expr}
noncomputable def af2(t u:TT):TT:=λσ H Q=>t σ H λc H1=>if c=true then u σ H1 Q else Q false H1
noncomputable def Li(t u:TT):TT:=λσ H Q=>t σ H λc H1=>if c=true then Q true H1 else u σ H1 Q
noncomputable def afU(t:TT):TT:=λσ H Q=>t σ H λc H1=>Q (!c) H1
theorem sV(ha:PT X a tA):PW X (.BoolOp .And [a] pos) tA:=by
 intro wh pins s σ H Q I h
 refine isTrue_and (gB (ha pins s σ H Q I h) λc s1 e=>?_)
 cases c with
 |true=>exact isTrue_and_nil e
 |false=>exact e
theorem uu(ha:PT X a tA):PW X (.BoolOp .Or [a] pos) tA:=by
 intro wh pins s σ H Q I h
 refine isTrue_or (gB (ha pins s σ H Q I h) λc s1 e=>?_)
 cases c with
 |false=>exact isTrue_or_nil e
 |true=>exact e
theorem uv(ha:PT X a tA)(hb:PW X (.BoolOp .And (b::rest) pos) CQ):PW X (.BoolOp .And (a::b::rest) pos) (af2 tA CQ):=by
 intro wh pins s σ H Q I h
 refine isTrue_and (gB (ha pins s σ H _ I h) λc s1 ⟨H1,I1,q1⟩=>?_)
 cases c with
 |true=>exact hb wh pins s1 σ H1 Q I1 q1
 |false=>exact⟨H1,I1,q1⟩
theorem yI(ha:PT X a tA)(hb:PW X (.BoolOp .Or (b::rest) pos) CQ):PW X (.BoolOp .Or (a::b::rest) pos) (Li tA CQ):=by
 intro wh pins s σ H Q I h
 refine isTrue_or (gB (ha pins s σ H _ I h) λc s1 ⟨H1,I1,q1⟩=>?_)
 cases c with
 |true=>exact⟨H1,I1,q1⟩
 |false=>exact hb wh pins s1 σ H1 Q I1 q1
theorem qO(ha:PT X a tA):PT X (.UnaryOp .Not a pos) (afU tA):=by
 intro pins s σ H Q I h
 exact isTrue_not (ha pins s σ H (λc H1=>Q (!c) H1) I h)
noncomputable def abI(ta tb:TE):TE:=λσ H Q=>ta σ H λx H1=>∃c,x= .bl c/\if c=true then tb σ H1 Q else Q (.bl false) H1
theorem UK{op}{t:TE}(h:PE X a t):PE X (.BoolOp op [a] pos) t:=λpins s σ H Q I hw=>BoolOp_one (h pins s σ H Q I hw)
theorem US(ha:PE X a ta)(hb:PE X (.BoolOp .And (b::rest) pos) tb):PE X (.BoolOp .And (a::b::rest) pos) (abI ta tb):=by
 intro pins s σ H Q I h
 refine BoolOp_and (gB (ha pins s σ H _ I h) λv s1 ⟨x,H1,I1,r1,q1⟩=>?_)
 obtain⟨c,rfl,q1⟩:=q1
 cases r1
 refine wpAny_truthy_bool ?_
 cases c with
 |true=>exact hb pins s1 σ H1 Q I1 q1
 |false=>exact⟨.bl false,H1,I1,rfl,q1⟩
noncomputable def Lj(t:TT)(ta tb:TE):TE:=λσ H Q=>t σ H λc H1=>if c=true then ta σ H1 Q else tb σ H1 Q
theorem yL{c:Expr}(hc:PT X c tA)(ha:PE X a ta)(hb:PE X b tb):PE X (.IfExp c a b pos) (Lj tA ta tb):=by
 intro pins s σ H Q I h
 refine wpAny_IfExp (gB (hc pins s σ H _ I h) λd s1 ⟨H1,I1,q1⟩=>?_)
 cases d with
 |true=>exact ha pins s1 σ H1 Q I1 q1
 |false=>exact hb pins s1 σ H1 Q I1 q1
end
end L2
namespace L2
open PySem PySem.Spec PyProof.Rows
noncomputable def bf(K:PySem.W.Frag)(H:Hp)(a:Addr)(xs:List V):Prop :=
 Rd H a (.lst xs) ∨
  ∃(o:Obj) (its:Array Value) (n:Nat),K.lookup a=some o/\o.cls= .type "list" /\o.dict=none/\o.data= .seq its n/\its.size<=sizeLine/\Vals xs its.toList
noncomputable def iR(K:PySem.W.Frag)(H:Hp)(a:Addr)(xs:List V):Prop :=
 Rd H a (.tup xs) ∨
  ∃(o:Obj) (its:Array Value) (n:Nat),K.lookup a=some o/\o.cls= .type "tuple" /\o.data= .seq its n/\its.size<=sizeLine/\Vals xs its.toList
noncomputable def ah3:Value->Option V
 | .none=>some .ko
 | .bool b=>some (.bl b)
 | .int i _=>some (.int i)
 | .str x _=>some (.str x)
 | .bytes b _=>some (.RV b)
 | .float b _=>some (.BB b)
 | .ref a=>some (.ref a)
 | .type n=>some (.ty n)
 |_=>none
theorem RelV.abs{x:V}{u:Value}(r:RelV x u):ah3 u=some x:=by
 cases x with
 |ko=>cases r;rfl
 |bl _=>cases r;rfl
 |int _=>obtain⟨t,rfl⟩:=r;rfl
 |str _=>obtain⟨t,rfl⟩:=r;rfl
 |RV _=>obtain⟨t,rfl⟩:=r;rfl
 |BB _=>obtain⟨t,rfl⟩:=r;rfl
 |ref _=>cases r;rfl
 |ty _=>cases r;rfl
theorem RelV.inj{x y:V}{u:Value}(r:RelV x u)(q:RelV y u):x=y:=Option.some.inj (r.abs.symm.trans q.abs)
theorem Vals.inj:∀{xs ys:List V} {us:List Value},Vals xs us->Vals ys us->xs=ys
 |_,_,_,.nil,.nil=>rfl
 |_,_,_,.cons r t,.cons r' t'=>by rw[r.inj r',Vals.inj t t']
section
variable{X:Cx}{pins:List (Addr×Obj)}{σ:St}{H:Hp}{s:Shared}{a:Addr}{xs ys:List V}
theorem bf.of{K:PySem.W.Frag}(h:H a=some (.lst xs)):bf K H a xs:=.inl (.inl h)
theorem iR.of{K:PySem.W.Frag}(h:H a=some (.tup xs)):iR K H a xs:=.inl (.inl h)
theorem Inv.list(I:Inv X pins σ H s)(h:bf X.K H a xs):∃its:List Value,Vals xs its/\PlainL s.heap a its.toArray/\xs.length<=sizeLine:=by
 rcases h with h|⟨o,its,n,hk,hc,hd,hs,hz,r⟩
 ·obtain⟨z,its,n,r,e⟩:=h.ok I.hok
  exact⟨its,r,⟨_,n,e,rfl,rfl,rfl⟩,z⟩
 ·refine⟨its.toList,r,⟨o,n,I.rq a o hk,hc,hd,by simpa using hs⟩,?_⟩
  have e:=r.length
  simp only[Array.length_toList]at e
  omega
theorem Inv.tuple(I:Inv X pins σ H s)(h:iR X.K H a xs):∃its:List Value,Vals xs its/\IsTup s.heap a its.toArray/\xs.length<=sizeLine:=by
 rcases h with h|⟨o,its,n,hk,hc,hs,hz,r⟩
 ·obtain⟨z,its,r,p⟩:=h.ok I.hok
  exact⟨its,r,p,z⟩
 ·refine⟨its.toList,r,⟨o,I.rq a o hk,hc,n,by simpa using hs⟩,?_⟩
  have e:=r.length
  simp only[Array.length_toList]at e
  omega
theorem Inv.y9(I:Inv X pins σ H s)(h:bf X.K H a xs)(h':bf X.K H a ys):xs=ys:=by
 obtain⟨its,r,⟨o,n,e,_,_,d⟩,_⟩:=I.list h
 obtain⟨its',r',⟨o',n',e',_,_,d'⟩,_⟩:=I.list h'
 rw[e]at e';cases e'
 rw[d]at d'
 injection d' with d1 _
 have:its=its':=by simpa using congrArg Array.toList d1
 subst this
 exact r.inj r'
theorem Inv.AS(I:Inv X pins σ H s)(h:iR X.K H a xs)(h':iR X.K H a ys):xs=ys:=by
 obtain⟨its,r,⟨o,e,_,n,d⟩,_⟩:=I.tuple h
 obtain⟨its',r',⟨o',e',_,n',d'⟩,_⟩:=I.tuple h'
 rw[e]at e';cases e'
 rw[d]at d'
 injection d' with d1 _
 have:its=its':=by simpa using congrArg Array.toList d1
 subst this
 exact r.inj r'
end
noncomputable abbrev Cx.z5(X:Cx)(E:Value->Shared->Prop):Cx:={ X with xe:=E }
noncomputable abbrev Cx.B7(X:Cx):Cx:=X.z5 λ_ _=>False
theorem Cx.Ok.z5{X:Cx}(ok:X.Ok)(E:Value->Shared->Prop):(X.z5 E).Ok :=
 ⟨ok.mod,ok.kind,ok.glob,ok.blt,ok.above,ok.inj,ok.has,ok.Xw,ok.hd,ok.frames,ok.stk,ok.Dv,ok.bs,ok.V0,ok.Qh,ok.S3,ok.uB,ok.Xj,ok.tk⟩
theorem Cx.Ok.rE{X:Cx}{E:Value->Shared->Prop}(ok:(X.z5 E).Ok):X.Ok :=
 ⟨ok.mod,ok.kind,ok.glob,ok.blt,ok.above,ok.inj,ok.has,ok.Xw,ok.hd,ok.frames,ok.stk,ok.Dv,ok.bs,ok.V0,ok.Qh,ok.S3,ok.uB,ok.Xj,ok.tk⟩
section
variable{X:Cx}{pins:List (Addr×Obj)}{σ:St}{H:Hp}{s:Shared}{E:Value->Shared->Prop}
theorem Inv.z5(I:Inv X pins σ H s)(E:Value->Shared->Prop):Inv (X.z5 E) pins σ H s:=⟨I.ok.z5 E,I.os,I.bare,I.base,I.loc,I.cell,I.free,I.mj,I.pin,I.hok,I.len,I.up⟩
theorem Inv.rE(I:Inv (X.z5 E) pins σ H s):Inv X pins σ H s:=⟨I.ok.rE,I.os,I.bare,I.base,I.loc,I.cell,I.free,I.mj,I.pin,I.hok,I.len,I.up⟩
theorem SP.rE{D:Ends}{f:Flow}{s':Shared}(h:SP (X.z5 E) pins D f s'):SP X pins D f s':=by
 cases f with
 |next=>obtain⟨σ',H',I,q⟩:=h;exact⟨σ',H',I.rE,q⟩
 |brk=>obtain⟨σ',H',I,q⟩:=h;exact⟨σ',H',I.rE,q⟩
 |cont=>obtain⟨σ',H',I,q⟩:=h;exact⟨σ',H',I.rE,q⟩
 |ret u=>obtain⟨v,σ',H',I,r,q⟩:=h;exact⟨v,σ',H',I.rE,r,q⟩
theorem HP.B7{st:List Stmt}{t:TS}(h:HP X.B7 st t):HP X st t:=λpins s σ H D I hw =>
 wpAny_mono (h pins s σ H D (I.z5 _) hw) (λ_ _ q=>q.rE) λ_ _ z=>False.elim z
end
section
variable{X:Cx}{st:Stmt}{rest:List Stmt}{t u:TS}{e:Expr}{te:TE}{pos:Pos}
noncomputable def abA:TS:=λD σ H=>D.nx σ H
noncomputable def afS(t u:TS):TS:=λD σ H=>t { D with nx:=u D } σ H
theorem bx:HP X [] abA:=λ_ _ σ H _ I h=>wpAny_execs_nil ⟨σ,H,I,h⟩
theorem aj(h1:PS X st t)(h2:HP X rest u):HP X (st::rest) (afS t u):=by
 intro pins s σ H D I h
 refine wpAny_execs_cons (gB (h1 pins s σ H { D with nx:=u D } I h) λf s1 q=>?_)
 cases f with
 |next =>
  obtain⟨σ',H',I',q⟩:=q
  exact h2 pins s1 σ' H' D I' q
 |ret v=>exact q
 |brk=>exact q
 |cont=>exact q
theorem ao(h1:PS X st t):HP X [st] t:=by
 intro pins s σ H D I h
 refine wpAny_execs_cons (gB (h1 pins s σ H D I h) λf s1 q=>?_)
 cases f with
 |next=>exact wpAny_execs_nil q
 |ret v=>exact q
 |brk=>exact q
 |cont=>exact q
theorem Inv.quiet{pins:List (Addr×Obj)}{σ:St}{H:Hp}{s:Shared}(I:Inv X pins σ H s):interactive X.env=false:=by simp[interactive,I.ok.kind]
noncomputable def abD(te:TE):TS:=λD σ H=>te σ H λ_ H1=>D.nx σ H1
theorem fE(he:PE X e te)(hs:swapsWith e none pos.line X.env=pure false:=by rfl):PS X (.Expr e pos) (abD te):=by
 intro pins s σ H D I h
 exact wpAny_Expr_any (gB (he pins s σ H _ I h) λv s1 ⟨x,H1,I1,r1,q1⟩=>⟨σ,H1,I1,q1⟩) I.quiet hs
noncomputable def afT(te:TE):TS:=λD σ H=>te σ H D.rt
theorem aS(he:PE X e te):PS X (.Return (some e) pos) (afT te):=by
 intro pins s σ H D I h
 exact wpAny_Return_some (gB (he pins s σ H _ I h) λv s1 ⟨x,H1,I1,r1,q1⟩=>⟨x,σ,H1,I1,r1,q1⟩)
noncomputable def afY(c:TT)(t u:TS):TS:=λD σ H=>c σ H λb H1=>if b=true then t D σ H1 else u D σ H1
theorem cK{c:Expr}{a b:List Stmt}{tc:TT}(hc:PT X c tc)(ha:HP X a t)(hb:HP X b u):PS X (.If c a b pos) (afY tc t u):=by
 intro pins s σ H D I h
 refine wpAny_If (gB (hc pins s σ H _ I h) λd s1 ⟨H1,I1,q1⟩=>?_)
 cases d with
 |true=>exact ha pins s1 σ H1 D I1 q1
 |false=>exact hb pins s1 σ H1 D I1 q1
noncomputable def Ue:TS:=λ_ _ _=>False
theorem vd:PS X st Ue:=λ_ _ _ _ _ _ h=>h.elim
theorem mJ{sts:List Stmt}:HP X sts Ue:=λ_ _ _ _ _ _ h=>h.elim
end
noncomputable abbrev TG:=V->St->Hp->(St->Hp->Prop)->Prop
noncomputable abbrev BC:=List V->St->Hp->(St->Hp->Prop)->Prop
noncomputable def PG(X:Cx)(target:Expr)(t:TG):Prop :=
 ∀(pins:List (Addr×Obj)) (s:Shared) (σ:St) (H:Hp) (v:V) (u:Value) (Q:St->Hp->Prop),Inv X pins σ H s->RelV v u->t v σ H Q →
  wpAny (model X.prog X.w) X.A (assign target X.env u) (λ_ s'=>∃ σ' H',Inv X pins σ' H' s'/\Q σ' H') X.xe s
noncomputable def DC(X:Cx)(ts:List Expr)(t:BC):Prop :=
 ∀(pins:List (Addr×Obj)) (s:Shared) (σ:St) (H:Hp) (vs:List V) (us:List Value) (Q:St->Hp->Prop),Inv X pins σ H s->Vals vs us->t vs σ H Q →
  wpAny (model X.prog X.w) X.A (assignInOrder ((assignEach ts X.env).map (·.2)) us) (λ_ s'=>∃ σ' H',Inv X pins σ' H' s'/\Q σ' H') X.xe s
noncomputable abbrev Il:=V->V->V->Hp->(Hp->Prop)->Prop
noncomputable def JZ(X:Cx)(t:Il):Prop :=
 ∀(pins:List (Addr×Obj)) (s:Shared) (σ:St) (H:Hp) (o i v:V) (ov iv u:Value) (Q:Hp->Prop),Inv X pins σ H s->RelV o ov->RelV i iv->RelV v u->t o i v H Q →
  wpAny (model X.prog X.w) X.A (setItem ov iv u) (λ_ s'=>∃H',Inv X pins σ H' s'/\Q H') X.xe s
section
variable{X:Cx}{pos:Pos}
noncomputable def VG(i:Nat):TG:=λv σ H Q=>Q (σ.set i (some v)) H
theorem aM{i:Nat}{x:Str}(hN:X.N.Nodup)(hi:X.N[i]? =some x)(hx:Loc X.env.scope x)(hf:X.fn x=true\/X.env.scope.names.lookup x=some .local:=by first|exact .inl rfl|exact .inr rfl|assumption):PG X (.Name x pos) (VG i):=by
 intro pins s σ H v u Q I r h
 exact wpAny_assign_Name (yq I hN hi hx r (λs' I'=>⟨_,H,I',h⟩) hf)
noncomputable def ahF:BC:=λvs σ H Q=>vs=[]/\Q σ H
noncomputable def ac4(t:TG)(u:BC):BC:=λvs σ H Q=>∃v r,vs=v::r/\t v σ H λσ' H'=>u r σ' H' Q
theorem yf:DC X [] ahF:=by
 intro pins s σ H vs us Q I r h
 obtain⟨e,h⟩:=h
 subst e
 cases r
 exact assignInOrder_nil ⟨σ,H,I,h⟩
theorem nM{e:Expr}{es:List Expr}{t:TG}{u:BC}(h1:PG X e t)(h2:DC X es u)
  (hs:(assignEach (e::es) X.env).map (·.2)=assign e X.env::(assignEach es X.env).map (·.2):=by rfl):DC X (e::es) (ac4 t u):=by
 intro pins s σ H vs us Q I r h
 obtain⟨v,vr,e1,h⟩:=h
 subst e1
 cases r with
 |cons r rr =>
  rw[hs]
  refine assignInOrder_cons (gB (h1 pins s σ H _ _ _ I r h) λ_ s1 ⟨σ1,H1,I1,q1⟩=>?_)
  exact h2 pins s1 σ1 H1 _ _ Q I1 rr q1
noncomputable def ahD(K:PySem.W.Frag)(n:Nat)(t:BC):TG:=λv σ H Q=>∃a xs,v= .ref a/\iR K H a xs/\xs.length=n/\t xs σ H Q
theorem GF{es:List Expr}{k:Nat}{t:BC}{n:Nat}(hc:X.calm=true)(h:DC X es t)
  (hn:(assignEach es X.env).length=n:=by rfl) (hst:(assignEach es X.env).findIdx? (·.1)=none:=by rfl):PG X (.Tuple es k pos) (ahD X.K n t):=by
 intro pins s σ H v u Q I r hw
 obtain⟨a,xs,e1,hq,hl,hw⟩:=hw
 subst e1
 cases r
 obtain⟨its,rv,ht,hz⟩:=I.tuple hq
 refine assign_Tuple_tuple (I.ok.hd hc) ht (by simp[hn,←hl,rv.length]) hst λh' hx=>?_
 have I1:Inv X pins σ H { s with heap:=h' }:=I.kept (t':=s.toks) λb o e=>hx b o (Nat.ne_of_lt (Heap.lt_size e)) e
 exact h pins _ σ H xs _ Q I1 (by simpa using rv) hw
noncomputable def ahE(to ti:TE)(t:Il):TG:=λv σ H Q=>to σ H λo H1=>ti σ H1 λi H2=>t o i v H2 λH3=>Q σ H3
theorem GG{o i:Expr}{to ti:TE}{t:Il}(ho:PE X o to)(hi:PE X i ti)(hs:JZ X t)
  (ha:∀v,assign (.Subscript o i pos) X.env v=(do
   let ov ←holding [v] (eval o X.env)
   let iv ←holding [v,ov] (eval i X.env)
   standAt pos
   holding [v,ov,iv] (setItem ov iv v)
   release [v,ov,iv] []):=by intro _;rfl):PG X (.Subscript o i pos) (ahE to ti t):=by
 intro pins s σ H v u Q I r h
 rw[ha]
 refine wpAny_bind (wpAny_holding (gB (ho pins s σ H _ I h) λov s1 ⟨x,H1,I1,r1,q1⟩=>?_))
 refine wpAny_bind (wpAny_holding (gB (hi pins s1 σ H1 _ I1 q1) λiv s2 ⟨y,H2,I2,r2,q2⟩=>?_))
 refine wpAny_bind (wpAny_standAt (wpAny_bind (wpAny_holding (gB (hs pins s2 σ H2 x y v ov iv u _ I2 r1 r2 r q2) λ_ s3 ⟨H3,I3,q3⟩=>?_))))
 exact wpAny_release ⟨σ,H3,I3,q3⟩
noncomputable def ZQ(te:TE)(g:TG):TS:=λD σ H=>te σ H λx H1=>g x σ H1 D.nx
theorem GA{tg e:Expr}{te:TE}{g:TG}(he:PE X e te)(hg:PG X tg g)(hs:swapsWithSole [tg] e pos.line X.env=pure false:=by rfl)(hw:swappedStores [tg] e X.env=pure none:=by rfl)
  (h1:(assignEach [tg] X.env).map (·.2)=[assign tg X.env]:=by rfl):PS X (.Assign [tg] e pos) (ZQ te g):=by
 intro pins s σ H D I h
 refine wpAny_Assign_stores (gB (he pins s σ H _ I h) λv s1 ⟨x,H1,I1,r1,q1⟩=>?_) hs hw
 rw[h1]
 exact gB (hg pins s1 σ H1 x v _ I1 r1 q1) λ_ s2 q=>q
theorem aD{i:Nat}{x:Str}{e:Expr}{te:TE}{pos':Pos}(hN:X.N.Nodup)(hi:X.N[i]? =some x)(hx:Loc X.env.scope x)(he:PE X e te)(hs:swapsWith e (some (.Name x pos')) pos.line X.env=pure false:=by rfl)(hf:X.fn x=true\/X.env.scope.names.lookup x=some .local:=by first|exact .inl rfl|exact .inr rfl|assumption):
  PS X (.Assign [.Name x pos'] e pos) (ZQ te (VG i)):=by
 intro pins s σ H D I h
 refine wpAny_Assign_Name (gB (he pins s σ H _ I h) λv s1 ⟨y,H1,I1,r1,q1⟩=>?_) hs
 exact yq I1 hN hi hx r1 (λs2 I2=>⟨_,H1,I2,q1⟩) hf
end
section
variable{X:Cx}{pos:Pos}
noncomputable def ZK(c:TT)(tb:TS):TS:=λD σ H=>∃W:Nat->St->Hp->Prop,(∃m,W m σ H)/\∀m σ H,W m σ H →
 c σ H λb H1=>if b=true then ∃N:St->Hp->Prop,(∀ σ' H',N σ' H'->∃m',m'<m/\W m' σ' H')/\tb { D with nx:=N,ct:=N,bk:=D.nx } σ H1 else D.nx σ H1
theorem yJ{c:Expr}{body:List Stmt}{tc:TT}{tb:TS}(hp:PassesOwn (model X.prog X.w) X.A X.env X.xe)(hc:PT X c tc)(hb:HP X body tb):PS X (.While c body [] pos) (ZK tc tb):=by
 intro pins s σ H D I h
 obtain⟨W,⟨m0,w0⟩,turn⟩:=h
 refine wpAny_While (codeAny_whileLoop (λn s'=>∃ σ' H',Inv X pins σ' H' s'/\W n σ' H') ?_ m0 ⟨σ,H,I,w0⟩)
 rintro n s1 ⟨σ1,H1,I1,w1⟩
 refine wpAny_passesOwn hp (gB (hc pins s1 σ1 H1 _ I1 (turn n σ1 H1 w1)) λb s2 ⟨H2,I2,q2⟩=>?_)
 cases b with
 |true =>
  obtain⟨N,hN,q2⟩:=q2
  rw[if_pos rfl]
  refine wpAny_passesOwn hp (gB (hb pins s2 σ1 H2 _ I2 q2) λf s3 q3=>?_)
  cases f with
  |next =>
   obtain⟨σ3,H3,I3,n3⟩:=q3
   obtain⟨m',hm,w3⟩:=hN σ3 H3 n3
   exact⟨m',hm,σ3,H3,I3,w3⟩
  |cont =>
   obtain⟨σ3,H3,I3,n3⟩:=q3
   obtain⟨m',hm,w3⟩:=hN σ3 H3 n3
   exact⟨m',hm,σ3,H3,I3,w3⟩
  |brk=>exact q3
  |ret v=>exact q3
 |false =>
  rw[if_neg Bool.false_ne_true]
  exact wpAny_execs_nil ⟨σ1,H2,I2,q2⟩
end
structure It where
 go:Nat->Hp->Prop
 AL:Nat->Hp->V->Hp->Prop
 stop:Nat->Hp->Prop
noncomputable def rC(X:Cx)(pins:List (Addr×Obj))(H:Hp)(b:Addr):Prop :=
 H b=none/\b≠X.env.locals/\b∉X.fs/\(b∈X.ex\/X.s₀.heap.objs.size<=b)/\(∀x c,X.env.cells.lookup x=some c->c≠b)/\∀p∈X.pn++pins,p.1≠b
theorem Inv.xW{X:Cx}{pins:List (Addr×Obj)}{σ:St}{H H':Hp}{s:Shared}{b:Addr}(I:Inv X pins σ H s)(hb:s.heap.objs.size<=b)(hn:H' b=none):rC X pins H' b:=by
 refine⟨hn,Nat.ne_of_gt (Nat.lt_of_lt_of_le I.lt hb),I.agy hb,.inr (Nat.le_trans I.sz hb),λx c e z=>?_,λp hp z=>?_⟩
 ·obtain⟨v,q⟩:=I.cell x c e
  exact absurd (Nat.lt_of_lt_of_le q.lt (by rw[z];exact hb)) (Nat.lt_irrefl _)
 ·exact absurd (Nat.lt_of_lt_of_le (Heap.lt_size (I.pin p hp).1) (by rw[z];exact hb)) (Nat.lt_irrefl _)
structure Turn(P:Program)(w:World)(K:PySem.W.Frag)(tg:Expr)(J:It)(fp:List Addr)(it:Addr)(tn:Nat->Heap->Prop):Prop where
 mem:it∈fp
 obj:∀i h,tn i h->∀b∈fp,∃o,h.get? b=some o/\∀v,o.data≠ .cell v
 keep:∀i h h',tn i h->(∀b∈fp,∀o,h.get? b=some o->h'.get? b=some o)->tn i h'
 item:∀(X:Cx),X.prog=P->X.w=w->X.K=K->X.calm=true->∀(i:Nat) (pins:List (Addr×Obj)) (s:Shared) (σ:St) (H:Hp) (E:Value->Shared->Prop),Inv X pins σ H s->(∀b∈fp,rC X pins H b)->tn i s.heap->J.go i H →
  wpAny (model P w) X.A (pyNext (.ref it)) (λr s1=>∃u,r=some u ∧
   wpAny (model P w) X.A (letOwnedTupleGo tg (.ref it) u) (λ_ s2=>∃x H',Inv X pins σ H' s2/\RelV x u/\J.AL i H x H'/\tn (i+1) s2.heap/\∀b∈fp,H' b=none) E s1) E s
 done:∀(X:Cx),X.prog=P->X.w=w->X.K=K->X.calm=true->∀(i:Nat) (pins:List (Addr×Obj)) (s:Shared) (σ:St) (H:Hp) (E:Value->Shared->Prop),Inv X pins σ H s->(∀b∈fp,rC X pins H b)->tn i s.heap->J.stop i H →
  wpAny (model P w) X.A (pyNext (.ref it)) (λr s1=>r=none/\Inv X pins σ H s1) E s
 self:∀(A:Around) (i:Nat) (s:Shared) (Q:Value->Shared->Prop) (E:Value->Shared->Prop),tn i s.heap->Q (.ref it) s->wpAny (model P w) A (pyIter (.ref it)) Q E s
noncomputable abbrev TI:=St->Hp->(It->Hp->Prop)->Prop
noncomputable def Ir(X:Cx)(pins:List (Addr×Obj))(σ:St)(tg:Expr)(R:It->Hp->Prop)(itv:Value)(s2:Shared):Prop :=
 ∃(it:Addr) (fp:List Addr) (tn:Nat->Heap->Prop) (J:It) (H':Hp),itv= .ref it/\Inv X pins σ H' s2/\Turn X.prog X.w X.K tg J fp it tn/\tn 0 s2.heap/\(∀b∈fp,rC X pins H' b)/\R J H'
noncomputable def PI(X:Cx)(tg iter:Expr)(wi:TI):Prop :=
 ∀(pins:List (Addr×Obj)) (s:Shared) (σ:St) (H:Hp) (R:It->Hp->Prop),Inv X pins σ H s->wi σ H R →
  wpAny (model X.prog X.w) X.A (eval iter X.env) (λv s1=>wpAny (model X.prog X.w) X.A (pyIter v) (Ir X pins σ tg R) X.xe s1) X.xe s
theorem Bc{M:Model}{A:Around}{E:Value->Shared->Prop}{s:Shared}{tg:Expr}{it:Addr}{u:Value}{o:Obj}{n:String}{vs:Array Value}{Q:Unit->Shared->Prop}(ho:s.heap.get? it=some o)(hc:o.cls= .type n)(hd:o.data= .fields vs)
  (hn:["enumerate","zip","dict_itemiterator","dict_reverseitemiterator","odict_iterator","itertools.zip_longest","itertools.pairwise"].contains n=false) (hQ:Q () s):wpAny M A (letOwnedTupleGo tg (.ref it) u) Q E s:=by
 unfold letOwnedTupleGo
 cases tg<;>first
  |exact wpAny_pure hQ
  |(cases u<;>first
    |exact wpAny_pure hQ
    |(refine wpAny_bind (wpAny_load ho ?_)
      rw[hc,hd]
      show wpAny M A (if(["enumerate","zip","dict_itemiterator","dict_reverseitemiterator","odict_iterator","itertools.zip_longest","itertools.pairwise"].contains n&&vs[0]? ==some (rawInt _))=true then _ else _) Q E s
      rw[if_neg (by intro h;rw[hn,Bool.false_and]at h;cases h)]
      exact wpAny_pure hQ))
noncomputable def Cz(K:PySem.W.Frag)(a:Addr):It :=
 ⟨λi H=>∃xs x,bf K H a xs/\xs[i]? =some x,λi H x H'=>H'=H/\∀xs,bf K H a xs->xs[i]? =some x,λi H=>∃xs,bf K H a xs/\xs.length<=i⟩
noncomputable def Itt(K:PySem.W.Frag)(a:Addr):It :=
 ⟨λi H=>∃xs x,iR K H a xs/\xs[i]? =some x,λi H x H'=>H'=H/\∀xs,iR K H a xs->xs[i]? =some x,λi H=>∃xs,iR K H a xs/\xs.length<=i⟩
noncomputable def BE(lo:Int)(n:Nat):It:=⟨λi _=>i<n,λi H x H'=>H'=H/\x= .int (lo+i),λi _=>n<=i⟩
theorem AR{P:Program}{w:World}{K:PySem.W.Frag}{tg:Expr}(a it:Addr):Turn P w K tg (Cz K a) [it] it (λi h=>h.IsListIter it a i) where
 mem:=by simp
 obj:=λi h st b hb=>by
  have e:b=it:=by simpa using hb
  subst e
  obtain⟨o,e,c,d⟩:=st
  exact⟨o,e,λv z=>by rw[d]at z;cases z⟩
 keep:=λi h h' st k=>st.at λo e=>k it (by simp) o e
 item:=by
  intro X hP hw hK hc i pins s σ H E I hf st hg
  subst hP hw hK
  obtain⟨xs,x,hq,hx⟩:=hg
  obtain⟨its,rv,p,hz⟩:=I.list hq
  obtain⟨u,hu,ru⟩:=rv.get hx
  obtain⟨f0,f1,f2,f3,f4,f5⟩:=hf it (by simp)
  refine wpAny_pyNext_list_item st p.isList (x:=u) (by simpa using hu) λh' st' sb=>?_
  have I1:Inv X pins σ H { s with heap:=h' }:=I.turned (t':=s.toks) (λb o hb e=>(sb.2 b hb).trans e) f0 f1 f3 f4 f5
  obtain⟨o,e,c,d⟩:=id st'
  exact⟨u,rfl,Bc (s:={ s with heap:=h' }) e c d (by decide) ⟨x,H,I1,ru,⟨rfl,λys hy=>by rw[I.y9 hy hq];exact hx⟩,st',λb hb=>(hf b hb).1⟩⟩
 done:=by
  intro X hP hw hK hc i pins s σ H E I hf st hg
  subst hP hw hK
  obtain⟨xs,hq,hx⟩:=hg
  obtain⟨its,rv,p,hz⟩:=I.list hq
  obtain⟨f0,f1,f2,f3,f4,f5⟩:=hf it (by simp)
  have hl:=rv.length
  exact wpAny_pyNext_list_end (I.ok.hd hc) st p.isList (by simp;omega) λh' eb=>⟨rfl,I.turned (t':=s.toks) (λb o hb e=>eb b o hb e) f0 f1 f3 f4 f5⟩
 self:=λ_ _ _ _ _ st h=>wpAny_pyIter_listiter st h
theorem PR{P:Program}{w:World}{K:PySem.W.Frag}{tg:Expr}(a it:Addr):Turn P w K tg (Itt K a) [it] it (λi h=>h.IsTupleIter it a i) where
 mem:=by simp
 obj:=λi h st b hb=>by
  have e:b=it:=by simpa using hb
  subst e
  obtain⟨o,e,c,d⟩:=st
  exact⟨o,e,λv z=>by rw[d]at z;cases z⟩
 keep:=λi h h' st k=>st.at λo e=>k it (by simp) o e
 item:=by
  intro X hP hw hK hc i pins s σ H E I hf st hg
  subst hP hw hK
  obtain⟨xs,x,hq,hx⟩:=hg
  obtain⟨its,rv,p,hz⟩:=I.tuple hq
  obtain⟨u,hu,ru⟩:=rv.get hx
  obtain⟨f0,f1,f2,f3,f4,f5⟩:=hf it (by simp)
  refine wpAny_pyNext_tuple_item st (show s.heap.IsTuple a its.toArray from p) (x:=u) (by simpa using hu) λh' st' sb=>?_
  have I1:Inv X pins σ H { s with heap:=h' }:=I.turned (t':=s.toks) (λb o hb e=>(sb.2 b hb).trans e) f0 f1 f3 f4 f5
  obtain⟨o,e,c,d⟩:=id st'
  exact⟨u,rfl,Bc (s:={ s with heap:=h' }) e c d (by decide) ⟨x,H,I1,ru,⟨rfl,λys hy=>by rw[I.AS hy hq];exact hx⟩,st',λb hb=>(hf b hb).1⟩⟩
 done:=by
  intro X hP hw hK hc i pins s σ H E I hf st hg
  subst hP hw hK
  obtain⟨xs,hq,hx⟩:=hg
  obtain⟨its,rv,p,hz⟩:=I.tuple hq
  obtain⟨f0,f1,f2,f3,f4,f5⟩:=hf it (by simp)
  have hl:=rv.length
  exact wpAny_pyNext_tuple_end (I.ok.hd hc) st (show s.heap.IsTuple a its.toArray from p) (by simp;omega) λh' eb=>⟨rfl,I.turned (t':=s.toks) (λb o hb e=>eb b o hb e) f0 f1 f3 f4 f5⟩
 self:=λ_ _ _ _ _ st h=>wpAny_pyIter_tupleiter st h
theorem PU{P:Program}{w:World}{K:PySem.W.Frag}{tg:Expr}(it:Addr)(lo:Int)(n:Nat):Turn P w K tg (BE lo n) [it] it (λi h=>IsRangeIter h it (lo+(i:Nat)*1) ((n:Int)-(i:Nat)) 1) where
 mem:=by simp
 obj:=λi h st b hb=>by
  have e:b=it:=by simpa using hb
  subst e
  exact⟨_,st,λv z=>by
   have z':Data.fields _=Data.cell v:=z
   cases z'⟩
 keep:=λi h h' st k=>k it (by simp) _ st
 item:=by
  intro X hP hw hK hc i pins s σ H E I hf st hg
  subst hP hw hK
  obtain⟨f0,f1,f2,f3,f4,f5⟩:=hf it (by simp)
  have W:=Walks.range (prog:=X.prog) (w:=X.w) (I.ok.hd hc) it lo 1 n
  refine TK.cZ (Nat.le_refl s.toks) (W.item i s _ _ hg st λv h' tk hv st' kk hup=>?_)
  obtain⟨t,rfl⟩:=hv
  have I1:Inv X pins σ H { s with heap:=h',toks:=tk }:=I.turned (λb o hb e=>kk b o (by simpa using hb) e) f0 f1 f3 f4 f5
  refine⟨_,rfl,Bc (s:={ s with heap:=h',toks:=tk }) (n:= "range_iterator") st' rfl rfl (by decide) ⟨.int (lo+i),H,I1,⟨t,?_⟩,⟨rfl,rfl⟩,st',λb hb=>(hf b hb).1⟩⟩
  rw[Int.mul_one]
 done:=by
  intro X hP hw hK hc i pins s σ H E I hf st hg
  subst hP hw hK
  obtain⟨f0,f1,f2,f3,f4,f5⟩:=hf it (by simp)
  exact wpAny_pyNext_range_end (I.ok.hd hc) st (by have:n<=i:=hg;omega) λh' eb=>⟨rfl,I.turned (t':=s.toks) (λb o hb e=>eb b o hb e) f0 f1 f3 f4 f5⟩
 self:=λ_ _ _ _ _ st h=>wpAny_pyIter_rangeiter st h
end L2
namespace L2
open PySem PySem.Spec PyProof.Rows
section
variable{X:Cx}{tg:Expr}
noncomputable def XZ(K:PySem.W.Frag)(tl:TE):TI:=λσ H R=>tl σ H λx H1=>∃a,x= .ref a/\(∃xs,bf K H1 a xs)/\R (Cz K a) H1
theorem eX{l:Expr}{tl:TE}(hl:PE X l tl):PI X tg l (XZ X.K tl):=by
 intro pins s σ H R I h
 refine gB (hl pins s σ H _ I h) λv s1 ⟨x,H1,I1,r1,q1⟩=>?_
 obtain⟨a,e,⟨xs,hq⟩,q⟩:=q1
 subst e
 cases r1
 obtain⟨its,rv,p,hz⟩:=I1.list hq
 refine wpAny_pyIter_list p.isList ?_
 refine⟨s1.heap.objs.size,[s1.heap.objs.size],_,_,H1,rfl,I1.kept (t':=s1.toks) λb o e=>Heap.get?_push_of_some _ e,AR a _,⟨_,Heap.get?_push_size _ rfl,rfl,rfl⟩,λb hb=>?_,q⟩
 have e:b=s1.heap.objs.size:=by simpa using hb
 subst e
 exact I1.xW (Nat.le_refl _) (I1.hok.fresh (Nat.le_refl _))
theorem N2{pins:List (Addr×Obj)}{σ:St}{H:Hp}{s:Shared}{R:It->Hp->Prop}{E:Value->Shared->Prop}{lo hi:Int}{t u v:Tok}{tk:Nat}(I:Inv X pins σ H s)(h1: -(2 ^ 62)<=lo)(h2:lo<2 ^ 62)(h3: -(2 ^ 62)<=hi)(h4:hi<2 ^ 62)
  (q:R (BE lo (hi-lo).toNat) H) (htk:s.toks<=tk:=by first|exact Nat.le_refl _|exact Nat.le_succ _|assumption|omega):wpAny (model X.prog X.w) X.A (pyIter (.ref s.heap.objs.size)) (Ir X pins σ tg R) E { s with heap:=s.heap.push { cls:=.type "range",data:=.fields #[.int lo t,.int hi u,.int 1 v] },toks:=tk }:=by
 refine wpAny_pyIter_range (IsRange.new ..) (small_one h1 h2 h3 h4) ?_
 have I1:Inv X pins σ H { s with heap:=s.heap.push { cls:=.type "range",data:=.fields #[.int lo t,.int hi u,.int 1 v] },toks:=tk }:=I.kept λb o e=>Heap.get?_push_of_some _ e
 refine⟨(s.heap.push { cls:=.type "range",data:=.fields #[.int lo t,.int hi u,.int 1 v] }).objs.size,[(s.heap.push { cls:=.type "range",data:=.fields #[.int lo t,.int hi u,.int 1 v] }).objs.size],_,_,H,rfl,
  I1.kept (t':=tk) λb o e=>Heap.get?_push_of_some _ e,PU _ lo (hi-lo).toNat,?_,λb hb=>?_,q⟩
 ·have e1:lo+((0:Nat):Int)*1=lo:=by simp
  have e2:(((hi-lo).toNat:Nat):Int)-((0:Nat):Int)=Builtin.Range.rangeSize lo hi 1:=by rw[rangeSize_one];split<;>omega
  show IsRangeIter _ _ (lo+((0:Nat):Int)*1) ((((hi-lo).toNat:Nat):Int)-((0:Nat):Int)) 1
  rw[e1,e2]
  exact Heap.get?_push_size _ rfl
 ·have e:b=(s.heap.push { cls:=.type "range",data:=.fields #[.int lo t,.int hi u,.int 1 v] }).objs.size:=by simpa using hb
  subst e
  exact I1.xW (Nat.le_refl _) (I1.hok.fresh (Nat.le_refl _))
noncomputable def acj(ta:TA):TI:=λσ H R=>ta σ H λvs H1=>∃j:Int,vs=[.int j]/\ -(2 ^ 62)<=j/\j<2 ^ 62/\R (BE 0 j.toNat) H1
noncomputable def aci(ta:TA):TI:=λσ H R=>ta σ H λvs H1=>∃i j:Int,vs=[.int i,.int j]/\(-(2 ^ 62)<=i/\i<2 ^ 62/\ -(2 ^ 62)<=j/\j<2 ^ 62)/\R (BE i (j-i).toNat) H1
theorem eV {a:Expr} {ta:TA} {p pos:Pos} (hg:Gl X "range") (hm:X.mg "range" =none) (ha:PA X [a] ta) (hs:starEach [a] X.env=[(false,eval a X.env)]:=by rfl):PI X tg (.Call (.Name "range" p) [a] [] pos) (acj ta):=by
 intro pins s σ H R I h
 refine Call_ (qS I hg hm boot_range (PyProof.Rows.callWith_type1 (gB (ha pos pins s σ H _ I h) λus s1 ⟨vs,H1,I1,r1,q1⟩=>?_) hs rfl))
 obtain⟨j,e,q1,q2,q⟩:=q1
 subst e
 cases r1 with
 |cons r rr =>
  cases rr
  obtain⟨t,rfl⟩:=r
  exact call_range_1 (N2 I1 (by omega) (by omega) q1 q2 (by simpa using q))
theorem Sn {a b:Expr} {ta:TA} {p pos:Pos} (hg:Gl X "range") (hm:X.mg "range" =none) (ha:PA X [a,b] ta) (hs:starEach [a,b] X.env=[(false,eval a X.env),(false,eval b X.env)]:=by rfl) (hs2:starEach [b] X.env=[(false,eval b X.env)]:=by rfl) :
  PI X tg (.Call (.Name "range" p) [a,b] [] pos) (aci ta):=by
 intro pins s σ H R I h
 refine Call_ (qS I hg hm boot_range (PyProof.Rows.callWith_type1 (gB (ha pos pins s σ H _ I h) λus s1 ⟨vs,H1,I1,r1,q1⟩=>?_) (by rw[hs,hs2]) (by rw[hs2];rfl)))
 obtain⟨i,j,e,⟨q1,q2,q3,q4⟩,q⟩:=q1
 subst e
 cases r1 with
 |cons r rr =>
  cases rr with
  |cons r' rr =>
   cases rr
   obtain⟨t,rfl⟩:=r
   obtain⟨t',rfl⟩:=r'
   exact call_range_2 (N2 I1 q1 q2 q3 q4 q)
noncomputable def afZ(wi:TI)(g:TG)(tb:TS):TS:=λD σ H=>wi σ H λJ H1=>∃W:Nat->Nat->St->Hp->Prop,(∃m,W 0 m σ H1)/\∀i m σ H,W i m σ H →
 (J.stop i H/\D.nx σ H)\/(J.go i H/\∃N:St->Hp->Prop,(∀ σ' H',N σ' H'->∃m',m'<m/\W (i+1) m' σ' H')/\∀x H',J.AL i H x H'->g x σ H' λσ2 H2=>tb { D with nx:=N,ct:=N,bk:=D.nx } σ2 H2)
noncomputable def GD(fp:List Addr)(h:Heap):List (Addr×Obj):=fp.filterMap λb=>(h.get? b).map λo=>(b,o)
theorem jw{fp:List Addr}{h:Heap}{b:Addr}{o:Obj}(hb:b∈fp)(e:h.get? b=some o):(b,o)∈GD fp h:=List.mem_filterMap.mpr ⟨b,hb,by rw[e];rfl⟩
theorem Sv{fp:List Addr}{h:Heap}{p:Addr×Obj}(hp:p∈GD fp h):p.1∈fp/\h.get? p.1=some p.2:=by
 obtain⟨b,hb,e⟩:=List.mem_filterMap.mp hp
 cases q:h.get? b with
 |none=>rw[q]at e;cases e
 |some o =>
  rw[q]at e
  have e':(b,o)=p:=Option.some.inj e
  subst e'
  exact⟨hb,q⟩
theorem Inv.pinned{pins:List (Addr×Obj)}{σ:St}{H:Hp}{s:Shared}{fp:List Addr}(I:Inv X pins σ H s)(hf:∀b∈fp,rC X pins H b)(ho:∀b∈fp,∃o,s.heap.get? b=some o/\∀v,o.data≠ .cell v):Inv X (pins++GD fp s.heap) σ H s :=
 I.GC λp hp=>(List.mem_append.mp hp).elim (λz=>I.pin p (List.mem_append_right _ z)) λz=>by
  obtain⟨hb,e⟩:=Sv z
  obtain⟨f0,f1,f2,_⟩:=hf p.1 hb
  obtain⟨o,e',d⟩:=ho p.1 hb
  rw[e]at e';cases e'
  exact⟨e,f0,f1,f2,d⟩
theorem Inv.yk{pins pl:List (Addr×Obj)}{σ:St}{H:Hp}{s:Shared}(I:Inv X (pins++pl) σ H s):Inv X pins σ H s:=I.GC λp hp=>I.pin p (List.mem_append_right _ (List.mem_append_left _ hp))
theorem dR{iter:Expr}{body:List Stmt}{wi:TI}{g:TG}{tb:TS}{pos:Pos}(hp:PassesOwn (model X.prog X.w) X.A X.env X.xe)(hc:X.calm=true)(hi:PI X tg iter wi)(hg:PG X tg g)(hb:HP X body tb)
  (hs:∀x,foldedSetIterable iter X.env x=pure x:=by intro _;rfl):PS X (.For tg iter body [] pos) (afZ wi g tb):=by
 intro pins s σ H D I h
 refine wpAny_For (gB (hi pins s σ H _ I h) λv s1 h1=>gB h1 λitv s2 h2=>?_) hs
 obtain⟨it,fp,tn,J,H2,e,I2,T,st2,f2,W,⟨m0,w0⟩,turn⟩:=h2
 subst e
 have stat:∀{H':Hp},(∀b∈fp,H' b=none)->∀b∈fp,rC X pins H' b:=λhn b hb=>⟨hn b hb,(f2 b hb).2⟩
 refine codeAny_forLoop_any (λn s'=>∃i σ' H',Inv X pins σ' H' s'/\tn i s'.heap/\(∀b∈fp,H' b=none)/\W i n σ' H') ?_ m0 ⟨0,σ,H2,I2,st2,λb hb=>(f2 b hb).1,w0⟩
 rintro n s3 ⟨i,σ3,H3,I3,st3,JQ,w3⟩
 rcases turn i n σ3 H3 w3 with⟨stop,qn⟩|⟨go,N,hN,step⟩
 ·refine wpAny_passesOwn hp (gB (T.done X rfl rfl rfl hc i pins s3 σ3 H3 X.xe I3 (stat JQ) st3 stop) λr s4 ⟨hr,I4⟩=>?_)
  subst hr
  exact wpAny_execs_nil ⟨σ3,H3,I4,qn⟩
 ·refine wpAny_passesOwn hp (gB (T.item X rfl rfl rfl hc i pins s3 σ3 H3 X.xe I3 (stat JQ) st3 go) λr s4 ⟨u,hr,h4⟩=>?_)
  subst hr
  refine wpAny_passesOwn hp (gB h4 λ_ s5 ⟨x,H5,I5,r5,y5,Ff,Na⟩=>?_)
  have I5':=I5.pinned (stat Na) (T.obj _ _ Ff)
  refine wpAny_passesOwn hp (gB (hg _ s5 σ3 H5 x u _ I5' r5 (step x H5 y5)) λ_ s6 ⟨Lc,H6,I6,q6⟩=>?_)
  refine wpAny_passesOwn hp (gB (hb _ s6 Lc H6 _ I6 q6) λf s7 q7=>?_)
  have again:∀{Ib:St} {H7:Hp},Inv X (pins++GD fp s5.heap) Ib H7 s7->N Ib H7->∃m,m<n/\∃i σ' H',Inv X pins σ' H' s7/\tn i s7.heap/\(∀b∈fp,H' b=none)/\W i m σ' H':=λ{Ib H7} I7 n7=>by
   obtain⟨m',hm,w7⟩:=hN Ib H7 n7
   refine⟨m',hm,i+1,Ib,H7,I7.yk,T.keep _ _ _ Ff λb hb o e=>(I7.pin (b,o) (List.mem_append_right _ (List.mem_append_right _ (jw hb e)))).1,λb hb=>?_,w7⟩
   obtain⟨o,e,d⟩:=T.obj _ _ Ff b hb
   exact(I7.pin (b,o) (List.mem_append_right _ (List.mem_append_right _ (jw hb e)))).2.1
  cases f with
  |next=>obtain⟨Ib,H7,I7,n7⟩:=q7;exact again I7 n7
  |cont=>obtain⟨Ib,H7,I7,n7⟩:=q7;exact again I7 n7
  |brk=>obtain⟨Ib,H7,I7,q7⟩:=q7;exact⟨Ib,H7,I7.yk,q7⟩
  |ret v=>obtain⟨x7,Ib,H7,I7,r7,q7⟩:=q7;exact⟨x7,Ib,H7,I7.yk,r7,q7⟩
end
theorem qv{K:PySem.W.Frag}{a:Addr}{xs:List V}{g:TG}{tb:TS}{D:Ends}{σ:St}{H:Hp}(Pv:Nat->St->Hp->Prop)(h0:Pv 0 σ H)(hl:∀i σ H,i<=xs.length->Pv i σ H->bf K H a xs)
  (hs:∀i x σ H,xs[i]? =some x->Pv i σ H->g x σ H λσ2 H2=>tb { D with nx:=Pv (i+1),ct:=Pv (i+1),bk:=D.nx } σ2 H2) (hd:∀ σ H,Pv xs.length σ H->D.nx σ H) :
  ∃W:Nat->Nat->St->Hp->Prop,(∃m,W 0 m σ H)/\∀i m σ H,W i m σ H →
   ((Cz K a).stop i H/\D.nx σ H)\/((Cz K a).go i H/\∃N:St->Hp->Prop,(∀ σ' H',N σ' H'->∃m',m'<m/\W (i+1) m' σ' H')/\∀x H',(Cz K a).AL i H x H'->g x σ H' λσ2 H2=>tb { D with nx:=N,ct:=N,bk:=D.nx } σ2 H2):=by
 refine⟨λi m σ H=>m=xs.length-i/\i<=xs.length/\Pv i σ H,⟨xs.length,by simp,Nat.zero_le _,h0⟩,?_⟩
 rintro i m σ H ⟨rfl,hi,p⟩
 have q:=hl i σ H hi p
 by_cases hlt:i<xs.length
 ·refine .inr ⟨⟨xs,xs[i],q,by simp[hlt]⟩,Pv (i+1),λσ' H' p'=>⟨xs.length-(i+1),by omega,rfl,hlt,p'⟩,λx H' y=>?_⟩
  obtain⟨e,y⟩:=y
  subst e
  exact hs i x σ _ (y xs q) p
 ·have e:i=xs.length:=by omega
  subst e
  exact .inl ⟨⟨xs,q,Nat.le_refl _⟩,hd σ H p⟩
theorem jI{lo:Int}{n:Nat}{g:TG}{tb:TS}{D:Ends}{σ:St}{H:Hp}(Pv:Nat->St->Hp->Prop)(h0:Pv 0 σ H)
  (hs:∀i σ H,i<n->Pv i σ H->g (.int (lo+i)) σ H λσ2 H2=>tb { D with nx:=Pv (i+1),ct:=Pv (i+1),bk:=D.nx } σ2 H2) (hd:∀ σ H,Pv n σ H->D.nx σ H) :
  ∃W:Nat->Nat->St->Hp->Prop,(∃m,W 0 m σ H)/\∀i m σ H,W i m σ H →
   ((BE lo n).stop i H/\D.nx σ H)\/((BE lo n).go i H/\∃N:St->Hp->Prop,(∀ σ' H',N σ' H'->∃m',m'<m/\W (i+1) m' σ' H')/\∀x H',(BE lo n).AL i H x H'->g x σ H' λσ2 H2=>tb { D with nx:=N,ct:=N,bk:=D.nx } σ2 H2):=by
 refine⟨λi m σ H=>m=n-i/\i<=n/\Pv i σ H,⟨n,by simp,Nat.zero_le _,h0⟩,?_⟩
 rintro i m σ H ⟨rfl,hi,p⟩
 by_cases hlt:i<n
 ·refine .inr ⟨hlt,Pv (i+1),λσ' H' p'=>⟨n-(i+1),by omega,rfl,hlt,p'⟩,λx H' y=>?_⟩
  obtain⟨e,y⟩:=y
  subst e y
  exact hs i σ _ hlt p
 ·have e:i=n:=by omega
  subst e
  exact .inl ⟨Nat.le_refl _,hd σ H p⟩
end L2
namespace L2
open PySem PySem.Spec PyProof.Rows
noncomputable abbrev R2:=V->V->Hp->VK->Prop
noncomputable def tD(X:Cx)(f:Value->Value->Sem Value)(r:R2):Prop :=
 ∀(pins:List (Addr×Obj)) (s:Shared) (σ:St) (H:Hp) (x y:V) (v u:Value) (Q:VK),Inv X pins σ H s->RelV x v->RelV y u->r x y H Q →
  wpAny (model X.prog X.w) X.A (f v u) (EP X pins σ Q) X.xe s
noncomputable def Ip(X:Cx)(f:Value->Sem Value)(r:V->Hp->VK->Prop):Prop :=
 ∀(pins:List (Addr×Obj)) (s:Shared) (σ:St) (H:Hp) (x:V) (v:Value) (Q:VK),Inv X pins σ H s->RelV x v->r x H Q →
  wpAny (model X.prog X.w) X.A (f v) (EP X pins σ Q) X.xe s
noncomputable def mF(X:Cx)(f:Value)(r:List V->Hp->VK->Prop):Prop :=
 ∀(pins:List (Addr×Obj)) (s:Shared) (σ:St) (H:Hp) (xs:List V) (us:List Value) (Q:VK),Inv X pins σ H s->Vals xs us->r xs H Q →
  wpAny (model X.prog X.w) X.A (call f us) (EP X pins σ Q) X.xe s
noncomputable def CO(r:R2)(ta tb:TE):TE:=λσ H Q=>ta σ H λx H1=>tb σ H1 λy H2=>r x y H2 Q
noncomputable def Lg(r:V->Hp->VK->Prop)(ta:TE):TE:=λσ H Q=>ta σ H λx H1=>r x H1 Q
noncomputable def rI(C:Int->Int->Prop)(g:Int->Int->V):R2:=λx y H Q=>∃i j,x= .int i/\y= .int j/\C i j/\Q (g i j) H
noncomputable def Z1(g:Int->Int->V):R2:=λx y H Q=>∃i j,x= .int i/\y= .int j/\Q (g i j) H
noncomputable def rU(g:Int->V):V->Hp->VK->Prop:=λx H Q=>∃i,x= .int i/\Q (g i) H
section
variable{X:Cx}{a b c:Expr}{ta tb tc:TE}{pos:Pos}
theorem F9(ha:PE X a ta)(hb:PE X b tb){pins:List (Addr×Obj)}{s:Shared}{σ:St}{H:Hp}{R:V->V->Hp->Prop}(I:Inv X pins σ H s)
  (h:ta σ H λx H1=>tb σ H1 λy H2=>R x y H2) {Q:Value->Shared->Prop} {f:Value->Value->Sem Value}
  (hf:∀v u s2 x y H2,Inv X pins σ H2 s2->RelV x v->RelV y u->R x y H2->wpAny (model X.prog X.w) X.A (f v u) Q X.xe s2) :
  wpAny (model X.prog X.w) X.A (eval a X.env) (λv s₁=>wpAny (model X.prog X.w) X.A (eval b X.env) (λu s₂=>wpAny (model X.prog X.w) X.A (f v u) Q X.xe s₂) X.xe s₁) X.xe s:=by
 refine gB (ha pins s σ H _ I h) λv s1 ⟨x,H1,I1,r1,q1⟩=>?_
 refine gB (hb pins s1 σ H1 _ I1 q1) λu s2 ⟨y,H2,I2,r2,q2⟩=>?_
 exact hf v u s2 x y H2 I2 r1 r2 q2
theorem aB{op:Operator}{r:R2}(ho:tD X (binaryOp op) r)(ha:PE X a ta)(hb:PE X b tb):PE X (.BinOp a op b pos) (CO r ta tb):=by
 intro pins s σ H Q I h
 exact wpAny_BinOp (F9 ha hb I h λv u s2 x y H2 I2 rx ry q=>ho pins s2 σ H2 x y v u Q I2 rx ry q)
theorem Ru{op:UnaryOp}{r:V->Hp->VK->Prop}(ho:Ip X (unaryOp op) r)(ha:PE X a ta):PE X (.UnaryOp op a pos) (Lg r ta):=by
 intro pins s σ H Q I h
 exact UnaryOp_ (gB (ha pins s σ H _ I h) λv s1 ⟨x,H1,I1,r1,q1⟩=>ho pins s1 σ H1 x v Q I1 r1 q1)
theorem BZ{f:Value->Value->Sem Value}{C:Int->Int->Prop}{g:Int->Int->Int}
  (rule:∀(i j:Int) (t u:Tok) (s:Shared) (Q:Value->Shared->Prop) (E:Value->Shared->Prop),C i j->Q (.int (g i j) s.toks) { s with toks:=s.toks+1 }->wpAny (model X.prog X.w) X.A (f (.int i t) (.int j u)) Q E s) :
  tD X f (rI C λi j=>.int (g i j)):=by
 intro pins s σ H x y v u Q I rx ry h
 obtain⟨i,j,rfl,rfl,hc,q⟩:=h
 obtain⟨t,rfl⟩:=rx
 obtain⟨t',rfl⟩:=ry
 exact rule i j t t' s _ _ hc ⟨.int (g i j),H,I.tok _,⟨_,rfl⟩,q⟩
theorem KY{f:Value->Value->Sem Value}{g:Int->Int->Int}
  (rule:∀(i j:Int) (t u:Tok) (s:Shared) (Q:Value->Shared->Prop) (E:Value->Shared->Prop),Q (.int (g i j) s.toks) { s with toks:=s.toks+1 }->wpAny (model X.prog X.w) X.A (f (.int i t) (.int j u)) Q E s) :
  tD X f (Z1 λi j=>.int (g i j)):=by
 intro pins s σ H x y v u Q I rx ry h
 obtain⟨i,j,rfl,rfl,q⟩:=h
 obtain⟨t,rfl⟩:=rx
 obtain⟨t',rfl⟩:=ry
 exact rule i j t t' s _ _ ⟨.int (g i j),H,I.tok _,⟨_,rfl⟩,q⟩
theorem F8{f:Value->Value->Sem Value}{g:Int->Int->Bool}
  (rule:∀(i j:Int) (t u:Tok) (s:Shared) (Q:Value->Shared->Prop) (E:Value->Shared->Prop),Q (.bool (g i j)) s->wpAny (model X.prog X.w) X.A (f (.int i t) (.int j u)) Q E s) :
  tD X f (Z1 λi j=>.bl (g i j)):=by
 intro pins s σ H x y v u Q I rx ry h
 obtain⟨i,j,rfl,rfl,q⟩:=h
 obtain⟨t,rfl⟩:=rx
 obtain⟨t',rfl⟩:=ry
 exact rule i j t t' s _ _ ⟨.bl (g i j),H,I,rfl,q⟩
noncomputable def Nl(i j:Int):Prop:=0<j/\j<1073741824
noncomputable def Nm(i j:Int):Prop:=0<=j/\j<=1000000/\i.natAbs<2 ^ 64
noncomputable def F0(i j:Int):Prop:=(-(2 ^ 64)<i/\i<2 ^ 64)\/(-(2 ^ 64)<j/\j<2 ^ 64)
theorem F0.ok{i j:Int}(h:F0 i j):IntMulOk i j:=by
 rcases h with⟨h1,h2⟩|⟨h1,h2⟩
 ·exact .of_left (intBits_le_64 h1 h2)
 ·exact .of_right (intBits_le_64 h1 h2)
theorem cY:tD X (binaryOp .Add) (Z1 λi j=>.int (i+j)):=KY λ_ _ _ _ _ _ _ q=>add_int q
theorem nU:tD X (binaryOp .Sub) (Z1 λi j=>.int (i-j)):=KY λ_ _ _ _ _ _ _ q=>sub_int q
theorem oW:tD X (binaryOp .Mult) (rI F0 λi j=>.int (i*j)):=BZ λ_ _ _ _ _ _ _ hc q=>mul_int q hc.ok
theorem cT:tD X (binaryOp .FloorDiv) (rI Nl λi j=>.int (i / j)):=BZ λi j _ _ _ _ _ hc q=>by
 have h1:(0:Int)<j:=hc.1
 have h2:j<1073741824:=hc.2
 exact floordiv_int (by omega) (by rw[Int.fdiv_eq_ediv_of_nonneg i (by omega)];exact q) (.inl (PyProof.noPylong_small (by omega)))
theorem cG:tD X (binaryOp .Mod) (rI (λ_ j=>0<j) λi j=>.int (i % j)):=BZ λi j _ _ _ _ _ hc q=>by
 have h1:(0:Int)<j:=hc
 exact mod_int' (by omega) (by rw[Int.fmod_eq_emod_of_nonneg i (by omega)];exact q)
theorem UU:tD X (binaryOp .Pow) (rI Nm λi j=>.int (i ^ j.toNat)):=BZ λ_ _ _ _ _ _ _ hc q=>pow_int_small hc.1 hc.2.1 hc.2.2 q
theorem Lf{f:Value->Sem Value}{g:Int->Int}
  (rule:∀(i:Int) (t:Tok) (s:Shared) (Q:Value->Shared->Prop) (E:Value->Shared->Prop),Q (.int (g i) s.toks) { s with toks:=s.toks+1 }->wpAny (model X.prog X.w) X.A (f (.int i t)) Q E s) :
  Ip X f (rU λi=>.int (g i)):=by
 intro pins s σ H x v Q I rx h
 obtain⟨i,rfl,q⟩:=h
 obtain⟨t,rfl⟩:=rx
 exact rule i t s _ _ ⟨.int (g i),H,I.tok _,⟨_,rfl⟩,q⟩
theorem Bs:Ip X (unaryOp .USub) (rU λi=>.int (-i)):=Lf λ_ _ _ _ _ q=>neg_int q
end
noncomputable def K2:V->V->Bool
 | .ko,.ko=>true| .ko,.int _=>true| .int _,.ko=>true| .ko,.bl _=>true| .bl _,.ko=>true| .ko,.str _=>true| .str _,.ko=>true
 | .int _,.int _=>true| .bl _,.bl _=>true| .str _,.str _=>true| .RV _,.RV _=>true
 | .int _,.str _=>true| .str _,.int _=>true| .bl _,.str _=>true| .str _,.bl _=>true
 |_,_=>false
noncomputable def Ls:R2:=λx y H Q=>K2 x y=true/\Q (.bl (decide (x=y))) H
noncomputable def Lq:R2:=λx y H Q=>K2 x y=true/\Q (.bl (!decide (x=y))) H
theorem tw{i j:Int}:decide (V.int i=V.int j)=(i==j):=by
 rw[Bool.eq_iff_iff]
 simp
theorem VS{i j:Bool}:decide (V.bl i=V.bl j)=(i==j):=by
 rw[Bool.eq_iff_iff]
 simp
theorem RP{i j:Str}:decide (V.str i=V.str j)=(i==j):=by
 rw[Bool.eq_iff_iff]
 simp
theorem RQ{i j:Array UInt8}:decide (V.RV i=V.RV j)=(i.toList==j.toList):=by
 rw[Bool.eq_iff_iff]
 cases i
 cases j
 simp
section
variable{X:Cx}{a b c:Expr}{ta tb tc:TE}{pos:Pos}
theorem dm{pins:List (Addr×Obj)}{σ:St}{H:Hp}{s:Shared}{Q:VK}{k k':Bool}(I:Inv X pins σ H s)(q:Q (.bl k) H)(e:k=k'):EP X pins σ Q (.bool k') s:=by
 subst e
 exact⟨.bl k,H,I,rfl,q⟩
theorem iP:tD X (compareOp .Eq) Ls:=by
 intro pins s σ H x y v u Q I rx ry h
 obtain⟨hs,q⟩:=h
 cases x with
 |ko =>
  cases rx
  cases y with
  |ko=>cases ry;exact PySem.EqNone.eq_none_none (dm I q (by simp))
  |bl j=>cases ry;exact PySem.EqNone.eq_none_bool (dm I q (by simp))
  |int j=>obtain⟨t',rfl⟩:=ry;exact PySem.EqNone.eq_none_int (dm I q (by simp))
  |str j=>obtain⟨t',rfl⟩:=ry;exact PySem.EqNone.eq_none_str (dm I q (by simp))
  |_=>exact absurd (show false=true from hs) Bool.false_ne_true
 |bl i =>
  cases rx
  cases y with
  |ko=>cases ry;exact PySem.EqNone.eq_bool_none (dm I q (by simp))
  |bl j=>cases ry;exact eq_bool (dm I q VS)
  |str j=>obtain⟨t',rfl⟩:=ry;exact PySem.EqMixed.eq_bool_str (dm I q (by simp))
  |_=>exact absurd (show false=true from hs) Bool.false_ne_true
 |int i =>
  obtain⟨t,rfl⟩:=rx
  cases y with
  |ko=>cases ry;exact PySem.EqNone.eq_int_none (dm I q (by simp))
  |int j=>obtain⟨t',rfl⟩:=ry;exact eq_int (dm I q tw)
  |str j=>obtain⟨t',rfl⟩:=ry;exact PySem.EqMixed.eq_int_str (dm I q (by simp))
  |_=>exact absurd (show false=true from hs) Bool.false_ne_true
 |str i =>
  obtain⟨t,rfl⟩:=rx
  cases y with
  |ko=>cases ry;exact PySem.EqNone.eq_str_none (dm I q (by simp))
  |bl j=>cases ry;exact PySem.EqMixed.eq_str_bool (dm I q (by simp))
  |int j=>obtain⟨t',rfl⟩:=ry;exact PySem.EqMixed.eq_str_int (dm I q (by simp))
  |str j=>obtain⟨t',rfl⟩:=ry;exact eq_str (dm I q RP)
  |_=>exact absurd (show false=true from hs) Bool.false_ne_true
 |RV i =>
  obtain⟨t,rfl⟩:=rx
  cases y with
  |RV j=>obtain⟨t',rfl⟩:=ry;exact PySem.W.eq_bytes (dm I q RQ)
  |_=>exact absurd (show false=true from hs) Bool.false_ne_true
 |_=>cases y<;>exact absurd (show false=true from hs) Bool.false_ne_true
theorem rV:tD X (compareOp .NotEq) Lq:=by
 intro pins s σ H x y v u Q I rx ry h
 obtain⟨hs,q⟩:=h
 cases x with
 |ko =>
  cases rx
  cases y with
  |ko=>cases ry;exact PySem.EqNone.ne_none_none (dm I q (by simp))
  |bl j=>cases ry;exact PySem.EqNone.ne_none_bool (dm I q (by simp))
  |int j=>obtain⟨t',rfl⟩:=ry;exact PySem.EqNone.ne_none_int (dm I q (by simp))
  |str j=>obtain⟨t',rfl⟩:=ry;exact PySem.EqNone.ne_none_str (dm I q (by simp))
  |_=>exact absurd (show false=true from hs) Bool.false_ne_true
 |bl i =>
  cases rx
  cases y with
  |ko=>cases ry;exact PySem.EqNone.ne_bool_none (dm I q (by simp))
  |bl j=>cases ry;exact ne_bool (dm I q (congrArg not VS))
  |str j=>obtain⟨t',rfl⟩:=ry;exact PySem.EqMixed.ne_bool_str (dm I q (by simp))
  |_=>exact absurd (show false=true from hs) Bool.false_ne_true
 |int i =>
  obtain⟨t,rfl⟩:=rx
  cases y with
  |ko=>cases ry;exact PySem.EqNone.ne_int_none (dm I q (by simp))
  |int j=>obtain⟨t',rfl⟩:=ry;exact ne_int (dm I q (congrArg not tw))
  |str j=>obtain⟨t',rfl⟩:=ry;exact PySem.EqMixed.ne_int_str (dm I q (by simp))
  |_=>exact absurd (show false=true from hs) Bool.false_ne_true
 |str i =>
  obtain⟨t,rfl⟩:=rx
  cases y with
  |ko=>cases ry;exact PySem.EqNone.ne_str_none (dm I q (by simp))
  |bl j=>cases ry;exact PySem.EqMixed.ne_str_bool (dm I q (by simp))
  |int j=>obtain⟨t',rfl⟩:=ry;exact PySem.EqMixed.ne_str_int (dm I q (by simp))
  |str j=>obtain⟨t',rfl⟩:=ry;exact ne_str (dm I q (congrArg not RP))
  |_=>exact absurd (show false=true from hs) Bool.false_ne_true
 |RV i =>
  obtain⟨t,rfl⟩:=rx
  cases y with
  |RV j=>obtain⟨t',rfl⟩:=ry;exact PySem.W.ne_bytes (dm I q (congrArg not RQ))
  |_=>exact absurd (show false=true from hs) Bool.false_ne_true
 |_=>cases y<;>exact absurd (show false=true from hs) Bool.false_ne_true
theorem Rz:tD X (compareOp .Lt) (Z1 λi j=>.bl (decide (i<j))):=F8 λ_ _ _ _ _ _ _ q=>lt_int q
theorem UX:tD X (compareOp .LtE) (Z1 λi j=>.bl (decide (i<=j))):=F8 λ_ _ _ _ _ _ _ q=>le_int q
theorem xr:tD X (compareOp .Gt) (Z1 λi j=>.bl (decide (j<i))):=F8 λ_ _ _ _ _ _ _ q=>gt_int q
theorem bq(b:Expr){op:CmpOp}(h:op≠ .In:=by decide)(h2:op≠ .NotIn:=by decide):behindInMarks op b=false:=by
 have e1:(op==CmpOp.In)=false:=by cases op<;>first|rfl|exact absurd rfl h
 have e2:(op==CmpOp.NotIn)=false:=by cases op<;>first|rfl|exact absurd rfl h2
 cases b<;>simp[behindInMarks,e1,e2]
theorem pK{op:CmpOp}{r:R2}(ho:tD X (compareOp op) r)(ha:PE X a ta)(hb:PE X b tb)(hm:behindInMarks op b=false):PE X (.Compare a [op] [b] pos) (CO r ta tb):=by
 intro pins s σ H Q I h
 exact wpAny_Compare1 (F9 ha hb I h λv u s2 x y H2 I2 rx ry q=>ho pins s2 σ H2 x y v u Q I2 rx ry q) hm
noncomputable def aby(t:TE):TT:=λσ H Q=>t σ H λx H'=>∃k,x= .bl k/\Q k H'
theorem aU{op:CmpOp}{r:R2}(ho:tD X (compareOp op) r)(ha:PE X a ta)(hb:PE X b tb)(hm:behindInMarks op b=false):PT X (.Compare a [op] [b] pos) (aby (CO r ta tb)):=by
 intro pins s σ H Q I h
 refine wpAny_isTrue_Compare1 (gB (ha pins s σ H _ I h) λv s1 ⟨x,H1,I1,r1,q1⟩=>gB (hb pins s1 σ H1 _ I1 q1) λu s2 ⟨y,H2,I2,r2,q2⟩ =>
  gB (ho pins s2 σ H2 x y v u _ I2 r1 r2 q2) λc s3 ⟨z,H3,I3,r3,k,e,q3⟩=>?_) hm
 subst e
 cases r3
 exact wpAny_truthy_bool ⟨H3,I3,q3⟩
noncomputable def ZO(r r':R2)(ta tb tc:TE):TE:=λσ H Q=>ta σ H λx H1=>tb σ H1 λy H2=>r x y H2 λz H3=>∃k,z= .bl k ∧
 (if k=true then tc σ H3 λw' H4=>r' y w' H4 Q else Q (.bl false) H3)
theorem UO{op op':CmpOp}{r r':R2}(ho:tD X (compareOp op) r)(ho':tD X (compareOp op') r')(ha:PE X a ta)(hb:PE X b tb)(hc:PE X c tc)
  (hm:lastMarks [op,op'] [b,c]=false:=by with_unfolding_all rfl):PE X (.Compare a [op,op'] [b,c] pos) (ZO r r' ta tb tc):=by
 intro pins s σ H Q I h
 refine Compare_chain (gB (ha pins s σ H _ I h) λv s1 ⟨x,H1,I1,r1,q1⟩=>chain_link (gB (hb pins s1 σ H1 _ I1 q1) λu s2 ⟨y,H2,I2,r2,q2⟩ =>
  gB (ho pins s2 σ H2 x y v u _ I2 r1 r2 q2) λd s3 ⟨z,H3,I3,r3,k,e,q3⟩=>?_)) hm
 subst e
 cases r3
 refine wpAny_truthy_bool ?_
 cases k with
 |false=>exact ite_ff ⟨.bl false,H3,I3,rfl,q3⟩
 |true=>exact ite_tt (chain_last (gB (hc pins s3 σ H3 _ I3 q3) λw' s4 ⟨z',H4,I4,r4,q4⟩=>ho' pins s4 σ H4 y z' u w' Q I4 r2 r4 q4))
theorem zb:(sizeLine:Nat)<2 ^ 63:=by rw[sizeLine_eq];decide
theorem cH:tD X (binaryOp .Add) (λx y H Q=>∃i j,x= .str i/\y= .str j/\i.length+j.length<=sizeLine/\Q (.str (i++j)) H):=by
 intro pins s σ H x y v u Q I rx ry h
 obtain⟨i,j,rfl,rfl,hz,q⟩:=h
 obtain⟨t,rfl⟩:=rx
 obtain⟨t',rfl⟩:=ry
 exact TK.cZ (Nat.le_refl _) (add_str (λt' tk hup=>⟨.str (i++j),H,I.tok _,⟨_,rfl⟩,q⟩) hz)
theorem vals1{x:V}{us:List Value}(r:Vals [x] us):∃u,us=[u]/\RelV x u:=by
 cases r with
 |cons r1 r2=>cases r2;exact⟨_,rfl,r1⟩
theorem vals2{x y:V}{us:List Value}(r:Vals [x,y] us):∃u w',us=[u,w']/\RelV x u/\RelV y w':=by
 cases r with
 |cons r1 r2 =>
  cases r2 with
  |cons r3 r4=>cases r4;exact⟨_,_,rfl,r1,r3⟩
theorem VY:mF X (.builtin "abs") (λxs H Q=>∃i,xs=[.int i]/\Q (.int (if i<0 then -i else i)) H):=by
 intro pins s σ H xs us Q I r h
 obtain⟨i,rfl,q⟩:=h
 obtain⟨u,rfl,t,rfl⟩:=vals1 r
 exact TK.cZ (Nat.le_refl _) (call_abs_int λu tk hup=>⟨.int (if i<0 then -i else i),H,I.tok _,⟨_,rfl⟩,q⟩)
theorem Td(hc:X.calm=true):mF X (.builtin "max") (λxs H Q=>∃i j,xs=[.int i,.int j]/\Q (.int (if j>i then j else i)) H):=by
 intro pins s σ H xs us Q I r h
 obtain⟨i,j,rfl,q⟩:=h
 obtain⟨u,w',rfl,⟨t,rfl⟩,⟨t',rfl⟩⟩:=vals2 r
 refine TK.cZ (Nat.le_refl _) (max_two_ints (I.ok.hd hc) λh' tk k hup=>⟨_,H,I.kept k,?_,q⟩)
 by_cases hj:j>i
 ·rw[if_pos hj,if_pos hj];exact⟨_,rfl⟩
 ·rw[if_neg hj,if_neg hj];exact⟨_,rfl⟩
theorem Bk(hc:X.calm=true):mF X (.builtin "min") (λxs H Q=>∃i j,xs=[.int i,.int j]/\Q (.int (if j<i then j else i)) H):=by
 intro pins s σ H xs us Q I r h
 obtain⟨i,j,rfl,q⟩:=h
 obtain⟨u,w',rfl,⟨t,rfl⟩,⟨t',rfl⟩⟩:=vals2 r
 refine TK.cZ (Nat.le_refl _) (min_two_ints (I.ok.hd hc) λh' tk k hup=>⟨_,H,I.kept k,?_,q⟩)
 by_cases hj:j<i
 ·rw[if_pos hj,if_pos hj];exact⟨_,rfl⟩
 ·rw[if_neg hj,if_neg hj];exact⟨_,rfl⟩
theorem VX:mF X (.builtin "ord") (λxs H Q=>∃x,xs=[.str x]/\x.length=1/\Q (.int (x.cps.getD 0 0:Nat)) H):=by
 intro pins s σ H xs us Q I r h
 obtain⟨x,rfl,hz,q⟩:=h
 obtain⟨u,rfl,t,rfl⟩:=vals1 r
 exact ord_of_one hz ⟨.int _,H,I.tok _,⟨_,rfl⟩,q⟩
noncomputable def V8(K:PySem.W.Frag)(x:V)(H:Hp)(n:Nat):Prop :=
 match x with
 | .str y=>y.length<=sizeLine/\n=y.length
 | .RV y=>y.size<=sizeLine/\n=y.size
 | .ref p=>(∃xs,bf K H p xs/\n=xs.length)\/∃xs,iR K H p xs/\n=xs.length
 |_=>False
theorem aK:mF X (.builtin "len") (λxs H Q=>∃x n,xs=[x]/\V8 X.K x H n/\Q (.int n) H):=by
 intro pins s σ H xs us Q I r h
 obtain⟨x,n,rfl,e,q⟩:=h
 obtain⟨u,rfl,rx⟩:=vals1 r
 have hl:=zb
 have hs:sizeLine=16777216:=sizeLine_eq
 cases x with
 |str y =>
  obtain⟨t,rfl⟩:=rx
  obtain⟨hy,e'⟩:y.length<=sizeLine/\n=y.length:=e
  subst e'
  exact len_str (by omega) ⟨.int _,H,I.tok _,⟨_,rfl⟩,q⟩
 |RV y =>
  obtain⟨t,rfl⟩:=rx
  obtain⟨hy,e'⟩:y.size<=sizeLine/\n=y.size:=e
  subst e'
  exact PySem.W.len_bytes (by omega) ⟨.int _,H,I.tok _,⟨_,rfl⟩,q⟩
 |ref p =>
  cases rx
  have e':(∃xs,bf X.K H p xs/\n=xs.length)\/∃xs,iR X.K H p xs/\n=xs.length:=e
  rcases e' with⟨xs,hx,e'⟩|⟨xs,hx,e'⟩
  ·subst e'
   obtain⟨its,r',pl,hz⟩:=I.list hx
   have hlen:=r'.length
   exact Calls.call_len_list pl.isList (by simp only[List.size_toArray];omega) ⟨.int xs.length,H,I.tok _,⟨_,by simp only[List.size_toArray];rw[hlen]⟩,q⟩
  ·subst e'
   obtain⟨its,r',pl,hz⟩:=I.tuple hx
   have hlen:=r'.length
   exact len_tuple pl (by simp only[List.size_toArray];omega) ⟨.int xs.length,H,I.tok _,⟨_,by simp only[List.size_toArray];rw[hlen]⟩,q⟩
 |_=>exact(show False from e).elim
end
end L2
namespace L2
open PySem PySem.Spec PyProof.Rows
structure To(h:Heap)(x dx C:Addr)(mA:Str->Option Value):Prop where
 obj:h.get? x=some (PySem.W.instObj C dx)
 ns:h.Ns1 dx mA
 ne:dx≠x
theorem wj{h:Heap}{dx:Addr}{mA:Str->Option Value}(n:h.Ns1 dx mA):∃od,h.get? dx=some od/\∀name,PySem.W.lookIn name od=some (mA name):=by
 obtain⟨o,es,ep,ho,hd,hk,_,hm⟩:=n
 refine⟨o,ho,λname=>?_⟩
 have e:=hm name
 unfold nsFind findBy at e
 rw[←Array.find?_toList]at e
 unfold PySem.W.lookIn
 rw[hd]
 dsimp only
 split
 ·rename_i y q
  rw[q]at e
  exact congrArg some e
 ·rename_i q
  rw[q]at e
  have a:es.toList.any (·.refKey)=false:=by
   rw[List.any_eq_false]
   intro y hy
   obtain⟨z,t,hkey⟩:=hk y (Array.mem_toList_iff.mp hy)
   simp[DictEntry.refKey,hkey]
  have a':¬es.toList.any (·.refKey)=true:=by rw[a];exact Bool.false_ne_true
  rw[if_neg a']
  exact congrArg some e
theorem To.look{h:Heap}{x dx C:Addr}{mA:Str->Option Value}(I:To h x dx C mA):∃od,PySem.W.InstAt h x (PySem.W.instObj C dx) C (some od)/\∀name,PySem.W.lookIn name od=some (mA name) :=
 let ⟨od,ho,hl⟩:=wj I.ns
 ⟨od,⟨I.obj,rfl,rfl,ho⟩,hl⟩
section
variable{prog:Program}{w:World}{A:Around}{E:Value->Shared->Prop}{s:Shared}{K:PySem.W.Frag}{x dx C f:Addr}{mA:Str->Option Value}{name:Str}{v:Value}
theorem get_map{expr:Bool}{Q:Value->Shared->Prop}(X:K.In s.heap)(I:To s.heap x dx C mA)(hg:PySem.W.plainGet K C name=true)(hh:PySem.W.hasDictIn K C=true)
  (ha:PySem.W.findIn K (.ref C) name=some none) (hv:mA name=some v) (hv':PySem.W.handedIn v=true) (h:Q v { s with toks:=s.toks+1 }) :
  wpAny (model prog w) A (getAttr (.ref x) name expr) Q E s:=by
 obtain⟨od,J,hl⟩:=I.look
 exact PySem.W.get_value X J (PySem.W.plainGet_of hg).1 (PySem.W.findObj_own hh ha rfl (by rw[hl,hv])) hv' h
theorem WE{ns:List Str}{Q:Unit->Shared->Prop}(X:K.In s.heap)(I:To s.heap x dx C mA)
  (hs:PySem.W.findIn K (.ref C) "__setattr__" =some (some (.builtin "object.__setattr__"))) (hp:PySem.W.plainOver K C=true) (ht:PySem.W.takerIn K C name=some none) (hh:PySem.W.hasDictIn K C=true)
  (hw:PySem.Within mA ns) (hsz:ns.length<=sizeLine)
  (h:∀h',To h' x dx C (λy=>if y=name then some v else mA y)->Heap.SameBut dx s.heap h'->Q () { s with heap:=h',toks:=s.toks+2 }) :
  wpAny (model prog w) A (setAttr (.ref x) name v) Q E s:=by
 obtain⟨od,J,hl⟩:=I.look
 refine PySem.W.set_plain X J hs (PySem.W.osa_open (s:={ s with toks:=s.toks+1 }) (r:=none) X J hp ht λb=>?_)
 obtain⟨cd,hc,hd'⟩:=PySem.W.any_some hh
 have hx:s.heap.get? x=some ⟨.ref C,some dx,.plain,#[]⟩:=I.obj
 refine wpAny_bind (wpAny_pure (wpAny_bind (wpAny_bind (wpAny_loadPart hx (wpAny_bind (PySem.W.Looks.here (s:={ s with toks:=s.toks+1 }) (PySem.W.looks_clsIn X hc) ?_))))))
 rw[hd']
 refine wpAny_pure (a:=some dx) (wpAny_bind (wpAny_pure (wpAny_bind ?_)))
 refine wpAny_nsSet1 (s:={ s with toks:=s.toks+1 }) I.ns λh' hn2 hs2=>?_
 obtain⟨oD,esD,JR,Ci,Ck,Cm⟩:=hn2.count (PySem.Within.cons name v hw)
 refine wpAny_bind (wpAny_lookBehind Ci (by rw[Ck];exact pastItsLine_dict (Nat.le_trans Cm (by rw[List.length_cons];omega))) ?_)
 exact wpAny_pure (h _ ⟨(hs2.2 _ (Ne.symm I.ne)).trans I.obj,hn2,I.ne⟩ hs2)
theorem U9{R:Result->Shared->Prop}{vs:List Value}{kw:List (Str×Value)}(X:K.In s.heap)(hm:PySem.W.makesIn K C=true)
  (hi:PySem.W.findIn K (.ref C) "__init__" =some (some (.ref f))) (hf:PySem.W.typeIn K (.ref f)=some (.type "function"))
  (h:codeAny (model prog w) (A.under (.builtin "type.__call__" ⟨.ref C::vs,kw⟩)) (.call (.ref f) ⟨.ref (s.heap.objs.size+1)::vs,kw⟩) (PySem.W.InitBack (s.heap.objs.size+1) R)
   { s with heap:=(s.heap.push PySem.W.emptyDict).push (PySem.W.instObj C s.heap.objs.size) }) :
  codeAny (model prog w) A (.call (.ref C) ⟨vs,kw⟩) R s:=by
 obtain⟨hh,g,d,t,os⟩:=s
 exact PySem.W.make_core (PySem.W.makes_of X hm) (PySem.W.looks_findIn X hi) (λself=>PySem.W.bind_fn X self hf) (.inl rfl) h
end
noncomputable def aL(f:Str)(v:V):List (Str×V)->List (Str×V)
 |[]=>[(f,v)]
 |(g,x)::r=>if g=f then(g,v)::r else(g,x)::aL f v r
theorem ay(f g:Str)(v:V):∀fs:List (Str×V),(aL f v fs).lookup g=if g=f then some v else fs.lookup g
 |[]=>by
  show List.lookup g [(f,v)]=_
  by_cases h:g=f
  ·have hb:(g==f)=true:=beq_iff_eq.mpr h
   simp only[List.lookup,hb,if_pos h]
  ·have hb:(g==f)=false:=beq_eq_false_iff_ne.mpr h
   simp only[List.lookup,hb,if_neg h]
 |(k,x)::r=>by
  have ih:=ay f g v r
  rw[show aL f v ((k,x)::r)=(if k=f then(k,v)::r else(k,x)::aL f v r) from rfl]
  by_cases hk:k=f
  ·rw[if_pos hk]
   by_cases h:g=k
   ·have hb:(g==k)=true:=beq_iff_eq.mpr h
    simp only[List.lookup,hb,if_pos (h.trans hk)]
   ·have hb:(g==k)=false:=beq_eq_false_iff_ne.mpr h
    simp only[List.lookup,hb,if_neg (λe:g=f=>h (e.trans hk.symm))]
  ·rw[if_neg hk]
   by_cases h:g=k
   ·have hb:(g==k)=true:=beq_iff_eq.mpr h
    simp only[List.lookup,hb,if_neg (λe:g=f=>hk (h.symm.trans e))]
   ·have hb:(g==k)=false:=beq_eq_false_iff_ne.mpr h
    simp only[List.lookup,hb]
    exact ih
theorem qo(f:Str)(v:V):∀fs:List (Str×V),f∈(aL f v fs).map (·.1)/\∀g,g∈fs.map (·.1)->g∈(aL f v fs).map (·.1)
 |[]=>⟨by simp[aL],λg h=>by simp at h⟩
 |(k,x)::r=>by
  obtain⟨i1,i2⟩:=qo f v r
  rw[show aL f v ((k,x)::r)=(if k=f then(k,v)::r else(k,x)::aL f v r) from rfl]
  by_cases hk:k=f
  ·rw[if_pos hk]
   subst hk
   exact⟨by simp,λg h=>by simpa using h⟩
  ·rw[if_neg hk]
   refine⟨?_,λg h=>?_⟩
   ·rw[List.map_cons]
    exact List.mem_cons_of_mem _ i1
   ·rw[List.map_cons]at h ⊢
    rcases List.mem_cons.mp h with e|e
    ·exact List.mem_cons.mpr (.inl e)
    ·exact List.mem_cons_of_mem _ (i2 g e)
theorem se(f:Str)(v:V):∀fs:List (Str×V),(aL f v fs).length<=fs.length+1
 |[]=>by simp[aL]
 |(k,x)::r=>by
  have ih:=se f v r
  rw[show aL f v ((k,x)::r)=(if k=f then(k,v)::r else(k,x)::aL f v r) from rfl]
  by_cases hk:k=f
  ·rw[if_pos hk,List.length_cons,List.length_cons];omega
  ·rw[if_neg hk,List.length_cons,List.length_cons];omega
theorem qV.some_of{v:V}{o:Option Value}(r:qV (some v) o):∃u,o=some u/\RelV v u:=by
 cases o with
 |none=>exact(show False from r).elim
 |some u=>exact⟨u,rfl,r⟩
theorem S2{v:V}{u:Value}(r:RelV v u):PySem.W.handedIn u=true:=by
 cases v with
 |ko=>cases (show u=Value.none from r);rfl
 |bl b=>cases (show u=Value.bool b from r);rfl
 |int i=>obtain⟨t,e⟩:=(show ∃t,u=Value.int i t from r);cases e;rfl
 |str x=>obtain⟨t,e⟩:=(show ∃t,u=Value.str x t from r);cases e;rfl
 |RV b=>obtain⟨t,e⟩:=(show ∃t,u=Value.bytes b t from r);cases e;rfl
 |BB b=>obtain⟨t,e⟩:=(show ∃t,u=Value.float b t from r);cases e;rfl
 |ref a=>cases (show u=Value.ref a from r);rfl
 |ty n=>cases (show u=Value.type n from r);rfl
section
variable{P:Program}{w:World}{H H':Hp}{h h':Heap}{a C dx:Addr}{fs fs':List (Str×V)}
theorem yg(hok:qc P w H h)(e:H a=some (.ins C dx fs)):∃mA,To h a dx C mA/\(∀f,qV (fs.lookup f) (mA f))/\PySem.Within mA (fs.map (·.1))/\fs.length<=1000/\H dx=some (.own a):=by
 obtain⟨d,z,ne,ob,mA,n,r,q⟩:=(show c7 P w H h a (.ins C dx fs) from hok a _ e)
 exact⟨mA,⟨ob,n,ne⟩,r,q,z,d⟩
end
structure Ws(K:PySem.W.Frag)(C:Addr):Prop where
 pg:PySem.W.plainGet K C Str.empty=true
 hd:PySem.W.hasDictIn K C=true
 po:PySem.W.plainOver K C=true
 sa:PySem.W.findIn K (.ref C) "__setattr__" =some (some (.builtin "object.__setattr__"))
theorem Ws.get{K:PySem.W.Frag}{C:Addr}(c:Ws K C)(f:Str):PySem.W.plainGet K C f=true:=c.pg
noncomputable def bE(K:PySem.W.Frag)(C:Addr)(f:Str):Prop:=PySem.W.findIn K (.ref C) f=some none
theorem bE.Uc{K:PySem.W.Frag}{C:Addr}{f:Str}(n:bE K C f):PySem.W.takerIn K C f=some none:=by
 unfold PySem.W.takerIn
 rw[show PySem.W.findIn K (.ref C) f=some none from n]
 rfl
section
variable{X:Cx}{pins:List (Addr×Obj)}{σ:St}{H:Hp}{s:Shared}{a C dx:Addr}{fs:List (Str×V)}{f:Str}{v:V}{A:Around}{E:Value->Shared->Prop}
theorem Qx{b:Bool}{Q:Value->Shared->Prop}(I:Inv X pins σ H s)(e:H a=some (.ins C dx fs))(c:Ws X.K C)(n:bE X.K C f)(l:fs.lookup f=some v)
  (h:∀u s',Inv X pins σ H s'->RelV v u->Q u s'):wpAny (model X.prog X.w) A (getAttr (.ref a) f b) Q E s:=by
 obtain⟨mA,O,r,_,_,_⟩:=yg I.hok e
 obtain⟨u,hu,ru⟩:=qV.some_of (v:=v) (o:=mA f) (by rw[←l];exact r f)
 exact get_map I.rq O (c.get f) c.hd n hu (S2 ru) (h u _ (I.tok _) ru)
theorem PY{y:V}{u:Value}{Q:Unit->Shared->Prop}(I:Inv X pins σ H s)(e:H a=some (.ins C dx fs))(c:Ws X.K C)(n:bE X.K C f)(hl:fs.length<1000)(ry:RelV y u)
  (h:∀s',Inv X pins σ (upd H a (.ins C dx (aL f y fs))) s'->Q () s'):wpAny (model X.prog X.w) A (setAttr (.ref a) f u) Q E s:=by
 obtain⟨mA,O,r,wi,_,ho⟩:=yg I.hok e
 have hz:(fs.map (·.1)).length<=sizeLine:=by rw[List.length_map,sizeLine_eq];omega
 refine WE I.rq O c.sa c.po n.Uc c.hd wi hz λh' O' sb=>h _ ?_
 have hd:∃o,h'.get? dx=some o:=let ⟨o,_,_,e',_⟩:=O'.ns;⟨o,e'⟩
 refine I.write (x:=a) (e:=dx) (by rw[e];exact True.intro) (.inr ho) (λb q hb z=>(sb.2 b hb).trans z) hd ?_
 refine⟨by rw[aA O.ne];exact ho,?_,O.ne,O'.obj,_,O'.ns,λg=>?_,λg hg=>?_⟩
 ·have:=se f y fs;omega
 ·show qV ((aL f y fs).lookup g) (if g=f then some u else mA g)
  rw[ay]
  by_cases q:g=f
  ·rw[if_pos q,if_pos q];exact ry
  ·rw[if_neg q,if_neg q];exact r g
 ·by_cases q:g=f
  ·rw[q];exact(qo f y fs).1
  ·refine(qo f y fs).2 g (wi g λz=>hg ?_)
   show(if g=f then some u else mA g)=none
   rw[if_neg q];exact z
theorem Inv.made(I:Inv X pins σ H s):Inv X pins σ (upd (upd H s.heap.objs.size (.own (s.heap.objs.size+1))) (s.heap.objs.size+1) (.ins C s.heap.objs.size []))
  { s with heap:=(s.heap.push PySem.W.emptyDict).push (PySem.W.instObj C s.heap.objs.size) }:=by
 have e1:(s.heap.push PySem.W.emptyDict).get? s.heap.objs.size=some PySem.W.emptyDict:=Heap.get?_push_size s.heap rfl
 have e2:((s.heap.push PySem.W.emptyDict).push (PySem.W.instObj C s.heap.objs.size)).get? (s.heap.objs.size+1)=some (PySem.W.instObj C s.heap.objs.size):=by
  have:=Heap.get?_push_size (s.heap.push PySem.W.emptyDict) (o:=PySem.W.instObj C s.heap.objs.size) rfl
  rwa [Heap.size_push]at this
 have e3:(s.heap.push PySem.W.emptyDict).Ns s.heap.objs.size (λ_=>none):=⟨PySem.W.emptyDict,#[],_,e1,rfl,(λe he=>absurd he (by simp)),λ_=>rfl⟩
 have I1:=I.laid (a:=s.heap.objs.size) (o:=.own (s.heap.objs.size+1)) (h':=s.heap.push PySem.W.emptyDict) (t':=s.toks) (λb u q=>Heap.get?_push_of_some _ q) (Nat.le_refl _) ⟨_,e1⟩
 refine I1.laid (a:=s.heap.objs.size+1) (o:=.ins C s.heap.objs.size []) (t':=s.toks) (λb u q=>Heap.get?_push_of_some _ q) (Nat.le_of_eq (Heap.size_push _ _)) ?_
 have ne:s.heap.objs.size≠s.heap.objs.size+1:=Nat.ne_of_lt (Nat.lt_succ_self _)
 refine⟨by rw[aA ne,ah],Nat.zero_le _,ne,e2,λ_=>none,(Heap.Ns1.of_empty e3).at λo q=>Heap.get?_push_of_some _ q,λ_=>True.intro,λy hy=>absurd rfl hy⟩
theorem RX{prog:Program}{w:World}{env:Env}{e:Expr}{f:Str}{pos:Pos}{s:Shared}{Q:Value->Shared->Prop}(hb:attributeBase e f env (eval e env)=eval e env)
  (h:wpAny (model prog w) A (eval e env) (λo s₁=>wpAny (model prog w) A (getAttr o f true) Q E s₁) E s):wpAny (model prog w) A (eval (.Attribute e f pos) env) Q E s :=
 Attribute_any_ h (by rw[arm_eval_Attribute,hb])
end
noncomputable def af0(K:PySem.W.Frag)(ta:TE)(f:Str):TE:=λσ H Q=>ta σ H λx H1=>∃a C dx fs v,x= .ref a/\H1 a=some (.ins C dx fs)/\Ws K C/\bE K C f/\fs.lookup f=some v/\Q v H1
noncomputable def agb(K:PySem.W.Frag)(ta tv:TE)(f:Str):TS:=λD σ H=>tv σ H λy H1=>ta σ H1 λx H2=>∃a C dx fs,x= .ref a/\H2 a=some (.ins C dx fs)/\Ws K C/\bE K C f/\fs.length<1000 ∧
 D.nx σ (upd H2 a (.ins C dx (aL f y fs)))
section
variable{X:Cx}{o e value:Expr}{f:Str}{pos pos' tpos:Pos}{ta tv:TE}
theorem bG(he:PE X e ta)(hb:attributeBase e f X.env (eval e X.env)=eval e X.env):PE X (.Attribute e f pos) (af0 X.K ta f):=by
 intro pins s σ H Q I h
 refine RX hb (gB (he pins s σ H _ I h) λu s1 ⟨x,H1,I1,rx,a,C,dx,fs,v,ex,ea,c,n,l,q⟩=>?_)
 subst ex
 obtain rfl:u=Value.ref a:=rx
 exact Qx I1 ea c n l λu' s2 I2 ru=>⟨v,H1,I2,ru,q⟩
theorem jg(ha:PE X o ta)(hv:PE X value tv)(hs:swapsWith value (some (.Attribute o f pos')) pos.line X.env=pure false):PS X (.Assign [.Attribute o f pos'] value pos) (agb X.K ta tv f):=by
 intro pins s σ H D I h
 refine plainObj_wpAny_Assign_Attribute (gB (hv pins s σ H _ I h) λu s1 ⟨y,H1,I1,ry,q⟩=>gB (ha pins s1 σ H1 _ I1 q) λov s2 ⟨x,H2,I2,rx,a,C,dx,fs,ex,ea,c,n,l,q2⟩=>?_) hs
 subst ex
 obtain rfl:ov=Value.ref a:=rx
 exact PY I2 ea c n l ry λs3 I3=>⟨σ,_,I3,q2⟩
end
section
variable{X:Cx}{pins:List (Addr×Obj)}{σ:St}{H:Hp}{s:Shared}{A:Around}{E:Value->Shared->Prop}{Q:Value->Shared->Prop}{c:Value}{b:Bool}
inductive wL(K:PySem.W.Frag)(H:Hp):V->Value->Prop where
 |ko:wL K H .ko (.type "NoneType")
 |bl (x:Bool):wL K H (.bl x) (.type "bool")
 |int (i:Int):wL K H (.int i) (.type "int")
 |str (x:Str):wL K H (.str x) (.type "str")
 |BB (x:UInt64):wL K H (.BB x) (.type "float")
 |lst {a:Addr} {xs:List V} (e:H a=some (.lst xs)):wL K H (.ref a) (.type "list")
 |Qz {a:Addr} {o:Obj} {xs:List V} (e:H a=some (.Qz o (.lst xs))):wL K H (.ref a) (.type "list")
 |tup {a:Addr} {xs:List V} (e:H a=some (.tup xs)):wL K H (.ref a) (.type "tuple")
 |dK {a:Addr} {kvs:List (Key×V)} (e:H a=some (.dK kvs)):wL K H (.ref a) (.type "dict")
 |dT {a:Addr} {kvs:List (List Key×V)} (e:H a=some (.dT kvs)):wL K H (.ref a) (.type "dict")
 |ins {a C dx:Addr} {fs:List (Str×V)} (e:H a=some (.ins C dx fs)) (cl:Ws K C) (ha:PySem.W.findIn K (.ref C) "__class__" =some (some (.builtin "object.__class__")))
   (hn:PySem.W.specialIn K (.builtin "object.__class__") "__get__" =some (some (.builtin "getset_descriptor.__get__"))) (htk:PySem.W.takesIn K (.builtin "object.__class__")=some true)
   (hm:PySem.W.mroIn K C (.type "object")=some true):wL K H (.ref a) (.ref C)
theorem SQ{x:V}{u t:Value}(I:Inv X pins σ H s)(rx:RelV x u)(ty:wL X.K H x t)(e:PySem.W.kitOne X.K t c=some b)(h:∀tk,Q (.bool b) { s with toks:=tk }):
  wpAny (model X.prog X.w) A (call (.builtin "isinstance") [u,c]) Q E s:=by
 cases ty with
 |ko=>cases (show u=Value.none from rx);exact PySem.W.kia_one PySem.W.kitx_none I.rq True.intro e (λz=>nomatch z) h
 |bl y=>cases (show u=Value.bool y from rx);exact PySem.W.kia_one PySem.W.kitx_bool I.rq True.intro e (λz=>nomatch z) h
 |int i=>obtain⟨t,q⟩:=(show ∃t,u=Value.int i t from rx);cases q;exact PySem.W.kia_one PySem.W.kitx_int I.rq True.intro e (λz=>nomatch z) h
 |str y=>obtain⟨t,q⟩:=(show ∃t,u=Value.str y t from rx);cases q;exact PySem.W.kia_one PySem.W.kitx_str I.rq True.intro e (λz=>nomatch z) h
 |BB y=>obtain⟨t,q⟩:=(show ∃t,u=Value.float y t from rx);cases q;exact PySem.W.kia_one PySem.W.kitx_float I.rq True.intro e (λz=>nomatch z) h
 | @lst a xs ea =>
  cases (show u=Value.ref a from rx)
  obtain⟨_,_,n,_,h1⟩:=(show c7 X.prog X.w H s.heap a (.lst xs) from I.hok a _ ea)
  exact PySem.W.kia_one PySem.W.kitx_list I.rq ⟨_,h1,rfl⟩ e (λz=>nomatch z) h
 | @Qz a ob xs ea =>
  cases (show u=Value.ref a from rx)
  obtain⟨_,_,_,n,_,h1⟩:=(show c7 X.prog X.w H s.heap a (.Qz ob (.lst xs)) from I.hok a _ ea)
  exact PySem.W.kia_one PySem.W.kitx_list I.rq ⟨_,h1,rfl⟩ e (λz=>nomatch z) h
 | @tup a xs ea =>
  cases (show u=Value.ref a from rx)
  obtain⟨_,_,_,p⟩:=(show c7 X.prog X.w H s.heap a (.tup xs) from I.hok a _ ea)
  obtain⟨o,h1,h2,_⟩:=p
  exact PySem.W.kia_one PySem.W.kitx_tuple I.rq ⟨o,h1,h2⟩ e (λz=>nomatch z) h
 | @dK a kvs ea =>
  cases (show u=Value.ref a from rx)
  obtain⟨_,_,vs,_,p⟩:=(show c7 X.prog X.w H s.heap a (.dK kvs) from I.hok a _ ea)
  obtain⟨o,es,ep,h1,h2,_⟩:=p
  exact PySem.W.kia_one PySem.W.kitx_dict I.rq ⟨o,h1,h2.1⟩ e (λz=>nomatch z) h
 | @dT a kvs ea =>
  cases (show u=Value.ref a from rx)
  obtain⟨_,_,xs,_,o,es,ep,h1,h2,_⟩:=(show c7 X.prog X.w H s.heap a (.dT kvs) from I.hok a _ ea)
  exact PySem.W.kia_one PySem.W.kitx_dict I.rq ⟨o,h1,h2.1⟩ e (λz=>nomatch z) h
 | @ins a C dx fs ea cl ha hn htk hm =>
  cases (show u=Value.ref a from rx)
  obtain⟨mA,O,_⟩:=yg I.hok ea
  obtain⟨od,J,_⟩:=O.look
  exact PySem.W.kia_one (PySem.W.kitx_own (cl.get _) cl.hd ha hn htk hm) I.rq J e (λz=>nomatch z) h
end
end L2
namespace L2
open PySem PySem.Spec PyProof.Rows
structure nQ(k:Nat)(A:Around):Prop where
 hd:A.handled=none
 dp:A.depth+3*k+5<recursionLimit
 un:A.units+16*k+200<cLine
theorem nQ.mono{j k:Nat}{A:Around}(r:nQ k A)(h:j<=k):nQ j A:=⟨r.hd,by have:=r.dp;omega,by have:=r.un;omega⟩
theorem nQ.deeper{k:Nat}{A:Around}(r:nQ (k+1) A)(env:Env):nQ k (A.deeper env) :=
 ⟨r.hd,by have:=r.dp;show A.depth+1+3*k+5<_;omega,by have:=r.un;show A.units+3+16*k+200<_;omega⟩
theorem Qq{A:Around}{C:Addr}{us:List Value}{kw:List (Str×Value)}:(A.under (.builtin "type.__call__" ⟨.ref C::us,kw⟩)).depth=A.depth+1:=by
 first|rfl|simp[Around.under,Code.weight,Code.isCreation,Code.isGuard,Code.isCaller,Code.frames,Code.isFrame,guardIds]
theorem Qp{A:Around}{C:Addr}{us:List Value}{kw:List (Str×Value)}:(A.under (.builtin "type.__call__" ⟨.ref C::us,kw⟩)).units=A.units+1:=by
 first|rfl|simp[Around.under,Code.cUnits,Code.frames,Code.isFrame]
theorem nQ.make{k:Nat}{A:Around}(r:nQ (k+1) A)(C:Addr)(us:List Value)(kw:List (Str×Value)):nQ k (A.under (.builtin "type.__call__" ⟨.ref C::us,kw⟩)) :=
 ⟨r.hd,by have:=r.dp;rw[Qq];omega,by have:=r.un;rw[Qp];omega⟩
theorem nQ.depth{k:Nat}{A:Around}(r:nQ k A):A.depth<recursionLimit:=by have:=r.dp;omega
theorem nQ.units{k:Nat}{A:Around}(r:nQ k A):A.units+64<cLine:=by have:=r.un;omega
noncomputable def afV:TA:=λ_ H Q=>Q [] H
noncomputable def abF(ta:TE)(tr:TA):TA:=λσ H Q=>ta σ H λx H1=>tr σ H1 λxs H2=>Q (x::xs) H2
section
variable{X:Cx}{e:Expr}{es:List Expr}{te:TE}{t:TA}{pos:Pos}
theorem af:PA X [] afV:=λ_ _ _ _ H Q I h=>Calls.spliced_nil ⟨[],H,I,.nil,h⟩
theorem aa(ha:PE X e te)(hr:PA X es t)(hs:starEach (e::es) X.env=(false,eval e X.env)::starEach es X.env:=by rfl):PA X (e::es) (abF te t):=by
 intro pos pins s σ H Q I h
 rw[hs]
 show wpAny _ _ (spliced ((false,eval e X.env)::backTo pos (starEach es X.env))) _ _ s
 refine Calls.spliced_cons (gB (ha pins s σ H _ I h) λu s1 ⟨x,H1,I1,r1,q1⟩=>?_)
 exact gB (hr pos pins s1 σ H1 _ I1 q1) λus s2 ⟨xs,H2,I2,r2,q2⟩=>⟨x::xs,H2,I2,.cons r1 r2,q2⟩
noncomputable def afQ(t:TA):TE:=λσ H Q=>t σ H λxs H1=>xs.length<=sizeLine/\∀p,H1 p=none->Q (.ref p) (upd H1 p (.tup xs))
noncomputable def afX(t:TA):TE:=λσ H Q=>t σ H λxs H1=>xs.length<=sizeLine/\∀p,H1 p=none->Q (.ref p) (upd H1 p (.lst xs))
theorem oU{x1}(h:PA X es t):PE X (.Tuple es x1 pos) (afQ t):=by
 intro pins s σ H Q I hq
 refine wpAny_Tuple_spliced (gB (h pos pins s σ H _ I hq) λus s1 ⟨xs,H1,I1,r,z,q⟩=>⟨by rw[←r.length];exact z,?_⟩)
 have hf:H1 s1.heap.objs.size=none:=I1.hok.fresh (Nat.le_refl _)
 refine⟨.ref s1.heap.objs.size,upd H1 s1.heap.objs.size (.tup xs),I1.laid (t':=s1.toks) (λb u e=>Heap.get?_push_of_some _ e) (Nat.le_refl _) ?_,rfl,q _ hf⟩
 exact⟨z,us,r,⟨_,Heap.get?_push_size _ rfl,rfl,_,rfl⟩⟩
theorem gj(h:PA X es t):PE X (.List es pos) (afX t):=by
 intro pins s σ H Q I hq
 refine wpAny_List_spliced (gB (h pos pins s σ H _ I hq) λus s1 ⟨xs,H1,I1,r,z,q⟩=>⟨by rw[←r.length];exact z,?_⟩)
 have hf:H1 s1.heap.objs.size=none:=I1.hok.fresh (Nat.le_refl _)
 refine⟨.ref s1.heap.objs.size,upd H1 s1.heap.objs.size (.lst xs),I1.laid (t':=s1.toks) (λb u e=>Heap.get?_push_of_some _ e) (Nat.le_refl _) ?_,rfl,q _ hf⟩
 exact⟨z,us,0,r,Heap.get?_push_size _ rfl⟩
end
noncomputable abbrev Sp:=List V->Hp->VK->XK->Prop
noncomputable abbrev Tt:=List Env->Hp->Shared->XK->Value->Shared->Prop
structure QY(P:Program)(w:World)(K:PySem.W.Frag)(mg:Str->Option Value)(base:Heap)(A:Around)(outer:List Env)(s:Shared)(H:Hp):Prop where
 frames:A.frames=some outer
 mod:Mod K mg base
 bs:∀b o,base.get? b=some o->s.heap.get? b=some o/\H b=none
 V0:base.objs.size<=s.heap.objs.size
 uB:s.heap.FunFrames base outer
 Xj:∀b∈frs outer,H b=none
 hok:qc P w H s.heap
 bare:AllBare s.gens
 tk:OY mg s.toks
noncomputable def CE(outer:List Env)(P:Program)(w:World)(H:Hp)(s:Shared)(Q:VK)(u:Value)(s':Shared):Prop :=
 ∃v H',s'.os=s.os/\AllBare s'.gens/\Un (frs outer) [] H H' s.heap s'.heap/\qc P w H' s'.heap/\RelV v u/\s.toks<=s'.toks/\Q v H'
noncomputable def CR(CX:Tt)(outer:List Env)(P:Program)(w:World)(H:Hp)(s:Shared)(Q:VK)(E:XK)(r:Result)(s':Shared):Prop :=
 match r with
 | .ok (.ret u)=>CE outer P w H s Q u s'
 | .ok _=>False
 | .error e=>CX outer H s E e s'
structure aH(P:Program)(w:World)(K:PySem.W.Frag)(mg:Str->Option Value)(base:Heap)(CX:Tt)(k:Nat)(f:Addr)(fd:FuncData)(ps:List Str)(sp:Sp):Prop where
 len:∀vs H Q E,sp vs H Q E->vs.length=ps.length
 run:∀(A:Around) (outer:List Env) (s:Shared) (H:Hp) (args:Args) (us:List Value) (vs:List V) (Q:VK) (E:XK),nQ k A->QY P w K mg base A outer s H->BindsTo s fd args (ps.zip us)->Vals vs us->sp vs H Q E →
  codeAny (model P w) A (.call (.ref f) args) (CR CX outer P w H s Q E) s
theorem QY.make{P:Program}{w:World}{K:PySem.W.Frag}{mg:Str->Option Value}{base:Heap}{A:Around}{outer:List Env}{s:Shared}{H:Hp}(e:QY P w K mg base A outer s H)(C:Addr)(us:List Value)(kw:List (Str×Value)):
  QY P w K mg base (A.under (.builtin "type.__call__" ⟨.ref C::us,kw⟩)) outer s H:=⟨by first|exact e.frames|(simpa[Around.under,Code.envs,Code.isFrame,pushEnvs]using e.frames),e.mod,e.bs,e.V0,e.uB,e.Xj,e.hok,e.bare,e.tk⟩
section
variable{X:Cx}{pins:List (Addr×Obj)}{σ:St}{H:Hp}{s s':Shared}
theorem Inv.Xo(I:Inv X pins σ H s):QY X.prog X.w X.K X.mg X.base X.A X.stack s H :=
 ⟨I.ok.frames,I.ok.mod,I.bs,Nat.le_trans I.ok.V0 I.sz,I.stack,I.Gi,I.hok,I.bare,I.tk⟩
theorem Inv.after{Q:VK}{u:Value}(I:Inv X pins σ H s)(h:CE X.stack X.prog X.w H s Q u s'):EP X pins σ Q u s':=by
 obtain⟨v,H',os,bare,un,hok,r,tt,q⟩:=h
 obtain⟨hh,g,d,t,os'⟩:=s'
 obtain rfl:os'=s.os:=os
 exact⟨v,H',I.call (h':=hh) (g':=g) (d':=d) (t':=t) (ch:=[]) un hok bare (λb z=>absurd z (by simp)) (Nat.le_trans I.up tt),r,q⟩
end
noncomputable def abG(sp:Sp)(zZ:List V)(E:XK)(t:TA):TE:=λσ H Q=>t σ H λvs H1=>sp (vs++zZ) H1 Q E
noncomputable def abB(C:Addr)(sp:Sp)(zZ:List V)(E:XK)(t:TA):TE:=λσ H Q=>t σ H λvs H1=>∀x dx,H1 x=none->H1 dx=none->dx≠x →
 sp (.ref x::(vs++zZ)) (upd (upd H1 dx (.own x)) x (.ins C dx [])) (λv H2=>v= .ko/\Q (.ref x) H2) E
noncomputable def Binds(K:PySem.W.Frag)(fd:FuncData)(ps:List Str)(ds:List Value):Prop :=
 ∀(s:Shared) (us:List Value),K.In s.heap->(us++ds).length=ps.length->BindsTo s fd ⟨us,[]⟩ (ps.zip (us++ds))
theorem Binds.all{K:PySem.W.Frag}{fd:FuncData}{ps:List Str}(h:∀us:List Value,us.length=ps.length->bindArgs fd ⟨us,[]⟩=pure (ps.zip us)):Binds K fd ps []:=λs us _ hl=>by
 rw[List.append_nil]at hl ⊢
 exact .of_eq (h us hl)
noncomputable def Passes(CX:Tt)(X:Cx)(E:XK):Prop:=∀(pins:List (Addr×Obj)) (σ:St) (H:Hp) (s:Shared) (e:Value) (s':Shared),Inv X pins σ H s->CX X.stack H s E e s'->X.xe e s'
section
variable{X:Cx}{CX:Tt}{k:Nat}{f C:Addr}{fd:FuncData}{ps:List Str}{sp:Sp}{zZ:List V}{ds:List Value}{E:XK}{x m:Str}{p pos apos:Pos}{e o:Expr}{es:List Expr}{ta:TE}{t:TA}
theorem ZW{pins:List (Addr×Obj)}{σ:St}{H:Hp}{s:Shared}{Q:VK}{us:List Value}{vs:List V}(F:aH X.prog X.w X.K X.mg X.base CX k f fd ps sp)(hr:nQ k X.A)(hb:Binds X.K fd ps ds)(hd:Vals zZ ds)(hx:Passes CX X E)
  (I:Inv X pins σ H s) (r:Vals vs us) (h:sp (vs++zZ) H Q E):wpAny (model X.prog X.w) X.A (call (.ref f) us) (EP X pins σ Q) X.xe s:=by
 have r2:Vals (vs++zZ) (us++ds):=r.append hd
 have hl:(us++ds).length=ps.length:=by rw[←r2.length];exact F.len _ _ _ _ h
 refine wpAny_call (codeAny_mono (F.run X.A X.stack s H ⟨us,[]⟩ (us++ds) (vs++zZ) Q E hr I.Xo (hb s us I.rq hl) r2 h) λr s' hq=>?_)
 cases r with
 |error e=>exact hx pins σ H s e s' I hq
 |ok fl =>
  cases fl with
  |ret u=>exact I.after hq
  |next=>exact False.elim hq
  |brk=>exact False.elim hq
  |cont=>exact False.elim hq
theorem az(F:aH X.prog X.w X.K X.mg X.base CX k f fd ps sp)(hr:nQ k X.A)(hg:Gl X x)(hm:X.mg x=some (.ref f))(hk:PySem.W.keepIn X.K (.ref f)=true)(hb:Binds X.K fd ps ds)(hd:Vals zZ ds)(hx:Passes CX X E)
  (ha:PA X (e::es) t) (hdb:(x==("__debug__" :Str))=false:=by decide) (he:starEach (e::es) X.env=(false,eval e X.env)::starEach es X.env:=by rfl) (hpl:(backTo pos (starEach es X.env)).any (·.1)=false:=by rfl) :
  PE X (.Call (.Name x p) (e::es) [] pos) (abG sp zZ E t):=by
 intro pins s σ H Q I h
 refine wpAny_Call_Name_kw (oF I hg hm ?_ hdb)
 refine PySem.W.callWith_K (h₀:=X.base) I.ok.mod.XY hk (gB (ha pos pins s σ H _ I h) λus s1 ⟨vs,H1,I1,r,q⟩=>⟨I1.rq,?_⟩) he hpl
 exact ZW F hr hb hd hx I1 r q
structure Mk(K:PySem.W.Frag)(C f:Addr):Prop where
 makes:PySem.W.makesIn K C=true
 init:PySem.W.findIn K (.ref C) "__init__" =some (some (.ref f))
 fn:PySem.W.isFn K (.ref f)=true
 kp:PySem.W.keepIn K (.ref C)=true
theorem UC{pins:List (Addr×Obj)}{σ:St}{H:Hp}{s:Shared}{Q:VK}{us:List Value}{vs:List V}(M:Mk X.K C f)(F:aH X.prog X.w X.K X.mg X.base CX k f fd ps sp)(hr:nQ (k+1) X.A)(hb:Binds X.K fd ps ds)(hd:Vals zZ ds)
  (hx:Passes CX X E) (I:Inv X pins σ H s) (r:Vals vs us)
  (h:∀x dx,H x=none->H dx=none->dx≠x->sp (.ref x::(vs++zZ)) (upd (upd H dx (.own x)) x (.ins C dx [])) (λv H2=>v= .ko/\Q (.ref x) H2) E) :
  wpAny (model X.prog X.w) X.A (call (.ref C) us) (EP X pins σ Q) X.xe s:=by
 have hq:=h (s.heap.objs.size+1) s.heap.objs.size (I.hok.fresh (Nat.le_succ _)) (I.hok.fresh (Nat.le_refl _)) (Nat.ne_of_lt (Nat.lt_succ_self _))
 have I2:=Inv.made (C:=C) I
 have r2:Vals (V.ref (s.heap.objs.size+1)::(vs++zZ)) (Value.ref (s.heap.objs.size+1)::(us++ds)):=.cons rfl (r.append hd)
 have hl:(Value.ref (s.heap.objs.size+1)::us++ds).length=ps.length:=by
  have e:=r2.length
  rw[F.len _ _ _ _ hq]at e
  exact e.symm
 refine wpAny_call (U9 (f:=f) I.rq M.makes M.init (beq_iff_eq.mp M.fn) (codeAny_mono (F.run _ X.stack _ _ ⟨Value.ref (s.heap.objs.size+1)::us,[]⟩ (Value.ref (s.heap.objs.size+1)::(us++ds)) _ _ E (hr.make C us [])
  (I2.Xo.make C us []) (hb _ (Value.ref (s.heap.objs.size+1)::us) I2.rq hl) r2 hq) λr s' hq'=>?_))
 cases r with
 |error e=>exact hx pins σ _ _ e s' I2 hq'
 |ok fl =>
  cases fl with
  |ret u =>
   obtain⟨v,H',I3,rv,ev,q3⟩:=I2.after hq'
   subst ev
   exact⟨rv,⟨V.ref (s.heap.objs.size+1),H',I3,rfl,q3⟩⟩
  |next=>exact False.elim hq'
  |brk=>exact False.elim hq'
  |cont=>exact False.elim hq'
theorem oB(M:Mk X.K C f)(F:aH X.prog X.w X.K X.mg X.base CX k f fd ps sp)(hr:nQ (k+1) X.A)(hg:Gl X x)(hm:X.mg x=some (.ref C))(hb:Binds X.K fd ps ds)(hd:Vals zZ ds)(hx:Passes CX X E)
  (ha:PA X (e::es) t) (hdb:(x==("__debug__" :Str))=false:=by decide) (he:starEach (e::es) X.env=(false,eval e X.env)::starEach es X.env:=by rfl) (hpl:(backTo pos (starEach es X.env)).any (·.1)=false:=by rfl) :
  PE X (.Call (.Name x p) (e::es) [] pos) (abB C sp zZ E t):=by
 intro pins s σ H Q I h
 refine wpAny_Call_Name_kw (oF I hg hm ?_ hdb)
 refine PySem.W.callWith_K (h₀:=X.base) I.ok.mod.XY M.kp (gB (ha pos pins s σ H _ I h) λus s1 ⟨vs,H1,I1,r,q⟩=>⟨I1.rq,?_⟩) he hpl
 exact UC M F hr hb hd hx I1 r q
end
section
variable{X:Cx}{CX:Tt}{k:Nat}{f C:Addr}{fd:FuncData}{ps ks:List Str}{sp:Sp}{E:XK}{x m:Str}{p pos apos kpos:Pos}{e o:Expr}{es:List Expr}{kws:List Keyword}{te ta:TE}{t tk:TA}{nm:Option Str}
variable{g:List Value->List Value->List Value}{gV:List V->List V->List V}
end
structure aG(N P:List Str)(sc:Scope):Prop where
 kind:sc.kind= .function
 co:sc.isCoroutine=false
 gen:sc.isGenerator=false
 nd:N.Nodup
 pre:N.take P.length=P
 par:∀x∈P,sc.names.lookup x=some .local\/sc.names.lookup x=some .cell
 aae:∀y∈sc.names,y.2≠ .free
theorem Bl{kindOf:Str->Option NameKind}{x:Str}:∀{binds:List (Str×Value)} {m:Str->Option Value},(∀v,(x,v)∉binds)->bindL kindOf binds m x=m x
 |[],_,_=>rfl
 |(n,v)::r,m,h=>by
  unfold bindL
  rw[Bl λw hw=>h w (List.mem_cons_of_mem _ hw)]
  split
  ·have:x≠n:=by rintro rfl;exact h v List.mem_cons_self
   simp[this]
  ·rfl
theorem Bo{kindOf:Str->Option NameKind}{x:Str}:∀{binds:List (Str×Value)} {m:Str->Option Value},(∀v,(x,v)∉binds)->bindC kindOf binds m x=m x
 |[],_,_=>rfl
 |(n,v)::r,m,h=>by
  unfold bindC
  rw[Bo λw hw=>h w (List.mem_cons_of_mem _ hw)]
  split
  ·rfl
  ·have:x≠n:=by rintro rfl;exact h v List.mem_cons_self
   simp[this]
theorem Bm{kindOf:Str->Option NameKind}{x:Str}{v:Value}:∀{P:List Str} {vs:List Value} {i:Nat} {m:Str->Option Value},P.Nodup->P[i]? =some x->vs[i]? =some v->kindOf x=some .local →
  bindL kindOf (P.zip vs) m x=some v
 |[],_,_,_,_,h,_,_=>by simp at h
 |_::_,[],_,_,_,_,h,_=>by simp at h
 |p::P,w::vs,0,m,nd,h1,h2,hk=>by
  simp at h1 h2;subst h1;subst h2
  show bindL kindOf ((p,w)::P.zip vs) m p=_
  unfold bindL
  rw[Bl λv hv=>(List.nodup_cons.mp nd).1 (List.of_mem_zip hv).1,if_pos hk]
  simp
 |p::P,w::vs,i+1,m,nd,h1,h2,hk=>by
  show bindL kindOf ((p,w)::P.zip vs) m x=_
  unfold bindL
  exact Bm (i:=i) (List.nodup_cons.mp nd).2 (by simpa using h1) (by simpa using h2) hk
theorem Bp{kindOf:Str->Option NameKind}{x:Str}{v:Value}:∀{P:List Str} {vs:List Value} {i:Nat} {m:Str->Option Value},P.Nodup->P[i]? =some x->vs[i]? =some v->kindOf x≠some .local →
  bindC kindOf (P.zip vs) m x=some v
 |[],_,_,_,_,h,_,_=>by simp at h
 |_::_,[],_,_,_,_,h,_=>by simp at h
 |p::P,w::vs,0,m,nd,h1,h2,hk=>by
  simp at h1 h2;subst h1;subst h2
  show bindC kindOf ((p,w)::P.zip vs) m p=_
  unfold bindC
  rw[Bo λv hv=>(List.nodup_cons.mp nd).1 (List.of_mem_zip hv).1,if_neg hk]
  simp
 |p::P,w::vs,i+1,m,nd,h1,h2,hk=>by
  show bindC kindOf ((p,w)::P.zip vs) m x=_
  unfold bindC
  exact Bp (i:=i) (List.nodup_cons.mp nd).2 (by simpa using h1) (by simpa using h2) hk
noncomputable def start(N:List Str)(vs:List V):St:=vs.map some++List.replicate (N.length-vs.length) none
noncomputable def wC(CX:Tt)(P:Program)(w:World)(K:PySem.W.Frag)(mg:Str->Option Value)(base:Heap)(N:List Str)(qual:Str)(scope:Scope)(f:Addr)(cd:Value)(A:Around)(outer:List Env)(s:Shared)(H:Hp)(E:XK):Cx where
 prog:=P
 w:=w
 K:=K
 mg:=mg
 base:=base
 A:=A.deeper (envOfC qual scope s.heap.objs.size f cd)
 N:=N
 s₀:=s
 H₀:=H
 env:=envOfC qual scope s.heap.objs.size f cd
 outer:=outer
 stack:=envOfC qual scope s.heap.objs.size f cd::outer
 ex:=[]
 calm:=true
 fn:=λ_=>true
 pn:=[]
 xe:=λe s'=>wpAny (model P w) (A.deeper (envOfC qual scope s.heap.objs.size f cd)) (leaving (envOfC qual scope s.heap.objs.size f cd) e) (λ_ s''=>CX outer H s E e s'') (λe' s''=>CX outer H s E e' s'') s'
theorem OS{sc:Scope}{n:Nat}{x:Str}(h:sc.names.lookup x=some .cell):∃c,(cellsFrom n sc.names []).lookup x=some c:=by
 have q:=PySem.W.cellsFrom_some sc.names n [] (.inl h)
 exact Option.isSome_iff_exists.mp q
theorem SR{CX:Tt}{P:Program}{w:World}{K:PySem.W.Frag}{mg:Str->Option Value}{base:Heap}{N ps:List Str}{qual:Str}{scope:Scope}{f:Addr}{cd:Value}{A:Around}{outer:List Env}{s s1:Shared}{H:Hp}{E:XK}{us:List Value}{vs:List V}
  (S:aG N ps scope) (hd:A.handled=none) (e0:QY P w K mg base A outer s H) (hl:vs.length=ps.length) (r:Vals vs us)
  (x:InCallC s s.heap.objs.size (bindL (envOfC qual scope s.heap.objs.size f cd).kindOf (ps.zip us) λ_=>none) (cellsFrom (s.heap.objs.size+1) scope.names []) (bindC (envOfC qual scope s.heap.objs.size f cd).kindOf (ps.zip us) λ_=>none) s1) (hup:s.toks<=s1.toks) :
  Inv (wC CX P w K mg base N qual scope f cd A outer s H E) [] (start N vs) H s1:=by
 have hpl:ps.length<=N.length:=by have:=congrArg List.length S.pre;rw[List.length_take]at this;omega
 obtain⟨h1,tk,rfl,hk⟩:=x.done
 have htk:s.toks<=tk:=hup
 have B8:∀b:Addr,b∉(wC CX P w K mg base N qual scope f cd A outer s H E).ex:=λb z=>absurd (show b∈([]:List Addr) from z) (by simp)
 refine⟨⟨e0.mod,S.kind,rfl,rfl,Nat.le_refl _,λy z c h1 h2=>?_,λy hy=>?_,λy c _ h=>?_,λ_=>hd,Around.frames_deeper e0.frames,.inr ⟨rfl,rfl⟩,λb z=>absurd z (B8 b),e0.bs,e0.V0,λb _ _=>B8 b,λb z=>absurd z (B8 b),e0.uB,e0.Xj,e0.tk⟩,
  rfl,e0.bare,Un.kept hk,⟨_,x.toInCall.ns,λi y v h1 h2 h3=>?_⟩,λy c h=>⟨_,x.cell y c h⟩,e0.hok.fresh (Nat.le_refl _),λy c h=>?_,λp hp=>absurd (show p∈([]:List (Addr×Obj)) from hp) (by simp),e0.hok.kept hk,?_,htk⟩
 ·exact name_of_addr x.apart (PySem.mem_of_lookup h1) (PySem.mem_of_lookup h2)
 ·have hy:scope.names.lookup y=some .cell\/scope.names.lookup y=some .free:=hy
  rcases hy with hy|hy
  ·exact OS hy
  ·exact absurd rfl (S.aae _ (PySem.mem_of_lookup hy))
 ·exact Nat.le_of_lt (x.above y c (PySem.mem_of_lookup h))
 ·have hi:i<vs.length:=by
   unfold start at h2
   by_cases hi:i<vs.length
   ·exact hi
   ·rw[List.getElem?_append_right (by simpa using hi)]at h2
    rw[List.getElem?_replicate]at h2
    split at h2<;>cases h2
  have ha:vs[i]? =some v:=by
   unfold start at h2
   rw[List.getElem?_append_left (by simpa using hi),List.getElem?_map]at h2
   cases e:vs[i]? with
   |none=>rw[e]at h2;cases h2
   |some a=>rw[e]at h2;cases h2;rfl
  obtain⟨u,hu,rv⟩:=r.get ha
  have hp:ps[i]? =some y:=by
   rw[←S.pre,List.getElem?_take_of_lt (by omega)];exact h1
  have I0:ps.Nodup:=by rw[←S.pre];exact S.nd.sublist (List.take_sublist _ _)
  refine⟨u,rv,?_⟩
  rcases S.par y (List.mem_of_getElem? hp)with k|k
  ·exact .inl ⟨k,Bm I0 hp hu k⟩
  ·obtain⟨c,e⟩:=OS (n:=s.heap.objs.size+1) k
   refine .inr ⟨.inl k,c,e,?_⟩
   have q:=x.cell y c e
   rw[Bp I0 hp hu (by show scope.names.lookup y≠_;rw[k];decide)]at q
   exact q
 ·exact e0.hok.fresh (Nat.le_of_lt (x.above y c (PySem.mem_of_lookup h)))
 ·unfold start
  show _=N.length
  rw[List.length_append,List.length_map,List.length_replicate]
  omega
theorem Yh{CX:Tt}{P:Program}{w:World}{K:PySem.W.Frag}{mg:Str->Option Value}{base:Heap}{k:Nat}{f:Addr}{name qual:Str}{params:Arguments}{body:List Stmt}{scope:Scope}{dV kV doc pm cdv ct oc:Value}{an od:Option Addr}
  {osl:Array (Option Value)} {N ps:List Str} {sp:Sp} (lk:K.lookup f=some ⟨oc,od,.func (PySem.W.fnOf name qual params body scope dV kV doc pm an cdv ct),osl⟩) (hcd:PySem.W.codeIn K cdv qual=true) (S:aG N ps scope)
  (len:∀vs H Q E,sp vs H Q E->vs.length=ps.length)
  (hbody:∀(A:Around) (outer:List Env) (s:Shared) (H:Hp) (vs:List V) (Q:VK) (E:XK),nQ k (A.deeper (envOfC qual scope s.heap.objs.size f cdv))->sp vs H Q E →
   ∃t,HP (wC CX P w K mg base N qual scope f cdv A outer s H E) body t/\t { nx:=λ_ H'=>Q .ko H',rt:=Q } (start N vs) H) :
  aH P w K mg base CX (k+1) f (PySem.W.fnOf name qual params body scope dV kV doc pm an cdv ct) ps sp:=by
 refine⟨len,λA outer s H args us vs Q E hr e0 hb r Wh=>?_⟩
 have hl:=len _ _ _ _ Wh
 have KX:K.In s.heap:=e0.mod.XY.keeps λb o e=>(e0.bs b o e).1
 have lim:s.heap.NoLimit:=e0.mod.nolimit.keeps λb o e=>(e0.bs b o e).1
 have hkind:∀y∈ps.zip us,scope.names.lookup y.1=some .local\/(scope.names.lookup y.1=some .cell/\((cellsFrom (s.heap.objs.size+1) scope.names []).lookup y.1).isSome=true):=λ⟨n,v⟩ hy=>by
  rcases S.par n (List.of_mem_zip hy).1 with q|q
  ·exact .inl q
  ·exact .inr ⟨q,PySem.W.cellsFrom_some _ _ _ (.inl q)⟩
 refine TK.QH (Nat.le_refl _) ?_
 refine codeAny_call_function hr.depth (KX _ _ lk) rfl S.co S.gen rfl (PySem.W.codeRec_of KX hcd) (hb _ _ _ _ ?_)
 refine TK.cZ (Nat.le_refl _) (wpAny_newFunctionEnv_cells S.kind hkind λenv he s1 x hup=>?_)
 subst he
 refine⟨lim.keeps x.toInCall.keep,codeAny_func ?_⟩
 obtain⟨t,ht,hq⟩:=hbody A outer s H vs Q E (hr.deeper _) Wh
 have I:Inv (wC CX P w K mg base N qual scope f cdv A outer s H E) [] (start N vs) H s1:=SR S hr.hd e0 hl r x hup
 refine wpAny_mono (ht [] s1 (start N vs) H _ I hq) (λfl s' hs agP=>?_) λe s' hs=>wpAny_mono hs (λ_ _ z _=>z) λ_ _ z _=>z
 have fin:∀{σ':St} {H':Hp} {v:V} {u:Value},Inv (wC CX P w K mg base N qual scope f cdv A outer s H E) [] σ' H' s'->RelV v u->Q v H'->CE outer P w H s Q u s' :=
  λ{σ' H' v u} J rv q=>⟨v,H',J.os,J.bare,J.base,J.hok,rv,agP,q⟩
 cases fl with
 |ret u =>
  obtain⟨v,σ',H',J,rv,q⟩:=hs
  exact fin J rv q
 |next =>
  obtain⟨σ',H',J,q⟩:=hs
  exact fin (v:=V.ko) (u:=Value.none) J rfl q
 |brk =>
  obtain⟨_,_,_,q⟩:=hs
  exact False.elim q
 |cont =>
  obtain⟨_,_,_,q⟩:=hs
  exact False.elim q
end L2
namespace L2
open PySem PySem.Spec PyProof.Rows
section
variable{X:Cx}{x:Str}{p pos:Pos}{e:Expr}{es:List Expr}{t:TA}{id T:String}{r:List V->Hp->VK->Prop}
noncomputable def IG(r:List V->Hp->VK->Prop)(t:TA):TE:=λσ H Q=>t σ H λvs H1=>r vs H1 Q
theorem aC (hc:mF X (.builtin id) r) (hg:Gl X x) (hm:X.mg x=none) (hv:bootBuiltins x=some (.builtin id)) (ha:PA X (e::es) t) (hn:x≠ "__name__" :=by decide) (hdb:(x==("__debug__" :Str))=false:=by decide)
  (he:starEach (e::es) X.env=(false,eval e X.env)::starEach es X.env:=by rfl) (hpl:(backTo pos (starEach es X.env)).any (·.1)=false:=by rfl):PE X (.Call (.Name x p) (e::es) [] pos) (IG r t):=by
 intro pins s σ H Q I h
 refine wpAny_Call_Name_kw (qS I hg hm hv ?_ hn hdb)
 exact PyProof.Rows.callWith_builtin1 (gB (ha pos pins s σ H _ I h) λus s1 ⟨vs,H1,I1,r1,q1⟩=>hc pins s1 σ H1 vs us Q I1 r1 q1) he hpl
theorem oK (hc:mF X (.type T) r) (hg:Gl X x) (hm:X.mg x=none) (hv:bootBuiltins x=some (.type T)) (ha:PA X (e::es) t) (hn:x≠ "__name__" :=by decide) (hdb:(x==("__debug__" :Str))=false:=by decide)
  (he:starEach (e::es) X.env=(false,eval e X.env)::starEach es X.env:=by rfl) (hpl:(backTo pos (starEach es X.env)).any (·.1)=false:=by rfl):PE X (.Call (.Name x p) (e::es) [] pos) (IG r t):=by
 intro pins s σ H Q I h
 refine wpAny_Call_Name_kw (qS I hg hm hv ?_ hn hdb)
 exact PyProof.Rows.callWith_type1 (gB (ha pos pins s σ H _ I h) λus s1 ⟨vs,H1,I1,r1,q1⟩=>hc pins s1 σ H1 vs us Q I1 r1 q1) he hpl
end
end L2
namespace HT
open PySem PyProof.Rows
noncomputable def lexLt:List Int->List Int->Bool
 |[],[]=>false
 |[],_::_=>true
 |_::_,[]=>false
 |x::xs,y::ys=>if x=y then lexLt xs ys else decide (x<y)
theorem uz(x y:Int)(xs ys:List Int):lexLt (x::xs) (y::ys)=if x=y then lexLt xs ys else decide (x<y):=rfl
theorem Am:lexLt [] []=false:=rfl
theorem zd(y:Int)(ys:List Int):lexLt [] (y::ys)=true:=rfl
theorem zh(x:Int)(xs:List Int):lexLt (x::xs) []=false:=rfl
theorem VN(A:Around)(s:Shared)(a:Int)(t:Tok)(c:Int)(u:Tok):∃e,SeqAt.EqAt A s (.int a t) (.int c u) e/\(e=true↔a=c) :=
 ⟨(a==c),SeqAt.EqAt.int_int a t c u,by simp⟩
theorem UH(A:Around)(s:Shared)(a:Int)(t:Tok)(c:Int)(u:Tok)(prog:Program)(w:World)(E:Value->Shared->Prop)(Q:Value->Shared->Prop)(h:Q (.bool (decide (a<c))) s):
  wpAny (model prog w) A (richCompare .Lt (.int a t) (.int c u)) Q E s :=
 (PyProof.Rows.lt_int h:wpAny (model prog w) A (compareOp .Lt (.int a t) (.int c u)) Q E s)
section
open PySem.SeqAt
open PySem.AutoSeq1 (wpAny_loadPart')
open PySem.MeetsSeq PySem.MeetsSeq2 PySem.MeetsSeq3
end
section
variable{prog:Program}{w:World}{A:Around}{E:Value->Shared->Prop}{s:Shared}
theorem Xv{t b:Addr}{vs ws:List Value}{Q:Value->Shared->Prop}(ht:IsTup s.heap t vs.toArray)(hb:IsTup s.heap b ws.toArray)(hv:vs≠[])
  (h1:ws=[]->Q (.ref t) s) (h2:ws≠[]->Q (.ref s.heap.objs.size) { s with heap:=s.heap.push { cls:=.type "tuple",data:=.seq (vs++ws).toArray } })
  (hsz:vs.length+ws.length<=sizeLine):wpAny (model prog w) A (binaryOp .Add (.ref t) (.ref b)) Q E s:=by
 obtain⟨⟨cls,dd,data,sl⟩,ho,hc,n,hd⟩:=id ht
 obtain⟨⟨ahV,dd2,data2,sl2⟩,ho2,hc2,n2,hd2⟩:=id hb
 simp only at hc hd hc2 hd2
 subst hc hd hc2 hd2
 have e:vs.toArray++ws.toArray=(vs++ws).toArray:=by simp
 by_cases hw:ws=[]
 ·exact concat_meets ⟨_,ho,rfl⟩ ⟨_,ho2,rfl⟩ noFill_tuple_add seq_tuple_add PySem.F.slot_tuple_add PySem.F.entry_tuple_add (PySem.F.args_tuple_add_2 _ _)
   (tuple_addW1 t b vs.toArray ws.toArray n n2 dd dd2 sl sl2 (by simpa using hv) (by simp[hw])) ⟨ho,ho2,h1 hw⟩
 ·refine concat_meets ⟨_,ho,rfl⟩ ⟨_,ho2,rfl⟩ noFill_tuple_add seq_tuple_add PySem.F.slot_tuple_add PySem.F.entry_tuple_add (PySem.F.args_tuple_add_2 _ _)
   (tuple_addW2 t b vs.toArray ws.toArray n n2 dd dd2 sl sl2 (by simpa using hv) (by simpa using hw) (by rw[List.size_toArray,List.size_toArray];exact hsz)) ⟨ho,ho2,?_⟩
  rw[e]
  exact h2 hw
noncomputable def NX(n d:Nat):Option Int->Nat
 |none=>d
 |some v=>if v<0 then(v+(n:Int)).toNat else min v.toNat n
theorem NW(n d:Nat):NX n d none=d:=rfl
theorem Ro(n d k:Nat):NX n d (some (k:Int))=min k n:=by
 show(if(k:Int)<0 then((k:Int)+(n:Int)).toNat else min (k:Int).toNat n)=min k n
 rw[if_neg (by omega),Int.toNat_natCast]
end
end HT
namespace L2
open PySem PySem.Spec PyProof.Rows
noncomputable abbrev TO:=St->Hp->(Option Int->Hp->Prop)->Prop
noncomputable def PO(X:Cx)(e:Option Expr)(t:TO):Prop :=
 ∀(pins:List (Addr×Obj)) (s:Shared) (σ:St) (H:Hp) (Q:Option Int->Hp->Prop),Inv X pins σ H s->t σ H Q →
  wpAny (model X.prog X.w) X.A (evalPart e X.env) (λu s'=>∃o H',Inv X pins σ H' s'/\IsPart u o/\Q o H') X.xe s
noncomputable def WB:TO:=λ_ H Q=>Q none H
noncomputable def abz(t:TE):TO:=λσ H Q=>t σ H λx H1=>∃i,x= .int i/\Q (some i) H1
theorem intsAre_of{ns:List Int}:∀{us:List Value},Vals (ns.map V.int) us->IntsAre us ns:=by
 induction ns with
 |nil=>intro us r;rw[List.map_nil]at r;cases r;exact .nil
 |cons n ns ih =>
  intro us r
  rw[List.map_cons]at r
  cases r with
  |cons r1 r2 =>
   obtain⟨t,e⟩:=r1
   subst e
   exact .cons n t (ih r2)
section
variable{X:Cx}{e:Expr}{te:TE}{lo hi:Option Expr}{tl th:TO}{pos p2:Pos}
theorem kL:PO X none WB:=by
 intro pins s σ H Q I h
 rw[evalPart_none]
 exact wpAny_pure ⟨none,H,I,.none,h⟩
theorem kK(h:PE X e te):PO X (some e) (abz te):=by
 intro pins s σ H Q I hw
 rw[evalPart_some]
 refine gB (h pins s σ H _ I hw) λu s1 ⟨x,H1,I1,r1,q1⟩=>?_
 obtain⟨i,rfl,q⟩:=q1
 obtain⟨t,rfl⟩:=r1
 exact⟨some i,H1,I1,.int i t,q⟩
noncomputable def Iq(X:Cx)(r:V->Option Int->Option Int->Hp->VK->Prop):Prop :=
 ∀(pins:List (Addr×Obj)) (s:Shared) (σ:St) (H:Hp) (x:V) (v vl vu:Value) (lo hi:Option Int) (sl:Addr) (Q:VK),Inv X pins σ H s->RelV x v->s.heap.IsSliceOf sl vl vu .none->IsPart vl lo->IsPart vu hi->r x lo hi H Q →
  ∃T id,typeLookup (.type T) "__getitem__" =pure (some (.builtin id))/\s.TypeIs v T/\wpAny (model X.prog X.w) X.A (getItem v (.ref sl)) (EP X pins σ Q) X.xe s
noncomputable def Lh(r:V->Option Int->Option Int->Hp->VK->Prop)(te:TE)(tl th:TO):TE:=λσ H Q=>te σ H λx H1=>tl σ H1 λl H2=>th σ H2 λu H3=>r x l u H3 Q
theorem iO{r:V->Option Int->Option Int->Hp->VK->Prop}(hr:Iq X r)(he:PE X e te)(hl:PO X lo tl)(hu:PO X hi th):PE X (.Subscript e (.Slice lo hi none p2) pos) (Lh r te tl th):=by
 intro pins s σ H Q I h
 refine Subscript_ (gB (he pins s σ H _ I h) λv s1 ⟨x,H1,I1,r1,q1⟩=>?_)
 refine wpAny_Slice (gB (hl pins s1 σ H1 _ I1 q1) λvl s2 ⟨l,H2,I2,pl,q2⟩=>gB (hu pins s2 σ H2 _ I2 q2) λvu s3 ⟨u,H3,I3,pu,q3⟩=>?_)
 rw[evalPart_none]
 refine wpAny_pure ?_
 have I4:Inv X pins σ H3 { s3 with heap:=s3.heap.push { cls:=.type "slice",data:=.fields #[vl,vu,.none] } }:=I3.kept (t':=s3.toks) λb ob q=>Heap.get?_push_of_some _ q
 obtain⟨T,id,hT,ht,hg⟩:=hr pins { s3 with heap:=s3.heap.push { cls:=.type "slice",data:=.fields #[vl,vu,.none] } } σ H3 x v vl vu l u s3.heap.objs.size Q I4 r1 (Heap.IsSliceOf.new ..) pl pu q3
 show wpAny (model X.prog X.w) X.A (subscriptTail e (.Slice lo hi none p2) v (.ref s3.heap.objs.size)) (EP X pins σ Q) X.xe { s3 with heap:=s3.heap.push { cls:=.type "slice",data:=.fields #[vl,vu,.none] } }
 exact tail_any (ops:=[.ref s3.heap.objs.size,v]) ht hT hg (by with_unfolding_all rfl)
noncomputable def wD(xs:List V)(lo hi:Option Int):List V:=(xs.drop (HT.NX xs.length 0 lo)).take (HT.NX xs.length xs.length hi-HT.NX xs.length 0 lo)
theorem xB(xs:List V)(lo hi:Option Int):(wD xs lo hi).length<=xs.length:=by
 unfold wD
 rw[List.length_take,List.length_drop]
 omega
noncomputable def abW(K:PySem.W.Frag):R2:=λx y H Q=>∃a b xs ys,x= .ref a/\y= .ref b/\iR K H a xs/\iR K H b ys/\xs≠[]/\xs.length+ys.length<=sizeLine ∧
 (ys=[]->Q (.ref a) H)/\(ys≠[]->∀p,H p=none->Q (.ref p) (upd H p (.tup (xs++ys))))
theorem Vals.G0{xs:List V}{us:List Value}(r:Vals xs us):us=[]↔xs=[]:=by
 cases r with
 |nil=>simp
 |cons _ _=>simp
theorem WS:tD X (binaryOp .Add) (abW X.K):=by
 intro pins s σ H x y v u Q I rx ry h
 obtain⟨a,b,xs,ys,rfl,rfl,ha,hb,hx,hz,q1,q2⟩:=h
 cases rx
 cases ry
 obtain⟨its,r1,p1,_⟩:=I.tuple ha
 obtain⟨its2,r2,p2,_⟩:=I.tuple hb
 refine HT.Xv p1 p2 (λz=>hx (r1.G0.mp z)) (λz=>⟨.ref a,H,I,rfl,q1 (r2.G0.mp z)⟩) (λz=>?_) (by rw[←r1.length,←r2.length];exact hz)
 refine⟨.ref s.heap.objs.size,_,I.laid (t':=s.toks) (o:=.tup (xs++ys)) (λb ob q=>Heap.get?_push_of_some _ q) (Nat.le_refl _) ?_,rfl,q2 (λw=>z (r2.G0.mpr w)) _ (I.hok.fresh (Nat.le_refl _))⟩
 exact⟨by rw[List.length_append];exact hz,_,r1.append r2,IsTup.new _ _⟩
end
end L2
namespace L2
open PySem PySem.Spec PyProof.Rows
noncomputable def Vf(n:Nat)(i:Int):Option Nat:=if 0<=i then(if i<n then some i.toNat else none)else if -(n:Int)<=i then some (i+n).toNat else none
noncomputable def Ti{α:Type}(xs:List α)(i:Int):Option α:=(Vf xs.length i).bind λj=>xs[j]?
theorem RD{n:Nat}{i:Int}{j:Nat}(h:Vf n i=some j):seqIndex? i n=some j/\j<n/\ -(n:Int)<=i/\i<n:=by
 unfold Vf at h
 by_cases h0:0<=i
 ·rw[if_pos h0]at h
  by_cases h1:i<n
  ·rw[if_pos h1]at h
   have e:i.toNat=j:=Option.some.inj h
   exact⟨by rw[seqIndex_of h0 h1,e],by omega,by omega,h1⟩
  ·rw[if_neg h1]at h;cases h
 ·rw[if_neg h0]at h
  by_cases h1: -(n:Int)<=i
  ·rw[if_pos h1]at h
   have e:(i+n).toNat=j:=Option.some.inj h
   exact⟨by rw[seqIndex_neg (by omega) h1,e],by omega,h1,by omega⟩
  ·rw[if_neg h1]at h;cases h
theorem Hy{α:Type}{xs:List α}{i:Int}{v:α}(h:Ti xs i=some v):∃j,seqIndex? i xs.length=some j/\xs[j]? =some v/\j<xs.length/\ -(xs.length:Int)<=i/\i<xs.length:=by
 unfold Ti at h
 cases e:Vf xs.length i with
 |none=>rw[e]at h;cases h
 |some j =>
  rw[e]at h
  obtain⟨h1,h2,h3,h4⟩:=RD e
  exact⟨j,h1,h,h2,h3,h4⟩
theorem aT{α:Type}{xs:List α}{j:Nat}{v:α}(h:xs[j]? =some v):Ti xs (j:Int)=some v:=by
 have hj:j<xs.length:=(List.getElem?_eq_some_iff.mp h).1
 have e:Vf xs.length (j:Int)=some j:=by
  unfold Vf
  rw[if_pos (by omega),if_pos (by omega)];simp
 unfold Ti;rw[e];exact h
theorem OX{α:Type}(xs:List α)(v:α):Ti (xs++[v]) (-1)=some v:=by
 have hl:(xs++[v]).length=xs.length+1:=by simp
 have e:Vf (xs++[v]).length (-1)=some xs.length:=by
  unfold Vf
  rw[hl,if_neg (by decide),if_pos (by omega)]
  congr 1
  omega
 unfold Ti
 rw[e]
 show(xs++[v])[xs.length]? =some v
 simp
noncomputable def XD(b:Expr):Prop:=∀o i,subscripted b false o i=operate [o,i] (getItem o i)
noncomputable def V9(X:Cx)(r:R2):Prop :=
 ∀(value slice:Expr) (pins:List (Addr×Obj)) (s:Shared) (σ:St) (H:Hp) (x y:V) (v u:Value) (Q:VK),Inv X pins σ H s->RelV x v->RelV y u->r x y H Q →
  subscripted slice false v u=operate [v,u] (getItem v u)->wpAny (model X.prog X.w) X.A (subscriptTail value slice v u) (EP X pins σ Q) X.xe s
noncomputable def BU(X:Cx)(id:String)(r:V->List V->Hp->VK->Prop):Prop :=
 ∀(pins:List (Addr×Obj)) (s:Shared) (σ:St) (H:Hp) (x:V) (xs:List V) (v:Value) (us:List Value) (Q:VK),Inv X pins σ H s->RelV x v->Vals xs us->r x xs H Q →
  wpAny (model X.prog X.w) X.A (call (.builtin id) (v::us)) (EP X pins σ Q) X.xe s
section
variable{X:Cx}{a b:Expr}{ta tb:TE}{pos:Pos}
theorem V9.or{r r':R2}(h:V9 X r)(h':V9 X r'):V9 X (λx y H Q=>r x y H Q\/r' x y H Q):=by
 intro value slice pins s σ H x y v u Q I rx ry q hs
 rcases q with q|q
 ·exact h value slice pins s σ H x y v u Q I rx ry q hs
 ·exact h' value slice pins s σ H x y v u Q I rx ry q hs
theorem aV{r:R2}(hr:V9 X r)(ha:PE X a ta)(hb:PE X b tb)(hs:XD b):PE X (.Subscript a b pos) (CO r ta tb):=by
 intro pins s σ H Q I h
 exact Subscript_ (F9 ha hb I h λv u s2 x y H2 I2 rx ry q=>hr a b pins s2 σ H2 x y v u Q I2 rx ry q (hs _ _))
noncomputable def Z0(K:PySem.W.Frag):R2:=λx y H Q=>∃p xs i v,x= .ref p/\y= .int i/\bf K H p xs/\Ti xs i=some v/\Q v H
noncomputable def ZZ(K:PySem.W.Frag):R2:=λx y H Q=>∃p xs i v,x= .ref p/\y= .int i/\iR K H p xs/\Ti xs i=some v/\Q v H
noncomputable def K1:R2:=λx y H Q=>∃z i c,x= .str z/\y= .int i/\z.length<=sizeLine/\Ti z.cps.toList i=some c/\Q (.str ⟨#[c]⟩) H
theorem bh:V9 X (Z0 X.K):=by
 intro value slice pins s σ H x y v u Q I rx ry h hs
 obtain⟨p,xs,i,z,rfl,rfl,hq,he,q⟩:=h
 cases rx
 obtain⟨t,rfl⟩:=ry
 obtain⟨its,r,pl,hz⟩:=I.list hq
 obtain⟨j,h1,h2,h3,h4,h5⟩:=Hy he
 obtain⟨w,ew,rw'⟩:=r.get h2
 have hl:=r.length
 have hn:=zb
 have fin:EP X pins σ Q w s:=⟨z,H,I,rw',q⟩
 by_cases h0:0<=i
 ·have hj:i.toNat=j:=by
   rw[seqIndex_of h0 h5]at h1
   exact Option.some.inj h1
  exact item_listR pl.isList h0 (by omega) (by rw[hj];simpa using ew) fin hs
 ·have hj:(i+(its.toArray.size:Int)).toNat=j:=by
   rw[seqIndex_neg (by omega) h4]at h1
   rw[List.size_toArray,←hl]
   exact Option.some.inj h1
  exact subscriptTail_builtinR (x:=w) pl.isList.typeIs slot_list_getitem.lookup
   (wpAny_getItem_list_neg (Q:=λr s'=>r=w/\EP X pins σ Q r s') pl.isList (by omega) (by rw[List.size_toArray]<;>omega) (by omega) (by rw[hj];simpa using ew) ⟨rfl,fin⟩) hs
theorem gS:V9 X (ZZ X.K):=by
 intro value slice pins s σ H x y v u Q I rx ry h hs
 obtain⟨p,xs,i,z,rfl,rfl,hq,he,q⟩:=h
 cases rx
 obtain⟨t,rfl⟩:=ry
 obtain⟨its,r,pl,hz⟩:=I.tuple hq
 obtain⟨j,h1,h2,h3,h4,h5⟩:=Hy he
 obtain⟨w,ew,rw'⟩:=r.get h2
 have hl:=r.length
 have hn:=zb
 have fin:EP X pins σ Q w s:=⟨z,H,I,rw',q⟩
 exact subscriptTail_builtinR (x:=w) pl.typeIs slot_tuple_getitem.lookup
  (getItem_tuple (j:=j) (Q:=λr s'=>r=w/\EP X pins σ Q r s') pl (by omega) (by omega) (by rw[List.size_toArray,←hl];exact h1) (by simpa using ew) ⟨rfl,fin⟩) hs
theorem l9:V9 X K1:=by
 intro value slice pins s σ H x y v u Q I rx ry h hs
 obtain⟨z,i,c,rfl,rfl,hz,he,q⟩:=h
 obtain⟨t,rfl⟩:=rx
 obtain⟨t',rfl⟩:=ry
 obtain⟨j,h1,h2,h3,h4,h5⟩:=Hy he
 have hl:z.cps.toList.length=z.length:=by simp[Str.length]
 rw[hl]at h1 h4 h5
 have hn:=zb
 exact tail_any (typeIs_str s z t) slot_str_getitem.lookup (getItem_str (c:=c) (by
  have e1:decide (i< -(2 ^ 63:Int))=false:=decide_eq_false (by omega)
  have e2:decide (i>=2 ^ 63)=false:=decide_eq_false (by omega)
  rw[e1,e2,Bool.or_false]) (by rw[h1];simpa using h2) ⟨.str ⟨#[c]⟩,H,I.tok _,⟨_,rfl⟩,q⟩) hs
noncomputable def IM(K:PySem.W.Frag):R2:=λx y H Q=>Z0 K x y H Q\/ZZ K x y H Q\/K1 x y H Q
theorem Ve:V9 X (IM X.K):=bh.or (gS.or l9)
theorem Qo(its:List Value)(n j:Nat)(u:Value):Obj.mapSeq (·.setIfInBounds j u) { cls:=.type "list",data:=.seq its.toArray n }={ cls:=.type "list",data:=.seq (its.set j u).toArray n }:=by
 simp[Obj.mapSeq]
theorem Inv.lst{pins:List (Addr×Obj)}{σ:St}{H:Hp}{s:Shared}{p:Addr}{xs:List V}(I:Inv X pins σ H s)(h:H p=some (.lst xs)):
  ∃(its:List Value) (n:Nat),Vals xs its/\s.heap.get? p=some { cls:=.type "list",data:=.seq its.toArray n }/\xs.length<=sizeLine:=by
 obtain⟨z,its,n,r,e⟩:=I.hok p _ h
 exact⟨its,n,r,e,z⟩
theorem Inv.aah{pins:List (Addr×Obj)}{σ:St}{H:Hp}{s:Shared}{p:Addr}{xs ys:List V}{its its':List Value}{n n':Nat}{f:Obj->Obj}(I:Inv X pins σ H s)(h:H p=some (.lst xs))
  (ho:s.heap.get? p=some { cls:=.type "list",data:=.seq its.toArray n }) (hf:f { cls:=.type "list",data:=.seq its.toArray n }={ cls:=.type "list",data:=.seq its'.toArray n' }) (r:Vals ys its') (hz:ys.length<=sizeLine) (t:Nat) (ht:s.toks<=t:=by first|exact Nat.le_refl _|exact Nat.le_succ _|assumption|omega) :
  Inv X pins σ (upd H p (.lst ys)) { s with heap:=s.heap.update p f,toks:=t }:=by
 have e:(s.heap.update p f).get? p=some { cls:=.type "list",data:=.seq its'.toArray n' }:=by
  rw[Heap.get?_update_self f ho (by rw[hf]<;>rfl),hf]
 refine I.write (x:=p) (e:=p) (by rw[h];trivial) (.inl rfl) (λb u hb q=>(Heap.get?_update_other _ _ (Ne.symm hb)).trans q) ⟨_,e⟩ ?_
 exact⟨hz,its',n',r,e⟩
noncomputable def abT:V->V->V->Hp->(Hp->Prop)->Prop:=λo i v H Q=>∃p xs k j,o= .ref p/\i= .int k/\H p=some (.lst xs)/\Vf xs.length k=some j/\Q (upd H p (.lst (xs.set j v)))
theorem set_list:JZ X abT:=by
 intro pins s σ H o i v ov iv u Q I ro ri rv h
 obtain⟨p,xs,k,j,rfl,rfl,hp,hj,q⟩:=h
 cases ro
 obtain⟨t,rfl⟩:=ri
 obtain⟨its,n,r,ho,hz⟩:=I.lst hp
 obtain⟨h1,h2,h3,h4⟩:=RD hj
 have hl:=r.length
 have hn:=zb
 have I':Inv X pins σ (upd H p (.lst (xs.set j v))) { s with heap:=s.heap.update p (Obj.mapSeq (·.setIfInBounds j u)) } :=
  I.aah hp ho (Qo its n j u) (r.set rv j) (by rw[List.length_set];exact hz) s.toks
 by_cases h0:0<=k
 ·have hk:k.toNat=j:=by
   rw[seqIndex_of h0 h4]at h1
   exact Option.some.inj h1
  exact PySem.W.ki_setAt ho h0 (by omega) (by rw[List.size_toArray,←hl];exact h4) (by rw[hk];exact⟨_,I',q⟩)
 ·have hk:(k+(its.toArray.size:Int)).toNat=j:=by
   rw[seqIndex_neg (by omega) h3]at h1
   rw[List.size_toArray,←hl]
   exact Option.some.inj h1
  exact PySem.W.ki_setBack ho (by omega) (by rw[List.size_toArray,←hl];exact h3) (by omega) (by rw[hk];exact⟨_,I',q⟩)
theorem Gp(lo hi:Option Int)(n:Nat):(sliceBounds lo hi none n).1=((HT.NX n 0 lo:Nat):Int)/\(sliceBounds lo hi none n).2.1=((HT.NX n n hi:Nat):Int)/\(sliceBounds lo hi none n).2.2=1:=by
 refine⟨?_,?_,rfl⟩
 ·cases lo with
  |none=>simp[sliceBounds,HT.NX]
  |some i =>
   simp only[sliceBounds,HT.NX,Option.getD_none,show(1:Int)>0 by decide,if_true]
   by_cases h:i<0
   ·simp only[h,if_true]<;>omega
   ·simp only[h,if_false]<;>omega
 ·cases hi with
  |none=>simp[sliceBounds,HT.NX]
  |some i =>
   simp only[sliceBounds,HT.NX,Option.getD_none,show(1:Int)>0 by decide,if_true]
   by_cases h:i<0
   ·simp only[h,if_true]<;>omega
   ·simp only[h,if_false]<;>omega
theorem z6(its:List Value)(lo hi:Option Int):slicePick its.toArray lo hi none=((its.drop (HT.NX its.length 0 lo)).take (HT.NX its.length its.length hi-HT.NX its.length 0 lo)).toArray:=by
 obtain⟨h1,h2,h3⟩:=Gp lo hi its.toArray.size
 unfold slicePick
 rw[h1,h2,h3]
 simp only[sliceRange_one,pick_run,List.size_toArray]<;>rfl
noncomputable def age(K:PySem.W.Frag):V->Option Int->Option Int->Hp->VK->Prop:=λx lo hi H Q=>∃a xs,x= .ref a/\bf K H a xs/\∀p,H p=none->Q (.ref p) (upd H p (.lst (wD xs lo hi)))
theorem qH:Iq X (age X.K):=by
 intro pins s σ H x v vl vu lo hi sl Q I rx hs pl pu h
 obtain⟨a,xs,rfl,hx,q⟩:=h
 cases rx
 obtain⟨its,r,ht,hz⟩:=I.list hx
 have hlen:=r.length
 refine⟨"list",_,slot_list_getitem.lookup,ht.isList.typeIs,?_⟩
 refine wpAny_getItem_list_slice ht.isList hs pl pu .none (by simp) ?_ (by rw[List.size_toArray]<;>omega)
 rw[z6,←hlen]
 refine⟨.ref s.heap.objs.size,_,I.laid (t':=s.toks) (o:=.lst (wD xs lo hi)) (λb ob q=>Heap.get?_push_of_some _ q) (Nat.le_refl _) ?_,rfl,q _ (I.hok.fresh (Nat.le_refl _))⟩
 exact⟨Nat.le_trans (xB xs lo hi) hz,_,0,(r.drop (HT.NX xs.length 0 lo)).take (HT.NX xs.length xs.length hi-HT.NX xs.length 0 lo),Heap.get?_push_size _ rfl⟩
noncomputable def nX:V->Bool
 | .ko=>true
 | .bl _=>true
 | .int _=>true
 | .str _=>true
 |_=>false
noncomputable def S5:V->V->Bool
 | .ko,.ko=>true
 | .bl a,.bl b=>a==b
 | .bl a,.int b=>(if a then 1 else 0)==b
 | .int a,.bl b=>a==(if b then 1 else 0)
 | .int a,.int b=>a==b
 | .str a,.str b=>a==b
 |_,_=>false
theorem VO{A:Around}{s:Shared}{y x:V}{u v:Value}(ry:RelV y u)(rx:RelV x v)(fy:nX y=true)(fx:nX x=true):SeqAt.EqAt A s u v (S5 y x):=by
 cases y with
 |ko =>
  cases ry
  cases x with
  |ko=>cases rx;exact SeqAt.EqAt.same _
  |bl b=>cases rx;exact SeqAt.EqAt.none_bool b
  |int b=>obtain⟨t,rfl⟩:=rx;exact SeqAt.EqAt.none_int b t
  |str b=>obtain⟨t,rfl⟩:=rx;exact SeqAt.EqAt.none_str b t
  |_=>exact absurd (show false=true from fx) Bool.false_ne_true
 |bl a =>
  cases ry
  cases x with
  |ko=>cases rx;exact SeqAt.EqAt.bool_none a
  |bl b=>cases rx;exact SeqAt.EqAt.bool_bool a b
  |int b=>obtain⟨t,rfl⟩:=rx;exact SeqAt.EqAt.bool_int a b t
  |str b=>obtain⟨t,rfl⟩:=rx;exact SeqAt.EqAt.bool_str a b t
  |_=>exact absurd (show false=true from fx) Bool.false_ne_true
 |int a =>
  obtain⟨t',rfl⟩:=ry
  cases x with
  |ko=>cases rx;exact SeqAt.EqAt.int_none a t'
  |bl b=>cases rx;exact SeqAt.EqAt.int_bool a t' b
  |int b=>obtain⟨t,rfl⟩:=rx;exact SeqAt.EqAt.int_int a t' b t
  |str b=>obtain⟨t,rfl⟩:=rx;exact SeqAt.EqAt.int_str a t' b t
  |_=>exact absurd (show false=true from fx) Bool.false_ne_true
 |str a =>
  obtain⟨t',rfl⟩:=ry
  cases x with
  |ko=>cases rx;exact SeqAt.EqAt.str_none a t'
  |bl b=>cases rx;exact SeqAt.EqAt.str_bool a t' b
  |int b=>obtain⟨t,rfl⟩:=rx;exact SeqAt.EqAt.str_int a t' b t
  |str b=>obtain⟨t,rfl⟩:=rx;exact SeqAt.EqAt.str_str a t' b t
  |_=>exact absurd (show false=true from fx) Bool.false_ne_true
 |_=>exact absurd (show false=true from fy) Bool.false_ne_true
noncomputable def Xn(x:V)(u:Value):Bool:=match u with
 | .none=>S5 .ko x
 | .bool b=>S5 (.bl b) x
 | .int i _=>S5 (.int i) x
 | .str z _=>S5 (.str z) x
 |_=>false
theorem VM{x y:V}{u:Value}(r:RelV y u)(f:nX y=true):Xn x u=S5 y x:=by
 cases y with
 |ko=>cases r;rfl
 |bl b=>cases r;rfl
 |int i=>obtain⟨t,rfl⟩:=r;rfl
 |str z=>obtain⟨t,rfl⟩:=r;rfl
 |_=>exact absurd (show false=true from f) Bool.false_ne_true
theorem Hz{x:V}:∀{xs:List V} {us:List Value},Vals xs us->xs.all nX=true->us.any (Xn x)=xs.any λy=>S5 y x
 |_,_,.nil,_=>rfl
 |y::xs,u::us,.cons r t,f=>by
  rw[List.all_cons,Bool.and_eq_true]at f
  rw[List.any_cons,List.any_cons,VM r f.1,Hz t f.2]
theorem yY{A:Around}{s:Shared}{x:V}{v:Value}(rx:RelV x v)(fx:nX x=true):∀{xs:List V} {us:List Value},Vals xs us->xs.all nX=true->∀u∈us,SeqAt.EqAt A s u v (Xn x u)
 |_,_,.nil,_=>λu hu=>by cases hu
 |y::xs,u::us,.cons r t,f=>λu' hu=>by
  rw[List.all_cons,Bool.and_eq_true]at f
  rcases List.mem_cons.mp hu with rfl|hu
  ·rw[VM r f.1];exact VO r rx f.1 fx
  ·exact yY rx fx t f.2 u' hu
noncomputable def C6(x:V)(xs:List V):Bool:=xs.any λy=>S5 y x
noncomputable def Lr(K:PySem.W.Frag)(neg:Bool):R2:=λx y H Q=>∃p xs,y= .ref p/\(bf K H p xs\/iR K H p xs)/\nX x=true/\xs.all nX=true/\Q (.bl (if neg then !C6 x xs else C6 x xs)) H
theorem GJ:tD X (compareOp .NotIn) (Lr X.K true):=by
 intro pins s σ H x y v u Q I rx ry h
 obtain⟨p,xs,rfl,hq,fx,fs,q⟩:=h
 cases ry
 rcases hq with hq|hq
 ·obtain⟨its,r,pl,hz⟩:=I.list hq
  refine SeqAt.notIn_listAt (Xn x) pl.isList (λw hw=>yY rx fx r fs w (by simpa using hw)) ⟨.bl _,H,I,rfl,?_⟩
  rw[show its.toArray.any (Xn x)=its.any (Xn x) by simp,Hz r fs]
  exact q
 ·obtain⟨its,r,pl,hz⟩:=I.tuple hq
  refine SeqAt.notIn_tupleAt (Xn x) pl (λw hw=>yY rx fx r fs w (by simpa using hw)) ⟨.bl _,H,I,rfl,?_⟩
  rw[show its.toArray.any (Xn x)=its.any (Xn x) by simp,Hz r fs]
  exact q
theorem GI:tD X (compareOp .NotIn) (λx y H Q=>∃i j,x= .str i/\y= .str j/\Q (.bl (!(!(Builtin.Str.occurrences j i 0 j.length 1).isEmpty))) H):=by
 intro pins s σ H x y v u Q I rx ry h
 obtain⟨i,j,rfl,rfl,q⟩:=h
 obtain⟨t,rfl⟩:=rx
 obtain⟨t',rfl⟩:=ry
 exact notIn_str ⟨.bl _,H,I,rfl,q⟩
theorem Hv:mF X (.type "list") (λxs H Q=>∃p ys,xs=[.ref p]/\(bf X.K H p ys\/iR X.K H p ys)/\∀l,H l=none->Q (.ref l) (upd H l (.lst ys))):=by
 intro pins s σ H xs us Q I r h
 obtain⟨p,ys,rfl,hq,q⟩:=h
 obtain⟨u,rfl,rx⟩:=vals1 r
 cases rx
 have fin:∀(its:List Value),Vals ys its->ys.length<=sizeLine->∀(h':Heap) (c':Nat),(∀b o',s.heap.get? b=some o'->h'.get? b=some o') →
   h'.get? s.heap.objs.size=some { cls:=.type "list",dict:=none,data:=.seq its.toArray c',slots:= #[] }->EP X pins σ Q (.ref s.heap.objs.size) { s with heap:=h' }:=λits r' hz h' c' kp e =>
  ⟨.ref s.heap.objs.size,_,I.laid (t':=s.toks) kp (Nat.le_refl _) (show c7 X.prog X.w _ h' _ (.lst ys) from⟨hz,its,c',r',e⟩),rfl,q _ (I.hok.fresh (Nat.le_refl _))⟩
 rcases hq with hq|hq
 ·obtain⟨its,r',pl,hz⟩:=I.list hq
  have hlen:=r'.length
  obtain⟨o,ho,hc,n,hd⟩:=pl.isList
  exact call_list_seq p (.inl rfl) ho hc hd (λh' c' kp e=>fin its r' hz h' c' kp e) (by simp only[List.size_toArray]<;>omega)
 ·obtain⟨its,r',pl,hz⟩:=I.tuple hq
  have hlen:=r'.length
  obtain⟨o,ho,hc,n,hd⟩:=pl
  exact call_list_seq p (.inr rfl) ho hc hd (λh' c' kp e=>fin its r' hz h' c' kp e) (by simp only[List.size_toArray]<;>omega)
theorem nG:mF X (.type "tuple") (λxs H Q=>∃p ys,xs=[.ref p]/\((bf X.K H p ys/\∀l,H l=none->Q (.ref l) (upd H l (.tup ys)))\/(iR X.K H p ys/\Q (.ref p) H))):=by
 intro pins s σ H xs us Q I r h
 obtain⟨p,ys,rfl,h⟩:=h
 obtain⟨u,rfl,rx⟩:=vals1 r
 cases rx
 rcases h with⟨hq,q⟩|⟨hq,q⟩
 ·obtain⟨its,r',pl,hz⟩:=I.list hq
  have hlen:=r'.length
  refine call_tuple_list pl.isList (λh' kp=>?_) (by simp only[List.size_toArray]<;>omega)
  have I1:Inv X pins σ H { s with heap:=h' }:=I.kept (t':=s.toks) kp
  have I2:Inv X pins σ (upd H h'.objs.size (.tup ys)) { s with heap:=h'.push { cls:=.type "tuple",data:=.seq its.toArray } } :=
   I1.laid (t':=s.toks) (λb o e=>Heap.get?_push_of_some _ e) (Nat.le_refl _) (show c7 X.prog X.w _ _ _ (.tup ys) from⟨hz,its,r',IsTup.new _ _⟩)
  exact⟨.ref h'.objs.size,_,I2,rfl,q _ (I1.hok.fresh (Nat.le_refl _))⟩
 ·obtain⟨its,r',pl,hz⟩:=I.tuple hq
  exact call_tuple_same pl ⟨.ref p,H,I,rfl,q⟩
noncomputable def Fe(K:PySem.W.Frag)(T:String)(x:V)(H:Hp):Prop:=match x with
 | .str _=>T= "str"
 | .int _=>T= "int"
 | .ref p=>(T= "list" /\∃xs,bf K H p xs)\/(T= "tuple" /\∃o,K.lookup p=some o/\o.cls= .type "tuple" /\o.dict=none) ∨
   (T= "dict" /\((∃kvs,H p=some (.dK kvs))\/∃kvs,H p=some (.dT kvs)))\/(T= "set" /\∃S n,H p=some (.set S n))
 |_=>False
theorem PN{pins:List (Addr×Obj)}{σ:St}{H:Hp}{s:Shared}{T:String}{x:V}{v:Value}(I:Inv X pins σ H s)(r:RelV x v)(ty:Fe X.K T x H):
  s.TypeIs v T/\∀a,v= .ref a->∃ob,s.heap.get? a=some ob/\ob.dict=none:=by
 cases x with
 |str z =>
  obtain⟨t,rfl⟩:=r
  cases (show T= "str" from ty)
  exact⟨typeIs_str s z t,λ_ e=>nomatch e⟩
 |int i =>
  obtain⟨t,rfl⟩:=r
  cases (show T= "int" from ty)
  exact⟨typeIs_int s i t,λ_ e=>nomatch e⟩
 |ref p =>
  cases r
  rcases ty with⟨rfl,xs,hq⟩|⟨rfl,o,hk,hc,hd⟩|⟨rfl,hk⟩|⟨rfl,S,n,hk⟩
  ·obtain⟨its,_,pl,_⟩:=I.list hq
   refine⟨pl.isList.typeIs,λa e=>?_⟩
   cases e
   obtain⟨o,n,e,c,hd,_⟩:=pl
   exact⟨o,e,hd⟩
  ·refine⟨⟨o,I.rq p o hk,hc⟩,λa e=>?_⟩
   cases e
   exact⟨o,I.rq _ o hk,hd⟩
  ·have z:∃o,s.heap.get? p=some o/\o.ExactDict:=by
    rcases hk with⟨kvs,hk⟩|⟨kvs,hk⟩
    ·obtain⟨_,_,_,_,o,_,_,e,ex,_⟩:=I.hok p _ hk
     exact⟨o,e,ex⟩
    ·obtain⟨_,_,_,_,o,_,_,e,ex,_⟩:=I.hok p _ hk
     exact⟨o,e,ex⟩
   obtain⟨o,e,ex⟩:=z
   refine⟨⟨o,e,ex.1⟩,λa e2=>?_⟩
   cases e2
   exact⟨o,e,ex.2.1⟩
  ·obtain⟨o,_,_,_,e,ex,_⟩:=I.hok p _ hk
   refine⟨⟨o,e,ex.1⟩,λa e2=>?_⟩
   cases e2
   exact⟨o,e,ex.2.1⟩
 |_=>exact False.elim ty
noncomputable def af1(K:PySem.W.Frag)(T:String)(r:V->List V->Hp->VK->Prop)(to:TE):TE:=λσ H Q=>to σ H λx H1=>Fe K T x H1/\r x [] H1 Q
noncomputable def II(K:PySem.W.Frag)(T:String)(r:V->List V->Hp->VK->Prop)(to:TE)(t:TA):TE:=λσ H Q=>to σ H λx H1=>Fe K T x H1/\t σ H1 λxs H2=>r x xs H2 Q
variable{o e:Expr}{es:List Expr}{to:TE}{t:TA}{name:Str}{apos cpos:Pos}{T id:String}{r:V->List V->Hp->VK->Prop}
theorem UR (pa:PlainAttrs T) (slot:Slot T name id) (hty:typeOf (.builtin id)=pure (.type "method_descriptor")) (hm:BU X id r) (ho:PE X o to)
  (hbase:attributeBase o name X.env (eval o X.env)=eval o X.env:=by rfl) (hline:(apos.endLine==cpos.line)=true:=by rfl):PE X (.Call (.Attribute o name apos) [] [] cpos) (af1 X.K T r to):=by
 intro pins s σ H Q I h
 refine wpAny_Call_method0_late hbase hline (gB (ho pins s σ H _ I h) λv s1 ⟨x,H1,I1,r1,ty,q1⟩=>?_)
 obtain⟨h1,h2⟩:=PN I1 r1 ty
 exact⟨T,id,pa,slot,hty,h1,h2,Calls.callWith_builtin rfl (PySem.evalArgs_none (hm pins s1 σ H1 x [] v [] Q I1 r1 .nil q1))⟩
theorem rR (pa:PlainAttrs T) (slot:Slot T name id) (hty:typeOf (.builtin id)=pure (.type "method_descriptor")) (hm:BU X id r) (ho:PE X o to) (ha:PA X (e::es) t)
  (hbase:attributeBase o name X.env (eval o X.env)=eval o X.env:=by rfl)
  (hfew:((backTo cpos (starEach (e::es) X.env)).all (λx=>!x.1)&&(backToKw cpos (keywordEach [] X.env)).all (λx=>x.1.isSome)
   && decide ((e::es).length+([]:List Keyword).length+(if([]:List Keyword).isEmpty then 0 else 1)<30))=true:=by rfl)
  (hline:(apos.endLine==cpos.line)=true:=by rfl) (hs:starEach (e::es) X.env=(false,eval e X.env)::starEach es X.env:=by rfl) (hplain:(backTo cpos (starEach es X.env)).any (·.1)=false:=by rfl) :
  PE X (.Call (.Attribute o name apos) (e::es) [] cpos) (II X.K T r to t):=by
 intro pins s σ H Q I h
 refine wpAny_Call_method_late hbase hfew hline rfl (gB (ho pins s σ H _ I h) λv s1 ⟨x,H1,I1,r1,ty,q1⟩=>?_)
 obtain⟨h1,h2⟩:=PN I1 r1 ty
 refine⟨T,id,pa,slot,hty,h1,h2,?_⟩
 have hA:=ha cpos pins s1 σ H1 _ I1 q1
 rw[hs]at hA ⊢
 refine Calls.callWith_builtin (by show(false||(backTo cpos (starEach es X.env)).any (·.1))=false;rw[hplain]<;>rfl) (Calls.evalArgs_plain ?_)
 exact gB hA λus s2 ⟨vs,H2,I2,r2,q2⟩=>hm pins s2 σ H2 x vs v us Q I2 r1 r2 q2
end
end L2
namespace L2
open PySem PySem.Spec PyProof.Rows
noncomputable def Iw(X:Cx)(id:String)(r:V->List V->Hp->VK->Prop):Prop :=
 ∀(pins:List (Addr×Obj)) (s:Shared) (σ:St) (H:Hp) (x:V) (xs:List V) (v:Value) (us:List Value) (Q:VK),Inv X pins σ H s->RelV x v->Vals xs us->r x xs H Q →
  wpAny (model X.prog X.w) X.A (call (.builtin id) (v::us)) (EP X pins σ Q) X.xe s
theorem Vals.one:∀{x:V} {us:List Value},Vals [x] us->∃u,us=[u]/\RelV x u
 |_,_,.cons r .nil=>⟨_,rfl,r⟩
theorem Vals.zero:∀{us:List Value},Vals [] us->us=[]
 |_,.nil=>rfl
theorem Vals.reverse{xs:List V}{us:List Value}(h:Vals xs us):Vals xs.reverse us.reverse:=by
 induction h with
 |nil=>exact .nil
 |cons r t ih=>rw[List.reverse_cons,List.reverse_cons];exact Vals.append ih (.cons r .nil)
theorem Vals.rep{xs:List V}{us:List Value}(h:Vals xs us):∀k:Nat,Vals (List.replicate k xs).flatten (List.replicate k us).flatten
 | 0=>.nil
 |k+1=>by
  rw[List.replicate_succ,List.replicate_succ,List.flatten_cons,List.flatten_cons]
  exact Vals.append h (Vals.rep h k)
theorem foldl_rep(its:List Value):∀(k:Nat) (acc:List Value),
  List.foldl (λx1 x2=>x1++x2) acc.toArray (List.replicate k its.toArray)=(acc++(List.replicate k its).flatten).toArray
 | 0,acc=>by simp
 |k+1,acc=>by
  have e:acc.toArray++its.toArray=(acc++its).toArray:=by simp
  have e2:(acc++its)++(List.replicate k its).flatten=acc++(List.replicate (k+1) its).flatten:=by
   rw[List.replicate_succ,List.flatten_cons,List.append_assoc]
  rw[←e2,←foldl_rep its k (acc++its),←e,List.replicate_succ,List.foldl_cons]
section
variable{X:Cx}{pins:List (Addr×Obj)}{σ:St}{H:Hp}{s:Shared}{l b:Addr}{xs ys zs:List V}
theorem Inv.F7{its its':List Value}{n:Nat}{f:Array Value->Array Value}{t':Nat}(I:Inv X pins σ H s)(hH:H l=some (.lst xs))
  (e:s.heap.get? l=some { cls:=.type "list",data:=.seq its.toArray n }) (hf:f its.toArray=its'.toArray) (hv:Vals ys its') (hz:ys.length<=sizeLine) (ht:s.toks<=t':=by first|exact Nat.le_refl _|exact Nat.le_succ _|assumption|omega) :
  Inv X pins σ (upd H l (.lst ys)) { s with heap:=s.heap.update l (Obj.mapSeq f),toks:=t' }:=by
 have q:=PySem.IsL.update e f
 rw[hf]at q
 refine I.write (x:=l) (e:=l) (by rw[hH];exact trivial) (.inl rfl) (λb' u hb hu=>(Heap.get?_update_other s.heap (Obj.mapSeq f) (Ne.symm hb)).trans hu) ⟨_,q⟩ ?_
 exact⟨hz,its',_,hv,q⟩
theorem Inv.W4{its:List Value}{t':Nat}(I:Inv X pins σ H s)(hv:Vals ys its)(hz:ys.length<=sizeLine)(ht:s.toks<=t':=by first|exact Nat.le_refl _|exact Nat.le_succ _|assumption|omega):
  Inv X pins σ (upd H s.heap.objs.size (.lst ys)) { s with heap:=s.heap.push { cls:=.type "list",data:=.seq its.toArray },toks:=t' } :=
 I.laid (λ_ _ q=>Heap.get?_push_of_some _ q) (Nat.le_refl _) ⟨hz,its,0,hv,Heap.get?_push_size _ rfl⟩
theorem Inv.fresh(I:Inv X pins σ H s):H s.heap.objs.size=none:=I.hok.fresh (Nat.le_refl _)
theorem Inv.Qs(I:Inv X pins σ H s)(hH:H l=some (.lst xs)):xs.length<=sizeLine/\∃(its:List Value) (n:Nat),Vals xs its/\xs.length=its.length/\s.heap.get? l=some { cls:=.type "list",data:=.seq its.toArray n }:=by
 obtain⟨z,its,n,r,e⟩:=I.hok l _ hH
 exact⟨z,its,n,r,r.length,e⟩
theorem Om{n:Nat}(h:n<=sizeLine):Builtin.List.listTooLong n=false:=by
 unfold Builtin.List.listTooLong
 exact decide_eq_false (by omega)
end
section
variable{X:Cx}
noncomputable def WL:V->List V->Hp->VK->Prop:=λx vs H Q=>∃l xs y,x= .ref l/\vs=[y]/\H l=some (.lst xs)/\xs.length<sizeLine/\Q .ko (upd H l (.lst (xs++[y])))
theorem jG:Iw X "list.append" WL:=by
 intro pins s σ H x vs v us Q I rx rv h
 obtain⟨l,xs,y,rfl,rfl,hH,hz,q⟩:=h
 cases rx
 obtain⟨u,rfl,ru⟩:=rv.one
 obtain⟨z,its,n,r,hl,e⟩:=I.Qs hH
 refine call_meets F.slot_list_append ⟨_,e,rfl⟩ F.entry_list_append (F.args_list_append_2 _ _) (PySem.list_append l its.toArray n u (by rw[List.size_toArray];omega)) ⟨e,?_⟩
 refine⟨.ko,_,I.F7 (its':=its++[u]) hH e (by simp) (r.append (.cons ru .nil)) ?_,rfl,q⟩
 rw[List.length_append,List.length_singleton]
 omega
noncomputable def WK:V->List V->Hp->VK->Prop:=λx vs H Q=>∃l b xs zs,x= .ref l/\vs=[.ref b]/\H l=some (.lst xs)/\H b=some (.lst zs)/\xs.length+zs.length<=sizeLine/\Q .ko (upd H l (.lst (xs++zs)))
theorem SA:Iw X "list.extend" WK:=by
 intro pins s σ H x vs v us Q I rx rv h
 obtain⟨l,b,xs,zs,rfl,rfl,hH,hB,hz,q⟩:=h
 cases rx
 obtain⟨u,rfl,ru⟩:=rv.one
 cases ru
 obtain⟨z,its,n,r,hl,e⟩:=I.Qs hH
 obtain⟨z2,its2,n2,r2,hl2,e2⟩:=I.Qs hB
 have hsz:its.toArray.size+its2.toArray.size<=sizeLine:=by rw[List.size_toArray,List.size_toArray];omega
 have Vr:¬(!its.toArray.isEmpty&&Builtin.List.listTooLong (its.toArray.size+its2.toArray.size))=true:=by
  rw[Om hsz,Bool.and_false]
  exact Bool.false_ne_true
 refine call_meets F.slot_list_extend ⟨_,e,rfl⟩ F.entry_list_extend (F.args_list_extend_2 _ _)
  (AutoSeq1.list_extend_list_list_0 l its.toArray n b its2.toArray n2 Vr (by rw[List.size_toArray];omega) (by omega)) ⟨e,e2,?_⟩
 refine⟨.ko,_,I.F7 (its':=its++its2) hH e (by simp) (r.append r2) ?_,rfl,q⟩
 rw[List.length_append]
 omega
noncomputable def UI:V->List V->Hp->VK->Prop:=λx vs H Q=>∃l xs,x= .ref l/\vs=[]/\H l=some (.lst xs)/\Q .ko (upd H l (.lst xs.reverse))
theorem yW:Iw X "list.reverse" UI:=by
 intro pins s σ H x vs v us Q I rx rv h
 obtain⟨l,xs,rfl,rfl,hH,q⟩:=h
 cases rx
 have Ma:=rv.zero
 subst Ma
 obtain⟨z,its,n,r,hl,e⟩:=I.Qs hH
 refine call_meets F.slot_list_reverse ⟨_,e,rfl⟩ F.entry_list_reverse (F.args_list_reverse_1 _) (AutoSeq1.list_reverse_list_0 l its.toArray n (by rw[List.size_toArray];omega)) ⟨e,?_⟩
 refine⟨.ko,_,I.F7 (its':=its.reverse) hH e (by simp) r.reverse ?_,rfl,q⟩
 rw[List.length_reverse]
 omega
noncomputable def agg:R2:=λx y H Q=>∃l b xs zs,x= .ref l/\y= .ref b/\H l=some (.lst xs)/\H b=some (.lst zs)/\xs.length+zs.length<=sizeLine/\∀p,H p=none->Q (.ref p) (upd H p (.lst (xs++zs)))
theorem GK:tD X (binaryOp .Add) agg:=by
 intro pins s σ H x y v u Q I rx ry h
 obtain⟨l,b,xs,zs,rfl,rfl,hH,hB,hz,q⟩:=h
 cases rx
 cases ry
 obtain⟨z,its,n,r,hl,e⟩:=I.Qs hH
 obtain⟨z2,its2,n2,r2,hl2,e2⟩:=I.Qs hB
 refine PySem.P.add_list e e2 ?_ (by rw[List.size_toArray,List.size_toArray];omega)
 have ea:its.toArray++its2.toArray=(its++its2).toArray:=by simp
 rw[ea]
 exact⟨.ref _,_,I.W4 (t':=s.toks) (r.append r2) (by rw[List.length_append];omega),rfl,q _ I.fresh⟩
noncomputable def agf:R2:=λx y H Q=>∃l k xs,x= .ref l/\y= .int k/\H l=some (.lst xs)/\ -(2 ^ 63)<=k/\k<2 ^ 63/\xs.length*k.toNat<=sizeLine ∧
 ∀p,H p=none->Q (.ref p) (upd H p (.lst (List.replicate k.toNat xs).flatten))
theorem len_rep{α:Type}(xs:List α)(k:Nat):(List.replicate k xs).flatten.length=k*xs.length:=by
 induction k with
 |zero=>simp
 |succ k ih=>rw[List.replicate_succ,List.flatten_cons,List.length_append,ih,Nat.succ_mul,Nat.add_comm]
theorem vX:tD X (binaryOp .Mult) agf:=by
 intro pins s σ H x y v u Q I rx ry h
 obtain⟨l,k,xs,rfl,rfl,hH,h1,h2,hz,q⟩:=h
 cases rx
 obtain⟨t,rfl⟩:=ry
 obtain⟨z,its,n,r,hl,e⟩:=I.Qs hH
 have hlen:its.toArray.size*k.toNat<=sizeLine:=by rw[List.size_toArray,←hl];exact hz
 have hcap:¬its.toArray.size*k.toNat>(2 ^ 63-1) / 8:=by
  have:(sizeLine:Nat)<=(2 ^ 63-1) / 8:=by decide
  omega
 have hfit:¬(!Builtin.List.listFitsIndex k)=true:=by
  rw[fitsIndex_both h1 h2]
  exact Bool.false_ne_true
 have Vr:¬Builtin.List.listTooLong (its.toArray.size*k.toNat)=true:=by
  rw[Om hlen]
  exact Bool.false_ne_true
 have hnew:List.foldl (λx1 x2=>x1++x2) #[] (List.replicate (if its.toArray.isEmpty=true then 0 else k.toNat) its.toArray)=(List.replicate k.toNat its).flatten.toArray:=by
  have f0:∀m:Nat,List.foldl (λx1 x2=>x1++x2) #[] (List.replicate m its.toArray)=(List.replicate m its).flatten.toArray:=λm=>by
   have:=foldl_rep its m []
   rw[List.nil_append]at this
   exact this
  rw[f0]
  cases its with
  |nil=>simp
  |cons a r'=>rw[if_neg (by simp)]
 refine wpAny_binaryOp_repeat_ref (T:= "list") (U:= "int") (by decide) ⟨_,e,rfl⟩ (λs'=>typeIs_int s' k t) noFill_list_mul F.fills_int_mul F.slot_int_rmul repeat_list F.slot_int_index.lookup
  (call_meets F.slot_int_rmul (typeIs_int s k t) F.entry_int_rmul (F.args_int_rmul_2 _ _) (int___rmul___int_list k t l its.toArray n)
   ⟨e,rfl,⟨_,e,rfl⟩,call_meets F.slot_list_mul ⟨_,e,rfl⟩ F.entry_list_mul (F.args_list_mul_2 _ _) (AutoListH.list___mul___list_int_3 l its.toArray n k t hfit hcap Vr) ⟨e,?_⟩⟩)
 rw[hnew]
 exact⟨.ref _,_,I.W4 (t':=s.toks) (r.rep k.toNat) (by rw[len_rep,Nat.mul_comm];exact hz),rfl,q _ I.fresh⟩
end
section
variable{prog:Program}{w:World}{A:Around}{E:Value->Shared->Prop}{s:Shared}
end
section
variable{X:Cx}
end
end L2
namespace L2
open PySem PySem.Spec PyProof.Rows
section
variable{κ:Type}[DecidableEq κ]
noncomputable def jl(kvs:List (κ×V))(k:κ):Option V:=(kvs.find? λkv=>decide (kv.1=k)).map (·.2)
noncomputable def putK(kvs:List (κ×V))(k:κ)(v:V):List (κ×V) :=
 if(kvs.any λkv=>decide (kv.1=k))=true then kvs.map (λkv=>if kv.1=k then(kv.1,v)else kv)else kvs++[(k,v)]
theorem ee{p:κ×V}{r:List (κ×V)}{k:κ}(e:p.1=k):jl (p::r) k=some p.2:=by simp[jl,List.find?_cons,e]
theorem ez{p:κ×V}{r:List (κ×V)}{k:κ}(e:¬p.1=k):jl (p::r) k=jl r k:=by simp[jl,List.find?_cons,e]
theorem uT(k:κ):∀kvs:List (κ×V),(kvs.any λkv=>decide (kv.1=k))=(jl kvs k).isSome
 |[]=>rfl
 |p::r=>by
  rw[List.any_cons]
  by_cases e:p.1=k
  ·simp only[ee e,decide_eq_true e,Bool.true_or,Option.isSome_some]
  ·rw[ez e,decide_eq_false e,Bool.false_or];exact uT k r
theorem M0(k j:κ)(y:V):∀kvs:List (κ×V),jl (kvs.map λkv=>if kv.1=k then(kv.1,y)else kv) j=(jl kvs j).map λx=>if j=k then y else x
 |[]=>rfl
 |p::r=>by
  have ih:=M0 k j y r
  rw[List.map_cons]
  by_cases h:p.1=k
  ·rw[if_pos h]
   by_cases e:p.1=j
   ·rw[ee (p:=(p.1,y)) e,ee e,Option.map_some,if_pos (e.symm.trans h)]
   ·rw[ez (p:=(p.1,y)) e,ez e,ih]
  ·rw[if_neg h]
   by_cases e:p.1=j
   ·rw[ee (p:=p) e,ee e,Option.map_some,if_neg (λz=>h (e.trans z))]
   ·rw[ez (p:=p) e,ez e,ih]
theorem AQ(k j:κ)(y:V):∀kvs:List (κ×V),jl kvs k=none->jl (kvs++[(k,y)]) j=if j=k then some y else jl kvs j
 |[],_=>by
  by_cases e:k=j
  ·rw[if_pos e.symm];exact ee (p:=(k,y)) e
  ·rw[if_neg (λz=>e z.symm)];exact ez (p:=(k,y)) e
 |p::r,hn=>by
  rw[List.cons_append]
  have hk:¬p.1=k:=λz=>by rw[ee z]at hn;cases hn
  rw[ez hk]at hn
  have ih:=AQ k j y r hn
  by_cases e:p.1=j
  ·rw[ee e,ee e,if_neg (λz=>hk (e.trans z))]
  ·rw[ez e,ez e,ih]
theorem uS(kvs:List (κ×V))(k j:κ)(y:V):jl (putK kvs k y) j=if j=k then some y else jl kvs j:=by
 unfold putK
 by_cases a:(kvs.any λkv=>decide (kv.1=k))=true
 ·rw[if_pos a,M0]
  rw[uT]at a
  by_cases e:j=k
  ·obtain⟨x,hx⟩:=Option.isSome_iff_exists.mp a
   rw[if_pos e,e,hx,Option.map_some,if_pos rfl]
  ·rw[if_neg e]
   cases jl kvs j with
   |none=>rfl
   |some x=>rw[Option.map_some,if_neg e]
 ·rw[if_neg a]
  refine AQ k j y kvs ?_
  rw[uT]at a
  cases q:jl kvs k with
  |none=>rfl
  |some x=>rw[q]at a;exact(a rfl).elim
theorem nN(kvs:List (κ×V))(k:κ)(v:V):(putK kvs k v).length<=kvs.length+1:=by
 unfold putK
 split
 ·rw[List.length_map];omega
 ·rw[List.length_append,List.length_cons,List.length_nil];omega
theorem qV.sX{o:Option V}{u:Option Value}(r:qV o u):o.isSome=u.isSome:=by
 cases o with
 |none=>cases u with
  |none=>rfl
  |some _=>exact(show False from r).elim
 |some _=>cases u with
  |none=>exact(show False from r).elim
  |some _=>rfl
theorem KV.val{kvs:List (κ×V)}{vs:List (κ×Value)}(r:KV kvs vs)(k:κ):qV (jl kvs k) (valueAt vs k):=by
 unfold KV at r
 induction r with
 |nil=>exact True.intro
 | @cons p q ps qs h t ih =>
  obtain⟨h1,h2⟩:=h
  by_cases e:p.1=k
  ·have e':q.1=k:=h1.symm.trans e
   have b:valueAt (q::qs) k=some q.2:=by simp[valueAt,List.find?_cons,e']
   rw[ee e,b];exact h2
  ·have e':¬q.1=k:=λz=>e (h1.trans z)
   have b:valueAt (q::qs) k=valueAt qs k:=by simp[valueAt,List.find?_cons,e']
   rw[ez e,b];exact ih
theorem KV.any{kvs:List (κ×V)}{vs:List (κ×Value)}(r:KV kvs vs)(k:κ):(kvs.any λkv=>decide (kv.1=k))=vs.any λkv=>decide (kv.1=k):=by
 unfold KV at r
 induction r with
 |nil=>rfl
 |cons h t ih=>rw[List.any_cons,List.any_cons,ih,h.1]
theorem KV.repl{kvs:List (κ×V)}{vs:List (κ×Value)}(r:KV kvs vs)(k:κ){y:V}{u:Value}(ry:RelV y u):
  KV (kvs.map λkv=>if kv.1=k then(kv.1,y)else kv) (vs.map λkv=>if kv.1=k then(kv.1,u)else kv):=by
 unfold KV at r ⊢
 induction r with
 |nil=>exact .nil
 | @cons p q ps qs h t ih =>
  rw[List.map_cons,List.map_cons]
  refine .cons ?_ ih
  obtain⟨h1,h2⟩:=h
  by_cases e:p.1=k
  ·rw[if_pos e,if_pos (h1.symm.trans e)];exact⟨h1,ry⟩
  ·rw[if_neg e,if_neg (λz=>e (h1.trans z))];exact⟨h1,h2⟩
theorem KV.put{kvs:List (κ×V)}{vs:List (κ×Value)}(r:KV kvs vs)(k:κ){y:V}{u:Value}(ry:RelV y u):KV (putK kvs k y) (stored vs k u):=by
 unfold putK stored
 rw[r.any k]
 by_cases e:(vs.any λkv=>decide (kv.1=k))=true
 ·rw[if_pos e,if_pos e];exact r.repl k ry
 ·rw[if_neg e,if_neg e];exact Paired.snoc r ⟨rfl,ry⟩
theorem KV.length{kvs:List (κ×V)}{vs:List (κ×Value)}(r:KV kvs vs):kvs.length=vs.length:=Paired.length r
end
theorem A7{P:Program}{w:World}{k:Key}{u:Value}(r:RelV (kV k) u):(jh P w).is k u=true:=by
 cases k with
 |inl i=>obtain⟨t,e⟩:=(show ∃t,u=Value.int i t from r);subst e;exact Oq P w i t
 |inr x=>obtain⟨t,e⟩:=(show ∃t,u=Value.str x t from r);subst e;exact rY P w x t
theorem A9{P:Program}{w:World}:∀{ks:List Key} {us:List Value},Vals (ks.map kV) us->ItemsAre (jh P w) ks us
 |[],_,r=>by rw[List.map_nil]at r;cases r;exact .nil
 |k::ks,_,r=>by
  rw[List.map_cons]at r
  cases r with
  |cons h t=>exact .cons (A7 h) (A9 t)
noncomputable abbrev KT(H:Hp):List (List Key×V)->List (List Key×Addr×Value)->Prop:=Paired λp q=>p.1=q.1/\H q.2.1=some (.tup (p.1.map kV))/\RelV p.2 q.2.2
theorem KT.val{H:Hp}{kvs:List (List Key×V)}{xs:List (List Key×Addr×Value)}(r:KT H kvs xs)(k:List Key):qV (jl kvs k) ((atKey xs k).map (·.2)):=by
 induction r with
 |nil=>exact True.intro
 | @cons p q ps qs h t ih =>
  obtain⟨h1,_,h2⟩:=h
  by_cases e:p.1=k
  ·have e':q.1=k:=h1.symm.trans e
   have b:atKey (q::qs) k=some q.2:=by simp[atKey,List.find?_cons,e']
   rw[ee e,b];exact h2
  ·have e':¬q.1=k:=λz=>e (h1.trans z)
   have b:atKey (q::qs) k=atKey qs k:=by simp[atKey,List.find?_cons,e']
   rw[ez e,b];exact ih
theorem KT.repl{H:Hp}{kvs:List (List Key×V)}{xs:List (List Key×Addr×Value)}(r:KT H kvs xs)(k:List Key){y:V}{u:Value}(ry:RelV y u):
  KT H (kvs.map λkv=>if kv.1=k then(kv.1,y)else kv) (xs.map (putAt k u)):=by
 induction r with
 |nil=>exact .nil
 | @cons p q ps qs h t ih =>
  rw[List.map_cons,List.map_cons]
  refine .cons ?_ ih
  obtain⟨h1,h2,h3⟩:=h
  unfold putAt
  by_cases e:p.1=k
  ·rw[if_pos e,if_pos (h1.symm.trans e)];exact⟨h1,h2,ry⟩
  ·rw[if_neg e,if_neg (λz=>e (h1.trans z))];exact⟨h1,h2,h3⟩
theorem KT.put{H:Hp}{kvs:List (List Key×V)}{xs:List (List Key×Addr×Value)}(r:KT H kvs xs)(k:List Key){b:Addr}{y:V}{u:Value}(hb:H b=some (.tup (k.map kV)))(ry:RelV y u):
  KT H (putK kvs k y) (storedH xs k b u):=by
 have e:(kvs.any λkv=>decide (kv.1=k))=(atKey xs k).isSome:=by
  rw[uT,(r.val k).sX,Option.isSome_map]
 unfold putK storedH
 rw[e]
 by_cases q:(atKey xs k).isSome=true
 ·rw[if_pos q,if_pos q];exact r.repl k ry
 ·rw[if_neg q,if_neg q];exact Paired.snoc r ⟨rfl,hb,ry⟩
theorem KT.keeps{H H':Hp}{kvs:List (List Key×V)}{xs:List (List Key×Addr×Value)}(r:KT H kvs xs)(ht:∀b ys,H b=some (.tup ys)->H' b=some (.tup ys)):KT H' kvs xs :=
 Paired.qm r λ_ _ z=>⟨z.1,ht _ _ z.2.1,z.2.2⟩
section
variable{P:Program}{w:World}{H:Hp}{h:Heap}{a:Addr}
theorem XR{u:HO}(ok:qc P w H h)(e:Rd H a u):c7 P w H h a u:=e.ok ok
theorem RO{kvs:List (Key×V)}(ok:qc P w H h)(e:Rd H a (.dK kvs)):kvs.length<=sizeLine/\(a==sysModules)=false/\∃vs,KV kvs vs/\h.DictOf (jh P w) a vs :=
 show c7 P w H h a (.dK kvs) from XR ok e
theorem ac7{kvs:List (Key×V)}(ok:qc P w H h)(e:H a=some (.dK kvs)):kvs.length<=sizeLine/\(a==sysModules)=false/\∃vs,KV kvs vs/\h.DictOf (jh P w) a vs:=RO ok (.inl e)
theorem G4{ks:List Key}(ok:qc P w H h)(e:H a=some (.tup (ks.map kV))):(tupleKind (jh P w)).is h ks a:=by
 obtain⟨_,its,r,o,h1,h2,n,h3⟩:=(show c7 P w H h a (.tup (ks.map kV)) from ok a _ e)
 exact⟨o,its.toArray,n,h1,h2,h3,by simpa using A9 r⟩
theorem RN{kvs:List (List Key×V)}(ok:qc P w H h)(e:Rd H a (.dT kvs)):kvs.length<=sizeLine/\(a==sysModules)=false ∧
  ∃xs,KT H kvs xs/\h.DictOfH (tupleKind (jh P w)) a xs:=by
 obtain⟨z,y,xs,r,o,es,ep,h1,h2,h3,h4,h5⟩:=(show c7 P w H h a (.dT kvs) from XR ok e)
 refine⟨z,y,xs,r,o,es,ep,h1,h2,h3,h4,λx hx=>?_,h5⟩
 have all:∀{l:List (List Key×V)} {m:List (List Key×Addr×Value)},KT H l m->∀x∈m,(tupleKind (jh P w)).is h x.1 x.2.1:=by
  intro l m q
  induction q with
  |nil=>intro x hx;exact nomatch hx
  | @cons p q ps qs hq t ih =>
   intro x hx
   rcases List.mem_cons.mp hx with e|hx
   ·subst e
    exact G4 ok (by rw[←hq.1];exact hq.2.1)
   ·exact ih x hx
 exact all r x hx
theorem ac6{kvs:List (List Key×V)}(ok:qc P w H h)(e:H a=some (.dT kvs)):kvs.length<=sizeLine/\(a==sysModules)=false ∧
  ∃xs,KT H kvs xs/\h.DictOfH (tupleKind (jh P w)) a xs:=RN ok (.inl e)
end
noncomputable def wU(H:Hp)(a:Addr)(y:V)(r:Option V):Prop :=
 (∃kvs k,Rd H a (.dK kvs)/\y=kV k/\r=jl kvs k)\/∃kvs k b,Rd H a (.dT kvs)/\y= .ref b/\H b=some (.tup (k.map kV))/\r=jl kvs k
noncomputable def Ia(H:Hp)(a:Addr)(y v:V)(H':Hp):Prop :=
 (∃kvs k,H a=some (.dK kvs)/\y=kV k/\kvs.length<sizeLine/\H'=upd H a (.dK (putK kvs k v))) ∨
 ∃kvs k b,H a=some (.dT kvs)/\y= .ref b/\H b=some (.tup (k.map kV))/\kvs.length<sizeLine/\H'=upd H a (.dT (putK kvs k v))
theorem wU.k{H:Hp}{a:Addr}{kvs:List (Key×V)}{k:Key}(e:H a=some (.dK kvs)):wU H a (kV k) (jl kvs k):=.inl ⟨kvs,k,.inl e,rfl,rfl⟩
theorem wU.t{H:Hp}{a b:Addr}{kvs:List (List Key×V)}{k:List Key}(e:H a=some (.dT kvs))(eb:H b=some (.tup (k.map kV))):wU H a (.ref b) (jl kvs k):=.inr ⟨kvs,k,b,.inl e,rfl,eb,rfl⟩
theorem Ia.k{H:Hp}{a:Addr}{kvs:List (Key×V)}{k:Key}{v:V}(e:H a=some (.dK kvs))(hl:kvs.length<sizeLine):Ia H a (kV k) v (upd H a (.dK (putK kvs k v))):=.inl ⟨kvs,k,e,rfl,hl,rfl⟩
theorem Ia.t{H:Hp}{a b:Addr}{kvs:List (List Key×V)}{k:List Key}{v:V}(e:H a=some (.dT kvs))(eb:H b=some (.tup (k.map kV)))(hl:kvs.length<sizeLine):
  Ia H a (.ref b) v (upd H a (.dT (putK kvs k v))):=.inr ⟨kvs,k,b,e,rfl,eb,hl,rfl⟩
section
variable{X:Cx}{pins:List (Addr×Obj)}{σ:St}{H:Hp}{s:Shared}{a:Addr}{y v:V}{u r:Value}{o:Option V}{A:Around}{E:Value->Shared->Prop}
theorem Inv.big(I:Inv X pins σ H s):sysModules<s.heap.objs.size:=by
 have h:mainGlobals<s.heap.objs.size:=(I.mod.glob.keeps I.bk).lt
 exact Nat.lt_trans (by decide) h
theorem S7{Q:Value->Shared->Prop}(hu:A.units+1<cLine)(I:Inv X pins σ H s)(g:wU H a y (some v))(ry:RelV y u)(h:∀w' s',Inv X pins σ H s'->RelV v w'->Q w' s'):
  wpAny (model X.prog X.w) A (getItem (.ref a) u) Q E s:=by
 rcases g with⟨kvs,k,e,ey,l⟩|⟨kvs,k,b,e,ey,eb,l⟩
 ·subst ey
  obtain⟨z,hd,vs,rel,dd⟩:=RO I.hok e
  obtain⟨w',hw,rw'⟩:=qV.some_of (v:=v) (o:=valueAt vs k) (by rw[l];exact rel.val k)
  exact wpAny_getItem_of (A7 ry) dd.mapOf hw (h w' _ (I.tok _) rw')
 ·subst ey
  cases (show u=Value.ref b from ry)
  obtain⟨z,hd,xs,rel,dd⟩:=RN I.hok e
  obtain⟨w',hw,rw'⟩:=qV.some_of (v:=v) (o:=(atKey xs k).map (·.2)) (by rw[l];exact rel.val k)
  obtain⟨p,hp,hp2⟩:=Option.map_eq_some_iff.mp hw
  refine wpAny_getItem_heap (tupleKind_room_in1 hu) (G4 I.hok eb) dd hp ?_
  rw[hp2]
  exact h w' _ (I.tok _) rw'
theorem Xp{Q:Value->Shared->Prop}(hu:A.units+1<cLine)(I:Inv X pins σ H s)(g:wU H a y o)(ry:RelV y u)(h:∀s',Inv X pins σ H s'->Q (.bool (!o.isSome)) s'):
  wpAny (model X.prog X.w) A (compareOp .NotIn u (.ref a)) Q E s:=by
 rcases g with⟨kvs,k,e,ey,l⟩|⟨kvs,k,b,e,ey,eb,l⟩
 ·subst ey
  obtain⟨z,hd,vs,rel,dd⟩:=RO I.hok e
  refine wpAny_notIn_of (A7 ry) hd dd.mapOf ?_
  rw[←(rel.val k).sX,←l]
  exact h _ (I.tok _)
 ·subst ey
  cases (show u=Value.ref b from ry)
  obtain⟨z,hd,xs,rel,dd⟩:=RN I.hok e
  refine wpAny_notIn_heap (tupleKind_room_in1 hu) (G4 I.hok eb) hd dd ?_
  have q:=(rel.val k).sX
  rw[Option.isSome_map]at q
  rw[←q,←l]
  exact h _ (I.tok _)
theorem RS{h':Heap}{t':Nat}{ob:HO}(I:Inv X pins σ H s)(mu:Cu (H a))(hs:Heap.SameBut a s.heap h')(he:∃q,h'.get? a=some q)(new:c7 X.prog X.w (upd H a ob) h' a ob)(ht:s.toks<=t':=by first|exact Nat.le_refl _|exact Nat.le_succ _|assumption|omega):
  Inv X pins σ (upd H a ob) { s with heap:=h',toks:=t' } :=
 I.write (x:=a) (e:=a) mu (.inl rfl) (λb q hb z=>(hs.2 b hb).trans z) he new
theorem aaN{P:Program}{w:World}{H':Hp}{h':Heap}{kvs:List (Key×V)}{vs:List (Key×Value)}(z:kvs.length<=sizeLine)(hd:(a==sysModules)=false)(rel:KV kvs vs)(dd:h'.DictOf (jh P w) a vs):
  c7 P w H' h' a (.dK kvs):=⟨z,hd,vs,rel,dd⟩
theorem S6{H':Hp}{Q:Unit->Shared->Prop}(hu:A.units+1<cLine)(I:Inv X pins σ H s)(g:Ia H a y v H')(ry:RelV y u)(rv:RelV v r)(h:∀s',Inv X pins σ H' s'->Q () s'):
  wpAny (model X.prog X.w) A (setItem (.ref a) u r) Q E s:=by
 rcases g with⟨kvs,k,e,ey,l,eH⟩|⟨kvs,k,b,e,ey,eb,l,eH⟩
 ·subst ey eH
  obtain⟨z,hd,vs,rel,dd⟩:=ac7 I.hok e
  have hz:vs.length<=sizeLine:=by rw[←rel.length];exact z
  have hl:(putK kvs k v).length<=sizeLine:=by have:=nN kvs k v;omega
  refine wpAny_setItem_pairs (hsz:=hz) (A7 ry) dd λh' Dy hs=>h _ ?_
  have he:∃q,h'.get? a=some q:=let ⟨q,_,_,hq,_⟩:=Dy;⟨q,hq⟩
  exact RS I (by rw[e];exact True.intro) hs he (aaN hl hd (rel.put k rv) Dy)
 ·subst ey eH
  cases (show u=Value.ref b from ry)
  obtain⟨z,hd,xs,rel,dd⟩:=ac6 I.hok e
  have hz:xs.length<=sizeLine:=by rw[←Paired.length rel];exact z
  have hl:(putK kvs k v).length<=sizeLine:=by have:=nN kvs k v;omega
  refine wpAny_setItem_heap (hsz:=hz) (tupleKind_room_in1 hu) (G4 I.hok eb) dd λh' Dy hs=>h _ ?_
  obtain⟨q,es,ep,hq,h2,h3,h4,_,h5⟩:=Dy
  refine RS I (by rw[e];exact True.intro) hs ⟨q,hq⟩ ⟨hl,hd,_,(rel.put k eb rv).keeps λc ys ec=>?_,q,es,ep,hq,h2,h3,h4,h5⟩
  rw[aA (pL ec e (λz=>nomatch z))]
  exact ec
end
section
variable{X:Cx}{pins:List (Addr×Obj)}{σ:St}{H:Hp}{s:Shared}{a:Addr}{kvs:List (Key×V)}{k:Key}{u:Value}{A:Around}{E:Value->Shared->Prop}
end
noncomputable def Ij(i:Expr):Prop:=∀ov iv,subscripted i false ov iv=operate [ov,iv] (getItem ov iv)
theorem Q3{prog:Program}{w:World}{A:Around}{E:Value->Shared->Prop}{s:Shared}{env:Env}{value slice:Expr}{pos:Pos}{T id:String}{Q:Value->Shared->Prop}
  (hl:typeLookup (.type T) "__getitem__" =pure (some (.builtin id))) (hs:Ij slice)
  (h:wpAny (model prog w) A (eval value env) (λo s₁=>wpAny (model prog w) A (eval slice env) (λi s₂=>s₂.TypeIs o T/\wpAny (model prog w) A (getItem o i) Q E s₂) E s₁) E s) :
  wpAny (model prog w) A (eval (.Subscript value slice pos) env) Q E s:=by
 refine Subscript_ (wpAny_mono h (λo s₁ h₁=>wpAny_mono h₁ (λi s₂ h₂=>?_) λ_ _ x=>x) λ_ _ x=>x)
 obtain⟨hT,h₂⟩:=h₂
 unfold subscriptTail
 refine wpAny_bind ?_
 rw[getitemInPython_of_ne hT.not_modules]
 refine wpAny_bind (wpAny_specialOf hT hl ?_)
 have fin:wpAny (model prog w) A (subscripted slice false o i) (λr s₃=>wpAny (model prog w) A (letTemporaryGo value o r >>= λ_=>pure r) Q E s₃) E s₂:=by
  rw[hs o i]
  exact wpAny_operating (wpAny_mono h₂ (λr s₃ h₃=>wpAny_bind (wpAny_letTemporaryGo (wpAny_pure h₃))) λ_ _ x=>x)
 first
  |exact wpAny_pure (wpAny_bind fin)
  |exact wpAny_bind (wpAny_pure (wpAny_bind fin))
  |exact wpAny_bind fin
theorem OL{X:Cx}{pins:List (Addr×Obj)}{σ:St}{H:Hp}{s:Shared}{a:Addr}{y:V}{o:Option V}(I:Inv X pins σ H s)(g:wU H a y o):s.TypeIs (.ref a) "dict" :=by
 rcases g with⟨kvs,k,e,_,_⟩|⟨kvs,k,b,e,_,_,_⟩
 ·obtain⟨_,_,vs,_,dd⟩:=RO I.hok e
  exact dd.typeIs
 ·obtain⟨_,_,xs,_,dd⟩:=RN I.hok e
  exact dd.typeIs
noncomputable def abE(td ty:TE):TE:=λσ H Q=>td σ H λx H1=>ty σ H1 λy H2=>∃a v,x= .ref a/\wU H2 a y (some v)/\Q v H2
noncomputable def abQ(td ty tv:TE):TS:=λD σ H=>tv σ H λv H1=>td σ H1 λx H2=>ty σ H2 λy H3=>∃a H4,x= .ref a/\Ia H3 a y v H4/\D.nx σ H4
section
variable{X:Cx}{o i e value:Expr}{pos pos' tpos:Pos}{td ty tv:TE}
theorem GH(hu:X.A.units+1<cLine)(ho:PE X o td)(hi:PE X i ty)(hs:Ij i):PE X (.Subscript o i pos) (abE td ty):=by
 intro pins s σ H Q I h
 refine Q3 PySem.F.slot_dict_getitem.lookup hs (gB (ho pins s σ H _ I h) λu s1 ⟨x,H1,I1,rx,q1⟩=>gB (hi pins s1 σ H1 _ I1 q1) λiv s2 ⟨y,H2,I2,ry,a,v,ex,g,q2⟩=>?_)
 subst ex
 obtain rfl:u=Value.ref a:=rx
 exact⟨OL I2 g,S7 hu I2 g ry λw' s3 I3 rw'=>⟨v,H2,I3,rw',q2⟩⟩
theorem Gz(hu:X.A.units+1<cLine)(ho:PE X o td)(hi:PE X i ty)(hv:PE X value tv)(hs:swapsWith value (some (.Subscript o i pos')) pos.line X.env=pure false):
  PS X (.Assign [.Subscript o i pos'] value pos) (abQ td ty tv):=by
 intro pins s σ H D I h
 refine wpAny_Assign_Subscript (gB (hv pins s σ H _ I h) λr s1 ⟨v,H1,I1,rv,q1⟩=>gB (ho pins s1 σ H1 _ I1 q1) λu s2 ⟨x,H2,I2,rx,q2⟩=>gB (hi pins s2 σ H2 _ I2 q2) λiv s3 ⟨y,H3,I3,ry,a,H4,ex,g,q3⟩=>?_) hs
 subst ex
 obtain rfl:u=Value.ref a:=rx
 exact S6 hu I3 g ry rv λs4 I4=>⟨σ,H4,I4,q3⟩
end
theorem VR{P:Program}{w:World}{H:Hp}(h:Heap)(hb:sysModules<h.objs.size):c7 P w H (h.push { cls:=.type "dict",data:=.dict #[] }) h.objs.size (.dK []) :=
 ⟨Nat.zero_le _,beq_eq_false_iff_ne.mpr (Ne.symm (Nat.ne_of_lt hb)),[],.nil,Heap.DictOf.new h⟩
theorem VQ{P:Program}{w:World}{H:Hp}(h:Heap)(hb:sysModules<h.objs.size):c7 P w H (h.push { cls:=.type "dict",data:=.dict #[] }) h.objs.size (.dT []) :=
 ⟨Nat.zero_le _,beq_eq_false_iff_ne.mpr (Ne.symm (Nat.ne_of_lt hb)),[],.nil,_,#[],0,Heap.get?_push_size _ rfl,⟨rfl,rfl,rfl⟩,rfl,rfl,List.nodup_nil⟩
noncomputable def ZN:TE:=λ_ H Q=>∀p,H p=none->Q (.ref p) (upd H p (.dK []))
noncomputable def ZM:TE:=λ_ H Q=>∀p,H p=none->Q (.ref p) (upd H p (.dT []))
section
variable{X:Cx}{pos:Pos}
theorem N8:PE X (.Dict [] [] pos) ZN:=λpins s σ H Q I h =>
 wpAny_Dict_empty ⟨.ref s.heap.objs.size,_,I.laid (a:=s.heap.objs.size) (o:=.dK []) (t':=s.toks) (λ_ _ q=>Heap.get?_push_of_some _ q) (Nat.le_refl _) (VR s.heap I.big),rfl,h _ (I.hok.fresh (Nat.le_refl _))⟩
theorem UM:PE X (.Dict [] [] pos) ZM:=λpins s σ H Q I h =>
 wpAny_Dict_empty ⟨.ref s.heap.objs.size,_,I.laid (a:=s.heap.objs.size) (o:=.dT []) (t':=s.toks) (λ_ _ q=>Heap.get?_push_of_some _ q) (Nat.le_refl _) (VQ s.heap I.big),rfl,h _ (I.hok.fresh (Nat.le_refl _))⟩
end
section
variable{X:Cx}{pins:List (Addr×Obj)}{σ:St}{H:Hp}{s:Shared}{a:Addr}{y d:V}{u r:Value}{o:Option V}{A:Around}{E:Value->Shared->Prop}
end
section
variable{X:Cx}{o e f:Expr}{apos cpos:Pos}{td ty tx:TE}
end
section
variable{X:Cx}{pins:List (Addr×Obj)}{σ:St}{H:Hp}{s:Shared}{a:Addr}{kvs:List (Key×V)}{A:Around}{E:Value->Shared->Prop}
end
section
variable{X:Cx}{pins:List (Addr×Obj)}{σ:St}{H:Hp}{s:Shared}{a:Addr}{y:V}{u:Value}{A:Around}{E:Value->Shared->Prop}
end
end L2
namespace ID
open PySem PySem.W PySem.Calls PyProof.Rows
theorem xV{P:Params}{h:Heap}:∀(ns:List Int) (vs:List Value),WellAll P h vs (ns.map WData.int)->IntsAre vs ns:=by
 intro ns
 induction ns with
 |nil =>
  intro vs w
  rw[List.map_nil]at w
  cases w
  exact .nil
 |cons n ns ih =>
  intro vs w
  rw[List.map_cons]at w
  cases w with
  |cons a b =>
   cases a
   exact .cons _ _ (ih _ b)
theorem Sd{l:OpenLaw}{n:Nat}(hn:l.most=some n){P:Params}{h:Heap}{args:List WData}{vals:List Value}
  (hpre:l.row.toRowW.claim.pre args=true) (hwl:WellAll P h vals args) :
  ∃a vs ns,vals=[Value.ref a]/\args=[WData.list (ns.map WData.int)]/\h.get? a=some { cls:=.type "list",data:=.seq vs.toArray }/\IntsAre vs ns/\ns.length<=n:=by
 have hsh:WShape.hasAll [] args [.list .int]=true:=(pre_splitW hpre).1
 have hc:l.pre.holds [] { args:=args }=true:=(pre_splitW hpre).2
 obtain⟨d,r,rfl,h1,h2⟩:=hasAllW_cons hsh
 obtain rfl:=hasAllW_nil h2
 obtain⟨xs,rfl,h3⟩:=hasW_list h1
 obtain⟨ns,rfl⟩:=items_int h3
 have hlen:ns.length<=n:=by
  unfold OpenLaw.pre at hc
  have h4:(WTm.not (.lt (.lit (.int (n:Int))) (.len (.arg 0)))).holds [] { args:=[.list (ns.map .int)] }=true:=by
   have h4:=(holds_andW hc).1
   rw[hn]at h4
   exact h4
  have h5:=condW_of h4 (w_not (w_lt w_lit (w_len_list (w_arg rfl))))
  rw[List.length_map]at h5
  refine Nat.le_of_not_lt λq=>?_
  have q':(n:Int)<((ns.length:Nat):Int):=by omega
  first
   |(rw[decide_eq_true q']at h5;exact absurd h5 (by decide))
   |(simp at h5;omega)
 cases hwl with
 |cons w1 w2 =>
  cases w2
  cases w1 with
  |list ho hall=>exact⟨_,_,ns,rfl,rfl,ho,xV ns _ hall,hlen⟩
theorem Sk(l:OpenLaw)(args:List WData):l.row.toRowW.claim.post args (.bool true) args=true :=
 postW_of (r:=l.row.toRowW) (X:=(true==true))
  (show WShape.has [] (.bool true) .bool=true by first|rfl|decide|simp[WShape.has,WShape.arms,WShape.armsAll])
  (show(WTm.eq .res (.lit (.bool true))).value [] { args:=args,res:=some (.bool true),after:=args }=some (.bool (true==true)) from w_eq_bool (w_res rfl) w_lit) rfl
section
variable{prog:Program}{w:World}{A:Around}{E:Value->Shared->Prop}{s:Shared}{K:Frag}
end
end ID
namespace L2
open PySem PySem.Spec PyProof.Rows
theorem AO:∀{vs:List Value} {ns:List Int},IntsAre vs ns->Vals (ns.map V.int) vs
 |_,_,.nil=>.nil
 |_,_,.cons n t h=>.cons ⟨t,rfl⟩ (AO h)
noncomputable def Ik(H:Hp):Prop:=∀b,H b=none\/∃o xs,H b=some (.Qz o (.lst xs))
theorem Vc{P:Program}{w:World}{K:PySem.W.Frag}{mg mb:Str->Option Value}{CX:Tt}{k:Nat}{fa a:Addr}{fd:FuncData}{x:Str}{sp:Sp}{s₁:Shared}{vs:List Value}{ns:List Int}
  (KX:K.In s₁.heap) (hns:s₁.heap.Ns mainGlobals mg) (hb:s₁.heap.Ns builtinsNs mb) (MA:∀x:Str,x≠ "__name__" ->mb x=bootBuiltins x) (hlim:s₁.heap.NoLimit) (hg:s₁.gens= #[]) (htk:OY mg s₁.toks)
  (ha:s₁.heap.get? a=some { cls:=.type "list",data:=.seq vs.toArray }) (hi:IntsAre vs ns) (hl:ns.length<=sizeLine) (hr:nQ k callerA)
  (F:∀base:Heap,K.In base->base.Ns mainGlobals mg->aH P w K mg base CX k fa fd [x] sp) (hbind:∀(s:Shared) (u:Value),BindsTo s fd ⟨[u],[]⟩ [(x,u)])
  (Wh:∀H:Hp,Ik H->bf K H a (ns.map V.int)->sp [.ref a] H (λv _=>v= .bl true) λ_ _ _=>False)
  (FN:∀H e s',CX [] H s₁ (λ_ _ _=>False) e s'->False) :
  codeAny (model P w) callerA (.call (.ref fa) ⟨[.ref a],[]⟩) (λr s'=>r= .ok (.ret (.bool true))/\OldK s₁.heap s'.heap/\s'.os=s₁.os/\AllBare s'.gens) s₁:=by
 have rv:=AO hi
 have agC:=hi.length
 have core:∀H:Hp,Ik H->bf K H a (ns.map V.int)->qc P w H s₁.heap->(∀b,H b≠none->b=a)->(H a≠none->K.lookup a=none) →
   codeAny (model P w) callerA (.call (.ref fa) ⟨[.ref a],[]⟩) (λr s'=>r= .ok (.ret (.bool true))/\OldK s₁.heap s'.heap/\s'.os=s₁.os/\AllBare s'.gens) s₁:=by
  intro H hO hS hok hA hK
  have RW:∀{b:Addr} {o:Obj},s₁.heap.get? b=some o->H b=none->(G8 s₁.heap H).get? b=some o:=λe n=>Vw e n
  have B8:∀{b:Addr} {o:Obj} {es:Array DictEntry} {ep:Nat},s₁.heap.get? b=some o->o.data= .dict es ep->H b=none:=λ{b o es ep} e d=>by
   cases q:H b with
   |none=>rfl
   |some u =>
    have e':b=a:=hA b (by rw[q];simp)
    subst e'
    rw[ha]at e;cases e
    have d':Data.seq vs.toArray _=Data.dict es ep:=d
    cases d'
  have CY:∀{b:Addr} {m:Str->Option Value},s₁.heap.Ns b m->(G8 s₁.heap H).Ns b m:=λ{b m} ⟨o,es,ep,e,d,r⟩=>⟨o,es,ep,RW e (B8 e d),d,r⟩
  have JL:K.In (G8 s₁.heap H):=λb o e=>RW (KX b o e) (by
   cases q:H b with
   |none=>rfl
   |some u =>
    have e':b=a:=hA b (by rw[q];simp)
    subst e'
    rw[hK (by rw[q];simp)]at e;cases e)
  have hM:Mod K mg (G8 s₁.heap H):=⟨JL,CY hns,⟨mb,CY hb,MA⟩,let ⟨mc,h1,h2⟩:=hlim;⟨mc,CY h1,h2⟩⟩
  have e0:QY P w K mg (G8 s₁.heap H) callerA [] s₁ H:=⟨rfl,hM,λb o e=>WW e,Nat.le_of_eq (S1 _ _),trivial,λb hb=>absurd (show b∈([]:List Addr) from hb) (by simp),hok,.of_eq hg,htk⟩
  refine codeAny_mono ((F _ JL (CY hns)).run callerA [] s₁ H ⟨[.ref a],[]⟩ [.ref a] [.ref a] _ _ hr e0 (hbind s₁ (.ref a)) (.cons rfl .nil) (Wh H hO hS)) λr s' h=>?_
  cases r with
  |error e=>exact(FN H e s' h).elim
  |ok fl =>
   cases fl with
   |next=>exact False.elim h
   |brk=>exact False.elim h
   |cont=>exact False.elim h
   |ret u =>
    obtain⟨v,H',os,bare,un,ag1,r',_,q⟩:=h
    have q':v= .bl true:=q
    subst q'
    obtain rfl:u=Value.bool true:=r'
    refine⟨rfl,OldK.of_keep λb o e=>?_,os,bare⟩
    cases q:H b with
    |none=>exact un.keep b o e q (by intro z;exact absurd (show b∈([]:List Addr) from z) (by simp)) (by simp)
    |some u =>
     rcases hO b with z|⟨ob,xs,z⟩
     ·rw[q]at z;cases z
     ·have z2:=un.uD b ob _ z
      obtain⟨e1,_⟩:=hok b _ z
      obtain⟨e2,_⟩:=ag1 b _ z2
      rw[e]at e1;cases e1
      exact e2
 cases hk:K.lookup a with
 |some o =>
  have e:=KX a o hk
  rw[ha]at e
  cases e
  refine core (λ_=>none) (λ_=>.inl rfl) (.inr ⟨_,vs.toArray,_,hk,rfl,rfl,rfl,by rw[List.size_toArray,agC];exact hl,by simpa using rv⟩) (λb u z=>by have z':(none:Option HO)=some u:=z;cases z') (λb z=>absurd rfl z) λz=>absurd rfl z
 |none =>
  refine core (λb=>if b=a then some (.Qz { cls:=.type "list",data:=.seq vs.toArray } (.lst (ns.map V.int)))else none) (λb=>?_) (.inl (.inr ⟨{ cls:=.type "list",data:=.seq vs.toArray },if_pos rfl⟩)) (λb u z=>?_) (λb z=>?_) λ_=>hk
  ·by_cases hb:b=a
   ·exact .inr ⟨_,_,if_pos hb⟩
   ·exact .inl (if_neg hb)
  ·by_cases hb:b=a
   ·have z':=(if_pos hb).symm.trans z
    cases z'
    subst hb
    exact⟨ha,by rw[List.length_map];exact hl,vs,_,rv,ha⟩
   ·have z':=(if_neg hb).symm.trans z
    cases z'
  ·by_cases hb:b=a
   ·exact hb
   ·exact absurd (if_neg hb) z
end L2
namespace L2
open PySem PySem.Spec PyProof.Rows
end L2
namespace L2
open PySem PySem.Spec PyProof.Rows
noncomputable def inClass(s:Stmt)(j:Nat):Stmt:=match s with
 | .ClassDef _ _ _ body _ _ _ _ _ _ _=>body.getD j (.Pass ⟨0,0,0,0⟩)
 |_=>.Pass ⟨0,0,0,0⟩
noncomputable def jj(s:Stmt):Arguments:=match s with
 | .FunctionDef _ a _ _ _ _ _ _ _ _=>a
 |_=>{ posonlyargs:=[],args:=[],vararg:=none,kwonlyargs:=[],kw_defaults:=[],kwarg:=none,defaults:=[] }
noncomputable def gW(s:Stmt):List Stmt:=match s with
 | .FunctionDef _ _ b _ _ _ _ _ _ _=>b
 |_=>[]
noncomputable def av(s:Stmt):Scope:=match s with
 | .FunctionDef _ _ _ _ _ _ sc _ _ _=>sc
 |_=>{ kind:=.function,names:=[],isGenerator:=false,isCoroutine:=false }
noncomputable abbrev cO:Tt:=λ_ _ _ _ _ _=>False
noncomputable abbrev E0:XK:=λ_ _ _=>False
theorem aQ{X:Cx}:Passes cO X E0:=λ_ _ _ _ _ _ _ h=>h.elim
structure Wr(K:PySem.W.Frag)(x qual:Str)(st:Stmt)(f:Addr)(fd:FuncData):Prop where
 ex:∃(oc:Value) (od:Option Addr) (kV doc pm:Value) (an:Option Addr) (cdv ct:Value) (osl:Array (Option Value)),
  fd=PySem.W.fnOf x qual (jj st) (gW st) (av st) .none kV doc pm an cdv ct/\K.lookup f=some ⟨oc,od,.func fd,osl⟩/\PySem.W.codeIn K cdv qual=true
 kp:PySem.W.keepIn K (.ref f)=true
section
variable{P:Program}{w:World}{K:PySem.W.Frag}{mg:Str->Option Value}{base:Heap}
theorem Wr.ok{x qual:Str}{st:Stmt}{f:Addr}{fd:FuncData}{N ps:List Str}{k:Nat}{sp:Sp}(F:Wr K x qual st f fd)(S:aG N ps (av st))(len:∀vs H Q E,sp vs H Q E->vs.length=ps.length)
  (hbody:∀(cdv:Value) (A:Around) (outer:List Env) (s:Shared) (H:Hp) (vs:List V) (Q:VK) (E:XK),nQ k (A.deeper (envOfC qual (av st) s.heap.objs.size f cdv))->sp vs H Q E →
   ∃t,HP (wC cO P w K mg base N qual (av st) f cdv A outer s H E).B7 (gW st) t/\t { nx:=λ_ H'=>Q .ko H',rt:=Q } (start N vs) H):aH P w K mg base cO (k+1) f fd ps sp:=by
 obtain⟨oc,od,kV,doc,pm,an,cdv,ct,osl,rfl,lk,hcd⟩:=F.ex
 refine Yh lk hcd S len λA outer s H vs Q E hr Wh=>?_
 obtain⟨t,h,q⟩:=hbody cdv A outer s H vs Q E hr Wh
 exact⟨t,h.B7,q⟩
theorem Wr.binds{x qual:Str}{st:Stmt}{f:Addr}{fd:FuncData}{ps:List Str}(F:Wr K x qual st f fd)
  (h:∀(kV doc pm:Value) (an:Option Addr) (cdv ct:Value) (us:List Value),us.length=ps.length->bindArgs (PySem.W.fnOf x qual (jj st) (gW st) (av st) .none kV doc pm an cdv ct) ⟨us,[]⟩=pure (ps.zip us)):Binds K fd ps []:=by
 obtain⟨oc,od,kV,doc,pm,an,cdv,ct,osl,rfl,lk,hcd⟩:=F.ex
 exact .all (h kV doc pm an cdv ct)
theorem uC{x qual:Str}{st:Stmt}{f:Addr}{oc:Value}{od an:Option Addr}{osl:Array (Option Value)}{kV doc pm cdv ct:Value}(l:K.lookup f=some ⟨oc,od,.func (PySem.W.fnOf x qual (jj st) (gW st) (av st) .none kV doc pm an cdv ct),osl⟩)
  (c:PySem.W.codeIn K cdv qual=true) (k:PySem.W.keepIn K (.ref f)=true):Wr K x qual st f (PySem.W.fnOf x qual (jj st) (gW st) (av st) .none kV doc pm an cdv ct):=⟨⟨oc,od,kV,doc,pm,an,cdv,ct,osl,rfl,l,c⟩,k⟩
end
theorem pM{A:Around}{k:Nat}(hr:nQ k A):A.units+1<cLine:=Nat.lt_of_le_of_lt (Nat.add_le_add_left (by decide:1<=64) _) hr.units
section
variable{X:Cx}
theorem pv (i:Nat) {x:Str} {pos:Pos} (hN:X.N[i]? =some x:=by rfl) (hv:DB X.env.scope x:=by first|exact Or.inl rfl|exact Or.inr (Or.inl rfl)|exact Or.inr (Or.inr rfl)) (hd:(x==("__debug__" :Str))=false:=by decide)
  (hcd:(x==("__classdict__" :Str))=false:=by decide):PE X (.Name x pos) (KU i):=Z7 hN hv hd hcd
end
theorem iQ{A B:Prop}(h:B):if false=true then A else B:=by
 rw[if_neg Bool.false_ne_true]
 exact h
theorem kB{A B:Prop}(h:A):if true=true then A else B:=by
 rw[if_pos rfl]
 exact h
noncomputable def ai(H H':Hp):Prop:=∀b o,H b=some o->H' b=some o
theorem ai.refl(H:Hp):ai H H:=λ_ _ h=>h
theorem ai.trans{H H1 H2:Hp}(a:ai H H1)(b:ai H1 H2):ai H H2:=λc o h=>b c o (a c o h)
theorem ai.free{H H':Hp}(e:ai H H'){l:Addr}(h:H' l=Option.none):H l=Option.none:=by
 cases q:H l with
 |none=>rfl
 |some o =>
  rw[e l o q]at h
  cases h
theorem ai.seq{K:PySem.W.Frag}{H H':Hp}{a:Addr}{xs:List V}(e:ai H H')(h:bf K H a xs):bf K H' a xs:=by
 rcases h with(h|⟨o,h⟩)|h
 ·exact .inl (.inl (e _ _ h))
 ·exact .inl (.inr ⟨o,e _ _ h⟩)
 ·exact .inr h
section
variable{κ:Type}[DecidableEq κ]
end
end L2
namespace GP
theorem W9{α:Type}:∀{l:List α},l.length=1->∃a,l=[a]
 |[a],_=>⟨a,rfl⟩
theorem Ou{α:Type}{n:Nat}:∀{l:List α},l.length=n+1->∃a r,l=a::r/\r.length=n
 |a::r,h=>⟨a,r,rfl,Nat.succ.inj h⟩
theorem W8{α:Type}{l:List α}(h:l.length=2):∃a b,l=[a,b]:=by
 obtain⟨a,r,rfl,k⟩:=Ou h
 obtain⟨b,rfl⟩:=W9 k
 exact⟨a,b,rfl⟩
theorem W7{α:Type}{l:List α}(h:l.length=3):∃a b c,l=[a,b,c]:=by
 obtain⟨a,r,rfl,k⟩:=Ou h
 obtain⟨b,c,rfl⟩:=W8 k
 exact⟨a,b,c,rfl⟩
theorem W6{α:Type}{l:List α}(h:l.length=4):∃a b c d,l=[a,b,c,d]:=by
 obtain⟨a,r,rfl,k⟩:=Ou h
 obtain⟨b,c,d,rfl⟩:=W7 k
 exact⟨a,b,c,d,rfl⟩
theorem W5{α:Type}{l:List α}(h:l.length=5):∃a b c d e,l=[a,b,c,d,e]:=by
 obtain⟨a,r,rfl,k⟩:=Ou h
 obtain⟨b,c,d,e,rfl⟩:=W6 k
 exact⟨a,b,c,d,e,rfl⟩
theorem Kv{α:Type}{l:List α}(h:l.length=6):∃a b c d e f,l=[a,b,c,d,e,f]:=by
 obtain⟨a,r,rfl,k⟩:=Ou h
 obtain⟨b,c,d,e,f,rfl⟩:=W5 k
 exact⟨a,b,c,d,e,f,rfl⟩
end GP
namespace L2
open PySem PySem.Spec PyProof.Rows
section
variable{X:Cx}
theorem wJ:∀{bs:List Bool} {us:List Value},Vals (bs.map V.bl) us->∀(i:Nat) (v:Value),us[i]? =some v->∃b,bs[i]? =some b/\v= .bool b
 |[],_,r,i,v,e=>by
  cases r
  simp at e
 |b::bs,_,r,i,v,e=>by
  cases r with
  |cons r1 r2 =>
   cases i with
   |zero =>
    simp at e
    subst e
    exact⟨b,rfl,r1⟩
   |succ i =>
    obtain⟨c,h1,h2⟩:=wJ r2 i v (by simpa using e)
    exact⟨c,by simpa using h1,h2⟩
theorem P6(bs:List Bool):((List.range bs.length).all λi=>(bs[i]?).getD true)=bs.all id:=by
 rw[Bool.eq_iff_iff,List.all_eq_true,List.all_eq_true]
 constructor
 ·intro h b hb
  obtain⟨i,hi,rfl⟩:=List.getElem_of_mem hb
  have:=h i (List.mem_range.mpr hi)
  simpa only[List.getElem?_eq_getElem hi,Option.getD_some,id]using this
 ·intro h i hi
  have hi':=List.mem_range.mp hi
  simpa only[List.getElem?_eq_getElem hi',Option.getD_some,id]using h _ (List.getElem_mem hi')
theorem OT(hc:X.calm=true):mF X (.builtin "all") (λxs H Q=>∃(l:Addr) (bs:List Bool),xs=[.ref l]/\bf X.K H l (bs.map V.bl)/\Q (.bl (bs.all id)) H):=by
 intro pins s σ H xs us Q I r h
 obtain⟨l,bs,rfl,hl,q⟩:=h
 obtain⟨u,rfl,ru⟩:=vals1 r
 cases ru
 obtain⟨its,rv,p,hz⟩:=I.list hl
 have pl:s.heap.IsList l its.toArray:=p.isList
 have hlt:l<s.heap.objs.size:=by obtain⟨_,e,_⟩:=pl;exact Heap.lt_size e
 have hlen:bs.length=its.length:=by rw[←rv.length,List.length_map]
 refine TK.cZ (Nat.le_refl s.toks) ?_
 refine call_all_walk (wpAny_pyIter_list pl ?_)
 refine⟨s.heap.objs.size,[s.heap.objs.size,l],[s.heap.objs.size],its.toArray.size,_,_,λi=>(bs[i]?).getD true,rfl,Walks.list (A:=X.A.in1) (I.ok.hd hc) _ l (Nat.ne_of_lt hlt) its.toArray,
  ⟨⟨_,Heap.get?_push_size _ rfl,rfl,rfl⟩,pl.push _⟩,λi v s' Q' E' hP hQ=>?_,λh' tk hk hup=>?_⟩
 ·obtain⟨b,e,rfl⟩:=wJ rv i v (by simpa using hP)
  simp only[e,Option.getD_some]at hQ
  exact wpAny_truthy_bool hQ
 ·have e:((List.range its.toArray.size).all λi=>(bs[i]?).getD true)=bs.all id:=by
   rw[List.size_toArray,←hlen];exact P6 bs
  rw[e]
  refine⟨.bl (bs.all id),H,I.kept (t':=tk) (λb x e=>hk b x (λhm=>?_) (Heap.get?_push_of_some _ e)),rfl,q⟩
  rw[List.mem_singleton.mp hm]at e
  exact Nat.lt_irrefl _ (Heap.lt_size e)
end
noncomputable def afW(t u:TS):TS:=λD σ H=>∃Mid:St->Hp->Prop,t { D with nx:=Mid } σ H/\∀ σ' H',Mid σ' H'->u D σ' H'
theorem bX{X:Cx}{st:Stmt}{rest:List Stmt}{t u:TS}(h1:PS X st t)(h2:HP X rest u):HP X (st::rest) (afW t u):=by
 intro pins s σ H D I h
 obtain⟨Mid,h,hm⟩:=h
 refine wpAny_execs_cons (gB (h1 pins s σ H { D with nx:=Mid } I h) λf s1 q=>?_)
 cases f with
 |next =>
  obtain⟨σ',H',I',q⟩:=q
  exact h2 pins s1 σ' H' D I' (hm σ' H' q)
 |ret v=>exact q
 |brk=>exact q
 |cont=>exact q
noncomputable def kT(X:Cx)(scope:Scope)(cl:List (Str×Addr))(C:Addr)(N:List Str)(s:Shared)(H:Hp)(ex:List Addr)(pn:List (Addr×Obj))(E:Value->Shared->Prop):Cx :=
 { X with N:=N,s₀:=s,H₀:=H,env:=compEnvC scope cl C X.env,outer:=X.stack,ex:=ex,fn:=λx=>scope.names.lookup x==some .cell,pn:=pn,xe:=E }
structure bI(X:Cx)(scope:Scope)(cl:List (Str×Addr))(N:List Str)(p9:St->St):Prop where
 clos:closureFor scope X.env=pure cl
 kind:scope.kind= .function
 cell:∀y∈scope.names,y.2= .cell->cl.lookup y.1=none
 names:∀y∈scope.names,y.2= .local->scope.names.lookup y.1=some .local
 sub:∀x c,cl.lookup x=some c->X.env.cells.lookup x=some c
 has:∀x,((relabel scope X.env).names.lookup x=some .cell\/(relabel scope X.env).names.lookup x=some .free)->scope.names.lookup x=some .cell\/∃c,cl.lookup x=some c
 len:∀ σ,(p9 σ).length=N.length
 fv:∀(σ:St) (i:Nat) (x:Str) (v:V),N[i]? =some x->(p9 σ)[i]? =some (some v)->DB (relabel scope X.env) x →
  ∃(j:Nat) (c:Addr),X.N[j]? =some x/\σ[j]? =some (some v)/\X.env.kindOf x=some .cell/\((relabel scope X.env).names.lookup x=some .cell\/(relabel scope X.env).names.lookup x=some .free)/\cl.lookup x=some c
structure Wd(cl Hr:List (Str×Addr))(scope:Scope)(n:Nat)(h₁:Heap):Prop where
 look:∀x c,Hr.lookup x=some c->(n<c/\h₁.IsCell c none)\/cl.lookup x=some c
 inj:∀x y c,n<c->Hr.lookup x=some c->Hr.lookup y=some c->(∀x,cl.lookup x≠some c)->x=y
 keep:∀x c,cl.lookup x=some c->Hr.lookup x=some c
 own:∀x,scope.names.lookup x=some .cell->∃c,Hr.lookup x=some c
theorem jf:∀(names:List (Str×NameKind)) (n:Nat) (acc:List (Str×Addr)),cellsFrom n names acc=cellsFrom n names []++acc
 |[],_,_=>rfl
 |(y,k)::r,n,acc=>by
  unfold cellsFrom
  split
  ·rw[jf r _ ((y,n)::acc),jf r _ [(y,n)],List.append_assoc];rfl
  ·exact jf r n acc
theorem p6:∀(names:List (Str×NameKind)) (n:Nat) (acc:List (Str×Addr)) (x:Str) (c:Addr),(x,c)∈cellsFrom n names acc->(x,NameKind.cell)∈names\/(x,c)∈acc
 |[],_,_,_,_,h=>.inr h
 |(y,k)::r,n,acc,x,c,h=>by
  unfold cellsFrom at h
  split at h
  next hk =>
   rcases p6 r _ _ x c h with z|z
   ·exact .inl (List.mem_cons_of_mem _ z)
   ·rcases List.mem_cons.mp z with e|e
    ·cases e
     have hk':k= .cell:=by simpa using hk
     rw[hk']
     exact .inl List.mem_cons_self
    ·exact .inr e
  next=>exact(p6 r _ _ x c h).imp (List.mem_cons_of_mem _) id
theorem ON{X:Cx}{scope:Scope}{cl:List (Str×Addr)}{N:List Str}{p9:St->St}(S:bI X scope cl N p9){M:Model}{A:Around}{E:Value->Shared->Prop}{s:Shared}{Q:Env->Shared->Prop}
  (h:∀Hr h₁,Wd cl Hr scope s.heap.objs.size h₁->h₁.Ns s.heap.objs.size (λ_=>none)->(∀b o,s.heap.get? b=some o->h₁.get? b=some o)->Q { compEnvC scope Hr s.heap.objs.size X.env with scope:=scope } { s with heap:=h₁ }) :
  wpAny M A (newFunctionEnv scope X.env.globals cl [] X.env.qual none .none (some X.env)) Q E s:=by
 simp only[newFunctionEnv,Option.isSome_some,if_true]
 refine wpAny_bind (wpAny_alloc ?_)
 refine wpAny_bind (wpAny_layCells _ (λname kind cells=>by cases hkc:kind==NameKind.cell<;>simp[hkc]) _ _ _ _ ?_)
 have hz:(s.heap.push { cls:=.type "dict",data:=.dict #[] }).objs.size=s.heap.objs.size+1:=Heap.size_push ..
 have ok:=cellsFrom_ok scope.names (s.heap.push { cls:=.type "dict",data:=.dict #[] }) (s.heap.objs.size+1) [] ⟨λ_ _ hm=>(nomatch hm),List.Pairwise.nil⟩ (by rw[hz];exact Nat.le_refl _)
 simp only[List.forIn_nil]
 refine wpAny_bind (wpAny_pure (wpAny_pure (h (cellsFrom (s.heap.push { cls:=.type "dict",data:=.dict #[] }).objs.size scope.names cl) _ ⟨λx c e=>?_,λx y c _ ex ey hn=>?_,λx c e=>?_,λx e=>?_⟩ ((Heap.Ns.new s.heap (.type "dict")).keeps λb o e=>pushCells_keeps _ _ _ _ e) λb o e=>pushCells_keeps _ _ _ _ (Heap.get?_push_of_some _ e))))
 ·rw[jf,List.lookup_append]at e
  cases q:(cellsFrom (s.heap.push { cls:=.type "dict",data:=.dict #[] }).objs.size scope.names []).lookup x with
  |none=>rw[q]at e;exact .inr e
  |some d =>
   rw[q]at e
   cases e
   exact .inl ((ok.empty x c (mem_of_lookup q)).symm)
 ·rw[jf,List.lookup_append]at ex ey
  cases qx:(cellsFrom (s.heap.push { cls:=.type "dict",data:=.dict #[] }).objs.size scope.names []).lookup x with
  |none=>rw[qx]at ex;exact absurd ex (hn x)
  |some d =>
   rw[qx]at ex
   cases ex
   cases qy:(cellsFrom (s.heap.push { cls:=.type "dict",data:=.dict #[] }).objs.size scope.names []).lookup y with
   |none=>rw[qy]at ey;exact absurd ey (hn y)
   |some d =>
    rw[qy]at ey
    cases ey
    exact name_of_addr ok.apart (mem_of_lookup qx) (mem_of_lookup qy)
 ·rw[jf,List.lookup_append]
  cases q:(cellsFrom (s.heap.push { cls:=.type "dict",data:=.dict #[] }).objs.size scope.names []).lookup x with
  |none=>exact e
  |some d =>
   rcases p6 _ _ _ _ _ (mem_of_lookup q)with z|z
   ·rw[S.cell _ z rfl]at e;cases e
   ·cases z
 ·exact Option.isSome_iff_exists.mp (PySem.W.cellsFrom_some _ _ _ (.inl e))
theorem bI.plain{X:Cx}{scope:Scope}{N:List Str}(hfree:∀x∈scope.names,x.2≠ .free)(kind:scope.kind= .function)(_:∀y∈scope.names,y.2= .cell->(y.1,NameKind.free)∉scope.names)
  (names:∀y∈scope.names,y.2= .local->scope.names.lookup y.1=some .local):bI X scope [] N (λ_=>List.replicate N.length none):=by
 have hr:(relabel scope X.env).names=scope.names:=by
  unfold relabel
  exact map_eq_self λx hx=>by
   obtain⟨n,k⟩:=x
   have:(k==NameKind.free)=false:=by simpa using hfree _ hx
   simp[this]
 refine⟨closureFor_none hfree,kind,λ_ _ _=>rfl,names,λx c e=>by simp at e,λx hx=>?_,λσ=>List.length_replicate,λσ i x v _ e _=>?_⟩
 ·rw[hr]at hx
  rcases hx with hx|hx
  ·exact .inl hx
  ·exact absurd rfl (hfree _ (PySem.mem_of_lookup hx))
 ·rw[List.getElem?_replicate]at e
  split at e
  ·cases e
  ·cases e
noncomputable def uH(look:Str->Option Addr):List (Str×NameKind)->List (Str×Addr)->List (Str×Addr)
 |[],acc=>acc
 |(n,k)::r,acc=>if(k==NameKind.free)=true then(match look n with|some a=>uH look r ((n,a)::acc)|none=>uH look r acc)else uH look r acc
theorem uG{env:Env}:∀(names:List (Str×NameKind)) (acc:List (Str×Addr)),(∀x∈names,x.2= .free->∃a,env.cells.lookup x.1=some a) →
  (forIn names acc (λ(x:Str×NameKind) (r:List (Str×Addr))=>match x with|(name,kind)=>if(kind==NameKind.free)=true then do let c ←cellOf env name;pure (ForInStep.yield ((name,c)::r))else pure (ForInStep.yield r)):Sem (List (Str×Addr)))=pure (uH (env.cells.lookup ·) names acc)
 |[],acc,_=>rfl
 |(n,k)::r,acc,h=>by
  rw[List.forIn_cons]
  dsimp only
  unfold uH
  by_cases hk:(k==NameKind.free)=true
  ·obtain⟨a,ha⟩:=h (n,k) List.mem_cons_self (by simpa using hk)
   have ha':env.cells.lookup n=some a:=ha
   rw[if_pos hk,if_pos hk,ha']
   have hc:cellOf env n=pure a:=by unfold cellOf;rw[ha']
   rw[hc]
   exact uG r _ λx hx=>h x (List.mem_cons_of_mem _ hx)
  ·rw[if_neg hk,if_neg hk]
   exact uG r _ λx hx=>h x (List.mem_cons_of_mem _ hx)
theorem vq{look:Str->Option Addr}:∀(names:List (Str×NameKind)) (acc:List (Str×Addr)),(∀x c,acc.lookup x=some c->look x=some c)->∀x c,(uH look names acc).lookup x=some c->look x=some c
 |[],acc,h=>h
 |(n,k)::r,acc,h=>by
  unfold uH
  by_cases hk:(k==NameKind.free)=true
  ·rw[if_pos hk]
   cases e:look n with
   |none=>exact vq r acc h
   |some a =>
    refine vq r _ λx c q=>?_
    rw[List.lookup_cons]at q
    by_cases hx:(x==n)=true
    ·rw[hx]at q
     have:x=n:=by simpa using hx
     rw[this,e]
     exact q
    ·have hx':(x==n)=false:=by simpa using hx
     rw[hx']at q
     exact h x c q
  ·rw[if_neg hk]
   exact vq r acc h
theorem qU{look:Str->Option Addr}:∀(names:List (Str×NameKind)) (acc:List (Str×Addr)) (x:Str),(∃c,acc.lookup x=some c)->∃c,(uH look names acc).lookup x=some c
 |[],_,_,h=>h
 |(n,k)::r,acc,x,h=>by
  unfold uH
  by_cases hk:(k==NameKind.free)=true
  ·rw[if_pos hk]
   cases e:look n with
   |none=>exact qU r acc x h
   |some a =>
    refine qU r _ x ?_
    rw[List.lookup_cons]
    cases hx:x==n with
    |true=>exact⟨a,rfl⟩
    |false=>exact h
  ·rw[if_neg hk]
   exact qU r acc x h
theorem su{look:Str->Option Addr}:∀(names:List (Str×NameKind)) (acc:List (Str×Addr)) (x:Str),(x,NameKind.free)∈names->(∃a,look x=some a)->∃c,(uH look names acc).lookup x=some c
 |[],_,_,h,_=>by cases h
 |(n,k)::r,acc,x,h,ha=>by
  unfold uH
  rcases List.mem_cons.mp h with e|e
  ·obtain⟨a,ha⟩:=ha
   have e1:x=n:=congrArg Prod.fst e
   have e2:k=NameKind.free:=(congrArg Prod.snd e).symm
   subst e1 e2
   rw[if_pos (by decide),ha]
   refine qU r _ x ⟨a,?_⟩
   rw[List.lookup_cons]
   simp
  ·by_cases hk:(k==NameKind.free)=true
   ·rw[if_pos hk]
    cases e2:look n with
    |none=>exact su r acc x e ha
    |some a=>exact su r _ x e ha
   ·rw[if_neg hk]
    exact su r acc x e ha
theorem vt{look:Str->Option Addr}:∀(names:List (Str×NameKind)) (acc:List (Str×Addr)) (x:Str) (c:Addr),(uH look names acc).lookup x=some c->(x,NameKind.free)∈names\/acc.lookup x=some c
 |[],_,_,_,h=>.inr h
 |(n,k)::r,acc,x,c,h=>by
  unfold uH at h
  by_cases hk:(k==NameKind.free)=true
  ·rw[if_pos hk]at h
   cases e:look n with
   |none=>rw[e]at h;exact(vt r acc x c h).imp (List.mem_cons_of_mem _) id
   |some a =>
    rw[e]at h
    rcases vt r _ x c h with z|z
    ·exact .inl (List.mem_cons_of_mem _ z)
    ·rw[List.lookup_cons]at z
     cases hx:x==n with
     |true =>
      have e1:x=n:=by simpa using hx
      have e2:k= .free:=by simpa using hk
      rw[e1,e2]
      exact .inl List.mem_cons_self
     |false=>rw[hx]at z;exact .inr z
  ·rw[if_neg hk]at h
   exact(vt r acc x c h).imp (List.mem_cons_of_mem _) id
theorem qM{env:Env}:∀{names:List (Str×NameKind)} {x:Str} {k:NameKind},
  (names.map λ(n,k)=>if(k==NameKind.free&&env.scope.kind== .function&&env.kindOf n==some .cell)then(n,NameKind.cell)else(n,k)).lookup x=some k →
  (k= .cell\/k= .free)->names.lookup x=some .cell\/(x,NameKind.free)∈names
 |[],_,_,h,_=>by simp at h
 |(n,j)::r,x,k,h,hk=>by
  rw[List.map_cons,List.lookup_cons]at h
  rw[List.lookup_cons]
  by_cases hj:(j==NameKind.free&&env.scope.kind== .function&&env.kindOf n==some .cell)=true
  ·simp only[hj,if_true]at h
   by_cases hx:(x==n)=true
   ·have e:x=n:=by simpa using hx
    have ej:j= .free:=by
     rw[Bool.and_eq_true,Bool.and_eq_true]at hj
     simpa using hj.1.1
    rw[e,←ej]
    exact .inr List.mem_cons_self
   ·have hx':(x==n)=false:=by simpa using hx
    rw[hx']at h ⊢
    exact(qM h hk).imp id (List.mem_cons_of_mem _)
  ·simp only[hj]at h
   by_cases hx:(x==n)=true
   ·have e:x=n:=by simpa using hx
    rw[e]at h
    simp at h
    subst h
    rw[hx]
    rcases hk with q|q
    ·rw[q];exact .inl rfl
    ·rw[e,←q]
     exact .inr List.mem_cons_self
   ·have hx':(x==n)=false:=by simpa using hx
    simp[hx']at h
    rw[hx']
    exact(qM (by simpa using h) hk).imp id (List.mem_cons_of_mem _)
noncomputable def CS(nt:Nat)(ix:List Nat)(σ:St):St:=List.replicate nt none++ix.map λj=>(σ[j]?).join
theorem bI.free{X:Cx}{scope:Scope}{N:List Str}{nt:Nat}{ix:List Nat}(kind:scope.kind= .function)(cell:∀y∈scope.names,y.2= .cell->(y.1,NameKind.free)∉scope.names)
  (names:∀y∈scope.names,y.2= .local->scope.names.lookup y.1=some .local) (hf:∀y∈scope.names,y.2= .free->X.env.kindOf y.1=some .cell)
  (hl:N.length=nt+ix.length) (hx:∀(k j:Nat),ix[k]? =some j->∃x,N[nt+k]? =some x/\X.N[j]? =some x/\(x,NameKind.free)∈scope.names/\(relabel scope X.env).names.lookup x=some .cell) (ok:X.Ok) :
  ∃cl,bI X scope cl N (CS nt ix):=by
 have hcl:∀y∈scope.names,y.2= .free->∃a,X.env.cells.lookup y.1=some a:=λy hy hk=>ok.has y.1 (.inl (hf y hy hk))
 refine⟨uH (X.env.cells.lookup ·) scope.names [],?_,kind,λy hy hk=>?_,names,vq scope.names [] (λx c e=>by simp at e),λx h=>?_,λσ=>?_,λσ i x v e1 e2 e3=>?_⟩
 ·have z:=uG scope.names [] hcl
  unfold closureFor
  dsimp only
  rw[z]
  rfl
 ·cases q:(uH (X.env.cells.lookup ·) scope.names []).lookup y.1 with
  |none=>rfl
  |some c =>
   rcases vt _ _ _ _ q with z|z
   ·exact absurd z (cell y hy hk)
   ·cases z
 ·have hm:scope.names.lookup x=some .cell\/(x,NameKind.free)∈scope.names:=by
   rcases h with h|h
   ·exact qM h (.inl rfl)
   ·exact qM h (.inr rfl)
  exact hm.imp id λhm=>su scope.names [] x hm (hcl _ hm rfl)
 ·unfold CS
  rw[List.length_append,List.length_replicate,List.length_map,hl]
 ·unfold CS at e2
  by_cases hi:i<nt
  ·rw[List.getElem?_append_left (by rw[List.length_replicate];exact hi),List.getElem?_replicate]at e2
   split at e2
   ·cases e2
   ·cases e2
  ·rw[List.getElem?_append_right (by rw[List.length_replicate];omega),List.length_replicate,List.getElem?_map]at e2
   cases ej:ix[i-nt]? with
   |none=>rw[ej]at e2;cases e2
   |some j =>
    rw[ej]at e2
    have Yi:(σ[j]?).join=some v:=Option.some.inj e2
    obtain⟨x',n1,n2,n3,n4⟩:=hx (i-nt) j ej
    rw[show nt+(i-nt)=i by omega,e1]at n1
    cases n1
    obtain⟨c,hc⟩:=su (look:=(X.env.cells.lookup ·)) scope.names [] x n3 (hcl _ n3 rfl)
    refine⟨j,c,n2,?_,hf _ n3 rfl,.inl n4,hc⟩
    cases es:σ[j]? with
    |none=>rw[es]at Yi;cases Yi
    |some o=>rw[es]at Yi;rw[show o=some v from Yi]
noncomputable def Kp(a b:St):Prop:=∀(i:Nat) (v:V),a[i]? =some (some v)->b[i]? =some (some v)
theorem Kp.rep(n:Nat)(b:St):Kp (List.replicate n none) b:=λi v e=>by
 rw[List.getElem?_replicate]at e
 split at e
 ·cases e
 ·cases e
noncomputable def Uh(wi:TI)(g:TG)(te:TE)(p9:St->St):TE:=λσ H Q=>wi σ H λJ H1=>∀l,H1 l=none->∃W:Nat->Nat->List V->Hp->Prop,(∃m,W 0 m [] (upd H1 l (.lst []))) ∧
 ∀i m ys H2,W i m ys H2->(J.stop i H2/\Q (.ref l) H2) ∨
  (J.go i H2/\∀x H3,J.AL i H2 x H3->g x (p9 σ) H3 λwV H4=>Kp (p9 σ) wV/\te wV H4 λy H5=>H5 l=some (.lst ys)/\ys.length<sizeLine/\∃m',m'<m/\W (i+1) m' (ys++[y]) (upd H5 l (.lst (ys++[y]))))
theorem Inv.TZ{X:Cx}{pins:List (Addr×Obj)}{σ:St}{H:Hp}{s:Shared}(I:Inv X pins σ H s):Inv X [] σ H s:=I.GC λ_ hp=>nomatch hp
theorem qc.but{P:Program}{w:World}{H:Hp}{h h':Heap}{C:Addr}(x:qc P w H h)(hC:H C=none)(sb:Heap.SameBut C h h'):qc P w H h':=λb u e =>
 (x b u e).stay (λc v hc q=>(sb.2 c (by
  rintro rfl
  rcases hc with z|z
  ·rw[z,e]at hC;cases hC
  ·rw[hC]at z;cases z)).trans q) (λ_ q=>q) λ_ _ q=>q
section
variable{X:Cx}{pins:List (Addr×Obj)}{σ:St}{H:Hp}{s:Shared}{scope:Scope}{cl:List (Str×Addr)}{N:List Str}{p9:St->St}{fp:List Addr}{h₁:Heap}{m:Str->Option Value}{E:Value->Shared->Prop}
theorem Ow{Hr:List (Str×Addr)}(S:bI X scope cl N p9)(G:Wd cl Hr scope s.heap.objs.size h₁)(I:Inv X pins σ H s)(hf:∀b∈fp,rC X pins H b/\b<s.heap.objs.size)(kp:∀b o,s.heap.get? b=some o->h₁.get? b=some o)(hns:h₁.Ns s.heap.objs.size m)(t':Nat)(ht:s.toks<=t':=by first|exact Nat.le_refl _|exact Nat.le_succ _|assumption|omega):
  Inv (kT X scope Hr s.heap.objs.size N s H fp (X.pn++pins) E) [] (p9 σ) H { s with heap:=h₁,toks:=t' }:=by
 have K9:∀b,b≠X.env.locals->b∉X.fs->b∉frs X.stack:=λb h1 h2 z=>by
  rcases List.mem_cons.mp (I.ue b z)with q|q
  ·exact h1 q
  ·exact h2 q
 have Xw:∀x c,cl.lookup x=some c->c<s.heap.objs.size:=λx c e=>by
  obtain⟨v,o,ho,_⟩:=I.cell x c (S.sub x c e)
  exact Heap.lt_size ho
 refine⟨⟨I.mod,S.kind,I.ok.glob,I.ok.blt,Nat.le_refl _,λx y c a b=>?_,λx h=>(S.has x h).elim (G.own x) λ⟨c,e⟩=>⟨c,G.keep x c e⟩,λx c z e=>?_,I.ok.hd,I.ok.frames,.inl rfl,λb hb=>?_,I.bs,Nat.le_trans I.ok.V0 I.sz,λb o e hb=>?_,λb hb=>?_,I.stack,I.Gi,I.tk⟩,
  rfl,I.bare,Un.kept kp,⟨m,hns,λi x v e1 e2 e3=>?_⟩,λx c e=>?_,I.hok.fresh (Nat.le_refl _),λx c e=>(G.look x c e).elim (λz=>I.hok.fresh (Nat.le_of_lt z.1)) λz=>I.mj x c (S.sub x c z),λp hp=>?_,I.hok.kept kp,S.len σ,ht⟩
 ·by_cases hc:s.heap.objs.size<c
  ·exact G.inj x y c hc a b λz e=>Nat.lt_asymm hc (Xw z c e)
  ·exact I.ok.inj x y c (S.sub x c ((G.look x c a).elim (λz=>absurd z.1 hc) id)) (S.sub y c ((G.look y c b).elim (λz=>absurd z.1 hc) id))
 ·rcases G.look x c e with q|q
  ·exact Nat.le_of_lt q.1
  ·have z2:(scope.names.lookup x==some NameKind.cell)=true:=z
   have z':scope.names.lookup x=some .cell:=by simpa using z2
   rw[S.cell _ (mem_of_lookup z') rfl]at q
   cases q
 ·obtain⟨⟨_,_,_,_,f4,_⟩,lt⟩:=hf b hb
  exact⟨Nat.ne_of_lt lt,λx c e=>(G.look x c e).elim (λz=>Nat.ne_of_gt (Nat.lt_trans lt z.1)) λz=>f4 x c (S.sub x c z)⟩
 ·obtain⟨⟨f0,_,_,f3,_⟩,_⟩:=hf b hb
  rcases f3 with z|z
  ·exact I.ok.Qh b o e z
  ·exact absurd (Nat.lt_of_lt_of_le (Heap.lt_size e) (Nat.le_trans I.ok.V0 z)) (Nat.lt_irrefl _)
 ·obtain⟨⟨_,f1,f2,_⟩,_⟩:=hf b hb
  exact K9 b f1 f2
 ·obtain⟨j,c,n1,n2,n3,n4,n5⟩:=S.fv σ i x v e1 e2 e3
  obtain⟨mX,_,hl⟩:=I.loc
  obtain⟨u,r,l⟩:=hl j x v n1 n2 (.inr (.inl n3))
  refine⟨u,r,.inr ⟨n4,c,G.keep x c n5,?_⟩⟩
  rcases l with⟨k,_⟩|⟨_,c',ec,o,ho,hd⟩
  ·have k':X.env.scope.names.lookup x=some .local:=k
   have Jb:X.env.scope.names.lookup x=some .cell:=n3
   rw[k']at Jb;cases Jb
  ·have q:=S.sub x c n5
   rw[q]at ec;cases ec
   exact⟨o,kp _ _ ho,hd⟩
 ·rcases G.look x c e with z|z
  ·exact⟨none,z.2⟩
  ·obtain⟨v,o,ho,hd⟩:=I.cell x c (S.sub x c z)
   exact⟨v,o,kp _ _ ho,hd⟩
 ·have Mi:p∈X.pn++pins:=by
   rcases List.mem_append.mp hp with z|z
   ·exact z
   ·cases z
  obtain⟨a,b,c,d,e⟩:=I.pin p Mi
  exact⟨kp _ _ a,b,Nat.ne_of_lt (Heap.lt_size a),K9 _ c d,e⟩
end
end L2
namespace L2
open PySem PySem.Spec PyProof.Rows
inductive Cp where
 |lst (a:Addr)|tup (a:Addr)|txt (x:Str)
noncomputable def gi(x:Str):List V:=x.cps.toList.map λc=>V.str ⟨#[c]⟩
noncomputable def Cp.val:Cp->V
 | .lst a=>.ref a
 | .tup a=>.ref a
 | .txt x=>.str x
noncomputable def Cp.at(K:PySem.W.Frag)(H:Hp):Cp->List V->Prop
 | .lst a=>bf K H a
 | .tup a=>iR K H a
 | .txt x=>λxs=>xs=gi x
noncomputable def Cp.Pu(h:Heap)(it:Addr)(i:Nat):Cp->Prop
 | .lst a=>h.IsListIter it a i
 | .tup a=>h.IsTupleIter it a i
 | .txt x=>∃t,h.IsStrIter it (strIterType x) x t i
noncomputable def Cp.src(h:Heap):Cp->List V->Prop
 | .lst a=>λxs=>∃its,Vals xs its/\h.IsList a its.toArray
 | .tup a=>λxs=>∃its,Vals xs its/\h.IsTuple a its.toArray
 | .txt x=>λxs=>xs=gi x
noncomputable def Cp.off(b:Addr):Cp->Prop
 | .lst a=>a≠b
 | .tup a=>a≠b
 | .txt _=>True
section
variable{X:Cx}{pins:List (Addr×Obj)}{σ:St}{H:Hp}{s:Shared}{c d:Cp}{xs ys:List V}
theorem Cp.qG(I:Inv X pins σ H s)(h:c.at X.K H xs):c.src s.heap xs:=by
 cases c with
 |lst a=>obtain⟨its,r,p,_⟩:=I.list h;exact⟨its,r,p.isList⟩
 |tup a=>obtain⟨its,r,p,_⟩:=I.tuple h;exact⟨its,r,p⟩
 |txt x=>exact h
theorem Cp.QM(I:Inv X pins σ H s)(h:c.at X.K H xs)(h':c.at X.K H ys):xs=ys:=by
 cases c with
 |lst a=>exact I.y9 h h'
 |tup a=>exact I.AS h h'
 |txt x=>exact(show xs=gi x from h).trans (show ys=gi x from h').symm
theorem Cp.pY {h:Heap} {b:Addr} {o:Obj} {T:String} (hs:c.src h xs) (hb:h.get? b=some o) (hc:o.cls= .type T) (n1:T≠ "list") (n2:T≠ "tuple"):c.off b:=by
 cases c with
 |lst a =>
  obtain⟨its,_,o',ho,hc',_⟩:=hs
  intro e
  rw[e,hb]at ho
  cases ho
  rw[hc]at hc'
  injection hc' with q
  exact n1 q
 |tup a =>
  obtain⟨its,_,o',ho,hc',_⟩:=hs
  intro e
  rw[e,hb]at ho
  cases ho
  rw[hc]at hc'
  injection hc' with q
  exact n2 q
 |txt x=>trivial
theorem Cp.RA{h:Heap}{b:Addr}(hs:c.src h xs)(hb:h.objs.size<=b):c.off b:=by
 cases c with
 |lst a =>
  obtain⟨its,_,o',ho,_⟩:=hs
  exact Nat.ne_of_lt (Nat.lt_of_lt_of_le (Heap.lt_size ho) hb)
 |tup a =>
  obtain⟨its,_,o',ho,_⟩:=hs
  exact Nat.ne_of_lt (Nat.lt_of_lt_of_le (Heap.lt_size ho) hb)
 |txt x=>trivial
theorem Cp.m5{h h':Heap}{b:Addr}(hs:c.src h xs)(hx:Heap.ExtBut b h h')(ho:c.off b):c.src h' xs:=by
 cases c with
 |lst a=>obtain⟨its,r,p⟩:=hs;exact⟨its,r,p.extBut hx ho⟩
 |tup a=>obtain⟨its,r,p⟩:=hs;exact⟨its,r,p.extBut hx ho⟩
 |txt x=>exact hs
theorem Cp.Uj{h h':Heap}(hs:c.src h xs)(hx:∀b o,h.get? b=some o->h'.get? b=some o):c.src h' xs:=by
 cases c with
 |lst a=>obtain⟨its,r,o,ho,q⟩:=hs;exact⟨its,r,o,hx _ _ ho,q⟩
 |tup a=>obtain⟨its,r,o,ho,q⟩:=hs;exact⟨its,r,o,hx _ _ ho,q⟩
 |txt x=>exact hs
theorem Cp.mh{h:Heap}{it:Addr}{i:Nat}(q:c.Pu h it i):∃o T vs,h.get? it=some o/\o.cls= .type T/\o.data= .fields vs/\T≠ "list" /\T≠ "tuple" :=by
 cases c with
 |lst a=>obtain⟨o,ho,hc,hd⟩:=q;exact⟨o,_,_,ho,hc,hd,by decide,by decide⟩
 |tup a=>obtain⟨o,ho,hc,hd⟩:=q;exact⟨o,_,_,ho,hc,hd,by decide,by decide⟩
 |txt x =>
  obtain⟨t,o,ho,hc,hd⟩:=q
  refine⟨o,_,_,ho,hc,hd,?_,?_⟩
  ·unfold strIterType;split<;>decide
  ·unfold strIterType;split<;>decide
theorem Cp.kr{h h':Heap}{it:Addr}{i:Nat}(q:c.Pu h it i)(e:∀o,h.get? it=some o->h'.get? it=some o):c.Pu h' it i:=by
 cases c with
 |lst a=>obtain⟨o,ho,r⟩:=q;exact⟨o,e _ ho,r⟩
 |tup a=>obtain⟨o,ho,r⟩:=q;exact⟨o,e _ ho,r⟩
 |txt x=>obtain⟨t,o,ho,r⟩:=q;exact⟨t,o,e _ ho,r⟩
end
section
variable{prog:Program}{w:World}{A:Around}{E:Value->Shared->Prop}{s:Shared}{c d:Cp}{xs ys:List V}
theorem vj{it t:Addr}{i:Nat}{items}{x:Value}{Q:Value->Shared->Prop}(hit:s.heap.IsTupleIter it t i)
  (ht:s.heap.IsTuple t items) (hx:items[i]? =some x)
  (hQ:∀h',h'.IsTupleIter it t (i+1)->Heap.SameBut it s.heap h'->Q x { s with heap:=h' }) :
  wpAny (model prog w) A (Builtin.SmallTypes.nextOf (.ref it)) Q E s:=by
 obtain⟨o,ho,hc,hd⟩:=id hit
 obtain⟨ol,Fy,_,nl,hdl⟩:=ht
 unfold Builtin.SmallTypes.nextOf
 refine wpAny_bind (wpAny_callSpecial?_slot (name:=Str.ofString "__next__") hit.typeIs F.slot_tuple_iterator_next
  (wpAny_call_entry F.slot_tuple_iterator_next hit.typeIs F.entry_tuple_iterator_next ?_ (F.args_tuple_iterator_next_1 _)))
 show wpAny _ _ (field (.ref it) 0 >>= _) _ _ s
 refine wpAny_bind (wpAny_field ho hd (x:=.ref t) rfl ?_)
 show wpAny _ _ (if(Value.ref t==Value.none)=true then _ else _) _ _ s
 rw[if_neg (show ¬((Value.ref t==Value.none)=true) from Bool.false_ne_true)]
 show wpAny _ _ (field (.ref it) 1 >>= _) _ _ s
 refine wpAny_bind (wpAny_field ho hd (x:=.int i 0) rfl ?_)
 show wpAny _ _ (seqItems? (.ref t) >>= _) _ _ s
 refine wpAny_bind (wpAny_seqItems Fy hdl ?_)
 simp only[Int.toNat_natCast,hx]
 refine wpAny_bind (wpAny_setField ho hd (by simp) (wpAny_pure ⟨x,rfl,wpAny_pure (hQ _ ?_ (Heap.SameBut.update ..))⟩))
 exact⟨_,Heap.get?_update_self _ ho (Obj.isFreed_of_fields (Obj.data_mapFields hd _)),(Obj.cls_mapFields ..).trans hc,by
  rw[Obj.data_mapFields hd];simp[rawInt]⟩
theorem wg{it t:Addr}{i:Nat}{items}{Q:Value->Shared->Prop}(hh:A.handled=none)
  (hit:s.heap.IsTupleIter it t i) (ht:s.heap.IsTuple t items) (hx:items[i]? =none)
  (hE:∀h' e,Heap.ExtBut it s.heap h'->(∃o,h'.get? e=some o/\o.cls= .type "StopIteration")->E (.ref e) { s with heap:=h' }) :
  wpAny (model prog w) A (Builtin.SmallTypes.nextOf (.ref it)) Q E s:=by
 obtain⟨o,ho,hc,hd⟩:=id hit
 obtain⟨ol,Fy,_,nl,hdl⟩:=ht
 unfold Builtin.SmallTypes.nextOf
 refine wpAny_bind (wpAny_callSpecial?_slot (name:=Str.ofString "__next__") hit.typeIs F.slot_tuple_iterator_next
  (wpAny_call_entry F.slot_tuple_iterator_next hit.typeIs F.entry_tuple_iterator_next ?_ (F.args_tuple_iterator_next_1 _)))
 show wpAny _ _ (field (.ref it) 0 >>= _) _ _ s
 refine wpAny_bind (wpAny_field ho hd (x:=.ref t) rfl ?_)
 show wpAny _ _ (if(Value.ref t==Value.none)=true then _ else _) _ _ s
 rw[if_neg (show ¬((Value.ref t==Value.none)=true) from Bool.false_ne_true)]
 show wpAny _ _ (field (.ref it) 1 >>= _) _ _ s
 refine wpAny_bind (wpAny_field ho hd (x:=.int i 0) rfl ?_)
 show wpAny _ _ (seqItems? (.ref t) >>= _) _ _ s
 refine wpAny_bind (wpAny_seqItems Fy hdl ?_)
 simp only[Int.toNat_natCast,hx]
 refine wpAny_bind (wpAny_rule (wpAny_bind (wpAny_setField ho hd (by simp) ?_)))
 show wpAny _ _ (newExc (.type "StopIteration") [] >>= _) _ _ _
 refine wpAny_bind ?_
 simp only[newExc,newTuple]
 refine wpAny_bind (wpAny_newObj_type ?_ (by size_fits))
 refine wpAny_bind (m:=firstArgMember _ _) (wpAny_of_eq (a:=Value.none) (by first|rfl|(simp only[firstArgMember];rfl)) ?_)
 refine wpAny_newObj_type ?_ (by size_fits)
 simp only[raiseNew]
 refine wpAny_bind (wpAny_handled ?_)
 first|rw[show A.in1.handled=none from hh]|rw[hh]
 refine wpAny_bind (wpAny_pure (wpAny_throw ?_))
 exact hE _ _ (((Heap.SameBut.update ..).extBut.push _).push _) ⟨_,Heap.get?_push_size _ rfl,rfl⟩
theorem signs_get{x:Str}{i:Nat}{v:V}(h:(gi x)[i]? =some v):∃k,x.cps[i]? =some k/\v= .str ⟨#[k]⟩:=by
 unfold gi at h
 rw[List.getElem?_map]at h
 cases e:x.cps.toList[i]? with
 |none=>rw[e]at h;cases h
 |some k =>
  rw[e]at h
  exact⟨k,by simpa using e,(Option.some.inj h).symm⟩
theorem Sb{x:Str}{i:Nat}(h:(gi x)[i]? =none):x.cps[i]? =none:=by
 unfold gi at h
 rw[List.getElem?_map]at h
 cases e:x.cps.toList[i]? with
 |none=>simpa using e
 |some k=>rw[e]at h;cases h
theorem Cp.item{it:Addr}{i:Nat}{x:V}{Q:Value->Shared->Prop}(hit:c.Pu s.heap it i)(hs:c.src s.heap xs)(hx:xs[i]? =some x)
  (hQ:∀u h' tk,RelV x u->c.Pu h' it (i+1)->Heap.SameBut it s.heap h'->Q u { s with heap:=h',toks:=tk }) :
  wpAny (model prog w) A (Builtin.SmallTypes.nextOf (.ref it)) Q E s:=by
 cases c with
 |lst a =>
  obtain⟨its,r,p⟩:=hs
  obtain⟨u,hu,ru⟩:=r.get hx
  exact wpAny_nextOf_list_item hit p (x:=u) (by simpa using hu) λh' q sb=>hQ u h' s.toks ru q sb
 |tup a =>
  obtain⟨its,r,p⟩:=hs
  obtain⟨u,hu,ru⟩:=r.get hx
  exact vj hit p (x:=u) (by simpa using hu) λh' q sb=>hQ u h' s.toks ru q sb
 |txt x' =>
  obtain⟨t,q⟩:=hit
  rw[show xs=gi x' from hs]at hx
  obtain⟨k,hk,rfl⟩:=signs_get hx
  unfold strIterType at q
  by_cases ha:(x'.cps.all (·<128))=true
  ·rw[if_pos ha]at q
   exact wpAny_nextOf_ascii_item q hk λh' q' sb=>hQ _ h' _ ⟨_,rfl⟩ ⟨t,by unfold strIterType;rw[if_pos ha];exact q'⟩ sb
  ·rw[if_neg ha]at q
   exact wpAny_nextOf_wide_item q hk λh' q' sb=>hQ _ h' _ ⟨_,rfl⟩ ⟨t,by unfold strIterType;rw[if_neg ha];exact q'⟩ sb
theorem Cp.fin{it:Addr}{i:Nat}{Q:Value->Shared->Prop}(hh:A.handled=none)(hit:c.Pu s.heap it i)(hs:c.src s.heap xs)(hx:xs[i]? =none)
  (hE:∀h' e,Heap.ExtBut it s.heap h'->(∃o,h'.get? e=some o/\o.cls= .type "StopIteration")->E (.ref e) { s with heap:=h' }) :
  wpAny (model prog w) A (Builtin.SmallTypes.nextOf (.ref it)) Q E s:=by
 cases c with
 |lst a =>
  obtain⟨its,r,p⟩:=hs
  exact wpAny_nextOf_list_end hh hit p (by simpa using r.none_of hx) hE
 |tup a =>
  obtain⟨its,r,p⟩:=hs
  exact wg hh hit p (by simpa using r.none_of hx) hE
 |txt x' =>
  obtain⟨t,q⟩:=hit
  rw[show xs=gi x' from hs]at hx
  have hk:=Sb hx
  unfold strIterType at q
  by_cases ha:(x'.cps.all (·<128))=true
  ·rw[if_pos ha]at q
   exact wpAny_nextOf_ascii_end hh q hk hE
  ·rw[if_neg ha]at q
   exact wpAny_nextOf_wide_end hh q hk hE
structure zF(z TI TO i1 i2:Addr):Prop where
 TIz:TI≠z
 TOz:TO≠z
 i1z:i1≠z
 i2z:i2≠z
 TITO:TI≠TO
 TIi1:TI≠i1
 TIi2:TI≠i2
 TOi1:TO≠i1
 TOi2:TO≠i2
 i12:i1≠i2
structure RY(h:Heap)(z TI TO i1 i2:Addr)(c d:Cp)(f0:Value)(i:Nat):Prop where
 zz:IsZip h z TI TO f0
 ti:IsPair h TI (.ref i1) (.ref i2)
 to:∃a b,IsPair h TO a b
 h1:c.Pu h i1 i
 h2:d.Pu h i2 i
 c1:c.off TO
 c2:d.off TO
theorem TQ{z TI TO i1 i2:Addr}{i:Nat}{x y:V}{Q:Option Value->Shared->Prop}(D:zF z TI TO i1 i2)(Z:RY s.heap z TI TO i1 i2 c d .none i)
  (sc:c.src s.heap xs) (sd:d.src s.heap ys) (hx:xs[i]? =some x) (hy:ys[i]? =some y)
  (hQ:∀u v h' tk,RelV x u->RelV y v->RY h' z TI TO i1 i2 c d (rawInt s.heap.objs.size) (i+1)->IsPair h' s.heap.objs.size u v →
   (∀b o,b≠z->b≠TO->b≠i1->b≠i2->s.heap.get? b=some o->h'.get? b=some o)->Q (some (.ref s.heap.objs.size)) { s with heap:=h',toks:=tk }) :
  wpAny (model prog w) A (pyNext (.ref z)) Q E s:=by
 obtain⟨hz,hTI,⟨a,b,hTO⟩,h1,h2,c1,c2⟩:=id Z
 have hT:s.TypeIs (.ref z) "zip" :=⟨_,hz,rfl⟩
 obtain⟨Fq,T1,_,hi1,Cq,_,B9,XW⟩:=Cp.mh h1
 obtain⟨IV,T2,_,hi2,ci2,_,n21,n22⟩:=Cp.mh h2
 have cz:c.off z:=Cp.pY sc hz rfl (by decide) (by decide)
 have dz:d.off z:=Cp.pY sd hz rfl (by decide) (by decide)
 have ci:c.off i1:=Cp.pY sc hi1 Cq B9 XW
 have di:d.off i1:=Cp.pY sd hi1 Cq B9 XW
 unfold pyNext
 refine wpAny_bind (wpAny_attempt (wpAny_callSpecial?_slot (name:=Str.ofString "__next__") hT F.slot_zip_next
  (wpAny_call_entry F.slot_zip_next hT F.entry_zip_next ?_ (F.args_zip_next_1 _))))
 show wpAny _ _ (field (.ref z) 2 >>= _) _ _ _
 refine wpAny_bind (wpAny_field hz rfl (x:=.bool false) rfl ?_)
 show wpAny _ _ (field (.ref z) 3 >>= _) _ _ _
 refine wpAny_bind (wpAny_field hz rfl (x:=.ref TI) rfl ?_)
 refine wpAny_bind (wpAny_seqItems hTI rfl ?_)
 show wpAny _ _ (Builtin.SmallTypes.ownedTupleIsFree (.ref z) >>= _) _ _ _
 refine wpAny_bind ?_
 unfold Builtin.SmallTypes.ownedTupleIsFree
 refine wpAny_bind (wpAny_field hz rfl (x:=.none) rfl (wpAny_pure ?_))
 simp only[if_true]
 refine wpAny_bind (wpAny_rule ?_)
 refine wpAny_bind (wpAny_field hz rfl (x:=.ref TO) rfl ?_)
 refine wpAny_bind (wpAny_setField_rec hz (by simp) λh₁ xx hs₁=>?_)
 replace xx:IsZip h₁ z TI TO .ellipsis:=xx
 refine wpAny_bind ?_
 simp only[List.zipIdx_cons,List.zipIdx_nil,List.forIn_cons,List.forIn_nil]
 refine wpAny_bind (wpAny_bind (wpAny_onRaise ?_))
 show wpAny _ _ (Builtin.SmallTypes.nextOf (.ref i1) >>= _) _ _ _
 refine wpAny_bind (Cp.item (c:=c) (Cp.kr h1 λo e=>hs₁.extBut _ _ D.i1z e) (Cp.m5 sc hs₁.extBut cz) hx λu h₂ tk₂ ru Yg hs₂=>wpAny_pure ?_)
 have zm:IsPair h₂ TO a b:=hs₂.extBut _ _ D.TOi1 (hs₁.extBut _ _ D.TOz hTO)
 refine wpAny_bind (wpAny_seqItems zm rfl ?_)
 refine wpAny_bind (wpAny_updateSeq_pair zm λh₃ Hf pN=>?_)
 replace Hf:IsPair h₃ TO u b:=Hf
 refine wpAny_bind (wpAny_letGo (wpAny_pure ?_))
 refine wpAny_bind (wpAny_bind (wpAny_onRaise ?_))
 show wpAny _ _ (Builtin.SmallTypes.nextOf (.ref i2) >>= _) _ _ _
 refine wpAny_bind (Cp.item (c:=d) (Cp.kr h2 λo e=>pN.extBut _ _ D.TOi2.symm (hs₂.extBut _ _ D.i12.symm (hs₁.extBut _ _ D.i2z e))) (Cp.m5 (Cp.m5 (Cp.m5 sd hs₁.extBut dz) hs₂.extBut di) pN.extBut c2) hy λv h₄ tk₄ rv ac2 xA=>wpAny_pure ?_)
 have Vy:IsPair h₄ TO u b:=xA.extBut _ _ D.TOi2 Hf
 refine wpAny_bind (wpAny_seqItems Vy rfl ?_)
 refine wpAny_bind (wpAny_updateSeq_pair Vy λh₅ G9 xy=>?_)
 replace G9:IsPair h₅ TO u v:=G9
 refine wpAny_bind (wpAny_letGo (wpAny_pure (wpAny_pure ?_)))
 refine wpAny_bind (wpAny_seqItems G9 rfl ?_)
 refine wpAny_bind (wpAny_newTuple ?_)
 have hsz:h₅.objs.size=s.heap.objs.size:=by rw[xy.1,xA.1,pN.1,hs₂.1,hs₁.1]
 have X0:IsZip h₅ z TI TO .ellipsis:=xy.extBut _ _ D.TOz.symm (xA.extBut _ _ D.i2z.symm (pN.extBut _ _ D.TOz.symm (hs₂.extBut _ _ D.i1z.symm xx)))
 have Yc:∀e o,e≠z->e≠TO->e≠i1->e≠i2->s.heap.get? e=some o->h₅.get? e=some o:=λe o e1 e2 e3 e4 q =>
  xy.extBut _ _ e2 (xA.extBut _ _ e4 (pN.extBut _ _ e2 (hs₂.extBut _ _ e3 (hs₁.extBut _ _ e1 q))))
 have ac3:c.Pu h₅ i1 (i+1):=Cp.kr Yg λo e=>xy.extBut _ _ D.TOi1.symm (xA.extBut _ _ D.i12 (pN.extBut _ _ D.TOi1.symm e))
 have ac1:d.Pu h₅ i2 (i+1):=Cp.kr ac2 λo e=>xy.extBut _ _ D.TOi2.symm e
 have Kr:z<h₅.objs.size:=Heap.lt_size X0
 show wpAny _ _ (Builtin.SmallTypes.ownedTupleHandOut (.ref z) (.ref h₅.objs.size) >>= _) _ _ _
 refine wpAny_bind ?_
 unfold Builtin.SmallTypes.ownedTupleHandOut
 have acm:IsZip (h₅.push { cls:=.type "tuple",data:=.seq #[u,v] }) z TI TO .ellipsis:=Heap.get?_push_of_some _ X0
 refine wpAny_bind (wpAny_setField_rec acm (by simp) λagL Vj X6=>?_)
 replace Vj:IsZip agL z TI TO (rawInt h₅.objs.size):=Vj
 refine wpAny_setField_rec Vj (by simp) λXc RH X5=>?_
 replace RH:IsZip Xc z TI TO (rawInt h₅.objs.size):=RH
 have up:∀e o,e≠z->h₅.get? e=some o->Xc.get? e=some o:=λe o e1 q=>X5.extBut _ _ e1 (X6.extBut _ _ e1 (Heap.get?_push_of_some _ q))
 have Ye:IsPair Xc h₅.objs.size u v:=X5.extBut _ _ (Nat.ne_of_gt Kr) (X6.extBut _ _ (Nat.ne_of_gt Kr) (Heap.get?_push_size _ rfl))
 rw[hsz]at RH Ye
 refine wpAny_pure ⟨_,rfl,wpAny_pure ?_⟩
 show Q (some (.ref h₅.objs.size)) _
 rw[hsz]
 exact hQ u v Xc _ ru rv ⟨RH,up _ _ D.TIz (Yc _ _ D.TIz D.TITO D.TIi1 D.TIi2 hTI),⟨_,_,up _ _ D.TOz G9⟩,Cp.kr ac3 λo e=>up _ o D.i1z e,Cp.kr ac1 λo e=>up _ o D.i2z e,c1,c2⟩ Ye
  λe o e1 e2 e3 e4 q=>up e o e1 (Yc e o e1 e2 e3 e4 q)
theorem Wt{z TI TO i1 i2:Addr}{i:Nat}{Q:Option Value->Shared->Prop}(hh:A.handled=none)(D:zF z TI TO i1 i2)(Z:RY s.heap z TI TO i1 i2 c d .none i)
  (sc:c.src s.heap xs) (sd:d.src s.heap ys) (hend:xs[i]? =none\/ys[i]? =none)
  (hQ:∀h' tk,(∀b o,b≠z->b≠TO->b≠i1->b≠i2->s.heap.get? b=some o->h'.get? b=some o)->Q none { s with heap:=h',toks:=tk }) :
  wpAny (model prog w) A (pyNext (.ref z)) Q E s:=by
 obtain⟨hz,hTI,⟨a,b,hTO⟩,h1,h2,c1,c2⟩:=id Z
 have hT:s.TypeIs (.ref z) "zip" :=⟨_,hz,rfl⟩
 obtain⟨Fq,T1,_,hi1,Cq,_,B9,XW⟩:=Cp.mh h1
 have cz:c.off z:=Cp.pY sc hz rfl (by decide) (by decide)
 have dz:d.off z:=Cp.pY sd hz rfl (by decide) (by decide)
 have ci:c.off i1:=Cp.pY sc hi1 Cq B9 XW
 have di:d.off i1:=Cp.pY sd hi1 Cq B9 XW
 have stop:∀(h':Heap) (e:Addr) (tk:Nat),(∃o,h'.get? e=some o/\o.cls= .type "StopIteration")->(∀b o,b≠z->b≠TO->b≠i1->b≠i2->s.heap.get? b=some o->h'.get? b=some o) →
   wpAny (model prog w) A (isInstance (.ref e) (.type "StopIteration") >>= λb=>if b=true then pure (none:Option Value)else throw (.ref e)) Q E { s with heap:=h',toks:=tk }:=by
  intro h' e tk he hk
  obtain⟨o,ho,hc⟩:=he
  refine wpAny_bind (wpAny_isInstance (T:= "StopIteration") (b:=true) ⟨o,ho,hc⟩ isSubtype_stop ?_)
  exact wpAny_pure (hQ _ _ hk)
 unfold pyNext
 refine wpAny_bind (wpAny_attempt (wpAny_callSpecial?_slot (name:=Str.ofString "__next__") hT F.slot_zip_next
  (wpAny_call_entry F.slot_zip_next hT F.entry_zip_next ?_ (F.args_zip_next_1 _))))
 show wpAny _ _ (field (.ref z) 2 >>= _) _ _ _
 refine wpAny_bind (wpAny_field hz rfl (x:=.bool false) rfl ?_)
 show wpAny _ _ (field (.ref z) 3 >>= _) _ _ _
 refine wpAny_bind (wpAny_field hz rfl (x:=.ref TI) rfl ?_)
 refine wpAny_bind (wpAny_seqItems hTI rfl ?_)
 show wpAny _ _ (Builtin.SmallTypes.ownedTupleIsFree (.ref z) >>= _) _ _ _
 refine wpAny_bind ?_
 unfold Builtin.SmallTypes.ownedTupleIsFree
 refine wpAny_bind (wpAny_field hz rfl (x:=.none) rfl (wpAny_pure ?_))
 simp only[if_true]
 refine wpAny_bind (wpAny_rule ?_)
 refine wpAny_bind (wpAny_field hz rfl (x:=.ref TO) rfl ?_)
 refine wpAny_bind (wpAny_setField_rec hz (by simp) λh₁ xx hs₁=>?_)
 replace xx:IsZip h₁ z TI TO .ellipsis:=xx
 refine wpAny_bind ?_
 simp only[List.zipIdx_cons,List.zipIdx_nil,List.forIn_cons,List.forIn_nil]
 refine wpAny_bind (wpAny_bind (wpAny_onRaise ?_))
 show wpAny _ _ (Builtin.SmallTypes.nextOf (.ref i1) >>= _) _ _ _
 cases hx:xs[i]? with
 |none =>
  refine wpAny_bind (Cp.fin (c:=c) hh (Cp.kr h1 λo e=>hs₁.extBut _ _ D.i1z e) (Cp.m5 sc hs₁.extBut cz) hx λh₂ e hs₂ he=>?_)
  obtain⟨oe,Bw,hce⟩:=he
  have X4:IsZip h₂ z TI TO .ellipsis:=hs₂ _ _ D.i1z.symm xx
  have FD:e≠z:=λx=>by subst x;rw[X4]at Bw;cases Bw;simp at hce
  refine wpAny_setField_rec X4 (by simp) λh₃ _ pN=>?_
  exact stop h₃ e _ ⟨oe,pN.extBut _ _ FD Bw,hce⟩ λk o c1 _ c3 _ x=>pN.extBut _ _ c1 (hs₂ _ _ c3 (hs₁.extBut _ _ c1 x))
 |some x =>
  have hy:ys[i]? =none:=by rcases hend with h|h;rw[hx]at h;cases h;exact h
  refine wpAny_bind (Cp.item (c:=c) (Cp.kr h1 λo e=>hs₁.extBut _ _ D.i1z e) (Cp.m5 sc hs₁.extBut cz) hx λu h₂ tk₂ ru Yg hs₂=>wpAny_pure ?_)
  have zm:IsPair h₂ TO a b:=hs₂.extBut _ _ D.TOi1 (hs₁.extBut _ _ D.TOz hTO)
  refine wpAny_bind (wpAny_seqItems zm rfl ?_)
  refine wpAny_bind (wpAny_updateSeq_pair zm λh₃ Hf pN=>?_)
  refine wpAny_bind (wpAny_letGo (wpAny_pure ?_))
  refine wpAny_bind (wpAny_bind (wpAny_onRaise ?_))
  show wpAny _ _ (Builtin.SmallTypes.nextOf (.ref i2) >>= _) _ _ _
  refine wpAny_bind (Cp.fin (c:=d) hh (Cp.kr h2 λo e=>pN.extBut _ _ D.TOi2.symm (hs₂.extBut _ _ D.i12.symm (hs₁.extBut _ _ D.i2z e))) (Cp.m5 (Cp.m5 (Cp.m5 sd hs₁.extBut dz) hs₂.extBut di) pN.extBut c2) hy λh₄ e xA he=>?_)
  obtain⟨oe,Bw,hce⟩:=he
  have X3:IsZip h₄ z TI TO .ellipsis:=xA _ _ D.i2z.symm (pN.extBut _ _ D.TOz.symm (hs₂.extBut _ _ D.i1z.symm xx))
  have FD:e≠z:=λx=>by subst x;rw[X3]at Bw;cases Bw;simp at hce
  refine wpAny_setField_rec X3 (by simp) λh₅ _ xy=>?_
  exact stop h₅ e _ ⟨oe,xy.extBut _ _ FD Bw,hce⟩ λk o c1 c2 c3 c4 x=>xy.extBut _ _ c1 (xA _ _ c4 (pN.extBut _ _ c2 (hs₂.extBut _ _ c3 (hs₁.extBut _ _ c1 x))))
noncomputable def Cp.fu(t:Tok):Cp->Obj
 | .lst a=>{ cls:=.type "list_iterator",data:=.fields #[.ref a,.int 0 0] }
 | .tup a=>{ cls:=.type "tuple_iterator",data:=.fields #[.ref a,.int 0 0] }
 | .txt x=>{ cls:=.type (strIterType x),data:=.fields #[.str x t,.int 0 0] }
noncomputable def Cp.value(t:Tok):Cp->Value
 | .lst a=>.ref a
 | .tup a=>.ref a
 | .txt x=>.str x t
theorem Cp.value_of{u:Value}(r:RelV c.val u):∃t,u=c.value t:=by
 cases c with
 |lst a=>exact⟨0,r⟩
 |tup a=>exact⟨0,r⟩
 |txt x=>exact r
theorem Cp.iter{t:Tok}{Q:Value->Shared->Prop}(hs:c.src s.heap xs)(hQ:Q (.ref s.heap.objs.size) { s with heap:=s.heap.push (c.fu t) }):wpAny (model prog w) A (pyIter (c.value t)) Q E s:=by
 cases c with
 |lst a=>obtain⟨its,_,p⟩:=hs;exact wpAny_pyIter_list p hQ
 |tup a=>obtain⟨its,_,p⟩:=hs;exact wpAny_pyIter_tuple p hQ
 |txt x=>exact wpAny_pyIter_strU hQ
theorem Cp.RE{t:Tok}{h:Heap}{it:Addr}(e:h.get? it=some (c.fu t)):c.Pu h it 0:=by
 cases c with
 |lst a=>exact⟨_,e,rfl,rfl⟩
 |tup a=>exact⟨_,e,rfl,rfl⟩
 |txt x=>exact⟨t,_,e,rfl,rfl⟩
noncomputable abbrev CL(h:Heap)(o1:Obj):Heap:=h.push o1
noncomputable abbrev CK(h:Heap)(o1 o2:Obj):Heap:=(CL h o1).push o2
noncomputable abbrev CI(h:Heap)(o1 o2:Obj):Heap:=(CK h o1 o2).push { cls:=.type "tuple",data:=.seq #[.ref h.objs.size,.ref (CL h o1).objs.size] }
noncomputable abbrev CH(h:Heap)(o1 o2:Obj):Heap:=(CI h o1 o2).push { cls:=.type "tuple",data:=.seq #[.none,.none] }
noncomputable abbrev BG(h:Heap)(o1 o2:Obj):Heap:=(CH h o1 o2).push { cls:=.type "zip",data:=.fields #[.none,.bool false,.bool false,.ref (CK h o1 o2).objs.size,.ref (CI h o1 o2).objs.size] }
theorem SH(c d:Cp)(t1 t2:Tok)(xs ys:List V):
  Meets (Builtin.«zip.__new__» ⟨[.type "zip",c.value t1,d.value t2],[]⟩) (λ_ R s=>c.src s.heap xs/\d.src s.heap ys ∧
   R (.ok (.ret (.ref (CH s.heap (c.fu t1) (d.fu t2)).objs.size))) { s with heap:=BG s.heap (c.fu t1) (d.fu t2) }) :=
 .of_wp λprog w A R s h=>by
  obtain⟨hp,g,dd,tk,os⟩:=s;obtain⟨hl1,hl2,h⟩:=h
  have hsub:=sub_zip
  have MN:c.src (Shared.heap ⟨hp,g,dd,tk,os⟩) xs:=hl1
  have MM:d.src (Shared.heap ⟨hp.push (c.fu t1),g,dd,tk,os⟩) ys:=Cp.Uj hl2 λb o e=>Heap.get?_push_of_some _ e
  wp_walk using Cp.iter (t:=t1) MN,Cp.iter (t:=t2) MM
  exact⟨_,rfl,h⟩
theorem S9{t1 t2:Tok}{Q:Value->Shared->Prop}(sc:c.src s.heap xs)(sd:d.src s.heap ys)
  (h:∀h',IsZip h' (s.heap.objs.size+4) (s.heap.objs.size+2) (s.heap.objs.size+3) .none->IsPair h' (s.heap.objs.size+2) (.ref s.heap.objs.size) (.ref (s.heap.objs.size+1)) →
   IsPair h' (s.heap.objs.size+3) .none .none->c.Pu h' s.heap.objs.size 0->d.Pu h' (s.heap.objs.size+1) 0->(∀b o,s.heap.get? b=some o->h'.get? b=some o)->Q (.ref (s.heap.objs.size+4)) { s with heap:=h' }) :
  wpAny (model prog w) A (call (.type "zip") [c.value t1,d.value t2]) Q E s:=by
 refine callType_new F.called_zip (by decide) (F.typeCall_zip_2 _ _) (F.newCall_zip_2 _ _) (λobj=>F.args_object_init_3 obj _ _) F.entry_zip_new
  (SH c d t1 t2 xs ys) ⟨sc,sd,?_⟩
 have z1:(CL s.heap (c.fu t1)).objs.size=s.heap.objs.size+1:=Heap.size_push ..
 have z2:(CK s.heap (c.fu t1) (d.fu t2)).objs.size=s.heap.objs.size+2:=by rw[Heap.size_push,z1]
 have z3:(CI s.heap (c.fu t1) (d.fu t2)).objs.size=s.heap.objs.size+3:=by rw[Heap.size_push,z2]
 have z4:(CH s.heap (c.fu t1) (d.fu t2)).objs.size=s.heap.objs.size+4:=by rw[Heap.size_push,z3]
 have LV:(c.fu t1).isFreed=false:=by cases c<;>rfl
 have LU:(d.fu t2).isFreed=false:=by cases d<;>rfl
 have g5:(BG s.heap (c.fu t1) (d.fu t2)).get? (CH s.heap (c.fu t1) (d.fu t2)).objs.size=some _:=Heap.get?_push_size _ rfl
 have g4:(BG s.heap (c.fu t1) (d.fu t2)).get? (CI s.heap (c.fu t1) (d.fu t2)).objs.size=some _:=Heap.get?_push_of_some _ (Heap.get?_push_size _ rfl)
 have g3:(BG s.heap (c.fu t1) (d.fu t2)).get? (CK s.heap (c.fu t1) (d.fu t2)).objs.size=some _:=Heap.get?_push_of_some _ (Heap.get?_push_of_some _ (Heap.get?_push_size _ rfl))
 have g2:(BG s.heap (c.fu t1) (d.fu t2)).get? (CL s.heap (c.fu t1)).objs.size=some _:=Heap.get?_push_of_some _ (Heap.get?_push_of_some _ (Heap.get?_push_of_some _ (Heap.get?_push_size _ LU)))
 have g1:(BG s.heap (c.fu t1) (d.fu t2)).get? s.heap.objs.size=some _:=Heap.get?_push_of_some _ (Heap.get?_push_of_some _ (Heap.get?_push_of_some _ (Heap.get?_push_of_some _ (Heap.get?_push_size _ LV))))
 show _/\_
 rw[z2,z3,z4]at g5
 rw[z1,z2]at g3
 rw[z3]at g4
 rw[z1]at g2
 rw[z4]
 exact⟨⟨_,g5,rfl⟩,h _ g5 g3 g4 (Cp.RE g1) (Cp.RE g2) λb o x =>
  Heap.get?_push_of_some _ (Heap.get?_push_of_some _ (Heap.get?_push_of_some _ (Heap.get?_push_of_some _ (Heap.get?_push_of_some _ x))))⟩
end
section
variable{X:Cx}{pins:List (Addr×Obj)}{σ:St}{H:Hp}{s:Shared}
theorem Inv.moved{h':Heap}{t':Nat}{ch:List Addr}(I:Inv X pins σ H s)(k:∀b o,b∉ch->s.heap.get? b=some o->h'.get? b=some o)(hf:∀b∈ch,rC X pins H b)(ht:s.toks<=t':=by first|exact Nat.le_refl _|exact Nat.le_succ _|assumption|omega):Inv X pins σ H { s with heap:=h',toks:=t' }:=by
 have XU:∀b u,H b=some u->b∉ch:=λb u e z=>by rw[(hf b z).1]at e;cases e
 refine I.step (g':=s.gens) (d':=s.drawn) (ch:=ch) (λb hb=>?_) (λb o _ _ hc e _=>k b o hc e) (λb o _ _ hc e _=>⟨o.slots,k b o hc e⟩) (λ_ _ _ _ n=>n)
  (λb o hc e=>⟨o,k b o hc e⟩) (λ_ _ e=>e) (λ_ _ _ e=>e) (λb ps e=>⟨#[],by rw[e];simp⟩) (λm hm=>?_) (λb u e=>?_) I.bare (Nat.le_trans I.up ht)
 ·obtain⟨_,h1,_,h3,h4,h5⟩:=hf b hb
  exact⟨h3,h1,h4,h5⟩
 ·obtain⟨o,es,ep,ho,r⟩:=hm
  exact⟨o,es,ep,k _ o (λz=>(hf _ z).2.1 rfl) ho,r⟩
 ·refine(I.hok b u e).stay (λc v hc q=>k c v ?_ q) (λ_ q=>q) λ_ _ q=>q
  rcases hc with z|z
  ·rw[z];exact XU b u e
  ·exact XU c _ z
theorem Inv.XH{a:Addr}{o:HO}(I:Inv X pins σ H s)(hf:rC X pins H a)(new:c7 X.prog X.w (upd H a o) s.heap a o):Inv X pins σ (upd H a o) s:=by
 have hn:=hf.1
 have e:s={ s with heap:=s.heap,gens:=s.gens,drawn:=s.drawn,toks:=s.toks }:=rfl
 rw[e]
 refine I.step (ch:=[a]) (λb hb=>?_) (λ_ _ _ _ _ e _=>e) (λ_ o _ _ _ e _=>⟨o.slots,e⟩) (λb _ hc _ n=>?_)
  (λ_ o _ e=>⟨o,e⟩) (λb _ e=>?_) (λb _ _ e=>?_) (λb ps e=>⟨#[],?_⟩) (λ_ hm=>hm) (λb u q=>?_) I.bare I.up
 ·have eb:b=a:=by simpa using hb
  subst eb
  obtain⟨_,h1,_,h3,h4,h5⟩:=hf
  exact⟨h3,h1,h4,h5⟩
 ·rw[aA (λz=>hc (by simp[z]))];exact n
 ·rw[aA (bC e hn)];exact e
 ·rw[aA (bC e hn)];exact e
 ·rw[aA (bC e hn),e];simp
 ·by_cases hb:b=a
  ·subst hb;rw[ah]at q;cases q;exact new
  ·rw[aA hb]at q
   exact(I.hok b u q).stay (λc v _ r=>r) (λc r=>by rw[aA (bC r hn)];exact r) λc xs r=>by rw[aA (bC r hn)];exact r
noncomputable def Cw(K:PySem.W.Frag)(c d:Cp):It :=
 ⟨λi H=>∃xs ys x y,c.at K H xs/\d.at K H ys/\xs[i]? =some x/\ys[i]? =some y,
  λi H v H'=>∃p x y,v= .ref p/\H p=none/\H'=upd H p (.tup [x,y])/\∀xs ys,c.at K H xs->d.at K H ys->xs[i]? =some x/\ys[i]? =some y,
  λi H=>∃xs ys,c.at K H xs/\d.at K H ys/\(xs.length<=i\/ys.length<=i)⟩
theorem T5{P:Program}{w:World}{K:PySem.W.Frag}{elts:List Expr}{k:Nat}{pos:Pos}{c d:Cp}{z TI TO i1 i2:Addr}(D:zF z TI TO i1 i2):
  Turn P w K (.Tuple elts k pos) (Cw K c d) [z,TI,TO,i1,i2] z (λi h=>RY h z TI TO i1 i2 c d .none i) where
 mem:=by simp
 obj:=λi h Z b hb=>by
  obtain⟨hz,hTI,⟨a,b',hTO⟩,h1,h2,_,_⟩:=Z
  obtain⟨Fq,T1,v1,hi1,_,d1,_⟩:=Cp.mh h1
  obtain⟨IV,T2,v2,hi2,_,d2,_⟩:=Cp.mh h2
  simp only[List.mem_cons,List.not_mem_nil,or_false]at hb
  rcases hb with rfl|rfl|rfl|rfl|rfl
  ·exact⟨_,hz,λv q=>by cases q⟩
  ·exact⟨_,hTI,λv q=>by cases q⟩
  ·exact⟨_,hTO,λv q=>by cases q⟩
  ·exact⟨_,hi1,λv q=>by rw[d1]at q;cases q⟩
  ·exact⟨_,hi2,λv q=>by rw[d2]at q;cases q⟩
 keep:=λi h h' Z kp=>by
  obtain⟨hz,hTI,⟨a,b',hTO⟩,h1,h2,o1,o2⟩:=Z
  exact⟨kp z (by simp) _ hz,kp TI (by simp) _ hTI,⟨a,b',kp TO (by simp) _ hTO⟩,Cp.kr h1 λo e=>kp i1 (by simp) o e,Cp.kr h2 λo e=>kp i2 (by simp) o e,o1,o2⟩
 item:=by
  intro X hP hw hK hc i pins s σ H E I hf Z hg
  subst hP hw hK
  obtain⟨xs,ys,x,y,hx,hy,ex,ey⟩:=hg
  have sc:=Cp.qG I hx
  have sd:=Cp.qG I hy
  refine TK.cZ (Nat.le_refl s.toks) (TQ D Z sc sd ex ey λu v h' tk ru rv Z' hp kk hup=>⟨_,rfl,?_⟩)
  refine wpAny_letOwnedTupleGo_zip Z'.zz λh'' agN sb=>?_
  have hnz:s.heap.objs.size≠z:=Nat.ne_of_gt (Heap.lt_size Z.zz)
  have k2:∀b o,b∉[z,TI,TO,i1,i2]->s.heap.get? b=some o->h''.get? b=some o:=λb o hb e=>by
   simp only[List.mem_cons,List.not_mem_nil,or_false,not_or]at hb
   exact sb.extBut _ _ hb.1 (kk b o hb.1 hb.2.2.1 hb.2.2.2.1 hb.2.2.2.2 e)
  have I1:Inv X pins σ H { s with heap:=h'',toks:=tk }:=I.moved k2 hf
  have hn:H s.heap.objs.size=none:=I.fresh
  have FQ:rC X pins H s.heap.objs.size:=I.xW (Nat.le_refl _) hn
  have hp2:IsPair h'' s.heap.objs.size u v:=sb.extBut _ _ hnz hp
  have I2:Inv X pins σ (upd H s.heap.objs.size (.tup [x,y])) { s with heap:=h'',toks:=tk } :=
   I1.XH FQ ⟨by show 2<=sizeLine;decide,[u,v],.cons ru (.cons rv .nil),⟨_,hp2,rfl,_,rfl⟩⟩
  refine⟨.ref s.heap.objs.size,_,I2,rfl,⟨_,x,y,rfl,hn,rfl,λxs' ys' hx' hy'=>?_⟩,?_,λb hb=>?_⟩
  ·rw[Cp.QM I hx' hx,Cp.QM I hy' hy];exact⟨ex,ey⟩
  ·obtain⟨_,hTI,⟨a,b',hTO⟩,h1,h2,o1,o2⟩:=Z'
   exact⟨agN,sb.extBut _ _ D.TIz hTI,⟨a,b',sb.extBut _ _ D.TOz hTO⟩,Cp.kr h1 λo e=>sb.extBut _ _ D.i1z e,Cp.kr h2 λo e=>sb.extBut _ _ D.i2z e,o1,o2⟩
  ·have lt:b<s.heap.objs.size:=by
    obtain⟨hz,hTI,⟨a,b',hTO⟩,h1,h2,_,_⟩:=Z
    obtain⟨Fq,T1,v1,hi1,_,d1,_⟩:=Cp.mh h1
    obtain⟨IV,T2,v2,hi2,_,d2,_⟩:=Cp.mh h2
    simp only[List.mem_cons,List.not_mem_nil,or_false]at hb
    rcases hb with rfl|rfl|rfl|rfl|rfl
    ·exact Heap.lt_size hz
    ·exact Heap.lt_size hTI
    ·exact Heap.lt_size hTO
    ·exact Heap.lt_size hi1
    ·exact Heap.lt_size hi2
   rw[aA (Nat.ne_of_lt lt)]
   exact(hf b hb).1
 done:=by
  intro X hP hw hK hc i pins s σ H E I hf Z hg
  subst hP hw hK
  obtain⟨xs,ys,hx,hy,he⟩:=hg
  refine TK.cZ (Nat.le_refl s.toks) (Wt (I.ok.hd hc) D Z (Cp.qG I hx) (Cp.qG I hy) (he.imp (λq=>List.getElem?_eq_none q) λq=>List.getElem?_eq_none q) λh' tk kk hup=>⟨rfl,?_⟩)
  exact I.moved (λb o hb e=>by
   simp only[List.mem_cons,List.not_mem_nil,or_false,not_or]at hb
   exact kk b o hb.1 hb.2.2.1 hb.2.2.2.1 hb.2.2.2.2 e) hf
 self:=λ_ _ _ _ _ Z h=>wpAny_pyIter_zip Z.zz h
theorem Px(n:Nat):zF (n+4) (n+2) (n+3) n (n+1):=by
 have ne:∀{a b:Nat},a<b->a≠b:=λh=>Nat.ne_of_lt h
 exact⟨ne (by omega),ne (by omega),ne (by omega),ne (by omega),ne (by omega),(ne (by omega)).symm,(ne (by omega)).symm,(ne (by omega)).symm,(ne (by omega)).symm,ne (by omega)⟩
noncomputable def agI(K:PySem.W.Frag)(ta:TA):TI:=λσ H R=>ta σ H λvs H1=>∃c d xs ys,vs=[c.val,d.val]/\c.at K H1 xs/\d.at K H1 ys/\R (Cw K c d) H1
theorem UJ {a b:Expr} {ta:TA} {p pos:Pos} {elts:List Expr} {k:Nat} {tpos:Pos} (hc:X.calm=true) (hg:Gl X "zip") (hm:X.mg "zip" =none) (ha:PA X [a,b] ta)
  (hs:starEach [a,b] X.env=[(false,eval a X.env),(false,eval b X.env)]:=by rfl) (hs2:starEach [b] X.env=[(false,eval b X.env)]:=by rfl) :
  PI X (.Tuple elts k tpos) (.Call (.Name "zip" p) [a,b] [] pos) (agI X.K ta):=by
 intro pins s σ H R I h
 refine Call_ (qS I hg hm boot_zip (PyProof.Rows.callWith_type1 (gB (ha pos pins s σ H _ I h) λus s1 ⟨vs,H1,I1,r1,q1⟩=>?_) (by rw[hs,hs2]) (by rw[hs2];rfl)))
 obtain⟨c,d,xs,ys,e,hx,hy,q⟩:=q1
 subst e
 obtain⟨u,v,rfl,ru,rv⟩:=vals2 r1
 obtain⟨t1,rfl⟩:=Cp.value_of ru
 obtain⟨t2,rfl⟩:=Cp.value_of rv
 have sc:=Cp.qG I1 hx
 have sd:=Cp.qG I1 hy
 refine S9 sc sd λh' hz hTI hTO h1 h2 kk=>wpAny_pyIter_zip hz ?_
 have D:zF (s1.heap.objs.size+4) (s1.heap.objs.size+2) (s1.heap.objs.size+3) s1.heap.objs.size (s1.heap.objs.size+1) :=
  Px _
 refine⟨_,[s1.heap.objs.size+4,s1.heap.objs.size+2,s1.heap.objs.size+3,s1.heap.objs.size,s1.heap.objs.size+1],_,_,H1,rfl,I1.kept (t':=s1.toks) kk,T5 D,
  ⟨hz,hTI,⟨_,_,hTO⟩,h1,h2,Cp.RA sc (Nat.le_add_right _ 3),Cp.RA sd (Nat.le_add_right _ 3)⟩,λb hb=>?_,q⟩
 have le:s1.heap.objs.size<=b:=by
  simp only[List.mem_cons,List.not_mem_nil,or_false]at hb
  rcases hb with rfl|rfl|rfl|rfl|rfl
  ·exact Nat.le_add_right _ _
  ·exact Nat.le_add_right _ _
  ·exact Nat.le_add_right _ _
  ·exact Nat.le_refl _
  ·exact Nat.le_add_right _ _
 exact I1.xW le (I1.hok.fresh le)
end
end L2
namespace L2
open PySem PySem.Spec PyProof.Rows
noncomputable def Cy(x:Str):It:=⟨λi _=>i<x.cps.size,λi H v H'=>H'=H/\∃k,x.cps[i]? =some k/\v= .str ⟨#[k]⟩,λi _=>x.cps.size<=i⟩
section
variable{prog:Program}{w:World}{A:Around}{E:Value->Shared->Prop}{s:Shared}
theorem rj{it:Addr}{x:Str}{t:Tok}{i k:Nat}{Q:Option Value->Shared->Prop}(hit:s.heap.IsStrIter it (strIterType x) x t i)(hx:x.cps[i]? =some k)
  (hQ:∀h',h'.IsStrIter it (strIterType x) x t (i+1)->Heap.SameBut it s.heap h'->Q (some (.str ⟨#[k]⟩ s.toks)) { s with heap:=h',toks:=s.toks+1 }):wpAny (model prog w) A (pyNext (.ref it)) Q E s:=by
 unfold strIterType at hit hQ
 by_cases ha:(x.cps.all (·<128))=true
 ·rw[if_pos ha]at hit hQ
  exact wpAny_pyNext_ascii_item hit hx hQ
 ·rw[if_neg ha]at hit hQ
  exact wpAny_pyNext_wide_item hit hx hQ
theorem rO{it:Addr}{x:Str}{t:Tok}{i:Nat}{Q:Option Value->Shared->Prop}(hh:A.handled=none)(hit:s.heap.IsStrIter it (strIterType x) x t i)(hx:x.cps[i]? =none)
  (hQ:∀h',Heap.ExtBut it s.heap h'->Q none { s with heap:=h' }):wpAny (model prog w) A (pyNext (.ref it)) Q E s:=by
 unfold strIterType at hit
 by_cases ha:(x.cps.all (·<128))=true
 ·rw[if_pos ha]at hit
  exact wpAny_pyNext_ascii_end hh hit hx hQ
 ·rw[if_neg ha]at hit
  exact wpAny_pyNext_wide_end hh hit hx hQ
theorem rP{it:Addr}{x:Str}{t:Tok}{i:Nat}{Q:Value->Shared->Prop}(hit:s.heap.IsStrIter it (strIterType x) x t i)(h:Q (.ref it) s):wpAny (model prog w) A (pyIter (.ref it)) Q E s:=by
 unfold strIterType at hit
 by_cases ha:(x.cps.all (·<128))=true
 ·rw[if_pos ha]at hit
  exact wpAny_pyIter_striter_ascii hit h
 ·rw[if_neg ha]at hit
  exact wpAny_pyIter_striter_wide hit h
end
theorem vQ(x:Str):["enumerate","zip","dict_itemiterator","dict_reverseitemiterator","odict_iterator","itertools.zip_longest","itertools.pairwise"].contains (strIterType x)=false:=by
 unfold strIterType
 split<;>decide
theorem Nt{P:Program}{w:World}{K:PySem.W.Frag}{tg:Expr}(x:Str)(t:Tok)(it:Addr):Turn P w K tg (Cy x) [it] it (λi h=>h.IsStrIter it (strIterType x) x t i) where
 mem:=by simp
 obj:=λi h st b hb=>by
  have e:b=it:=by simpa using hb
  subst e
  obtain⟨o,e,c,d⟩:=st
  exact⟨o,e,λv z=>by rw[d]at z;cases z⟩
 keep:=λi h h' st k=>by
  obtain⟨o,e,r⟩:=st
  exact⟨o,k it (by simp) o e,r⟩
 item:=by
  intro X hP hw hK hc i pins s σ H E I hf st hg
  subst hP hw hK
  have hi:i<x.cps.size:=hg
  obtain⟨f0,f1,f2,f3,f4,f5⟩:=hf it (by simp)
  refine rj st (k:=x.cps[i]) (by simp[hi]) λh' st' sb=>?_
  have I1:Inv X pins σ H { s with heap:=h',toks:=s.toks+1 }:=I.turned (λb o hb e=>(sb.2 b hb).trans e) f0 f1 f3 f4 f5
  obtain⟨o,e,c,d⟩:=id st'
  exact⟨_,rfl,Bc (s:={ s with heap:=h',toks:=s.toks+1 }) e c d (vQ x) ⟨.str ⟨#[x.cps[i]]⟩,H,I1,⟨_,rfl⟩,⟨rfl,_,by simp[hi],rfl⟩,st',λb hb=>(hf b hb).1⟩⟩
 done:=by
  intro X hP hw hK hc i pins s σ H E I hf st hg
  subst hP hw hK
  have hi:x.cps.size<=i:=hg
  obtain⟨f0,f1,f2,f3,f4,f5⟩:=hf it (by simp)
  exact rO (I.ok.hd hc) st (by simp[hi]) λh' eb=>⟨rfl,I.turned (t':=s.toks) (λb o hb e=>eb b o hb e) f0 f1 f3 f4 f5⟩
 self:=λ_ _ _ _ _ st h=>rP st h
section
variable{X:Cx}{tg:Expr}
noncomputable def agJ(tl:TE):TI:=λσ H R=>tl σ H λv H1=>∃x,v= .str x/\R (Cy x) H1
theorem rQ{l:Expr}{tl:TE}(hl:PE X l tl):PI X tg l (agJ tl):=by
 intro pins s σ H R I h
 refine gB (hl pins s σ H _ I h) λv s1 ⟨y,H1,I1,r1,q1⟩=>?_
 obtain⟨x,e,q⟩:=q1
 subst e
 obtain⟨t,rfl⟩:=r1
 refine wpAny_pyIter_strU ?_
 refine⟨s1.heap.objs.size,[s1.heap.objs.size],_,_,H1,rfl,I1.kept (t':=s1.toks) λb o e=>Heap.get?_push_of_some _ e,Nt x t _,⟨_,Heap.get?_push_size _ rfl,rfl,rfl⟩,λb hb=>?_,q⟩
 have e:b=s1.heap.objs.size:=by simpa using hb
 subst e
 exact I1.xW (Nat.le_refl _) (I1.hok.fresh (Nat.le_refl _))
theorem RK{x:Str}{g:TG}{tb:TS}{D:Ends}{σ:St}{H:Hp}(Pv:Nat->St->Hp->Prop)(h0:Pv 0 σ H)
  (hs:∀i k σ H,x.cps[i]? =some k->Pv i σ H->g (.str ⟨#[k]⟩) σ H λσ2 H2=>tb { D with nx:=Pv (i+1),ct:=Pv (i+1),bk:=D.nx } σ2 H2) (hd:∀ σ H,Pv x.cps.size σ H->D.nx σ H) :
  ∃W:Nat->Nat->St->Hp->Prop,(∃m,W 0 m σ H)/\∀i m σ H,W i m σ H →
   ((Cy x).stop i H/\D.nx σ H)\/((Cy x).go i H/\∃N:St->Hp->Prop,(∀ σ' H',N σ' H'->∃m',m'<m/\W (i+1) m' σ' H')/\∀y H',(Cy x).AL i H y H'->g y σ H' λσ2 H2=>tb { D with nx:=N,ct:=N,bk:=D.nx } σ2 H2):=by
 refine⟨λi m σ H=>m=x.cps.size-i/\i<=x.cps.size/\Pv i σ H,⟨x.cps.size,by simp,Nat.zero_le _,h0⟩,?_⟩
 rintro i m σ H ⟨rfl,hi,p⟩
 by_cases hlt:i<x.cps.size
 ·refine .inr ⟨hlt,Pv (i+1),λσ' H' p'=>⟨x.cps.size-(i+1),by omega,rfl,hlt,p'⟩,λy H' q=>?_⟩
  obtain⟨e,k,ek,rfl⟩:=q
  subst e
  exact hs i k σ _ ek p
 ·have e:i=x.cps.size:=by omega
  subst e
  exact .inl ⟨Nat.le_refl _,hd σ H p⟩
theorem RJ{K:PySem.W.Frag}{c d:Cp}{xs ys:List V}{g:TG}{tb:TS}{D:Ends}{σ:St}{H:Hp}(Pv:Nat->St->Hp->Prop)(h0:Pv 0 σ H)(hl:∀i σ H,i<=min xs.length ys.length->Pv i σ H->c.at K H xs/\d.at K H ys)
  (hs:∀i x y p σ H,xs[i]? =some x->ys[i]? =some y->H p=none->Pv i σ H->g (.ref p) σ (upd H p (.tup [x,y])) λσ2 H2=>tb { D with nx:=Pv (i+1),ct:=Pv (i+1),bk:=D.nx } σ2 H2)
  (hd:∀ σ H,Pv (min xs.length ys.length) σ H->D.nx σ H) :
  ∃W:Nat->Nat->St->Hp->Prop,(∃m,W 0 m σ H)/\∀i m σ H,W i m σ H →
   ((Cw K c d).stop i H/\D.nx σ H)\/((Cw K c d).go i H/\∃N:St->Hp->Prop,(∀ σ' H',N σ' H'->∃m',m'<m/\W (i+1) m' σ' H')/\∀y H',(Cw K c d).AL i H y H'->g y σ H' λσ2 H2=>tb { D with nx:=N,ct:=N,bk:=D.nx } σ2 H2):=by
 refine⟨λi m σ H=>m=min xs.length ys.length-i/\i<=min xs.length ys.length/\Pv i σ H,⟨min xs.length ys.length,by simp,Nat.zero_le _,h0⟩,?_⟩
 rintro i m σ H ⟨rfl,hi,p⟩
 obtain⟨zx,zy⟩:=hl i σ H hi p
 by_cases hlt:i<min xs.length ys.length
 ·have h1:i<xs.length:=by omega
  have h2:i<ys.length:=by omega
  refine .inr ⟨⟨xs,ys,xs[i],ys[i],zx,zy,by simp[h1],by simp[h2]⟩,Pv (i+1),λσ' H' p'=>⟨min xs.length ys.length-(i+1),by omega,rfl,hlt,p'⟩,λv H' q=>?_⟩
  obtain⟨a,x,y,rfl,ha,rfl,e⟩:=q
  obtain⟨e1,e2⟩:=e xs ys zx zy
  exact hs i x y a σ H e1 e2 ha p
 ·have e:i=min xs.length ys.length:=by omega
  subst e
  refine .inl ⟨⟨xs,ys,zx,zy,?_⟩,hd σ H p⟩
  rcases Nat.le_total xs.length ys.length with q|q
  ·exact .inl (by rw[Nat.min_eq_left q];exact Nat.le_refl _)
  ·exact .inr (by rw[Nat.min_eq_right q];exact Nat.le_refl _)
end
end L2
namespace L2
open PySem PySem.Spec PyProof.Rows
noncomputable def Cp.adr:Cp->List Addr
 | .lst a=>[a]
 | .tup a=>[a]
 | .txt _=>[]
theorem Cp.WV{c:Cp}{b:Addr}(h:c.off b):b∉c.adr:=by
 cases c with
 |lst a =>
  intro z
  have q:b=a:=by simpa[Cp.adr]using z
  exact h q.symm
 |tup a =>
  intro z
  have q:b=a:=by simpa[Cp.adr]using z
  exact h q.symm
 |txt x=>intro z;cases z
theorem Cp.WC{c:Cp}{xs:List V}{h h':Heap}(hs:c.src h xs)(k:∀b∈c.adr,∀o,h.get? b=some o->h'.get? b=some o):c.src h' xs:=by
 cases c with
 |lst a=>obtain⟨its,r,o,ho,q⟩:=hs;exact⟨its,r,o,k a (by simp[Cp.adr]) _ ho,q⟩
 |tup a=>obtain⟨its,r,o,ho,q⟩:=hs;exact⟨its,r,o,k a (by simp[Cp.adr]) _ ho,q⟩
 |txt x=>exact hs
theorem Cp.draws{prog:Program}{w:World}{A:Around}{c:Cp}{xs:List V}(hh:A.handled=none)(it:Addr):
  Draws prog w A it (it::c.adr) xs.length (λi v=>∃x,xs[i]? =some x/\RelV x v) (λi h=>c.Pu h it i/\c.src h xs) where
 live:=λi h st=>by
  obtain⟨o,_,_,ho,_⟩:=Cp.mh st.1
  exact⟨o,ho⟩
 frame:=λi h h' st k=>⟨Cp.kr st.1 λo e=>k it (by simp) o e,Cp.WC st.2 λb hb o e=>k b (List.mem_cons_of_mem _ hb) o e⟩
 item:=λi s Q E hi st hQ=>by
  obtain⟨o,T,_,ho,hc,_,n1,n2⟩:=Cp.mh st.1
  have off:c.off it:=Cp.pY st.2 ho hc n1 n2
  refine Cp.item st.1 st.2 (x:=xs[i]) (by simp[hi]) λu h' tk ru q sb=>?_
  exact hQ u h' tk ⟨_,by simp[hi],ru⟩ ⟨q,Cp.m5 st.2 sb.extBut off⟩ sb
 done:=λs Q E st hE=>Cp.fin hh st.1 st.2 (by simp) hE
noncomputable def CA(K:PySem.W.Frag)(c:Cp):It :=
 ⟨λi H=>∃xs x,c.at K H xs/\xs[i]? =some x,
  λi H v H'=>∃p x,v= .ref p/\H p=none/\H'=upd H p (.tup [.int (i:Int),x])/\∀xs,c.at K H xs->xs[i]? =some x,
  λi H=>∃xs,c.at K H xs/\xs.length<=i⟩
theorem R5{P:Program}{w:World}{K:PySem.W.Frag}{elts:List Expr}{k:Nat}{pos:Pos}{c:Cp}{e it:Addr}(hei:e≠it):
  Turn P w K (.Tuple elts k pos) (CA K c) [e,it] e (λi h=>(∃old,IsEnum h e it i old)/\c.Pu h it i) where
 mem:=by simp
 obj:=λi h Z b hb=>by
  obtain⟨⟨old,he⟩,hi⟩:=Z
  obtain⟨o,_,vs,ho,_,d,_⟩:=Cp.mh hi
  simp only[List.mem_cons,List.not_mem_nil,or_false]at hb
  rcases hb with rfl|rfl
  ·exact⟨_,he,λv q=>by cases q⟩
  ·exact⟨_,ho,λv q=>by rw[d]at q;cases q⟩
 keep:=λi h h' Z kp=>by
  obtain⟨⟨old,he⟩,hi⟩:=Z
  exact⟨⟨old,kp e (by simp) _ he⟩,Cp.kr hi λo q=>kp it (by simp) o q⟩
 item:=by
  intro X hP hw hK hc i pins s σ H E I hf Z hg
  subst hP hw hK
  obtain⟨xs,x,hx,ex⟩:=hg
  obtain⟨⟨old,he⟩,hi⟩:=id Z
  have sc:=Cp.qG I hx
  have agm:c.off e:=Cp.pY sc he rfl (by decide) (by decide)
  have hlt:i<xs.length:=(List.getElem?_eq_some_iff.mp ex).1
  have hh:X.A.in1.handled=none:=I.ok.hd hc
  refine TK.cZ (Nat.le_refl s.toks) (wpAny_pyNext_enum_itemD (Cp.draws (c:=c) (xs:=xs) hh it) he ⟨hi,sc⟩ hlt hei (λz=>?_) λu h' tk hP ho st' hT hsz kk hup=>⟨_,rfl,?_⟩)
  ·rcases List.mem_cons.mp z with q|q
   ·exact hei q
   ·exact Cp.WV agm q
  ·obtain⟨x',ex',ru⟩:=hP
   rw[ex]at ex'
   cases ex'
   refine wpAny_letOwnedTupleGo_enum ho λh'' ahk sb=>?_
   have hne:s.heap.objs.size≠e:=Nat.ne_of_gt (Heap.lt_size he)
   have k2:∀b o,b∉[e,it]->s.heap.get? b=some o->h''.get? b=some o:=λb o hb q=>by
    simp only[List.mem_cons,List.not_mem_nil,or_false,not_or]at hb
    exact sb.extBut _ _ hb.1 (kk b o hb.1 hb.2 q)
   have I1:Inv X pins σ H { s with heap:=h'',toks:=tk+1 }:=I.moved k2 hf (by have z:s.toks<=tk+1:=hup;exact z)
   have hn:H s.heap.objs.size=none:=I.fresh
   have FQ:rC X pins H s.heap.objs.size:=I.xW (Nat.le_refl _) hn
   have hp2:h''.get? s.heap.objs.size=some { cls:=.type "tuple",data:=.seq #[.int i tk,u] }:=sb.extBut _ _ hne hT
   have I2:Inv X pins σ (upd H s.heap.objs.size (.tup [.int (i:Int),x])) { s with heap:=h'',toks:=tk+1 } :=
    I1.XH FQ ⟨by show 2<=sizeLine;decide,[.int i tk,u],.cons ⟨_,rfl⟩ (.cons ru .nil),⟨_,hp2,rfl,_,rfl⟩⟩
   refine⟨.ref s.heap.objs.size,_,I2,rfl,⟨_,x,rfl,hn,rfl,λxs' hx'=>?_⟩,⟨⟨_,ahk⟩,Cp.kr st'.1 λo q=>sb.extBut _ _ (Ne.symm hei) q⟩,λb hb=>?_⟩
   ·rw[Cp.QM I hx' hx];exact ex
   ·obtain⟨o,_,vs,Mj,_⟩:=Cp.mh hi
    have lt:b<s.heap.objs.size:=by
     have hb':=hb
     simp only[List.mem_cons,List.not_mem_nil,or_false]at hb'
     rcases hb' with rfl|rfl
     ·exact Heap.lt_size he
     ·exact Heap.lt_size Mj
    rw[aA (Nat.ne_of_lt lt)]
    exact(hf b hb).1
 done:=by
  intro X hP hw hK hc i pins s σ H E I hf Z hg
  subst hP hw hK
  obtain⟨xs,hx,hle⟩:=hg
  obtain⟨⟨old,he⟩,hi⟩:=Z
  have hh:X.A.in1.handled=none:=I.ok.hd hc
  have hT:s.TypeIs (.ref e) "enumerate" :=⟨_,he,rfl⟩
  unfold pyNext
  refine wpAny_bind (wpAny_attempt (wpAny_callSpecial?_slot (name:=Str.ofString "__next__") hT F.slot_enumerate_next
   (wpAny_call_entry F.slot_enumerate_next hT F.entry_enumerate_next ?_ (F.args_enumerate_next_1 _))))
  show wpAny _ _ (field (.ref e) 2 >>= _) _ _ _
  refine wpAny_bind (wpAny_field he rfl (x:=.ref it) rfl ?_)
  refine wpAny_bind (Cp.fin hh hi (Cp.qG I hx) (List.getElem?_eq_none hle) λh' y eb hy=>?_)
  obtain⟨o,ho,hcl⟩:=hy
  refine wpAny_bind (wpAny_isInstance (T:= "StopIteration") (b:=true) ⟨o,ho,hcl⟩ isSubtype_stop ?_)
  refine wpAny_pure ⟨rfl,I.moved (t':=s.toks) (ch:=[e,it]) (λb o hb q=>eb b o ?_ q) hf⟩
  simp only[List.mem_cons,List.not_mem_nil,or_false,not_or]at hb
  exact hb.2
 self:=λ_ _ _ _ _ Z h=>by
  obtain⟨⟨old,he⟩,_⟩:=Z
  exact wpAny_pyIter_enum he h
section
variable{prog:Program}{w:World}{A:Around}{E:Value->Shared->Prop}{s:Shared}
set_option maxHeartbeats 1000000 in
theorem yZ(l:Addr)(items:Array Value)(n:Nat)(dct:Option Addr)(sl:Array (Option Value)):
  Meets (Builtin.«enumerate.__new__» ⟨[.type "enumerate",.ref l],[]⟩) (λ_ R s=>s.heap.get? l=some { cls:=.type "tuple",dict:=dct,data:=.seq items n,slots:=sl } ∧
   R (.ok (.ret (.ref (s.heap.push { cls:=.type "tuple_iterator",data:=.fields #[.ref l,.int 0 0] }).objs.size)))
    { s with heap:=(s.heap.push { cls:=.type "tuple_iterator",data:=.fields #[.ref l,.int 0 0] }).push { cls:=.type "enumerate",data:=.fields #[.none,.bool false,.ref s.heap.objs.size,rawInt 0,.none,.none] } }) :=
 .of_wp λprog w A R s h=>by
  obtain⟨hp,g,d,tk,os⟩:=s;obtain⟨hl,h⟩:=h
  have hsub:=sub_enumerate
  have hL:Heap.IsTuple (Shared.heap ⟨hp,g,d,tk,os⟩) l items:=⟨_,hl,rfl,n,rfl⟩
  wp_walk using AutoSeq1.wpAny_loadPart' hl
  refine wpAny_stack_any λst=>wpAny_pure ?_
  split
  ·rename_i c _ _ _ _ _
   cases (c==Value.type "enumerate")
   ·wp_walk using AutoSeq1.wpAny_loadPart' hl,wpAny_pyIter_tuple hL
    exact⟨_,rfl,h⟩
   ·wp_walk using AutoSeq1.wpAny_loadPart' hl,wpAny_pyIter_tuple hL
    exact⟨_,rfl,h⟩
  ·wp_walk using AutoSeq1.wpAny_loadPart' hl,wpAny_pyIter_tuple hL
   exact⟨_,rfl,h⟩
theorem As{l:Addr}{items:Array Value}{Q:Value->Shared->Prop}(hL:s.heap.IsTuple l items)
  (h:∀h',IsEnum h' (s.heap.objs.size+1) s.heap.objs.size 0 .none->h'.IsTupleIter s.heap.objs.size l 0 →
   (∀b o,s.heap.get? b=some o->h'.get? b=some o)->Q (.ref (s.heap.objs.size+1)) { s with heap:=h' }) :
  wpAny (model prog w) A (call (.type "enumerate") [.ref l]) Q E s:=by
 obtain⟨⟨c,dct,dt,sl⟩,hl,hc,n,hd⟩:=hL
 replace hc:c= .type "tuple" :=hc
 replace hd:dt= .seq items n:=hd
 subst hc hd
 refine callType_new F.called_enumerate (by decide) (F.typeCall_enumerate_1 _) (F.newCall_enumerate_1 _) (λobj=>F.args_object_init_2 obj _) F.entry_enumerate_new
  (yZ l items n dct sl) ⟨hl,?_⟩
 have hz:(s.heap.push { cls:=.type "tuple_iterator",data:=.fields #[.ref l,.int 0 0] }).objs.size=s.heap.objs.size+1:=Heap.size_push ..
 show _/\_
 rw[hz]
 have he:IsEnum ((s.heap.push { cls:=.type "tuple_iterator",data:=.fields #[.ref l,.int 0 0] }).push
   { cls:=.type "enumerate",data:=.fields #[.none,.bool false,.ref s.heap.objs.size,rawInt 0,.none,.none] }) (s.heap.objs.size+1) s.heap.objs.size 0 .none:=by
  have:=Heap.get?_push_size (s.heap.push { cls:=.type "tuple_iterator",data:=.fields #[.ref l,.int 0 0] })
   (o:={ cls:=.type "enumerate",data:=.fields #[.none,.bool false,.ref s.heap.objs.size,rawInt 0,.none,.none] }) rfl
  rw[hz]at this;exact this
 exact⟨⟨_,he,rfl⟩,h _ he ⟨_,Heap.get?_push_of_some _ (Heap.get?_push_size _ rfl),rfl,rfl⟩ λb o x=>Heap.get?_push_of_some _ (Heap.get?_push_of_some _ x)⟩
theorem QJ{c:Cp}{xs:List V}{t:Tok}{Q:Value->Shared->Prop}(sc:c.src s.heap xs)
  (h:∀h',IsEnum h' (s.heap.objs.size+1) s.heap.objs.size 0 .none->c.Pu h' s.heap.objs.size 0->(∀b o,s.heap.get? b=some o->h'.get? b=some o)->Q (.ref (s.heap.objs.size+1)) { s with heap:=h' }) :
  wpAny (model prog w) A (call (.type "enumerate") [c.value t]) Q E s:=by
 cases c with
 |lst a=>obtain⟨its,_,p⟩:=sc;exact call_enumerate_list p λh' a b _ k=>h h' a b k
 |tup a=>obtain⟨its,_,p⟩:=sc;exact As p λh' a b k=>h h' a b k
 |txt x=>exact call_enumerate_str λh' a b _ k=>h h' a ⟨t,b⟩ k
end
section
variable{X:Cx}
noncomputable def ack(K:PySem.W.Frag)(ta:TA):TI:=λσ H R=>ta σ H λvs H1=>∃c xs,vs=[c.val]/\c.at K H1 xs/\R (CA K c) H1
theorem Rt {a:Expr} {ta:TA} {p pos:Pos} {elts:List Expr} {k:Nat} {tpos:Pos} (hg:Gl X "enumerate") (hm:X.mg "enumerate" =none) (ha:PA X [a] ta)
  (hs:starEach [a] X.env=[(false,eval a X.env)]:=by rfl):PI X (.Tuple elts k tpos) (.Call (.Name "enumerate" p) [a] [] pos) (ack X.K ta):=by
 intro pins s σ H R I h
 refine Call_ (qS I hg hm boot_enumerate (PyProof.Rows.callWith_type1 (gB (ha pos pins s σ H _ I h) λus s1 ⟨vs,H1,I1,r1,q1⟩=>?_) hs rfl))
 obtain⟨c,xs,e,hx,q⟩:=q1
 subst e
 obtain⟨u,rfl,ru⟩:=vals1 r1
 obtain⟨t,rfl⟩:=Cp.value_of ru
 have sc:=Cp.qG I1 hx
 refine QJ sc λh' he hi kk=>wpAny_pyIter_enum he ?_
 have hei:s1.heap.objs.size+1≠s1.heap.objs.size:=Nat.ne_of_gt (Nat.lt_succ_self _)
 refine⟨_,[s1.heap.objs.size+1,s1.heap.objs.size],_,_,H1,rfl,I1.kept (t':=s1.toks) kk,R5 hei,⟨⟨_,he⟩,hi⟩,λb hb=>?_,q⟩
 have le:s1.heap.objs.size<=b:=by
  simp only[List.mem_cons,List.not_mem_nil,or_false]at hb
  rcases hb with rfl|rfl
  ·exact Nat.le_add_right _ _
  ·exact Nat.le_refl _
 exact I1.xW le (I1.hok.fresh le)
theorem OF{K:PySem.W.Frag}{c:Cp}{xs:List V}{g:TG}{tb:TS}{D:Ends}{σ:St}{H:Hp}(Pv:Nat->St->Hp->Prop)(h0:Pv 0 σ H)(hl:∀i σ H,i<=xs.length->Pv i σ H->c.at K H xs)
  (hs:∀(i:Nat) x p σ H,xs[i]? =some x->H p=none->Pv i σ H->g (.ref p) σ (upd H p (.tup [.int (i:Int),x])) λσ2 H2=>tb { D with nx:=Pv (i+1),ct:=Pv (i+1),bk:=D.nx } σ2 H2)
  (hd:∀ σ H,Pv xs.length σ H->D.nx σ H) :
  ∃W:Nat->Nat->St->Hp->Prop,(∃m,W 0 m σ H)/\∀i m σ H,W i m σ H →
   ((CA K c).stop i H/\D.nx σ H)\/((CA K c).go i H/\∃N:St->Hp->Prop,(∀ σ' H',N σ' H'->∃m',m'<m/\W (i+1) m' σ' H')/\∀y H',(CA K c).AL i H y H'->g y σ H' λσ2 H2=>tb { D with nx:=N,ct:=N,bk:=D.nx } σ2 H2):=by
 refine⟨λi m σ H=>m=xs.length-i/\i<=xs.length/\Pv i σ H,⟨xs.length,by simp,Nat.zero_le _,h0⟩,?_⟩
 rintro i m σ H ⟨rfl,hi,p⟩
 have zx:=hl i σ H hi p
 by_cases hlt:i<xs.length
 ·refine .inr ⟨⟨xs,xs[i],zx,by simp[hlt]⟩,Pv (i+1),λσ' H' p'=>⟨xs.length-(i+1),by omega,rfl,hlt,p'⟩,λv H' q=>?_⟩
  obtain⟨a,x,rfl,ha,rfl,e⟩:=q
  exact hs i x a σ H (e xs zx) ha p
 ·have e:i=xs.length:=by omega
  subst e
  exact .inl ⟨⟨xs,zx,Nat.le_refl _⟩,hd σ H p⟩
end
end L2
namespace L2
open PySem PySem.Spec PyProof.Rows
set_option maxRecDepth 100000
noncomputable def met(val:Nat->Str)(i:Nat):List Str:=((List.range i).map val).foldl step_dedup []
theorem yX(val:Nat->Str):met val 0=[]:=rfl
theorem rZ(val:Nat->Str)(i:Nat):met val (i+1)=step_dedup (met val i) (val i):=by
 unfold met;rw[List.range_succ,List.map_append,List.foldl_append];rfl
theorem tU(val:Nat->Str):∀i,(met val i).length<=i
 | 0=>by rw[yX];exact Nat.le_refl _
 |i+1=>by
  rw[rZ]
  have ih:=tU val i
  unfold step_dedup
  split
  ·omega
  ·rw[List.length_append,List.length_singleton];omega
theorem vn(σ:List Str)(v k:Str):(step_dedup σ v).any (·==k)=(σ.any (·==k)||decide (k=v)):=by
 unfold step_dedup
 by_cases h:σ.any (·==v)=true
 ·rw[if_pos h]
  by_cases e:k=v
  ·subst e;rw[h];simp
  ·simp[e]
 ·rw[if_neg h,List.any_append]
  by_cases e:k=v
  ·subst e;simp
  ·have hb:(v==k)=false:=by simpa[beq_iff_eq]using(λh':v=k=>e h'.symm)
   simp[hb,e]
theorem rm(σ:List Str)(v:Str):(step_dedup σ v).length=if σ.any (·==v)then σ.length else σ.length+1:=by
 unfold step_dedup;split<;>simp
section
variable{prog:Program}{w:World}{A:Around}{R:Result->Shared->Prop}{I:Addr}{fp wr:List Addr}{G:Array GenState->Array GenState->Prop}{n:Nat}{P:Nat->Value->Prop}{St:Nat->Shared->Prop}
theorem Gr(W:WalksS prog w A.in1 I fp wr G n P St)(S:Addr)(hSf:S∉fp)(val:Nat->Str)(hval:∀i v,P i v->∃t,v= .str (val i) t)(hb:n+1<scanBound):
  ∀(k i:Nat) (s:Shared),n-i=k->i<=n->St i s->s.heap.SetOf (strKind prog w) S (λk'=>(met val i).any (·==k')) (met val i).length →
   (∀s',Moved (S::wr) G s s'->s'.heap.SetOf (strKind prog w) S (λk'=>(met val n).any (·==k')) (met val n).length->R (.ok (.ret .none)) s') →
   codeAny (model prog w) A (.builtin "set.update.loop" ⟨[.ref S,.ref I],[]⟩) R s:=by
 have JF:S∉wr:=λh=>hSf (W.sub _ h)
 have hsub:∀b∈wr,b∈S::wr:=λb hb=>List.mem_cons_of_mem _ hb
 intro k
 induction k with
 |zero =>
  intro i s hk hi hst hS hR
  have hin:i=n:=by omega
  subst hin
  refine codeAny_builtin PyProof.Rows.F.entry_set_update_loop ?_
  rw[Around.under_plainId PyProof.Rows.F.plain_set_update_loop _]
  show wpAny _ A.in1 (pyNext (.ref I) >>= _) _ _ s
  refine wpAny_bind (W.done s _ _ hst λs' hm=>?_)
  show wpAny _ A.in1 (ret Value.none) _ _ s'
  exact wpAny_pure (hR s' (hm.mono hsub) (by
   obtain⟨o,es,ep,t,ho,rest⟩:=hS
   exact⟨o,es,ep,t,hm.heap S _ JF ho,rest⟩))
 |succ k ih =>
  intro i s hk hi hst hS hR
  have hlt:i<n:=by omega
  refine codeAny_builtin PyProof.Rows.F.entry_set_update_loop ?_
  rw[Around.under_plainId PyProof.Rows.F.plain_set_update_loop _]
  show wpAny _ A.in1 (pyNext (.ref I) >>= _) _ _ s
  refine wpAny_bind (W.item i s _ _ hlt hst λv s' hP agS hm=>?_)
  obtain⟨t,rfl⟩:=hval i v hP
  have hS':s'.heap.SetOf (strKind prog w) S (λk'=>(met val i).any (·==k')) (met val i).length:=by
   obtain⟨o,es,ep,tb,ho,rest⟩:=hS
   exact⟨o,es,ep,tb,hm.heap S _ JF ho,rest⟩
  show wpAny _ A.in1 (holding [Value.str (val i) t] (setAdd S (.str (val i) t)) >>= _) _ _ s'
  refine wpAny_bind (wpAny_holding ?_)
  unfold setAdd
  refine wpAny_holding ?_
  refine wpAny_bind ((strKind prog w).pyHash (k:=val i) (strKind_is _ _ _ _) ?_)
  have hroom:(met val i).length+1<scanBound:=by have:=tU val i;omega
  refine wpAny_setAddHashed_of (knd:=strKind prog w) (s:={ s' with toks:=s'.toks+1 }) (strKind_is _ _ _ _) rfl hS' hroom λh' Jj qb=>?_
  have MB:h'.SetOf (strKind prog w) S (λk'=>(met val (i+1)).any (·==k')) (met val (i+1)).length :=
   SetOf_congr qb (λk'=>by rw[rZ,vn]) (by rw[rZ,rm])
  refine wpAny_pure ⟨plainId_quiet PyProof.Rows.F.plain_set_update_loop _,ih (i+1) _ (by omega) hlt (W.frame _ s' _ _ agS (Nat.le_succ _) λb hb o e=>?_) MB λs'' ag8 Nr=>?_⟩
  ·rw[Jj.2 b (λh:b=S=>hSf (by rw[←h];exact hb))];exact e
  ·refine hR s'' (Moved.trans W.gtrans ((hm.mono hsub).then_heap (Nat.le_succ _) λb o hb e=>?_) ag8) Nr
   rw[Jj.2 b (λh:b=S=>hb (by rw[h];exact List.mem_cons_self))];exact e
end
noncomputable def nZ(x:Str)(i:Nat):Str:=⟨#[x.cps.getD i 0]⟩
theorem R4{prog:Program}{w:World}{A:Around}(hh:A.handled=none)(I:Addr)(x:Str)(t:Tok):
  Walks prog w A I [I] [I] x.cps.size (λi v=>∃u,v= .str (nZ x i) u) (λi h=>h.IsStrIter I (strIterType x) x t i) where
 sub:=λ_ hb=>hb
 frame:=λ_ _ _ st hk=>let ⟨o,ho,r⟩:=st;⟨o,hk I (by simp) o ho,r⟩
 item:=λi s Q E hi st hQ=>by
  refine rj st (k:=x.cps.getD i 0) (by simp[hi]) λh' ahh hs'=>?_
  exact hQ _ h' (s.toks+1) ⟨_,rfl⟩ ahh λb o hb e=>hs'.extBut b o (λh=>hb (by simp[h])) e
 done:=λs Q E st hQ=>rO hh st (by simp) λh' he'=>hQ h' s.toks λb o hb e=>he' b o (λh=>hb (by simp[h])) e
 self:=λ_ _ _ _ st hQ=>rP st hQ
theorem Gh:isSubtype (.type "str") (.type "set")=pure false:=by rw[isSubtype_type];kernel_rfl
theorem ud:isSubtype (.type "str") (.type "frozenset")=pure false:=by rw[isSubtype_type];kernel_rfl
section
variable{prog:Program}{w:World}{A:Around}{E:Value->Shared->Prop}{s:Shared}
set_option maxHeartbeats 3200000 in
theorem Hu{x:Str}{t:Tok}{Q:Value->Shared->Prop}(hh:A.handled=none)(hb:x.cps.size+1<scanBound)
  (h:∀(h':Heap) (tk:Nat),h'.SetOf (strKind prog w) s.heap.objs.size (λk'=>(met (nZ x) x.cps.size).any (·==k')) (met (nZ x) x.cps.size).length →
   (∀b o,b<s.heap.objs.size->s.heap.get? b=some o->h'.get? b=some o)->Q (.ref s.heap.objs.size) { s with heap:=h',toks:=tk }) :
  wpAny (model prog w) A (call (.type "set") [.str x t]) Q E s:=by
 obtain⟨c,tl,akw⟩:=F.called_set.mro
 have hmade:=F.called_set.made
 have hsub:=F.called_set.sub
 refine wpAny_call (codeAny_of_tree ?_)
 show wpAny _ _ (callAny (.type "set") _) _ _ _
 refine wpAny_pure ⟨Code.quiet_builtin _ (by decide +kernel),codeAny_builtin F.entry_type_call ?_⟩
 rw[Around.under_plain (weight_type_call_type "set" [.str x t] []) rfl]
 have h1:=F.called_set.notType
 have h2:=F.called_set.canCreate
 have hct:=F.typeCall_set_1 (.str x t)
 repeat (any_goals (first|assumption|wp_step))
 refine codeAny_mono (code_set_new_1 (.str x t) (E:=E) (Q₁:=λobj s₁=>∃led:Bool,obj= .ref s.heap.objs.size/\s₁={ s with heap:=s.heap.push { cls:=.type "set",dict:=none,data:=.set #[] 0 (.fresh 0 0 led) } }) λled=>⟨led,rfl,rfl⟩) λr s₁ hr=>?_
 cases r with
 |error e=>exact hr
 |ok fl =>
  cases fl with
  |ret obj =>
   obtain⟨led,rfl,rfl⟩:=hr
   have hS:(s.heap.push { cls:=.type "set",dict:=none,data:=.set #[] 0 (.fresh 0 0 led) }).get? s.heap.objs.size=some { cls:=.type "set",dict:=none,data:=.set #[] 0 (.fresh 0 0 led) }:=Heap.get?_push_size _ rfl
   have hT:Shared.TypeIs { s with heap:=s.heap.push { cls:=.type "set",dict:=none,data:=.set #[] 0 (.fresh 0 0 led) } } (.ref s.heap.objs.size) "set" :=⟨_,hS,rfl⟩
   have hli:=F.called_set.init.lookup
   have hbi:=F.called_set.init.bind (.ref s.heap.objs.size)
   repeat (any_goals (first|assumption|wp_step))
   refine codeAny_mono (codeAny_call_builtin (R:=wants (λr s₂=>r= .none/\∃h' tk,s₂={ s with heap:=h',toks:=tk } ∧
     h'.SetOf (strKind prog w) s.heap.objs.size (λk'=>(met (nZ x) x.cps.size).any (·==k')) (met (nZ x) x.cps.size).length ∧
     (∀b o,b<s.heap.objs.size->s.heap.get? b=some o->h'.get? b=some o)) E) F.called_set.init.plain F.entry_set_init (check_set_init_1 hT ?_)) λr₂ s₂ Vo=>?_
   ·have akl:=Gh
    have akm:=ud
    have hne:(Value.type "str" ==Value.type "dict")=false:=by decide
    unfold Builtin.«set.__init__» noKeywords Builtin.Frozenset.updateFrom
    generalize MH:pyIter=PI
    wp_walk
    subst MH
    refine wpAny_pyIter_strU ?_
    refine wpAny_bind (wpAny_runValue ?_)
    have Mv:A.in1.in1.in1.handled=none:=by simp[hh]
    have hSf:s.heap.objs.size∉[(s.heap.push { cls:=.type "set",dict:=none,data:=.set #[] 0 (.fresh 0 0 led) }).objs.size]:=by
     rw[Heap.size_push];simp only[List.mem_singleton]
     exact Nat.ne_of_lt (Nat.lt_succ_self _)
    refine Gr ((R4 Mv _ x t).toS) s.heap.objs.size hSf (nZ x) (λi v hv=>hv) hb (x.cps.size-0) 0 _ (by omega) (Nat.zero_le _)
     ⟨_,Heap.get?_push_size _ rfl,rfl,rfl⟩ ?hS0 ?hR
    case hS0 =>
     have hget:((s.heap.push { cls:=.type "set",dict:=none,data:=.set #[] 0 (.fresh 0 0 led) }).push { cls:=.type (strIterType x),data:=.fields #[.str x t,.int 0 0] }).get? s.heap.objs.size
       = some { cls:=.type "set",dict:=none,data:=.set #[] 0 (.fresh 0 0 led) }:=Heap.get?_push_of_some _ hS
     exact SetOf_congr ((setObjOf_fresh (knd:=strKind prog w) led).setOf hget (by unfold scanBound;omega)) (λ_=>rfl) rfl
    case hR =>
     intro s' hm hS'
     obtain⟨h',g',d',tk',os'⟩:=s'
     have eg:g'=s.gens:=hm.gens
     have ed:d'=s.drawn:=hm.drawn
     have eo:os'=s.os:=hm.os
     subst eg;subst ed;subst eo
     show wpAny _ _ _ _ _ _
     refine wpAny_pure ?_
     show wpAny _ _ (ret Value.none) _ _ _
     refine wpAny_pure ⟨rfl,h',tk',rfl,hS',λb o hb e=>?_⟩
     have hb1:b≠s.heap.objs.size:=Nat.ne_of_lt hb
     have hb2:b≠(s.heap.push { cls:=.type "set",dict:=none,data:=.set #[] 0 (.fresh 0 0 led) }).objs.size:=by
      rw[Heap.size_push];exact Nat.ne_of_lt (Nat.lt_succ_of_lt hb)
     exact hm.heap b o (by simp only[List.mem_cons,List.mem_singleton,List.not_mem_nil,or_false,not_or];exact⟨hb1,hb2⟩) (Heap.get?_push_of_some _ (Heap.get?_push_of_some _ e))
   ·cases r₂ with
    |error e=>exact Vo
    |ok ac5 =>
     cases ac5 with
     |ret r =>
      obtain⟨rfl,h',tk,rfl,hS',hk'⟩:=Vo
      repeat (any_goals (first|assumption|wp_step))
      exact h _ _ hS' hk'
     |_=>exact Vo.elim
  |_=>exact hr.elim
end
end L2
namespace L2
open PySem PySem.Spec PyProof.Rows
noncomputable def K4(P:Program)(w:World)(a:Addr)(n:Nat):HO:=.ext λh=>∃S,h.SetOf (strKind P w) a S n
section
variable{X:Cx}
theorem Tc(hc:X.calm=true):mF X (.type "set") (λxs H Q=>∃x,xs=[.str x]/\x.cps.size+1<scanBound/\∀p,H p=none->Q (.ref p) (upd H p (K4 X.prog X.w p (met (nZ x) x.cps.size).length))):=by
 intro pins s σ H xs us Q I r h
 obtain⟨x,rfl,hb,q⟩:=h
 obtain⟨u,rfl,t,rfl⟩:=vals1 r
 refine TK.cZ (Nat.le_refl s.toks) (Hu (I.ok.hd hc) hb λh' tk hS kk hup=>?_)
 have hn:H s.heap.objs.size=none:=I.fresh
 have k:∀b o,s.heap.get? b=some o->h'.get? b=some o:=λb o e=>kk b o (Heap.lt_size e) e
 refine⟨.ref s.heap.objs.size,_,I.laid (t':=tk) k (Nat.le_refl _) ?_,rfl,q _ hn⟩
 refine⟨⟨_,hS⟩,?_,λh1 h2 p e=>?_⟩
 ·obtain⟨o,_,_,_,ho,_⟩:=hS
  exact⟨o,ho⟩
 ·obtain⟨S,o,es,ep,t,ho,rest⟩:=p
  exact⟨S,o,es,ep,t,e o ho,rest⟩
theorem Ar:mF X (.builtin "len") (λxs H Q=>∃p n,xs=[.ref p]/\H p=some (K4 X.prog X.w p n)/\Q (.int (n:Nat)) H):=by
 intro pins s σ H xs us Q I r h
 obtain⟨p,n,rfl,hp,q⟩:=h
 obtain⟨u,rfl,ru⟩:=vals1 r
 cases ru
 obtain⟨⟨S,o,es,ep,t,ho,hex,hd,_,_,hz,hf,hn⟩,_⟩:=I.hok p _ hp
 subst hn
 have:es.size<4096:=hz
 exact call_len_set ho hex hd hf (by omega) ⟨.int es.size,H,I.tok _,⟨_,rfl⟩,q⟩
noncomputable def Bg(i:Int):Prop:=i.natAbs<2 ^ 9000
theorem Bg.log{i:Int}(h:Bg i):i.natAbs.log2<9000:=by
 rcases Nat.eq_zero_or_pos i.natAbs with h0|hp
 ·rw[h0];decide
 ·exact(Nat.log2_lt (by omega)).mpr h
theorem Bg.bits{i:Int}(h:Bg i):Builtin.Int.intBits i<=2 ^ 20:=by
 have:=h.log
 unfold Builtin.Int.intBits
 split
 ·exact Nat.zero_le _
 ·exact Nat.le_trans (show i.natAbs.log2+1<=9000 by omega) (by decide)
theorem WR:tD X (binaryOp .Mult) (rI (λi j=>Bg i/\Bg j) λi j=>.int (i*j)):=BZ λ_ _ _ _ _ _ _ hc q=>mul_int q (IntMulOk.of_bits hc.1.bits hc.2.bits)
noncomputable def kZ(xs ys:List V):Bool:=(List.range (min xs.length ys.length)).all (λj=>S5 (xs.getD j .ko) (ys.getD j .ko))&&xs.length==ys.length
theorem Hl{A:Around}{s:Shared}{xs ys:List V}{us vs:List Value}(rx:Vals xs us)(ry:Vals ys vs)(fx:xs.all nX=true)(fy:ys.all nX=true):
  ∀j (h1:j<us.toArray.size) (h2:j<vs.toArray.size),SeqAt.EqAt A s us.toArray[j] vs.toArray[j] (S5 (xs.getD j .ko) (ys.getD j .ko)):=by
 intro j h1 h2
 have l1:=rx.length
 have l2:=ry.length
 have Bb:j<xs.length:=by rw[l1];simpa using h1
 have h2':j<ys.length:=by rw[l2];simpa using h2
 obtain⟨u,eu,ru⟩:=rx.get (i:=j) (x:=xs[j]) (by simp[Bb])
 obtain⟨v,ev,rv⟩:=ry.get (i:=j) (x:=ys[j]) (by simp[h2'])
 have e1:us.toArray[j]=u:=by
  rw[List.getElem?_eq_getElem (by simpa using h1)]at eu
  simpa using Option.some.inj eu
 have e2:vs.toArray[j]=v:=by
  rw[List.getElem?_eq_getElem (by simpa using h2)]at ev
  simpa using Option.some.inj ev
 rw[e1,e2,List.getD_eq_getElem?_getD,List.getD_eq_getElem?_getD,List.getElem?_eq_getElem Bb,List.getElem?_eq_getElem h2',Option.getD_some,Option.getD_some]
 exact VO ru rv (List.all_eq_true.mp fx _ (List.getElem_mem Bb)) (List.all_eq_true.mp fy _ (List.getElem_mem h2'))
noncomputable def K0(K:PySem.W.Frag)(neg:Bool):R2:=λx y H Q=>∃p q xs ys,x= .ref p/\y= .ref q/\iR K H p xs/\iR K H q ys/\xs.all nX=true/\ys.all nX=true/\Q (.bl (if neg then !kZ xs ys else kZ xs ys)) H
theorem UY(hu:X.A.units<cLine):tD X (compareOp .Eq) (K0 X.K false):=by
 intro pins s σ H x y v u Q I rx ry h
 obtain⟨p,q,xs,ys,rfl,rfl,hp,hq,fx,fy,k⟩:=h
 cases rx
 cases ry
 obtain⟨us,r1,t1,_⟩:=I.tuple hp
 obtain⟨vs,r2,t2,_⟩:=I.tuple hq
 refine SeqAt.RcAt.tuples (A:=X.A) (s:=s) t1 t2 hu (Hl r1 r2 fx fy) X.prog X.w X.xe _ ⟨.bl (kZ xs ys),H,I,?_,k⟩
 unfold kZ
 rw[r1.length,r2.length,List.size_toArray,List.size_toArray]
 rfl
theorem Z9(hu:X.A.units<cLine):tD X (compareOp .NotEq) (K0 X.K true):=by
 intro pins s σ H x y v u Q I rx ry h
 obtain⟨p,q,xs,ys,rfl,rfl,hp,hq,fx,fy,k⟩:=h
 cases rx
 cases ry
 obtain⟨us,r1,t1,_⟩:=I.tuple hp
 obtain⟨vs,r2,t2,_⟩:=I.tuple hq
 refine SeqAt.RcNeAt.tuples (A:=X.A) (s:=s) t1 t2 hu (Hl r1 r2 fx fy) X.prog X.w X.xe _ ⟨.bl (!kZ xs ys),H,I,?_,k⟩
 unfold kZ
 rw[r1.length,r2.length,List.size_toArray,List.size_toArray]
 rfl
end
end L2
namespace L2
open PySem PySem.Spec PyProof.Rows
noncomputable def DG(K:PySem.W.Frag)(c:Cp):It :=
 ⟨λi H=>∃xs x,c.at K H xs/\xs[i]? =some x,λi H x H'=>H'=H/\∀xs,c.at K H xs->xs[i]? =some x,λi H=>∃xs,c.at K H xs/\xs.length<=i⟩
theorem Turn.conv{P:Program}{w:World}{K:PySem.W.Frag}{tg:Expr}{J J':It}{fp:List Addr}{it:Addr}{tn:Nat->Heap->Prop}(T:Turn P w K tg J fp it tn)
  (hg:∀i H,J'.go i H->J.go i H) (hy:∀i H x H',J.AL i H x H'->J'.AL i H x H') (hs:∀i H,J'.stop i H->J.stop i H):Turn P w K tg J' fp it tn where
 mem:=T.mem
 obj:=T.obj
 keep:=T.keep
 item:=λX hP hw hK hc i pins s σ H E I hf st g=>wpAny_mono (T.item X hP hw hK hc i pins s σ H E I hf st (hg i H g)) (λr s1 ⟨u,hr,h⟩=>⟨u,hr,wpAny_mono h (λ_ s2 ⟨x,H',I',r',y,t',n'⟩=>⟨x,H',I',r',hy i H x H' y,t',n'⟩) λ_ _ z=>z⟩) λ_ _ z=>z
 done:=λX hP hw hK hc i pins s σ H E I hf st g=>T.done X hP hw hK hc i pins s σ H E I hf st (hs i H g)
 self:=T.self
theorem signs_length(x:Str):(gi x).length=x.cps.size:=by simp[gi]
theorem signs_at{x:Str}{i k:Nat}(h:x.cps[i]? =some k):(gi x)[i]? =some (.str ⟨#[k]⟩):=by
 unfold gi
 rw[List.getElem?_map]
 have e:x.cps.toList[i]? =some k:=by simpa using h
 rw[e]
 rfl
section
variable{X:Cx}{tg:Expr}
noncomputable def LW(K:PySem.W.Frag)(tl:TE):TI:=λσ H R=>tl σ H λv H1=>∃c xs,v=Cp.val c/\c.at K H1 xs/\R (DG K c) H1
theorem xm{l:Expr}{tl:TE}(hl:PE X l tl):PI X tg l (LW X.K tl):=by
 intro pins s σ H R I h
 refine gB (hl pins s σ H _ I h) λv s1 ⟨y,H1,I1,r1,q1⟩=>?_
 obtain⟨c,xs,e,hq,q⟩:=q1
 subst e
 have FP:∀b∈[s1.heap.objs.size],rC X pins H1 b:=λb hb=>by
  have e:b=s1.heap.objs.size:=by simpa using hb
  subst e
  exact I1.xW (Nat.le_refl _) (I1.hok.fresh (Nat.le_refl _))
 cases c with
 |lst a =>
  cases (show v=Value.ref a from r1)
  obtain⟨its,rv,p,hz⟩:=I1.list hq
  refine wpAny_pyIter_list p.isList ?_
  exact⟨s1.heap.objs.size,[s1.heap.objs.size],_,_,H1,rfl,I1.kept (t':=s1.toks) λb o e=>Heap.get?_push_of_some _ e,AR a _,⟨_,Heap.get?_push_size _ rfl,rfl,rfl⟩,FP,q⟩
 |tup a =>
  cases (show v=Value.ref a from r1)
  obtain⟨its,rv,p,hz⟩:=I1.tuple hq
  refine wpAny_pyIter_tuple (show s1.heap.IsTuple a its.toArray from p) ?_
  exact⟨s1.heap.objs.size,[s1.heap.objs.size],_,_,H1,rfl,I1.kept (t':=s1.toks) λb o e=>Heap.get?_push_of_some _ e,PR a _,⟨_,Heap.get?_push_size _ rfl,rfl,rfl⟩,FP,q⟩
 |txt x =>
  obtain⟨t,rfl⟩:=(show ∃t,v=Value.str x t from r1)
  refine wpAny_pyIter_strU ?_
  refine⟨s1.heap.objs.size,[s1.heap.objs.size],_,_,H1,rfl,I1.kept (t':=s1.toks) λb o e=>Heap.get?_push_of_some _ e,(Nt x t _).conv ?_ ?_ ?_,⟨_,Heap.get?_push_size _ rfl,rfl,rfl⟩,FP,q⟩
  ·rintro i H ⟨xs,y,hx,e⟩
   rw[show xs=gi x from hx]at e
   have:=(List.getElem?_eq_some_iff.mp e).1
   rw[signs_length]at this
   exact this
  ·rintro i H y H' ⟨rfl,k,e,rfl⟩
   refine⟨rfl,λxs hx=>?_⟩
   rw[show xs=gi x from hx]
   exact signs_at e
  ·rintro i H ⟨xs,hx,e⟩
   rw[show xs=gi x from hx,signs_length]at e
   exact e
theorem Hi{K:PySem.W.Frag}{c:Cp}{xs:List V}{g:TG}{tb:TS}{D:Ends}{σ:St}{H:Hp}(Pv:Nat->St->Hp->Prop)(h0:Pv 0 σ H)(hl:∀i σ H,i<=xs.length->Pv i σ H->c.at K H xs)
  (hs:∀i x σ H,xs[i]? =some x->Pv i σ H->g x σ H λσ2 H2=>tb { D with nx:=Pv (i+1),ct:=Pv (i+1),bk:=D.nx } σ2 H2) (hd:∀ σ H,Pv xs.length σ H->D.nx σ H) :
  ∃W:Nat->Nat->St->Hp->Prop,(∃m,W 0 m σ H)/\∀i m σ H,W i m σ H →
   ((DG K c).stop i H/\D.nx σ H)\/((DG K c).go i H/\∃N:St->Hp->Prop,(∀ σ' H',N σ' H'->∃m',m'<m/\W (i+1) m' σ' H')/\∀x H',(DG K c).AL i H x H'->g x σ H' λσ2 H2=>tb { D with nx:=N,ct:=N,bk:=D.nx } σ2 H2):=by
 refine⟨λi m σ H=>m=xs.length-i/\i<=xs.length/\Pv i σ H,⟨xs.length,by simp,Nat.zero_le _,h0⟩,?_⟩
 rintro i m σ H ⟨rfl,hi,p⟩
 have q:=hl i σ H hi p
 by_cases hlt:i<xs.length
 ·refine .inr ⟨⟨xs,xs[i],q,by simp[hlt]⟩,Pv (i+1),λσ' H' p'=>⟨xs.length-(i+1),by omega,rfl,hlt,p'⟩,λx H' y=>?_⟩
  obtain⟨e,y⟩:=y
  subst e
  exact hs i x σ _ (y xs q) p
 ·have e:i=xs.length:=by omega
  subst e
  exact .inl ⟨⟨xs,q,Nat.le_refl _⟩,hd σ H p⟩
end
end L2
namespace oH
noncomputable def lo(a b:Int):Int×Int:=(a / (Int.gcd a b:Int),b / (Int.gcd a b:Int))
theorem sY(a:Int){b:Int}(hb:0<b):0<(Int.gcd a b:Int):=by
 have:0<Int.gcd a b:=Int.gcd_pos_of_ne_zero_right a (by omega)
 omega
theorem VC(a:Int){b:Int}(hb:0<b):(Int.gcd a b:Int)<=b:=Int.le_of_dvd hb (Int.gcd_dvd_right ..)
theorem aaj(a:Int){b:Int}(hb:0<b):0<(lo a b).2 :=
 Int.ediv_pos_of_pos_of_dvd hb (Int.le_of_lt (sY a hb)) (Int.gcd_dvd_right ..)
theorem lo_le(a:Int){b:Int}(hb:0<b):(lo a b).2<=b:=by
 have h:=sY a hb
 exact Int.ediv_le_self _ (Int.le_of_lt hb)
theorem VB(a b:Int):Int.gcd b (a % b)=Int.gcd a b:=by
 have e:a=a % b+b*(a / b):=(Int.emod_add_mul_ediv a b).symm
 have h:Int.gcd (a % b+b*(a / b)) b=Int.gcd (a % b) b:=Int.gcd_add_mul_left_left ..
 rw[←e]at h
 rw[h,Int.gcd_comm]
theorem Xh(a:Int):(if a<0 then -a else a)=(Int.gcd a 0:Int):=by
 rw[Int.gcd_zero_right]
 split<;>omega
end oH
namespace GP
open PySem L2 oH
noncomputable abbrev bY:=Int×Int
noncomputable def nF(f:bY):bY:=lo f.1 f.2
theorem ai.upd{H:Hp}{q:Addr}{o:HO}(h:H q=none):ai H (L2.upd H q o):=λb u e=>by rw[aA (bC e h)];exact e
theorem ai.at{H H2:Hp}{t:Addr}{o:HO}(e:ai H H2)(h:H t=none):ai H (L2.upd H2 t o):=λb u q=>by rw[aA (bC q h)];exact e b u q
theorem ai.tup{K:PySem.W.Frag}{H H':Hp}{a:Addr}{xs:List V}(e:ai H H')(h:iR K H a xs):iR K H' a xs:=by
 rcases h with(h|⟨o,h⟩)|h
 ·exact .inl (.inl (e _ _ h))
 ·exact .inl (.inr ⟨o,e _ _ h⟩)
 ·exact .inr h
theorem ai.cp{K:PySem.W.Frag}{H H':Hp}{c:Cp}{xs:List V}(e:ai H H')(h:c.at K H xs):c.at K H' xs:=by
 cases c with
 |lst a=>exact ai.seq e h
 |tup a=>exact ai.tup e h
 |txt x=>exact h
noncomputable def mD(K:PySem.W.Frag)(H:Hp)(p:Addr)(f:bY):Prop:=iR K H p [.int f.1,.int f.2]
theorem mD.same{K:PySem.W.Frag}{H H':Hp}{p:Addr}{f:bY}(e:ai H H')(h:mD K H p f):mD K H' p f:=ai.tup e h
noncomputable def nP(K:PySem.W.Frag)(H:Hp)(c:Cp)(fs:List bY):Prop:=∃ps:List Addr,c.at K H (ps.map V.ref)/\Paired (mD K H) ps fs
theorem nP.same{K:PySem.W.Frag}{H H':Hp}{c:Cp}{fs:List bY}(e:ai H H')(h:nP K H c fs):nP K H' c fs:=by
 obtain⟨ps,a,b⟩:=h
 exact⟨ps,ai.cp e a,Paired.qm b λ_ _ z=>z.same e⟩
noncomputable def Ym(K:PySem.W.Frag)(H:Hp)(c:Cp)(rows:List (List bY)):Prop:=∃cs:List Cp,c.at K H (cs.map Cp.val)/\Paired (nP K H) cs rows
theorem Paired.at{α β:Type}{F:α->β->Prop}:∀{l₁:List α} {l₂:List β} {i:Nat} {x:α},Paired F l₁ l₂->l₁[i]? =some x->∃y,l₂[i]? =some y/\F x y
 |_,_,i,_,.nil,e=>by simp at e
 |_,_,0,_,.cons r _,e=>by simp at e;subst e;exact⟨_,rfl,r⟩
 |_,_,i+1,x,.cons _ t,e=>by
  obtain⟨y,h1,h2⟩:=Paired.at (i:=i) (x:=x) t (by simpa using e)
  exact⟨y,by simpa using h1,h2⟩
theorem Paired.len{α β:Type}{F:α->β->Prop}{l₁:List α}{l₂:List β}(h:Paired F l₁ l₂):l₁.length=l₂.length:=Paired.length h
theorem Paired.snoc{α β:Type}{F:α->β->Prop}{x:α}{y:β}:∀{l₁:List α} {l₂:List β},Paired F l₁ l₂->F x y->Paired F (l₁++[x]) (l₂++[y])
 |_,_,.nil,h=>.cons h .nil
 |_,_,.cons r t,h=>.cons r (Paired.snoc t h)
theorem take_snoc{α:Type}{l:List α}{i:Nat}{x:α}(h:l[i]? =some x):l.take (i+1)=l.take i++[x]:=by
 rw[List.take_add_one,h];rfl
theorem tV{α β:Type}{l:List α}{f:α->β}{i:Nat}{x:α}(h:l[i]? =some x):(l.map f).take (i+1)=(l.map f).take i++[f x]:=take_snoc (by rw[List.getElem?_map,h];rfl)
theorem zk{i j:Int}{A B:Prop}(h1:i≠j->A)(h2:i=j->B):if(!decide (V.int i=V.int j))=true then A else B:=by
 by_cases h:i=j
 ·rw[tw,if_neg (by simp[h])];exact h2 h
 ·rw[tw,if_pos (by simp[h])];exact h1 h
theorem Vg{i j:Int}{A B:Prop}(h1:i=j->A)(h2:i≠j->B):if(decide (V.int i=V.int j))=true then A else B:=by
 by_cases h:i=j
 ·rw[tw,if_pos (by simp[h])];exact h1 h
 ·rw[tw,if_neg (by simp[h])];exact h2 h
theorem eY{p:Prop}[Decidable p]{A B:Prop}(h1:p->A)(h2:¬p->B):if(decide p)=true then A else B:=by
 by_cases h:p
 ·rw[if_pos (decide_eq_true h)];exact h1 h
 ·rw[if_neg (by rw[decide_eq_false h];exact Bool.false_ne_true)];exact h2 h
theorem RG{A B:Prop}(h:A):if(!false)=true then A else B:=by
 rw[if_pos (show(!false)=true from rfl)];exact h
theorem qu{A B:Prop}(h:B):if(!true)=true then A else B:=by
 rw[if_neg (by decide)];exact h
structure Dn(K:PySem.W.Frag)(mg:Str->Option Value)(x:Str)(st:Stmt)(ps:List Str)(f:Addr)(fd:FuncData):Prop where
 fn:Wr K x x st f fd
 b:Binds K fd ps []
 m:mg x=some (.ref f)
noncomputable def Uq:Sp:=λvs H Q _=>∃a b:Int,vs=[.int a,.int b]/\0<=b/\Q (.int (Int.gcd a b)) H
noncomputable def lm(a b:Int):Int:=a / (Int.gcd a b:Int)*b
noncomputable def XN(K:PySem.W.Frag):Sp:=λvs H Q _=>∃(p:Addr) (f:bY),vs=[.ref p]/\mD K H p f/\0<f.2/\f.2<1073741824 ∧
 ∀q,H q=none->Q (.ref q) (L2.upd H q (.tup [.int (nF f).1,.int (nF f).2]))
noncomputable def Pb(f:bY):Prop:=1<=f.2/\f.2<1073741824
noncomputable def um(K:PySem.W.Frag):Sp:=λvs H Q _=>∃(p:Addr) (f:bY),vs=[.ref p]/\mD K H p f/\Pb f ∧
 ∀q,H q=none->Q (.ref q) (L2.upd H q (.tup [.int (nF f).1,.int (nF f).2]))
noncomputable def wZ(K:PySem.W.Frag):Sp:=λvs H Q _=>∃(c:Cp) (fs:List bY),vs=[c.val]/\nP K H c fs/\(∀f∈fs,Pb f)/\fs.length<=1000 ∧
 ∀q H',ai H H'->H q=none->nP K H' (.tup q) (fs.map nF)->Q (.ref q) H'
noncomputable def aY(o m:Int)(rows:List (List bY)):Int:=(rows.flatten.map (·.2)).foldl lm (lm o m)
noncomputable def nH(fo fm:bY)(rows:List (List bY)):List Int:=fo.2::fm.2::rows.flatten.map (·.2)
noncomputable def NH(K:PySem.W.Frag):Sp:=λvs H Q _=>∃(P o m:Addr) (rows:List (List bY)) (fo fm:bY),vs=[.ref P,.ref o,.ref m]/\Ym K H (.tup P) rows/\mD K H o fo/\mD K H m fm ∧
 rows.length<=12/\(∀r∈rows,r.length<=12)/\∀l H',ai H H'->H l=none->H' l=some (.lst ((nH fo fm rows).map V.int))->Q (.ref l) H'
noncomputable def tu(p:List Int×Int)(b:Int):List Int×Int:=if b / (Int.gcd p.2 b:Int)>1 then(p.1++[b / (Int.gcd p.2 b:Int)],p.2*(b / (Int.gcd p.2 b:Int)))else p
noncomputable def qw(ns:List Int):List Int×Int:=ns.foldl tu ([],1)
noncomputable def p8(n:Int):Prop:=0<n/\n<1073741824
noncomputable def AY(K:PySem.W.Frag):Sp:=λvs H Q _=>∃(l:Addr) (ns:List Int),vs=[.ref l]/\bf K H l (ns.map V.int)/\ns.length<=1000/\(∀n∈ns,p8 n) ∧
 ∀q H',ai H H'->H q=none->H' q=some (.lst ((qw ns).1.map V.int))->Q (.ref q) H'
noncomputable def xh(fs:List Int):Int:=fs.foldl (·*·) 1
noncomputable def Uo(K:PySem.W.Frag):Sp:=λvs H Q _=>∃(l:Addr) (fs:List Int),vs=[.ref l]/\bf K H l (fs.map V.int)/\(∀n∈fs,p8 n)/\Q (.int (xh fs)) H
noncomputable def yw(K:PySem.W.Frag):Sp:=λvs H Q _=>∃(p:Addr) (f:bY) (u:Int),vs=[.ref p,.int u]/\mD K H p f/\Pb f/\Bg f.1/\Bg (u / f.2)/\Q (.int (f.1*(u / f.2))) H
theorem aak{b:Int}:lm 1 b=b:=by
 unfold lm
 rw[Int.gcd_one_left]
 simp
theorem aal{a b:Int}:lm a b=a*(b / (Int.gcd a b:Int)):=by
 unfold lm
 rw[←Int.mul_ediv_assoc' b (Int.gcd_dvd_left a b),Int.mul_ediv_assoc a (Int.gcd_dvd_right a b)]
structure Pn(p:List Int×Int)(ns:List Int):Prop where
 small:∀f∈p.1,p8 f
 prod:xh p.1=p.2
 unit:p.2=ns.foldl lm 1
 pos:0<p.2
 len:p.1.length<=ns.length
theorem yK(fs:List Int)(f:Int):xh (fs++[f])=xh fs*f:=by
 unfold xh
 rw[List.foldl_append]
 rfl
theorem RL{u b:Int}(hb:p8 b):0<b / (Int.gcd u b:Int)/\b / (Int.gcd u b:Int)<=b:=by
 have g1:=sY u hb.1
 exact⟨Int.ediv_pos_of_pos_of_dvd hb.1 (Int.le_of_lt g1) (Int.gcd_dvd_right u b),Int.ediv_le_self _ (Int.le_of_lt hb.1)⟩
theorem Pn.step{p:List Int×Int}{ns:List Int}{b:Int}(h:Pn p ns)(hb:p8 b):Pn (tu p b) (ns++[b]):=by
 obtain⟨d1,d2⟩:=RL (u:=p.2) hb
 have e:(ns++[b]).foldl lm 1=p.2*(b / (Int.gcd p.2 b:Int)):=by
  rw[List.foldl_append,←h.unit]
  exact aal
 unfold tu
 split
 ·next h1 =>
  refine⟨λf hf=>?_,?_,e.symm,Int.mul_pos h.pos d1,?_⟩
  ·rcases List.mem_append.mp hf with hf|hf
   ·exact h.small f hf
   ·rw[List.mem_singleton.mp hf]
    exact⟨d1,Int.lt_of_le_of_lt d2 hb.2⟩
  ·rw[yK,h.prod]
  ·rw[List.length_append,List.length_append]
   exact Nat.add_le_add_right h.len 1
 ·next h1 =>
  have e1:b / (Int.gcd p.2 b:Int)=1:=by omega
  refine⟨h.small,h.prod,?_,h.pos,?_⟩
  ·rw[e,e1,Int.mul_one]
  ·rw[List.length_append]
   exact Nat.le_trans h.len (Nat.le_add_right _ _)
theorem zv(ns:List Int)(b:Int):qw (ns++[b])=tu (qw ns) b:=by
 unfold qw
 rw[List.foldl_append]
 rfl
theorem wB{ns:List Int}(h:∀n∈ns,p8 n):∀i,i<=ns.length->Pn (qw (ns.take i)) (ns.take i)
 | 0,_=>by
  rw[List.take_zero]
  exact⟨λf hf=>(by cases hf),rfl,rfl,(by decide),Nat.le_refl _⟩
 |i+1,hi=>by
  have e:=List.getElem?_eq_getElem (l:=ns) (i:=i) hi
  rw[take_snoc e,zv]
  exact(wB h i (Nat.le_of_lt hi)).step (h _ (List.getElem_mem hi))
theorem Xl{ns:List Int}(h:∀n∈ns,p8 n):Pn (qw ns) ns:=by
 have z:=wB h ns.length (Nat.le_refl _)
 rw[List.take_length]at z
 exact z
theorem M1(fo fm:bY)(rows:List (List bY)):(nH fo fm rows).foldl lm 1=aY fo.2 fm.2 rows:=by
 unfold nH aY
 rw[List.foldl_cons,List.foldl_cons,aak]
end GP
namespace GP
open PySem L2 oH
structure Dm(K:PySem.W.Frag)(x qual:Str)(st:Stmt)(ps:List Str)(f:Addr)(fd:FuncData):Prop where
 fn:Wr K x qual st f fd
 b:Binds K fd ps []
noncomputable def Dat(H H':Hp):Prop:=∀b u,(∀C dx fs,u≠HO.ins C dx fs)->H b=some u->H' b=some u
theorem Dat.of{H H':Hp}(e:ai H H'):Dat H H':=λb u _ h=>e b u h
theorem Dat.trans{H H' Pw:Hp}(e:Dat H H')(f:Dat H' Pw):Dat H Pw:=λb u n h=>f b u n (e b u n h)
theorem Dat.set{H:Hp}{x C dx:Addr}{fs fs':List (Str×V)}(h:H x=some (.ins C dx fs)):Dat H (L2.upd H x (.ins C dx fs')):=λb u n e=>by
 rw[aA (λz=>by subst z;rw[h]at e;cases e;exact n _ _ _ rfl)];exact e
theorem Dat.tup{K:PySem.W.Frag}{H H':Hp}{a:Addr}{xs:List V}(e:Dat H H')(h:iR K H a xs):iR K H' a xs:=by
 rcases h with(h|⟨o,h⟩)|h
 ·exact .inl (.inl (e _ _ (λ_ _ _ z=>by cases z) h))
 ·exact .inl (.inr ⟨o,e _ _ (λ_ _ _ z=>by cases z) h⟩)
 ·exact .inr h
theorem Dat.lst{K:PySem.W.Frag}{H H':Hp}{a:Addr}{xs:List V}(e:Dat H H')(h:bf K H a xs):bf K H' a xs:=by
 rcases h with(h|⟨o,h⟩)|h
 ·exact .inl (.inl (e _ _ (λ_ _ _ z=>by cases z) h))
 ·exact .inl (.inr ⟨o,e _ _ (λ_ _ _ z=>by cases z) h⟩)
 ·exact .inr h
theorem Dat.cp{K:PySem.W.Frag}{H H':Hp}{c:Cp}{xs:List V}(e:Dat H H')(h:c.at K H xs):c.at K H' xs:=by
 cases c with
 |lst a=>exact Dat.lst e h
 |tup a=>exact Dat.tup e h
 |txt x=>exact h
theorem mD.dat{K:PySem.W.Frag}{H H':Hp}{p:Addr}{f:bY}(e:Dat H H')(h:mD K H p f):mD K H' p f:=Dat.tup e h
theorem nP.dat{K:PySem.W.Frag}{H H':Hp}{c:Cp}{fs:List bY}(e:Dat H H')(h:nP K H c fs):nP K H' c fs:=by
 obtain⟨ps,a,b⟩:=h
 exact⟨ps,Dat.cp e a,Paired.qm b λ_ _ z=>z.dat e⟩
noncomputable def HC(K:PySem.W.Frag)(H:Hp)(P:Addr)(rows:List (List bY)):Prop:=∃qs:List Addr,iR K H P (qs.map V.ref)/\Paired (λq r=>nP K H (.tup q) r) qs rows
theorem HC.dat{K:PySem.W.Frag}{H H':Hp}{P:Addr}{rows:List (List bY)}(e:Dat H H')(h:HC K H P rows):HC K H' P rows:=by
 obtain⟨cs,a,b⟩:=h
 exact⟨cs,Dat.tup e a,Paired.qm b λ_ _ z=>z.dat e⟩
theorem uw{α β γ:Type}{F:γ->β->Prop}{g:α->γ}:∀{l₁:List α} {l₂:List β},Paired (λa b=>F (g a) b) l₁ l₂->Paired F (l₁.map g) l₂
 |_,_,.nil=>.nil
 |_,_,.cons r t=>.cons r (uw t)
theorem HC.LQ{K:PySem.W.Frag}{H:Hp}{P:Addr}{rows:List (List bY)}(h:HC K H P rows):Ym K H (.tup P) rows:=by
 obtain⟨qs,a,b⟩:=h
 refine⟨qs.map Cp.tup,?_,uw b⟩
 rw[List.map_map]
 exact a
theorem VV{K:PySem.W.Frag}{H:Hp}{c:Cp}{xs:List V}(h:c.at K H xs)(hx:∀x,c≠ .txt x):V8 K c.val H xs.length:=by
 cases c with
 |lst a=>exact .inl ⟨_,h,rfl⟩
 |tup a=>exact .inr ⟨_,h,rfl⟩
 |txt x=>exact absurd rfl (hx x)
theorem nP.len{K:PySem.W.Frag}{H:Hp}{c:Cp}{fs:List bY}(h:nP K H c fs)(hx:∀x,c≠ .txt x):V8 K c.val H fs.length:=by
 obtain⟨ps,a,b⟩:=h
 have z:=VV a hx
 rw[List.length_map,Paired.len b]at z
 exact z
noncomputable def dZ(n:Nat):Bool:=(decide ((32:Int)<=(n:Int))&&decide ((n:Int)<=126))&& !C6 (.int n) [.int 34,.int 37,.int 45]
noncomputable def OZ(x:Str):Prop:=0<x.cps.size/\x.cps.size<=100/\(∀c∈x.cps.toList,dZ c=true)/\x.cps.toList.Nodup
theorem rK{x:Str}(h:x.cps.toList.Nodup){i j a b:Nat}(hi:x.cps[i]? =some a)(hj:x.cps[j]? =some b)(hij:i≠j):a≠b:=by
 intro z
 subst z
 rw[←Array.getElem?_toList]at hi hj
 exact hij ((List.getElem?_inj (List.getElem?_eq_some_iff.mp hi).1 h).mp (hi.trans hj.symm))
theorem RC(val:Nat->Str)(k:Str):∀i,(met val i).any (·==k)=true->∃j,j<i/\val j=k
 | 0,h=>by rw[yX]at h;cases h
 |i+1,h=>by
  rw[rZ,vn,Bool.or_eq_true]at h
  rcases h with h|h
  ·obtain⟨j,h1,h2⟩:=RC val k i h
   exact⟨j,by omega,h2⟩
  ·exact⟨i,by omega,(of_decide_eq_true h).symm⟩
theorem Ot{val:Nat->Str}{n:Nat}(h:∀i j,i<n->j<n->i≠j->val i≠val j):∀i,i<=n->(met val i).length=i
 | 0,_=>by rw[yX];rfl
 |i+1,hi=>by
  rw[rZ,rm]
  have e:¬((met val i).any (·==val i)=true):=λz=>by
   obtain⟨j,h1,h2⟩:=RC val _ i z
   exact h j i (by omega) (by omega) (by omega) h2
  rw[if_neg e,Ot h i (by omega)]
theorem SG{x:Str}(h:x.cps.toList.Nodup):(met (nZ x) x.cps.size).length=x.cps.size:=by
 refine Ot (n:=x.cps.size) (λi j hi hj hij z=>?_) _ (Nat.le_refl _)
 unfold nZ at z
 have e1:x.cps[i]? =some (x.cps.getD i 0):=by simp[hi]
 have e2:x.cps[j]? =some (x.cps.getD j 0):=by simp[hj]
 refine rK h e1 e2 hij ?_
 have z2: #[x.cps.getD i 0]= #[x.cps.getD j 0]:=congrArg Str.cps z
 simpa using z2
noncomputable def NQ:Sp:=λvs H Q _=>∃c:Nat,vs=[.str ⟨#[c]⟩]/\Q (.bl (dZ c)) H
noncomputable def uo:Sp:=λvs H Q _=>∃x:Str,vs=[.str x]/\x.cps.size<=1000/\∀H',ai H H'->Q (.bl (x.cps.toList.all dZ)) H'
noncomputable def uX:Sp:=λvs H Q _=>∃x:Str,vs=[.str x]/\OZ x/\∀H',ai H H'->Q .ko H'
noncomputable def Yl(c:Cp):Prop:=∀x,c≠ .txt x
noncomputable def Tp(K:PySem.W.Frag)(H:Hp)(c:Cp)(rows:List (List bY)):Prop:=Yl c/\∃cs:List Cp,(∀d∈cs,Yl d)/\c.at K H (cs.map Cp.val)/\Paired (nP K H) cs rows
theorem Tp.dat{K:PySem.W.Frag}{H H':Hp}{c:Cp}{rows:List (List bY)}(e:Dat H H')(h:Tp K H c rows):Tp K H' c rows:=by
 obtain⟨n,cs,m,a,b⟩:=h
 exact⟨n,cs,m,Dat.cp e a,Paired.qm b λ_ _ z=>z.dat e⟩
noncomputable def XC(n:Nat)(rows:List (List bY)):Prop:=rows.length=n/\∀r∈rows,r.length=n
noncomputable def rJ(K:PySem.W.Frag):Sp:=λvs H Q _=>∃(x:Str) (c:Cp) (rows:List (List bY)),vs=[.str x,c.val]/\Tp K H c rows/\x.cps.size<=100/\XC x.cps.size rows/\Q .ko H
noncomputable def CG(rows:List (List bY))(i j:Nat)(f:bY):Prop:=∃r,rows[i]? =some r/\r[j]? =some f
noncomputable def keyOf(a b:Nat):List Key:=[.inr ⟨#[a]⟩,.inr ⟨#[b]⟩]
noncomputable def QZ(kvs:List (List Key×V))(x:Str)(rows:List (List bY))(u:Int):Prop :=
 ∀i j a b f,x.cps[i]? =some a->x.cps[j]? =some b->CG rows i j f->jl kvs (keyOf a b)=some (.int (f.1*(u / f.2)))
noncomputable def Sm(i:Int):Prop:=i.natAbs<2 ^ 200
noncomputable def Bu(i:Int):Prop:=i.natAbs<=2 ^ 4380
theorem Sm.bg{i:Int}(h:Sm i):Bg i:=Nat.lt_of_lt_of_le h (Nat.pow_le_pow_right (by decide) (by decide))
theorem Bu.bg{i:Int}(h:Bu i):Bg i:=Nat.lt_of_le_of_lt h (Nat.pow_lt_pow_right (by decide) (by decide))
noncomputable def Ct(u:Int)(f:bY):Prop:=Pb f/\Sm f.1/\Bu (u / f.2)
noncomputable def Ri(K:PySem.W.Frag):Sp:=λvs H Q _=>∃(x:Str) (P:Addr) (u:Int) (rows:List (List bY)),vs=[.str x,.ref P,.int u]/\HC K H P rows/\x.cps.size<=100/\x.cps.toList.Nodup/\XC x.cps.size rows/\(∀r∈rows,∀f∈r,Ct u f) ∧
 ∀d H' kvs,ai H H'->H d=none->H' d=some (.dT kvs)->QZ kvs x rows u->Q (.ref d) H'
noncomputable def kC(x:Str)(P o m:Addr)(u:Int)(d:Addr×Addr):List (Str×V) :=
 aL "costs" (.ref d.1) (aL "unit" (.int u) (aL "factors" (.ref d.2) (aL "more" (.ref m) (aL "opening" (.ref o) (aL "pairs" (.ref P) (aL "signs" (.str x) []))))))
theorem OI{x:Str}{P o m:Addr}{u:Int}{d:Addr×Addr}:(kC x P o m u d).lookup ("signs" :Str)=some (.str x):=by
 unfold kC
 rw[ay,if_neg (by decide +kernel),ay,if_neg (by decide +kernel),ay,if_neg (by decide +kernel),ay,if_neg (by decide +kernel),ay,if_neg (by decide +kernel),ay,if_neg (by decide +kernel),ay,if_pos rfl]
theorem An{x:Str}{P o m:Addr}{u:Int}{d:Addr×Addr}:(kC x P o m u d).lookup ("opening" :Str)=some (.ref o):=by
 unfold kC
 rw[ay,if_neg (by decide +kernel),ay,if_neg (by decide +kernel),ay,if_neg (by decide +kernel),ay,if_neg (by decide +kernel),ay,if_pos rfl]
theorem QB{x:Str}{P o m:Addr}{u:Int}{d:Addr×Addr}:(kC x P o m u d).lookup ("more" :Str)=some (.ref m):=by
 unfold kC
 rw[ay,if_neg (by decide +kernel),ay,if_neg (by decide +kernel),ay,if_neg (by decide +kernel),ay,if_pos rfl]
theorem Ao{x:Str}{P o m:Addr}{u:Int}{d:Addr×Addr}:(kC x P o m u d).lookup ("factors" :Str)=some (.ref d.2):=by
 unfold kC
 rw[ay,if_neg (by decide +kernel),ay,if_neg (by decide +kernel),ay,if_pos rfl]
theorem zq{x:Str}{P o m:Addr}{u:Int}{d:Addr×Addr}:(kC x P o m u d).lookup ("unit" :Str)=some (.int u):=by
 unfold kC
 rw[ay,if_neg (by decide +kernel),ay,if_pos rfl]
theorem OJ{x:Str}{P o m:Addr}{u:Int}{d:Addr×Addr}:(kC x P o m u d).lookup ("costs" :Str)=some (.ref d.1):=by
 unfold kC
 rw[ay,if_pos rfl]
noncomputable def Aq(x:Str)(P o m:Addr)(u:Int)(d:Addr×Addr)(ou mu:Int):List (Str×V) :=
 aL "more_units" (.int mu) (aL "opening_units" (.int ou) (kC x P o m u d))
theorem zp {x:Str} {P o m:Addr} {u:Int} {d:Addr×Addr} {ou mu:Int} {f:Str} (h1:¬f= "more_units") (h2:¬f= "opening_units"):(Aq x P o m u d ou mu).lookup f=(kC x P o m u d).lookup f:=by
 unfold Aq
 rw[ay,if_neg h1,ay,if_neg h2]
theorem zo{x:Str}{P o m:Addr}{u:Int}{d:Addr×Addr}{ou mu:Int}:(Aq x P o m u d ou mu).lookup ("signs" :Str)=some (.str x):=(zp (by decide +kernel) (by decide +kernel)).trans OI
theorem qT{x:Str}{P o m:Addr}{u:Int}{d:Addr×Addr}{ou mu:Int}:(Aq x P o m u d ou mu).lookup ("factors" :Str)=some (.ref d.2):=(zp (by decide +kernel) (by decide +kernel)).trans Ao
theorem QA{x:Str}{P o m:Addr}{u:Int}{d:Addr×Addr}{ou mu:Int}:(Aq x P o m u d ou mu).lookup ("costs" :Str)=some (.ref d.1):=(zp (by decide +kernel) (by decide +kernel)).trans OJ
theorem tZ {x:Str} {P o m:Addr} {u:Int} {d:Addr×Addr} {v:V} {f:Str} (h2:¬f= "opening_units"):(aL "opening_units" v (kC x P o m u d)).lookup f=(kC x P o m u d).lookup f:=by
 rw[ay,if_neg h2]
theorem xX{x:Str}{P o m:Addr}{u:Int}{d:Addr×Addr}{ou mu:Int}:(Aq x P o m u d ou mu).lookup ("more_units" :Str)=some (.int mu):=by
 unfold Aq
 rw[ay,if_pos rfl]
theorem U8{x:Str}{P o m:Addr}:(aL "more" (.ref m) (aL "opening" (.ref o) (aL "pairs" (.ref P) (aL "signs" (.str x) []))):List (Str×V)).lookup ("pairs" :Str)=some (.ref P):=by
 rw[ay,if_neg (by decide +kernel),ay,if_neg (by decide +kernel),ay,if_pos rfl]
theorem Ql{x:Str}{P o m:Addr}:(aL "more" (.ref m) (aL "opening" (.ref o) (aL "pairs" (.ref P) (aL "signs" (.str x) []))):List (Str×V)).lookup ("opening" :Str)=some (.ref o):=by
 rw[ay,if_neg (by decide +kernel),ay,if_pos rfl]
theorem W0{x:Str}{P o m:Addr}:(aL "more" (.ref m) (aL "opening" (.ref o) (aL "pairs" (.ref P) (aL "signs" (.str x) []))):List (Str×V)).lookup ("more" :Str)=some (.ref m):=by
 rw[ay,if_pos rfl]
theorem Qm{x:Str}{P o m fl:Addr}:(aL "factors" (.ref fl) (aL "more" (.ref m) (aL "opening" (.ref o) (aL "pairs" (.ref P) (aL "signs" (.str x) [])))):List (Str×V)).lookup ("factors" :Str)=some (.ref fl):=by
 rw[ay,if_pos rfl]
theorem U7{x:Str}{P o m fl:Addr}{u:Int}:(aL "unit" (.int u) (aL "factors" (.ref fl) (aL "more" (.ref m) (aL "opening" (.ref o) (aL "pairs" (.ref P) (aL "signs" (.str x) []))))):List (Str×V)).lookup ("signs" :Str)=some (.str x):=by
 rw[ay,if_neg (by decide +kernel),ay,if_neg (by decide +kernel),ay,if_neg (by decide +kernel),ay,if_neg (by decide +kernel),ay,if_neg (by decide +kernel),ay,if_pos rfl]
theorem SD{x:Str}{P o m fl:Addr}{u:Int}:(aL "unit" (.int u) (aL "factors" (.ref fl) (aL "more" (.ref m) (aL "opening" (.ref o) (aL "pairs" (.ref P) (aL "signs" (.str x) []))))):List (Str×V)).lookup ("pairs" :Str)=some (.ref P):=by
 rw[ay,if_neg (by decide +kernel),ay,if_neg (by decide +kernel),ay,if_neg (by decide +kernel),ay,if_neg (by decide +kernel),ay,if_pos rfl]
theorem WZ{x:Str}{P o m fl:Addr}{u:Int}:(aL "unit" (.int u) (aL "factors" (.ref fl) (aL "more" (.ref m) (aL "opening" (.ref o) (aL "pairs" (.ref P) (aL "signs" (.str x) []))))):List (Str×V)).lookup ("unit" :Str)=some (.int u):=by
 rw[ay,if_pos rfl]
theorem aE{f:Str}{v:V}{fs:List (Str×V)}{n:Nat}(h:fs.length<=n):(aL f v fs).length<=n+1:=by
 have:=se f v fs
 omega
structure jk(K:PySem.W.Frag)(C:Addr)(H:Hp)(x:Addr)(sg:Str)(rows:List (List bY))(fo fm:bY):Prop where
 sig:OZ sg
 Fg:XC sg.cps.size rows
 ok:∀r∈rows,∀f∈r,Ct (aY fo.2 fm.2 rows) f
 WT:Ct (aY fo.2 fm.2 rows) fo
 WU:Ct (aY fo.2 fm.2 rows) fm
 pos:0<aY fo.2 fm.2 rows
 big:Bu (aY fo.2 fm.2 rows)
 ob:∃dx P o m,∃d:Addr×Addr,∃kvs,H x=some (.ins C dx (Aq sg P o m (aY fo.2 fm.2 rows) d (fo.1*(aY fo.2 fm.2 rows / fo.2)) (fm.1*(aY fo.2 fm.2 rows / fm.2))))/\HC K H P rows/\mD K H o fo/\mD K H m fm/\H d.1=some (.dT kvs)/\QZ kvs sg rows (aY fo.2 fm.2 rows) ∧
  ∃fs:List Int,(∀f∈fs,p8 f)/\xh fs=aY fo.2 fm.2 rows/\H d.2=some (.lst (fs.map V.int))
theorem jk.same{K:PySem.W.Frag}{C:Addr}{H H':Hp}{x:Addr}{sg:Str}{rows:List (List bY)}{fo fm:bY}(e:ai H H')(h:jk K C H x sg rows fo fm):jk K C H' x sg rows fo fm:=by
 obtain⟨a,b,c,d,f,g,i,dx,P,o,m,dd,kvs,h1,h2,h3,h4,h5,h6,fs,h7,h8,h9⟩:=h
 exact⟨a,b,c,d,f,g,i,dx,P,o,m,dd,kvs,e _ _ h1,h2.dat (Dat.of e),h3.same e,h4.same e,e _ _ h5,h6,fs,h7,h8,e _ _ h9⟩
noncomputable def V7(H:Hp)(x c:Addr):Prop:=∀C dx fs,H x=some (.ins C dx fs)->fs.lookup ("factors" :Str)≠some (.ref c)
noncomputable def Cs(f:bY):Prop:=Pb f/\Sm f.1
noncomputable def Al(rows:List (List bY)):List (List bY):=rows.map λr=>r.map nF
noncomputable def Up(K:PySem.W.Frag)(C:Addr):Sp:=λvs H Q _=>∃(x dx o m:Addr) (sg:Str) (c:Cp) (rows:List (List bY)) (fo fm:bY),vs=[.ref x,.str sg,c.val,.ref o,.ref m]/\H x=some (.ins C dx [])/\OZ sg/\sg.cps.size<=12 ∧
 Tp K H c rows/\XC sg.cps.size rows/\(∀r∈rows,∀f∈r,Cs f)/\mD K H o fo/\Cs fo/\mD K H m fm/\Cs fm ∧
 ∀H',jk K C H' x sg (Al rows) (nF fo) (nF fm)->(∀b u,H b=some u->b≠x->H' b=some u)->(∀c,H c≠none->V7 H' x c)->Q .ko H'
noncomputable def ug(K:PySem.W.Frag)(C:Addr):Sp:=λvs H Q _=>∃(x:Addr) (sg:Str) (rows:List (List bY)) (fo fm:bY) (i j a b:Nat) (f:bY),vs=[.ref x,.str ⟨#[a]⟩,.str ⟨#[b]⟩]/\jk K C H x sg rows fo fm ∧
 sg.cps[i]? =some a/\sg.cps[j]? =some b/\CG rows i j f/\∀H',ai H H'->Q (.int (f.1*(aY fo.2 fm.2 rows / f.2))) H'
noncomputable def Gk(K:PySem.W.Frag)(C:Addr):Sp:=λvs H Q _=>∃(x:Addr) (sg:Str) (rows:List (List bY)) (fo fm:bY),vs=[.ref x]/\jk K C H x sg rows fo fm/\Q (.int (fm.1*(aY fo.2 fm.2 rows / fm.2))) H
end GP
namespace GP
open PySem L2 oH
theorem qR{α β:Type}{l:List α}{g:α->β}{i:Nat}{y:β}(h:(l.map g)[i]? =some y):∃x,l[i]? =some x/\y=g x:=by
 rw[List.getElem?_map]at h
 cases e:l[i]? with
 |none=>rw[e]at h;cases h
 |some x=>rw[e]at h;exact⟨x,rfl,(Option.some.inj h).symm⟩
noncomputable def mZ(kvs:List (List Key×V))(x:Str)(rows:List (List bY))(u:Int)(n m:Nat):Prop :=
 ∀i j a b f,(i<n\/(i=n/\j<m))->x.cps[i]? =some a->x.cps[j]? =some b->CG rows i j f->jl kvs (keyOf a b)=some (.int (f.1*(u / f.2)))
theorem mZ.nil(x:Str)(rows:List (List bY))(u:Int):mZ [] x rows u 0 0:=λi j a b f h=>by omega
theorem SK{a b c d:Nat}(h:keyOf a b=keyOf c d):a=c/\b=d:=by
 unfold keyOf at h
 have h1:=(List.cons.inj h).1
 have h2:=(List.cons.inj (List.cons.inj h).2).1
 have e1:(⟨#[a]⟩:Str)=⟨#[c]⟩:=Sum.inr.inj h1
 have e2:(⟨#[b]⟩:Str)=⟨#[d]⟩:=Sum.inr.inj h2
 have z1: #[a]= #[c]:=congrArg Str.cps e1
 have z2: #[b]= #[d]:=congrArg Str.cps e2
 exact⟨by simpa using z1,by simpa using z2⟩
theorem mZ.put{kvs:List (List Key×V)}{x:Str}{rows:List (List bY)}{u:Int}{n m a b:Nat}{f:bY}(nd:x.cps.toList.Nodup)(h:mZ kvs x rows u n m)(ha:x.cps[n]? =some a)(hb:x.cps[m]? =some b)(hf:CG rows n m f):
  mZ (putK kvs (keyOf a b) (.int (f.1*(u / f.2)))) x rows u n (m+1):=by
 intro i j c d g hij hc hd hg
 rw[uS]
 by_cases e:i=n/\j=m
 ·obtain⟨rfl,rfl⟩:=e
  rw[ha]at hc
  rw[hb]at hd
  cases hc
  cases hd
  obtain⟨r,r1,r2⟩:=hf
  obtain⟨r',r3,r4⟩:=hg
  rw[r1]at r3
  cases r3
  rw[r2]at r4
  cases r4
  rw[if_pos rfl]
 ·have hne:¬keyOf c d=keyOf a b:=λz=>by
   obtain⟨z1,z2⟩:=SK z
   subst z1 z2
   refine e ⟨?_,?_⟩
   ·exact Decidable.byContradiction λq=>rK nd hc ha q rfl
   ·exact Decidable.byContradiction λq=>rK nd hd hb q rfl
  rw[if_neg hne]
  exact h i j c d g (by omega) hc hd hg
theorem mZ.row{kvs:List (List Key×V)}{x:Str}{rows:List (List bY)}{u:Int}{n m:Nat}(hm:x.cps.size<=m)(h:mZ kvs x rows u n m):mZ kvs x rows u (n+1) 0:=by
 intro i j a b f hij ha hb hf
 refine h i j a b f ?_ ha hb hf
 have:j<x.cps.size:=by
  rw[←Array.getElem?_toList]at hb
  have:=(List.getElem?_eq_some_iff.mp hb).1
  simpa using this
 omega
theorem mZ.all{kvs:List (List Key×V)}{x:Str}{rows:List (List bY)}{u:Int}{n:Nat}(hn:x.cps.size<=n)(h:mZ kvs x rows u n 0):QZ kvs x rows u:=by
 intro i j a b f ha hb hf
 refine h i j a b f (.inl ?_) ha hb hf
 have:i<x.cps.size:=by
  rw[←Array.getElem?_toList]at ha
  have:=(List.getElem?_eq_some_iff.mp ha).1
  simpa using this
 omega
theorem Va{a b:Int}(ha:0<a)(hb:0<b):0<lm a b:=by
 have h:=sY a hb
 have:=Int.ediv_pos_of_pos_of_dvd ha (Int.le_of_lt h) (Int.gcd_dvd_left a b)
 exact Int.mul_pos this hb
theorem uF(a g:Int):(a / g).natAbs<=a.natAbs:=Int.natAbs_ediv_le_natAbs a g
theorem Vb(a b:Int):(lm a b).natAbs<=a.natAbs*b.natAbs:=by
 unfold lm
 rw[Int.natAbs_mul]
 exact Nat.mul_le_mul_right _ (uF a _)
theorem OG:∀(l:List Int) {u:Int},0<u->(∀b∈l,0<b)->0<l.foldl lm u
 |[],_,h,_=>h
 |b::l,_,h,hb=>OG l (Va h (hb b List.mem_cons_self)) λc hc=>hb c (List.mem_cons_of_mem _ hc)
theorem OH{B:Nat}:∀(l:List Int) {u:Int},(∀b∈l,b.natAbs<=B)->(l.foldl lm u).natAbs<=u.natAbs*B ^ l.length
 |[],_,_=>by simp
 |b::l,u,h=>by
  have h1:=OH (B:=B) l (u:=lm u b) λc hc=>h c (List.mem_cons_of_mem _ hc)
  have h2:=Vb u b
  have h3:=h b List.mem_cons_self
  show(l.foldl lm (lm u b)).natAbs<=_
  refine Nat.le_trans h1 ?_
  rw[List.length_cons,Nat.pow_succ,Nat.mul_comm (B ^ l.length) B,←Nat.mul_assoc]
  exact Nat.mul_le_mul_right _ (Nat.le_trans h2 (Nat.mul_le_mul_left _ h3))
theorem zu{n:Nat}:∀{rows:List (List bY)},(∀r∈rows,r.length=n)->rows.flatten.length=rows.length*n
 |[],_=>by simp
 |r::rows,h=>by
  rw[List.flatten_cons,List.length_append,h r List.mem_cons_self,zu λr' hr=>h r' (List.mem_cons_of_mem _ hr),List.length_cons,Nat.succ_mul,Nat.add_comm]
theorem Pb.abs{f:bY}(h:Pb f):f.2.natAbs<=2 ^ 30:=by
 obtain⟨h1,h2⟩:=h
 have:(2:Nat) ^ 30=1073741824:=by decide
 omega
theorem T3{rows:List (List bY)}{fo fm:bY}(ho:Pb fo)(hm:Pb fm)(h:∀r∈rows,∀f∈r,Pb f):0<aY fo.2 fm.2 rows:=by
 refine OG _ (Va (by have:=ho.1;omega) (by have:=hm.1;omega)) λb hb=>?_
 obtain⟨f,hf,rfl⟩:=List.mem_map.mp hb
 obtain⟨r,hr,hfr⟩:=List.mem_flatten.mp hf
 have:=(h r hr f hfr).1
 omega
theorem T4{n:Nat}{rows:List (List bY)}{fo fm:bY}(hn:n<=12)(hs:XC n rows)(ho:Pb fo)(hm:Pb fm)(h:∀r∈rows,∀f∈r,Pb f):Bu (aY fo.2 fm.2 rows):=by
 have h1:(aY fo.2 fm.2 rows).natAbs<=(lm fo.2 fm.2).natAbs*(2 ^ 30) ^ (rows.flatten.map (·.2)).length:=by
  refine OH _ λb hb=>?_
  obtain⟨f,hf,rfl⟩:=List.mem_map.mp hb
  obtain⟨r,hr,hfr⟩:=List.mem_flatten.mp hf
  exact(h r hr f hfr).abs
 have h2:(lm fo.2 fm.2).natAbs<=2 ^ 30*2 ^ 30:=Nat.le_trans (Vb _ _) (Nat.mul_le_mul ho.abs hm.abs)
 have h3:(rows.flatten.map (·.2)).length<=144:=by
  rw[List.length_map,zu hs.2,hs.1]
  exact Nat.le_trans (Nat.mul_le_mul hn hn) (by decide)
 have h4:(2 ^ 30:Nat) ^ (rows.flatten.map (·.2)).length<=(2 ^ 30) ^ 144:=Nat.pow_le_pow_right (by decide) h3
 have h5:(2 ^ 30:Nat)*2 ^ 30*(2 ^ 30) ^ 144<=2 ^ 4380:=by
  rw[←Nat.pow_mul,←Nat.pow_add,←Nat.pow_add]
  exact Nat.pow_le_pow_right (by decide) (by decide)
 exact Nat.le_trans h1 (Nat.le_trans (Nat.mul_le_mul h2 h4) h5)
theorem r9{f:bY}(h:Pb f):Pb (nF f):=by
 obtain⟨h1,h2⟩:=h
 have h0:0<f.2:=by omega
 have p:=aaj f.1 h0
 have l:=lo_le f.1 h0
 exact⟨by show 1<=(lo f.1 f.2).2;omega,by show(lo f.1 f.2).2<_;omega⟩
theorem W3{f:bY}(h:Sm f.1):Sm (nF f).1:=Nat.lt_of_le_of_lt (uF _ _) h
theorem Bu.div{u:Int}(h:Bu u)(g:Int):Bu (u / g):=Nat.le_trans (uF _ _) h
theorem W2{n:Nat}{rows:List (List bY)}(h:XC n rows):XC n (Al rows):=by
 refine⟨by unfold Al;rw[List.length_map];exact h.1,λr hr=>?_⟩
 obtain⟨r',h',rfl⟩:=List.mem_map.mp hr
 rw[List.length_map]
 exact h.2 r' h'
theorem G2{p:bY->Prop}{rows:List (List bY)}(h:∀r∈rows,∀f∈r,p (nF f)):∀r∈Al rows,∀f∈r,p f:=by
 intro r hr f hf
 obtain⟨r',h',rfl⟩:=List.mem_map.mp hr
 obtain⟨f',hf',rfl⟩:=List.mem_map.mp hf
 exact h r' h' f' hf'
end GP
namespace GP
open PySem L2 oH
theorem iR.off{K:PySem.W.Frag}{H:Hp}{l a:Addr}{ys xs:List V}{o:HO}(hl:H l=some (.lst ys))(h:iR K H a xs):iR K (L2.upd H l o) a xs:=by
 rcases h with(h|⟨u,h⟩)|h
 ·exact .inl (.inl (by rw[aA (pL h hl (by intro z;cases z))];exact h))
 ·exact .inl (.inr ⟨u,by rw[aA (pL h hl (by intro z;cases z))];exact h⟩)
 ·exact .inr h
theorem nP.off{K:PySem.W.Frag}{H:Hp}{l q:Addr}{ys:List V}{fs:List bY}{o:HO}(hl:H l=some (.lst ys))(h:nP K H (.tup q) fs):nP K (L2.upd H l o) (.tup q) fs:=by
 obtain⟨ps,a,b⟩:=h
 exact⟨ps,iR.off hl a,Paired.qm b λ_ _ z=>iR.off hl z⟩
noncomputable def Off(x:Addr)(H H':Hp):Prop:=∀b u,H b=some u->b≠x->H' b=some u
theorem Off.of{x:Addr}{H H':Hp}(e:ai H H'):Off x H H':=λb u h _=>e b u h
theorem Off.trans{x:Addr}{H H' Pw:Hp}(e:Off x H H')(f:Off x H' Pw):Off x H Pw:=λb u h n=>f b u (e b u h n) n
theorem Off.set{x:Addr}{H:Hp}{o:HO}:Off x H (L2.upd H x o):=λb u h n=>by rw[aA n];exact h
theorem Off.dat{x C dx:Addr}{fs:List (Str×V)}{H H':Hp}(hx:H x=some (.ins C dx fs))(e:Off x H H'):Dat H H':=λb u n h=>e b u h λz=>by
 subst z
 rw[hx]at h
 cases h
 exact n _ _ _ rfl
theorem IS{a:Str}{x:V}:(aL a x []).length<1000:=Nat.lt_of_le_of_lt (aE (Nat.le_refl 0)) (by decide)
theorem LD{a b:Str}{x y:V}:(aL a x (aL b y [])).length<1000:=Nat.lt_of_le_of_lt (aE (aE (Nat.le_refl 0))) (by decide)
theorem LC{a b c:Str}{x y z:V}:(aL a x (aL b y (aL c z []))).length<1000:=Nat.lt_of_le_of_lt (aE (aE (aE (Nat.le_refl 0)))) (by decide)
theorem LA{a b c d:Str}{x y z w:V}:(aL a x (aL b y (aL c z (aL d w [])))).length<1000:=Nat.lt_of_le_of_lt (aE (aE (aE (aE (Nat.le_refl 0))))) (by decide)
theorem Lz{a b c d e:Str}{x y z w v:V}:(aL a x (aL b y (aL c z (aL d w (aL e v []))))).length<1000:=Nat.lt_of_le_of_lt (aE (aE (aE (aE (aE (Nat.le_refl 0)))))) (by decide)
theorem Ly{a b c d e g:Str}{x y z w v t:V}:(aL a x (aL b y (aL c z (aL d w (aL e v (aL g t [])))))).length<1000:=Nat.lt_of_le_of_lt (aE (aE (aE (aE (aE (aE (Nat.le_refl 0))))))) (by decide)
theorem Lx{x:Str}{P o m:Addr}{u:Int}{d:Addr×Addr}:(kC x P o m u d).length<1000:=Nat.lt_of_le_of_lt (aE (aE (aE (aE (aE (aE (aE (Nat.le_refl 0)))))))) (by decide)
theorem Lw{x:Str}{P o m:Addr}{u:Int}{d:Addr×Addr}{a:Str}{v:V}:(aL a v (kC x P o m u d)).length<1000:=Nat.lt_of_le_of_lt (aE (aE (aE (aE (aE (aE (aE (aE (Nat.le_refl 0))))))))) (by decide)
end GP
namespace GP
open PySem L2 oH
end GP
namespace L2
open PySem PySem.Spec PyProof.Rows
noncomputable def jx(scope:Scope)(X:Cx):Bool:=scope.names.all λy=>(y.2 != NameKind.free)||(X.env.scope.names.lookup y.1==some NameKind.cell)
noncomputable def LS(scope:Scope)(X:Cx)(N:List Str)(nt:Nat)(ix:List Nat):Bool:=(List.range ix.length).all λk=>match N[nt+k]?,ix[k]? with
 |some x,some j=>(X.N[j]? ==some x)&&(scope.names.contains (x,NameKind.free))&&((relabel scope X.env).names.lookup x==some NameKind.cell)
 |_,_=>false
theorem bI.jx{X:Cx}{scope:Scope}{N:List Str}{nt:Nat}{ix:List Nat}(kind:scope.kind= .function)(cell:∀y∈scope.names,y.2= .cell->(y.1,NameKind.free)∉scope.names)
  (names:∀y∈scope.names,y.2= .local->scope.names.lookup y.1=some .local) (hf:L2.jx scope X=true) (hl:N.length=nt+ix.length) (hx:LS scope X N nt ix=true) (ok:X.Ok) :
  ∃cl,bI X scope cl N (CS nt ix):=by
 refine bI.free kind cell names (λy hy hk=>?_) hl (λk j hj=>?_) ok
 ·have z:=List.all_eq_true.mp hf y hy
  rw[hk]at z
  have z2:X.env.scope.names.lookup y.1=some NameKind.cell:=by simpa using z
  exact z2
 ·have hk:k<ix.length:=(List.getElem?_eq_some_iff.mp hj).1
  have z:=List.all_eq_true.mp hx k (List.mem_range.mpr hk)
  have hn:nt+k<N.length:=by omega
  rw[List.getElem?_eq_getElem hn,hj]at z
  simp only[Bool.and_eq_true]at z
  obtain⟨⟨z1,z2⟩,z3⟩:=z
  exact⟨_,List.getElem?_eq_getElem hn,by simpa using z1,by simpa using z2,by simpa using z3⟩
theorem Kp.mG{r:St}{v:Option V}:Kp (none::r) ((none::r).set 0 v):=λi x e=>by
 cases i with
 |zero=>cases e
 |succ i=>exact e
theorem Hw{X:Cx}:mF X (.builtin "isinstance") (λxs H Q=>∃x n t b,xs=[x,.ty n]/\(wL X.K H x t\/∃a ys,x= .ref a/\iR X.K H a ys/\t= .type "tuple")/\PySem.W.kitOne X.K t (.type n)=some b/\Q (.bl b) H):=by
 intro pins s σ H xs us Q I r h
 obtain⟨x,n,t,b,rfl,ty,e,q⟩:=h
 obtain⟨u,w',rfl,rx,rn⟩:=vals2 r
 cases rn
 rcases ty with ty|⟨a,ys,rfl,hs,rfl⟩
 ·exact TK.cZ (Nat.le_refl s.toks) (SQ I rx ty e λtk hup=>⟨.bl b,H,I.tok _,rfl,q⟩)
 ·cases (show u=Value.ref a from rx)
  obtain⟨its,_,⟨o,h1,h2,_⟩,_⟩:=I.tuple hs
  exact TK.cZ (Nat.le_refl s.toks) (PySem.W.kia_one PySem.W.kitx_tuple I.rq ⟨o,h1,h2⟩ e (λz=>nomatch z) λtk hup=>⟨.bl b,H,I.tok _,rfl,q⟩)
end L2
namespace GP
open PySem L2 oH
noncomputable def Wo(t:Addr)(H:Hp):Hp:=λb=>if b=t then none else H b
theorem Wo.sub{t:Addr}{H:Hp}:ai (Wo t H) H:=λb u h=>by
 unfold Wo at h
 by_cases e:b=t
 ·rw[if_pos e]at h;cases h
 ·rw[if_neg e]at h;exact h
theorem Wo.ne{t:Addr}{H:Hp}{b:Addr}{u:HO}(h:Wo t H b=some u):b≠t:=λe=>by
 unfold Wo at h
 rw[if_pos e]at h;cases h
theorem Wo.in{t:Addr}{H:Hp}{b:Addr}{u:HO}(n:b≠t)(h:H b=some u):Wo t H b=some u:=by
 unfold Wo
 rw[if_neg n];exact h
theorem Wo.free{t:Addr}{H:Hp}{b:Addr}(h:H b=none):Wo t H b=none:=by
 unfold Wo
 split
 ·rfl
 ·exact h
theorem Wo.set{t:Addr}{H:Hp}{o:HO}:Wo t (L2.upd H t o)=Wo t H:=by
 funext b
 unfold Wo
 by_cases e:b=t
 ·rw[if_pos e,if_pos e]
 ·rw[if_neg e,if_neg e,aA e]
theorem Wo.same{t:Addr}{H H':Hp}(e:ai H H'):ai (Wo t H) (Wo t H'):=λb u h=>Wo.in (Wo.ne h) (e b u (Wo.sub b u h))
theorem Wo.upd{t:Addr}{H:Hp}{o:HO}:ai (Wo t H) (L2.upd H t o):=λb u h=>by rw[aA (Wo.ne h)];exact Wo.sub b u h
theorem TY{H:Hp}{t r:Addr}{o:HO}(h:L2.upd H t o r=none):H r=none:=by
 by_cases e:r=t
 ·rw[e,ah]at h;cases h
 ·rw[aA e]at h;exact h
structure uO(K:PySem.W.Frag)(H:Hp)(s t:Addr)(ns:List Int)(k:Int):Prop where
 sq:bf K (Wo t H) s (ns.map V.int)
 len:ns.length<=63
 at_:H t=some (.lst [.int k])
 k0:0<=k
theorem uO.IJ{K:PySem.W.Frag}{H:Hp}{s t:Addr}{ns:List Int}{k:Int}(c:uO K H s t ns k):bf K H s (ns.map V.int):=ai.seq Wo.sub c.sq
theorem uO.K3{K:PySem.W.Frag}{H:Hp}{s t:Addr}{ns:List Int}{k:Int}(c:uO K H s t ns k)(o:HO):bf K (L2.upd H t o) s (ns.map V.int):=ai.seq Wo.upd c.sq
theorem uO.same{K:PySem.W.Frag}{H H':Hp}{s t:Addr}{ns:List Int}{k:Int}(c:uO K H s t ns k)(e:ai H H'):uO K H' s t ns k:=⟨ai.seq (Wo.same e) c.sq,c.len,e _ _ c.at_,c.k0⟩
theorem uO.off{K:PySem.W.Frag}{H H':Hp}{s t:Addr}{ns:List Int}{k k':Int}(c:uO K H s t ns k)(e:ai (Wo t H) (Wo t H'))(h:H' t=some (.lst [.int k']))(h0:0<=k'):uO K H' s t ns k':=⟨ai.seq e c.sq,c.len,h,h0⟩
theorem OW{c:Int}(h1: -(10 ^ 40)<=c)(h2:c<=10 ^ 40):Sm c:=by
 have h:c.natAbs<=10 ^ 40:=by omega
 have h3:(10:Nat) ^ 40<2 ^ 200:=by decide
 exact Nat.lt_of_le_of_lt h h3
noncomputable def BS(f:bY):Prop:=1<=f.2/\f.2<=999/\Sm f.1
theorem BS.h{f:bY}(h:BS f):Cs f:=⟨⟨h.1,by have:=h.2.1;omega⟩,h.2.2⟩
noncomputable def uh(K:PySem.W.Frag):Sp:=λvs H Q _=>∃(s t:Addr) (ns:List Int) (k:Int),vs=[.ref s,.ref t]/\uO K H s t ns k/\k<=100000 ∧
 ∀m:Int,0<=m->m<1999999973->Q (.int m) (L2.upd H t (.lst [.int (k+1)]))
noncomputable def Ut(K:PySem.W.Frag):Sp:=λvs H Q _=>∃(s t:Addr) (ns:List Int) (k:Int),vs=[.ref s,.ref t]/\uO K H s t ns k/\k<=100000 ∧
 ∀(f:bY) (q:Addr) (H':Hp),BS f->ai (L2.upd H t (.lst [.int (k+1)])) H'->H q=none->H' q=some (.tup [.int f.1,.int f.2])->Q (.ref q) H'
structure vI(K:PySem.W.Frag)(H:Hp)(l:Addr)(rs:List Addr)(rows:List (List bY)):Prop where
 len:rs.length=rows.length
 at_:H l=some (.lst (rs.map V.ref))
 nd:rs.Nodup
 nl:l∉rs
 row:∀(i:Nat) r row,rs[i]? =some r->rows[i]? =some row->∃ps:List Addr,H r=some (.lst (ps.map V.ref))/\Paired (mD K H) ps row
theorem vI.same{K:PySem.W.Frag}{H H':Hp}{l:Addr}{rs:List Addr}{rows:List (List bY)}(e:ai H H')(h:vI K H l rs rows):vI K H' l rs rows :=
 ⟨h.len,e _ _ h.at_,h.nd,h.nl,λi r row h1 h2=>by
  obtain⟨ps,a,b⟩:=h.row i r row h1 h2
  exact⟨ps,e _ _ a,Paired.qm b λ_ _ z=>z.same e⟩⟩
theorem A3{α β:Type}{F:α->β->Prop}:∀{l₁:List α} {l₂:List β},l₁.length=l₂.length->(∀(i:Nat) x y,l₁[i]? =some x->l₂[i]? =some y->F x y)->Paired F l₁ l₂
 |[],[],_,_=>.nil
 |x::l₁,y::l₂,hl,h=>.cons (h 0 x y rfl rfl) (A3 (by simpa using hl) λi a b h1 h2=>h (i+1) a b h1 h2)
theorem vI.agB{K:PySem.W.Frag}{H:Hp}{l:Addr}{rs:List Addr}{rows:List (List bY)}(h:vI K H l rs rows):Tp K H (.lst l) rows:=by
 refine⟨λx z=>(by cases z),rs.map Cp.lst,λd hd x z=>?_,?_,?_⟩
 ·obtain⟨q,_,e⟩:=List.mem_map.mp hd
  rw[←e]at z
  cases z
 ·rw[List.map_map]
  exact bf.of h.at_
 ·refine uw (A3 h.len λi r row h1 h2=>?_)
  obtain⟨ps,a,b⟩:=h.row i r row h1 h2
  exact⟨ps,bf.of a,b⟩
noncomputable def Q8(K:PySem.W.Frag):Sp:=λvs H Q _=>∃(a:Addr) (ns:List Int),vs=[.ref a]/\bf K H a (ns.map V.int)/\ns.length<=63/\∀H',Q (.bl true) H'
end GP
namespace L2
open PySem PySem.Spec PyProof.Rows
set_option maxHeartbeats 2000000 in
theorem Bh{X:Cx}{elt tg iter:Expr}{scope:Scope}{pos pos':Pos}{wi:TI}{g:TG}{te:TE}{N:List Str}{p9:St->St}(hc:X.calm=true)(hS:X.Ok->∃cl,bI X scope cl N p9)(hi:PI X tg iter wi)
  (hg:∀cl C s H ex pn E,PG (kT X scope cl C N s H ex pn E) tg g) (he:∀cl C s H ex pn E,PE (kT X scope cl C N s H ex pn E) elt te) (hs:∀x,foldedSetIterable iter X.env x=pure x)
  {pins:List (Addr×Obj)} {s:Shared} {σ:St} {H:Hp} {Q:VK} {use:Option (Value->Sem Unit)} {QQ:Value->Shared->Prop} (I:Inv X pins σ H s) (h:Uh wi g te p9 σ H Q)
  (Ie:∀(l C:Addr) (mC:Str->Option Value) (H':Hp) (s':Shared),Inv X pins σ H' s'->rC X pins H' C->s'.heap.Ns C mC->Q (.ref l) H'->compPost (model X.prog X.w) X.A X.xe use QQ (.ref l) C (.ok .next) s') :
  wpAny (model X.prog X.w) X.A (comprehension (.ListComp elt [⟨tg,iter,[],0⟩] scope pos) scope X.env pos' (newList []) false (eval iter X.env) use) QQ X.xe s:=by
 obtain⟨cl,S⟩:=hS I.ok
 refine wpAny_comprehension_free (use:=use) rfl hs S.clos S.kind S.names (gB (hi pins s σ H _ I h) λv s1 h1=>gB h1 λitv s2 h2=>?_)
 obtain⟨it,fp,tn,J,H2,e,I2,T,st2,f2,hq⟩:=h2
 subst e
 obtain⟨W,⟨m0,w0⟩,turn⟩:=hq _ I2.fresh
 refine wpAny_newObj_type (ON S λHr h₁ G Qv kp=>?_)
 have I3:Inv X pins σ (upd H2 s2.heap.objs.size (.lst [])) { s2 with heap:=s2.heap.push { cls:=.type "list",data:=.seq ([]:List Value).toArray } }:=I2.W4 (t':=s2.toks) .nil (Nat.zero_le _)
 have Ob:∀b o,s2.heap.get? b=some o->(s2.heap.push { cls:=.type "list",data:=.seq ([]:List Value).toArray }).get? b=some o:=λb o e=>Heap.get?_push_of_some _ e
 have f3:∀b∈fp,rC X pins (upd H2 s2.heap.objs.size (.lst [])) b/\b<(s2.heap.push { cls:=.type "list",data:=.seq ([]:List Value).toArray }).objs.size:=λb hb=>by
  obtain⟨o,ho,_⟩:=T.obj _ _ st2 b hb
  have hlt:=Heap.lt_size ho
  obtain⟨f0,f1⟩:=f2 b hb
  exact⟨⟨by rw[aA (Nat.ne_of_lt hlt)];exact f0,f1⟩,Heap.lt_size (Ob b o ho)⟩
 have st3:tn 0 h₁:=T.keep _ _ _ st2 λb _ o e=>kp b o (Ob b o e)
 generalize hR:(λr s'=>compPost (model X.prog X.w) X.A X.xe use QQ (.ref s2.heap.objs.size) (s2.heap.push { cls:=.type "list",data:=.seq ([]:List Value).toArray }).objs.size r s')=R
 generalize tQ:kT X scope Hr (s2.heap.push { cls:=.type "list",data:=.seq ([]:List Value).toArray }).objs.size N { s2 with heap:=s2.heap.push { cls:=.type "list",data:=.seq ([]:List Value).toArray } }
  (upd H2 s2.heap.objs.size (.lst [])) fp (X.pn++pins) (notedBy (model X.prog X.w) X.A (compEnvC scope Hr (s2.heap.push { cls:=.type "list",data:=.seq ([]:List Value).toArray }).objs.size X.env) λe s'=>R (.error e) s')=X'
 have I4:Inv X' [] (p9 σ) (upd H2 s2.heap.objs.size (.lst [])) { s2 with heap:=h₁ }:=by
  subst tQ
  exact Ow (s:={ s2 with heap:=s2.heap.push { cls:=.type "list",data:=.seq ([]:List Value).toArray } }) S G I3 f3 kp Qv s2.toks
 have Iu:PG X' tg g:=by subst tQ;exact hg _ _ _ _ _ _ _
 have Iv:PE X' elt te:=by subst tQ;exact he _ _ _ _ _ _ _
 have stat:∀{H':Hp},(∀b∈fp,H' b=none)->∀b∈fp,rC X' [] H' b:=λhn b hb=>by
  subst tQ
  obtain⟨⟨_,f1,fn,_,f4,f5⟩,lt⟩:=f3 b hb
  refine⟨hn b hb,Nat.ne_of_lt lt,λz=>?_,.inl hb,λx c e=>(G.look x c e).elim (λz=>Nat.ne_of_gt (Nat.lt_trans lt z.1)) λz=>f4 x c (S.sub x c z),λp hp=>f5 p ?_⟩
  ·rcases List.mem_cons.mp (I3.ue b z)with q|q
   ·exact f1 q
   ·exact fn q
  ·rcases List.mem_append.mp hp with z|z
   ·exact z
   ·cases z
 have hp1:X'.prog=X.prog:=by subst tQ;rfl
 have hp2:X'.w=X.w:=by subst tQ;rfl
 have hp3:X'.K=X.K:=by subst tQ;rfl
 have Cg:X'.calm=true:=by subst tQ;exact hc
 have Tw:X'.A=X.A:=by subst tQ;rfl
 have Bv:X'.env=compEnvC scope Hr (s2.heap.push { cls:=.type "list",data:=.seq ([]:List Value).toArray }).objs.size X.env:=by subst tQ;rfl
 have Yb:X'.xe=notedBy (model X.prog X.w) X.A X'.env λe s'=>R (.error e) s':=by subst tQ;rfl
 have fin:∀{H':Hp} {s':Shared},Inv X' [] (p9 σ) H' s'->Q (.ref s2.heap.objs.size) H'->R (.ok .next) s':=by
  intro H' s' I5 q
  subst hR
  obtain⟨mC,Cj,_⟩:=I5.loc
  rw[Bv]at Cj
  have hok:qc X.prog X.w H' s'.heap:=by
   have z:=I5.hok
   rw[hp1,hp2]at z
   exact z
  have u:Un (frs X.stack) fp (upd H2 s2.heap.objs.size (.lst [])) H' (s2.heap.push { cls:=.type "list",data:=.seq ([]:List Value).toArray }) s'.heap:=by
   have z:=I5.base
   subst tQ
   exact z
  have hC:H' (s2.heap.push { cls:=.type "list",data:=.seq ([]:List Value).toArray }).objs.size=none:=by
   have zf:=I5.free
   rw[Bv]at zf
   exact zf
  refine Ie _ _ mC H' s' (I3.VZ (ch:=fp) (s':=s') (by have z:=I5.os;subst tQ;exact z) u hok I5.bare (λb hb=>?_) (by have z:=I5.up;subst tQ;exact Nat.le_trans I3.up z)) (I3.xW (Nat.le_refl _) hC) Cj q
  obtain⟨⟨_,f1,_,FT,f4,f5⟩,_⟩:=f3 b hb
  exact⟨FT,f1,f4,f5⟩
 have loop:∀s3:Shared,Inv X' [] (p9 σ) (upd H2 s2.heap.objs.size (.lst [])) s3->tn 0 s3.heap →
   codeAny (model X.prog X.w) X.A (.compLoop (.ListComp elt [⟨tg,iter,[],0⟩] scope pos) 0 (.ref it) (.ref s2.heap.objs.size) X'.env) R s3:=by
  intro s3 J3 t3
  refine codeAny_loop rfl (λn s'=>∃i ys H',Inv X' [] (p9 σ) H' s'/\tn i s'.heap/\(∀b∈fp,H' b=none)/\W i n ys H') ?_ m0 ⟨0,[],_,J3,t3,λb hb=>(f3 b hb).1.1,w0⟩
  rintro n s4 ⟨i,ys,H4,J4,t4,n4,w4⟩
  show wpAny _ _ ((compTurn (.ListComp elt [⟨tg,iter,[],0⟩] scope pos) 0 (.ref it) (.ref s2.heap.objs.size) X'.env).onRaise (λx=>do noteFrame x X'.env;theTreesLotGoes x)) _ _ s4
  refine wpAny_noted ?_
  rw[compTurn_list1]
  refine wpAny_bind (wpAny_standAt (wpAny_bind ?_))
  rcases turn i n ys H4 w4 with⟨stop,q⟩|⟨go,step⟩
  ·have z:=T.done X' hp1 hp2 hp3 Cg i [] s4 (p9 σ) H4 (notedBy (model X.prog X.w) X.A X'.env λe s'=>R (.error e) s') J4 (stat n4) t4 stop
   rw[Tw]at z
   refine wpAny_mono z (λr s5 ⟨hr,J5⟩=>?_) λ_ _ x=>x
   subst hr
   exact wpAny_pure (fin J5 q)
  ·have z:=T.item X' hp1 hp2 hp3 Cg i [] s4 (p9 σ) H4 (notedBy (model X.prog X.w) X.A X'.env λe s'=>R (.error e) s') J4 (stat n4) t4 go
   rw[Tw]at z
   refine wpAny_mono z (λr s5 ⟨u,hr,h5⟩=>?_) λ_ _ x=>x
   subst hr
   refine wpAny_bind (wpAny_mono h5 (λ_ s6 ⟨x,H6,J6,r6,y6,t6,n6⟩=>?_) λ_ _ x=>x)
   have Iz:=J6.pinned (stat n6) (T.obj _ _ t6)
   have zg:=Iu _ s6 (p9 σ) H6 x u _ Iz r6 (step x H6 y6)
   rw[hp1,hp2,Tw,Yb]at zg
   refine wpAny_bind (wpAny_mono zg (λ_ s7 ⟨Ib,H7,J7,k7,q7⟩=>?_) λ_ _ x=>x)
   have ze:=Iv _ s7 Ib H7 _ J7 q7
   rw[hp1,hp2,Tw,Yb]at ze
   refine wpAny_bind (wpAny_bind (wpAny_mono ze (λyv s8 ⟨y,H8,J8,r8,e8,z8,m',hm,w8⟩=>?_) λ_ _ x=>x))
   have za:=jG (X:=X') _ s8 Ib H8 (.ref s2.heap.objs.size) [y] (.ref s2.heap.objs.size) [yv] (λ_ H9=>H9=upd H8 s2.heap.objs.size (.lst (ys++[y]))) J8 rfl (.cons r8 .nil) ⟨_,ys,y,rfl,rfl,e8,z8,rfl⟩
   rw[hp1,hp2,Tw,Yb]at za
   refine wpAny_bind (wpAny_mono za (λ_ s9 ⟨_,H9,J9,_,e9⟩=>?_) λ_ _ x=>x)
   subst e9
   refine wpAny_pure (wpAny_pure ⟨rfl,m',hm,i+1,ys++[y],_,?_,?_,?_,w8⟩)
   ·refine J9.TZ.weak ?_ ?_
    ·rw[S.len,J9.len]
     subst tQ
     rfl
    ·exact k7
   ·exact T.keep _ _ _ t6 λb hb o e=>(J9.pin (b,o) (List.mem_append_right _ (List.mem_append_right _ (jw hb e)))).1
   ·intro b hb
    obtain⟨o,e,d⟩:=T.obj _ _ t6 b hb
    exact(J9.pin (b,o) (List.mem_append_right _ (List.mem_append_right _ (jw hb e)))).2.1
 have l0:=loop _ I4 st3
 have l1:=codeAny_compStart_list l0 (T.self X.A 0 _ _ _ st3 l0)
 rw[Bv]at l1
 subst hR
 exact l1
theorem dw{X:Cx}{elt tg iter:Expr}{scope:Scope}{pos:Pos}{wi:TI}{g:TG}{te:TE}{N:List Str}{p9:St->St}(hc:X.calm=true)(hS:X.Ok->∃cl,bI X scope cl N p9)(hi:PI X tg iter wi)
  (hg:∀cl C s H ex pn E,PG (kT X scope cl C N s H ex pn E) tg g) (he:∀cl C s H ex pn E,PE (kT X scope cl C N s H ex pn E) elt te)
  (hs:∀x,foldedSetIterable iter X.env x=pure x:=by intro _;rfl):PE X (.ListComp elt [⟨tg,iter,[],0⟩] scope pos) (Uh wi g te p9):=by
 intro pins s σ H Q I h
 rw[eval_ListComp]
 refine Bh (use:=none) (QQ:=EP X pins σ Q) hc hS hi hg he hs I h ?_
 intro l C mC H' s' I' fp hn q
 exact⟨mC,hn,λh' sb=>⟨.ref l,H',I'.moved (ch:=[C]) (t':=s'.toks) (λb o hb e=>(sb.2 b (by simpa using hb)).trans e) (λb hb=>by rw[List.mem_singleton.mp hb];exact fp),rfl,q⟩⟩
theorem kQ{X:Cx}{i:Nat}{y:Str}{py spos:Pos}{elt tg iter:Expr}{scope:Scope}{pos:Pos}{wi:TI}{g:TG}{te:TE}{N:List Str}{p9:St->St}(hN:X.N.Nodup)(hi:X.N[i]? =some y)(hx:Loc X.env.scope y)
  (hc:X.calm=true) (hS:X.Ok->∃cl,bI X scope cl N p9) (hit:PI X tg iter wi)
  (hg:∀cl C s H ex pn E,PG (kT X scope cl C N s H ex pn E) tg g) (he:∀cl C s H ex pn E,PE (kT X scope cl C N s H ex pn E) elt te)
  (hsw:swapsWith (.ListComp elt [⟨tg,iter,[],0⟩] scope pos) (some (.Name y py)) spos.line X.env=pure true:=by rfl)
  (hf:X.fn y=true\/X.env.scope.names.lookup y=some .local:=by first|exact .inl rfl|exact .inr rfl|assumption)
  (hs:∀x,foldedSetIterable iter X.env x=pure x:=by intro _;rfl):PS X (.Assign [.Name y py] (.ListComp elt [⟨tg,iter,[],0⟩] scope pos) spos) (ZQ (Uh wi g te p9) (VG i)):=by
 intro pins s σ H D I h
 rw[exec_Assign_Name_used _ _ _ _ hsw]
 refine wpAny_bind (wpAny_standAt (wpAny_bind ?_))
 show wpAny _ X.A (do let _ ←comprehension (.ListComp elt [⟨tg,iter,[],0⟩] scope pos) scope X.env _ (newList []) false (eval iter X.env) (some (assign (.Name y py) X.env))) _ _ s
 refine wpAny_bind (wpAny_mono (Bh (use:=some (assign (.Name y py) X.env)) (QQ:=λ_ s'=>SP X pins D .next s') hc hS hit hg he hs I h ?_) (λ_ s' hq=>wpAny_pure (wpAny_pure hq)) λ_ _ e=>e)
 intro l C mC H' s' I' fp hn q
 show wpAny _ X.A (assign (.Name y py) X.env (.ref l)) _ _ _
 refine wpAny_assign_Name (AV I' hN hi hx (v:=.ref l) rfl (λs2 I2 sb=>?_) hf)
 obtain⟨a,sb,ha⟩:=sb
 have nC:C≠a:=by
  obtain⟨_,f1,_,_,f4,_⟩:=fp
  rcases ha with z|z
  ·rw[z];exact f1
  ·exact λe=>f4 y a z e.symm
 refine⟨mC,hn.sameBut sb nC,λh' Ln=>?_⟩
 refine⟨_,H',I2.moved (ch:=[C]) (t':=s2.toks) (λb o hb e=>(Ln.2 b (by simpa using hb)).trans e) (λb hb=>?_),q⟩
 rw[List.mem_singleton.mp hb]
 exact fp
end L2
namespace L2
open PySem PySem.Spec PyProof.Rows
theorem Xb{X:Cx}{K':PySem.W.Frag}(hK:X.K=K'):V9 X (ZZ K'):=by subst hK;exact gS
theorem qp{X:Cx}{K':PySem.W.Frag}(hK:X.K=K'):V9 X (Z0 K'):=by subst hK;exact bh
end L2
namespace GP
open PySem L2 oH
theorem Wo.aA{t q:Addr}{H:Hp}{o:HO}(n:q≠t):Wo t (L2.upd H q o)=L2.upd (Wo t H) q o:=by
 funext b
 by_cases e:b=q
 ·subst e
  rw[L2.ah]
  unfold Wo
  rw[if_neg n,L2.ah]
 ·rw[L2.aA e]
  unfold Wo
  split
  ·rfl
  ·rw[L2.aA e]
theorem Wo.step{t:Addr}{H H':Hp}{o:HO}(e:ai (L2.upd H t o) H'):ai (Wo t H) (Wo t H'):=by
 have z:=Wo.same (t:=t) e
 rw[Wo.set]at z
 exact z
theorem Wo.back{t r:Addr}{H H':Hp}{o:HO}(e:ai (Wo t H) (Wo t H'))(ht:H' t=some o)(h:H' r=none):H r=none:=by
 cases q:H r with
 |none=>rfl
 |some u =>
  have n:r≠t:=λz=>by rw[z,ht]at h;cases h
  have z:=Wo.sub _ _ (e r u (Wo.in n q))
  rw[h]at z
  cases z
theorem Paired.K5{α β:Type}{F:α->β->Prop}{x:α}{y:β}:∀{l₁:List α} {l₂:List β} (j:Nat),Paired F l₁ l₂->F x y->Paired F (l₁.set j x) (l₂.set j y)
 |_,_,_,.nil,_=>.nil
 |_,_,0,.cons r t,h=>.cons h t
 |_,_,j+1,.cons r t,h=>.cons r (Paired.K5 j t h)
theorem vI.put{K:PySem.W.Frag}{H:Hp}{l r p:Addr}{rs ps:List Addr}{rows:List (List bY)}{row:List bY}{i j:Nat}{f:bY}(h:vI K H l rs rows)(hr:rs[i]? =some r)(Vp:rows[i]? =some row)
  (hps:H r=some (.lst (ps.map V.ref))) (hp:Paired (mD K H) ps row) (hf:mD K H p f):vI K (L2.upd H r (.lst ((ps.map V.ref).set j (.ref p)))) l rs (rows.set i (row.set j f)):=by
 have CZ:l≠r:=λz=>h.nl (z▸List.mem_of_getElem? hr)
 refine⟨by rw[List.length_set];exact h.len,by rw[L2.aA CZ];exact h.at_,h.nd,h.nl,λi' r' ZX h1 h2=>?_⟩
 have hi:i<rows.length:=(List.getElem?_eq_some_iff.mp Vp).1
 by_cases e:i=i'
 ·subst e
  rw[hr]at h1
  cases h1
  rw[List.getElem?_set,if_pos rfl,if_pos hi]at h2
  cases h2
  refine⟨ps.set j p,by rw[L2.ah,List.map_set],?_⟩
  exact Paired.qm (Paired.K5 j hp hf) λ_ _ z=>iR.off hps z
 ·rw[List.getElem?_set,if_neg e]at h2
  obtain⟨ps',a,b⟩:=h.row i' r' ZX h1 h2
  have n:r'≠r:=λz=>by
   subst z
   exact e ((List.getElem?_inj (List.getElem?_eq_some_iff.mp hr).1 h.nd).mp (hr.trans h1.symm))
  exact⟨ps',by rw[L2.aA n];exact a,Paired.qm b λ_ _ z=>iR.off hps z⟩
theorem vI.snoc{K:PySem.W.Frag}{H H':Hp}{l r:Addr}{rs ps:List Addr}{rows:List (List bY)}{row:List bY}(h:vI K H l rs rows)(e:ai H H')(hr:H r=none)(hps:H' r=some (.lst (ps.map V.ref)))(hp:Paired (mD K H') ps row):
  vI K (L2.upd H' l (.lst (rs.map V.ref++[.ref r]))) l (rs++[r]) (rows++[row]):=by
 have hl':=e _ _ h.at_
 have CZ:r≠l:=λz=>by rw[z,h.at_]at hr;cases hr
 have LL:r∉rs:=λz=>by
  obtain⟨i,hi,ei⟩:=List.getElem_of_mem z
  have hi2:i<rows.length:=by rw[←h.len];exact hi
  obtain⟨ps',a,_⟩:=h.row i r rows[i] (by rw[List.getElem?_eq_getElem hi,ei]) (List.getElem?_eq_getElem hi2)
  rw[hr]at a
  cases a
 refine⟨by rw[List.length_append,List.length_append,h.len];rfl,by rw[L2.ah,List.map_append];rfl,?_,?_,λi r' ZX h1 h2=>?_⟩
 ·refine List.nodup_append.mpr ⟨h.nd,(by simp),λx hx y hy z=>?_⟩
  rw[List.mem_singleton.mp hy]at z
  exact LL (z▸hx)
 ·intro z
  rcases List.mem_append.mp z with z|z
  ·exact h.nl z
  ·exact CZ (List.mem_singleton.mp z).symm
 ·by_cases q:i<rs.length
  ·rw[List.getElem?_append_left q]at h1
   rw[List.getElem?_append_left (by rw[←h.len];exact q)]at h2
   obtain⟨ps',a,b⟩:=h.row i r' ZX h1 h2
   have n:r'≠l:=λz=>h.nl (z▸List.mem_of_getElem? h1)
   exact⟨ps',by rw[L2.aA n];exact e _ _ a,Paired.qm b λ_ _ z=>iR.off hl' (z.same e)⟩
  ·have q':rs.length<=i:=Nat.le_of_not_lt q
   rw[List.getElem?_append_right q']at h1
   rw[List.getElem?_append_right (by rw[←h.len];exact q')]at h2
   have z:i-rs.length=0:=by
    have:=(List.getElem?_eq_some_iff.mp h1).1
    simp at this
    omega
   rw[z]at h1
   rw[←h.len,z]at h2
   cases h1
   cases h2
   exact⟨ps,by rw[L2.aA CZ];exact hps,Paired.qm hp λ_ _ z=>iR.off hl' z⟩
end GP
namespace GP
open PySem L2 oH
section
variable{K:PySem.W.Frag}{C:Addr}{H0 H H':Hp}{t l x o m:Addr}{rs:List Addr}{sg:Str}{rows:List (List bY)}{fo fm:bY}{k:Int}
end
end GP
namespace L2
open PySem PySem.Spec PyProof.Rows
noncomputable def KDict(P:Program)(w:World)(K:PySem.W.Frag)(a:Addr)(kvs:List (Key×V)):Prop:=(a==sysModules)=false/\∃vs,KV kvs vs/\∀h:Heap,K.In h->h.DictOf (jh P w) a vs
noncomputable def ahL(w:World)(x:Str×Tok×Value):DictEntry:=⟨hashStr w x.1,.str x.1 x.2.1,x.2.2⟩
theorem KDict.mk {P:Program} {w:World} {K:PySem.W.Frag} {a:Addr} {ep:Nat} {es:Array DictEntry} (ys:List (Str×Tok×Value)) {vs:List V} (hk:K.lookup a=some { cls:=.type "dict",data:=.dict es ep })
  (he:es.toList=ys.map (ahL w)) (hn:(ys.map (·.1)).Nodup) (hv:Vals vs (ys.map (·.2.2))) (hs:(a==sysModules)=false):KDict P w K a ((ys.map (·.1)).zipWith (λx v=>(Sum.inr x,v)) vs):=by
 refine⟨hs,ys.map λy=>(Sum.inr y.1,y.2.2),?_,λh X=>⟨_,es,ep,X a _ hk,⟨rfl,rfl,rfl⟩,rfl,?_,?_,?_⟩⟩
 ·clear hk he hn
  induction ys generalizing vs with
  |nil=>cases hv;exact .nil
  |cons y ys ih =>
   cases hv with
   |cons r t=>exact .cons ⟨rfl,r⟩ (ih t)
 ·intro e hm
  rw[←Array.mem_toList_iff,he]at hm
  obtain⟨y,_,rfl⟩:=List.mem_map.mp hm
  exact⟨Sum.inr y.1,rY P w _ _,rfl⟩
 ·rw[he]
  clear hk he hn hv
  induction ys with
  |nil=>exact .nil
  |cons y ys ih=>exact .cons (rY P w _ _) rfl ih
 ·rw[List.map_map]
  have e:((λx:Key×Value=>x.1) ∘ λy:Str×Tok×Value=>((Sum.inr y.1:Key),y.2.2))=(λx:Str=>(Sum.inr x:Key)) ∘ (·.1):=rfl
  rw[e,←List.map_map]
  exact List.Pairwise.map _ (λa b h z=>h (Sum.inr.inj z)) hn
section
variable{X:Cx}
theorem Oa:tD X (compareOp .NotIn) (λx y H Q=>∃a kvs k,y= .ref a/\x=kV k/\KDict X.prog X.w X.K a kvs/\Q (.bl (!(jl kvs k).isSome)) H):=by
 intro pins s σ H x y v u Q I rx ry h
 obtain⟨a,kvs,k,rfl,rfl,⟨hs,vs,rel,dd⟩,q⟩:=h
 cases ry
 refine wpAny_notIn_of (A7 rx) hs (dd _ I.rq).mapOf ?_
 rw[←(rel.val k).sX]
 exact⟨.bl _,H,I.tok _,rfl,q⟩
noncomputable def abC(P:Program)(w:World)(K:PySem.W.Frag)(td ty:TE):TE:=λσ H Q=>td σ H λx H1=>ty σ H1 λy H2=>∃a kvs k v,x= .ref a/\y=kV k/\KDict P w K a kvs/\jl kvs k=some v/\Q v H2
theorem Rv{o i:Expr}{pos:Pos}{td ty:TE}(ho:PE X o td)(hi:PE X i ty)(hs:Ij i):PE X (.Subscript o i pos) (abC X.prog X.w X.K td ty):=by
 intro pins s σ H Q I h
 refine Q3 PySem.F.slot_dict_getitem.lookup hs (gB (ho pins s σ H _ I h) λu s1 ⟨x,H1,I1,rx,q1⟩=>gB (hi pins s1 σ H1 _ I1 q1) λiv s2 ⟨y,H2,I2,ry,a,kvs,k,v,ex,ey,⟨hd,vs,rel,dd⟩,l,q2⟩=>?_)
 subst ex ey
 obtain rfl:u=Value.ref a:=rx
 obtain⟨w',hw,rw'⟩:=qV.some_of (v:=v) (o:=valueAt vs k) (by rw[←l];exact rel.val k)
 have d2:=dd _ I2.rq
 exact⟨d2.typeIs,wpAny_getItem_of (A7 ry) d2.mapOf hw ⟨v,H2,I2.tok _,rw',q2⟩⟩
end
end L2
namespace GP
open PySem L2 oH
noncomputable def TupAt(H:Hp)(q:Addr)(f:bY):Prop:=H q=some (.tup [.int f.1,.int f.2])
theorem TupAt.fr{K:PySem.W.Frag}{H:Hp}{q:Addr}{f:bY}(h:TupAt H q f):mD K H q f:=iR.of h
theorem TupAt.off{H:Hp}{q l:Addr}{f:bY}{ys:List V}{o:HO}(hl:H l=some (.lst ys))(h:TupAt H q f):TupAt (L2.upd H l o) q f:=by
 have n:q≠l:=pL h hl (by intro z;cases z)
 show L2.upd H l o q=_
 rw[L2.aA n];exact h
noncomputable def Sz(c:Nat):Prop:=c=112\/c=97\/c=98
noncomputable def stp(q:bY)(c:Nat):bY:=(q.1+(if c=98 then 0 else 1),q.2+(if c=97 then 0 else 1))
noncomputable def Of(sg x:Str):Prop:=∀c∈x.cps.toList,c∈sg.cps.toList
theorem VU{x:Str}{i c:Nat}(h:x.cps[i]? =some c):i<x.cps.size:=by
 rw[←Array.getElem?_toList]at h
 have:=(List.getElem?_eq_some_iff.mp h).1
 simpa using this
theorem Hq{x:Str}{i c:Nat}(h:x.cps[i]? =some c):c∈x.cps.toList:=by
 rw[←Array.getElem?_toList]at h
 exact List.mem_of_getElem? h
theorem sr{x:Str}{i c:Nat}(h:x.cps[i]? =some c):x.cps.toList[i]? =some c:=by
 rw[Array.getElem?_toList];exact h
noncomputable def rT(sg:Str)(rows:List (List bY))(u:Int)(a b:Nat):Int :=
 match (rows[sg.cps.toList.idxOf a]?).bind (·[sg.cps.toList.idxOf b]?)with
 |some f=>f.1*(u / f.2)
 |none=>0
theorem UT{sg:Str}{rows:List (List bY)}{u:Int}{a b:Nat}(sq:XC sg.cps.size rows)(ha:a∈sg.cps.toList)(hb:b∈sg.cps.toList):
  ∃i j f,sg.cps[i]? =some a/\sg.cps[j]? =some b/\CG rows i j f/\rT sg rows u a b=f.1*(u / f.2):=by
 have hi:=List.idxOf_lt_length_iff.mpr ha
 have hj:=List.idxOf_lt_length_iff.mpr hb
 have ei:sg.cps.toList[sg.cps.toList.idxOf a]? =some a:=by rw[List.getElem?_eq_getElem hi,List.getElem_idxOf hi]
 have ej:sg.cps.toList[sg.cps.toList.idxOf b]? =some b:=by rw[List.getElem?_eq_getElem hj,List.getElem_idxOf hj]
 have hi':sg.cps.toList.idxOf a<rows.length:=by rw[sq.1];simpa using hi
 have hj':sg.cps.toList.idxOf b<(rows[sg.cps.toList.idxOf a]).length:=by rw[sq.2 _ (List.getElem_mem hi')];simpa using hj
 refine⟨_,_,(rows[sg.cps.toList.idxOf a])[sg.cps.toList.idxOf b],by rw[←Array.getElem?_toList];exact ei,by rw[←Array.getElem?_toList];exact ej,⟨_,List.getElem?_eq_getElem hi',List.getElem?_eq_getElem hj'⟩,?_⟩
 unfold rT
 rw[List.getElem?_eq_getElem hi']
 show(match (rows[sg.cps.toList.idxOf a])[sg.cps.toList.idxOf b]? with|some f=>f.1*(u / f.2)|none=>0)=_
 rw[List.getElem?_eq_getElem hj']
noncomputable def yx(K:PySem.W.Frag):Sp:=λvs H Q _=>∃(q:Addr) (c:Nat) (ij:bY),vs=[.ref q,.str ⟨#[c]⟩]/\mD K H q ij/\Sz c/\∀r,H r=none->Q (.ref r) (L2.upd H r (.tup [.int (stp ij c).1,.int (stp ij c).2]))
end GP
namespace GP
open PySem L2 oH
theorem iR.wo{K:PySem.W.Frag}{H:Hp}{t a:Addr}{ys xs:List V}(ht:H t=some (.lst ys))(h:iR K H a xs):iR K (Wo t H) a xs:=by
 rcases h with(h|⟨u,h⟩)|h
 ·exact .inl (.inl (Wo.in (pL h ht (by intro z;cases z)) h))
 ·exact .inl (.inr ⟨u,Wo.in (pL h ht (by intro z;cases z)) h⟩)
 ·exact .inr h
theorem jk.wo{K:PySem.W.Frag}{C:Addr}{H:Hp}{t x:Addr}{ys:List V}{sg:Str}{rows:List (List bY)}{fo fm:bY}(ht:H t=some (.lst ys))(nf:V7 H x t)(h:jk K C H x sg rows fo fm):jk K C (Wo t H) x sg rows fo fm:=by
 obtain⟨a,b,c,d,f,g,i,dx,P,o,m,dd,kvs,h1,⟨qs,h2,h2'⟩,h3,h4,h5,h6,fs,h7,h8,h9⟩:=h
 have n:dd.2≠t:=λz=>nf _ _ _ h1 (by rw[qT,z])
 refine⟨a,b,c,d,f,g,i,dx,P,o,m,dd,kvs,Wo.in (pL h1 ht (by intro z;cases z)) h1,⟨qs,iR.wo ht h2,Paired.qm h2' λq r z=>?_⟩,iR.wo ht h3,iR.wo ht h4,Wo.in (pL h5 ht (by intro z;cases z)) h5,h6,fs,h7,h8,Wo.in n h9⟩
 obtain⟨ps,z1,z2⟩:=z
 exact⟨ps,iR.wo ht z1,Paired.qm z2 λ_ _ y=>iR.wo ht y⟩
end GP
namespace L2
open PySem PySem.Spec PyProof.Rows
noncomputable def QX(h:Heap)(φ:Addr->Prop)(ea:Addr)(cls:Value)(od:Option Addr):Prop :=
 φ ea/\∃vs sl,h.get? ea=some ⟨cls,od,.fields vs,sl⟩/\(vs[1]? =some .none ∨
  ∃T oT ts,vs[1]? =some (.ref T)/\T≠ea/\φ T/\h.get? T=some oT/\oT.data= .fields ts/\3<ts.size)
noncomputable def AK(h:Heap)(φ:Addr->Prop)(ea:Addr)(cls:Value)(od:Option Addr):Prop :=
 φ ea/\∃vs sl,h.get? ea=some ⟨cls,od,.fields vs,sl⟩ ∧
  ∃T oT ts,vs[1]? =some (.ref T)/\T≠ea/\φ T/\h.get? T=some oT/\oT.data= .fields ts/\3<ts.size
theorem AK.n{h:Heap}{φ:Addr->Prop}{ea:Addr}{cls:Value}{od:Option Addr}(x:AK h φ ea cls od):QX h φ ea cls od:=by
 obtain⟨p,vs,sl,e,t⟩:=x
 exact⟨p,vs,sl,e,.inr t⟩
theorem QX.to{h:Heap}{φ ψ:Addr->Prop}{ea:Addr}{cls:Value}{od:Option Addr}(x:QX h φ ea cls od)(m:∀b,φ b->ψ b):QX h ψ ea cls od:=by
 obtain⟨p,vs,sl,e,t⟩:=x
 refine⟨m _ p,vs,sl,e,?_⟩
 rcases t with t|⟨T,oT,ts,a,b,c,d⟩
 ·exact .inl t
 ·exact .inr ⟨T,oT,ts,a,b,m _ c,d⟩
structure pP(fr:List Addr)(φ:Addr->Prop)(h h':Heap):Prop where
 keep:∀b o,h.get? b=some o->¬ φ b->b∉fr->h'.get? b=some o
 slot:∀b o,h.get? b=some o->¬ φ b->∃sl,h'.get? b=some { o with slots:=sl }
 there:∀b o,h.get? b=some o->∃o',h'.get? b=some o'
 size:h.objs.size<=h'.objs.size
theorem pP.refl{fr:List Addr}{φ:Addr->Prop}{h:Heap}:pP fr φ h h:=⟨λ_ _ e _ _=>e,λ_ o e _=>⟨o.slots,e⟩,λ_ o e=>⟨o,e⟩,Nat.le_refl _⟩
theorem pP.trans{fr:List Addr}{φ:Addr->Prop}{h h1 h2:Heap}(a:pP fr φ h h1)(b:pP fr φ h1 h2):pP fr φ h h2 where
 keep:=λc o e n f=>b.keep c o (a.keep c o e n f) n f
 slot:=λc o e n=>by
  obtain⟨sl,e1⟩:=a.slot c o e n
  obtain⟨Tu,e2⟩:=b.slot c _ e1 n
  exact⟨Tu,e2⟩
 there:=λc o e=>by
  obtain⟨o',e1⟩:=a.there c o e
  exact b.there c o' e1
 size:=Nat.le_trans a.size b.size
section
variable{M:Model}{A:Around}{E:Value->Shared->Prop}{s:Shared}{base:Heap}{env e0:Env}{r:List Env}{L ea:Addr}{φ:Addr->Prop}{cls:Value}{od:Option Addr}
theorem OD{Q:Value->Shared->Prop}(hs:A.frames=some (e0::r))(hl:s.heap.FunFrames base (e0::r))(h0:e0.frame=some L)(he:env.frame=some L)
  (h:∀h',Heap.SlotsOnly ((e0::r).filterMap (·.frame)) s.heap h'->Q (.ref L) { s with heap:=h' }):wpAny M A (PySem.frameOf env) Q E s:=by
 unfold PySem.frameOf
 refine wpAny_bind (wpAny_frameEnvs hs ?_)
 rw[show((e0::r).dropWhile λx=>x.frame != env.frame)=e0::r by simp[List.dropWhile,h0,he]]
 unfold frameObject
 refine wpAny_bind (wpAny_bind (wpAny_readyFrames_fun hl λh1 k1=>wpAny_pure ?_))
 rw[h0]
 exact wpAny_pure (h h1 k1)
theorem Bf{vs:Array Value}{sl:Array (Option Value)}{head:Value}{hadNext:Bool}{Q:Unit->Shared->Prop}(hs:A.frames=some (e0::r))(hl:s.heap.FunFrames base (e0::r))(h0:e0.frame=some L)(hf:env.frame=some L)
  (pe:φ ea) (he:s.heap.get? ea=some ⟨cls,od,.fields vs,sl⟩) (h1:1<vs.size) (new:∀b,s.heap.objs.size<=b->φ b)
  (q:∀h',pP (frs (e0::r)) φ s.heap h'->AK h' φ ea cls od->Q () { s with heap:=h' }) :
  wpAny M A (do let a ←PySem.frameOf env;let pl ←entryPlaceOf L hadNext;let b ←EntryCells.newEntry head a .none (rawInt L) .none pl;setField (.ref ea) 1 b) Q E s:=by
 have LN:ea∉(e0::r).filterMap (·.frame):=λhm=>by
  obtain⟨_,o,ho,nf⟩:=hl.mem hm
  rw[he]at ho
  cases ho
  exact nf vs rfl
 refine wpAny_bind (OD hs hl h0 hf λg k=>?_)
 refine wpAny_bind (wpAny_entryPlaceOf λpl pk=>?_)
 simp only[EntryCells.newEntry,newFields]
 refine wpAny_bind (wpAny_newObj_type ?_ (pk.sizeOk5 _ _ _ _ _))
 have e1:g.get? ea=some ⟨cls,od,.fields vs,sl⟩:=(k.2.1 ea LN).trans he
 have ne:g.objs.size≠ea:=Nat.ne_of_gt (Heap.lt_size e1)
 generalize hob:({ cls:=.type "traceback",dict:=none,data:=.fields ([head,.ref L,.none,rawInt L,.none]++(if pl.isEmpty then List.replicate 6 Value.none else pl)).toArray }:Obj)=ob
 have e2:=Heap.get?_push_of_some (h:=g) ob e1
 refine wpAny_setField e2 rfl h1 (q _ ⟨λb o e n f=>?_,λb o e n=>?_,λb o e=>?_,?_⟩ ⟨pe,_,sl,Heap.get?_update_self _ e2 rfl,g.objs.size,ob,_,?_,ne,new _ (Nat.le_of_eq k.1.symm),?_,by subst hob;rfl,?_⟩)
 ·have be:b≠ea:=λz=>n (z▸pe)
  rw[Heap.get?_update_other _ _ (Ne.symm be)]
  exact Heap.get?_push_of_some _ ((k.2.1 b f).trans e)
 ·have be:b≠ea:=λz=>n (z▸pe)
  obtain⟨Tu,e'⟩:=k.2.2 b o e
  refine⟨Tu,?_⟩
  rw[Heap.get?_update_other _ _ (Ne.symm be)]
  exact Heap.get?_push_of_some _ e'
 ·by_cases be:b=ea
  ·subst be
   exact⟨_,Heap.get?_update_self _ e2 rfl⟩
  ·obtain⟨Tu,e'⟩:=k.2.2 b o e
   exact⟨{ o with slots:=Tu },(Heap.get?_update_other _ _ (Ne.symm be)).trans (Heap.get?_push_of_some _ e')⟩
 ·rw[Heap.size_after_update,Heap.size_push,k.1]
  exact Nat.le_succ _
 ·simp[h1]
 ·rw[Heap.get?_update_other _ _ (Ne.symm ne)]
  exact Heap.get?_push_size _ (by subst hob;rfl)
 ·rw[List.size_toArray,List.length_append]
  exact Nat.lt_of_lt_of_le (by decide:3<5) (Nat.le_add_right _ _)
theorem Ol{Q:Unit->Shared->Prop}(hs:A.frames=some (e0::r))(hl:s.heap.FunFrames base (e0::r))(h0:e0.frame=some L)(hf:env.frame=some L)
  (x:QX s.heap φ ea cls od) (new:∀b,s.heap.objs.size<=b->φ b) (q:∀h',pP (frs (e0::r)) φ s.heap h'->AK h' φ ea cls od->Q () { s with heap:=h' }) :
  wpAny M A (noteFrame (.ref ea) env) Q E s:=by
 obtain⟨pe,vs,sl,he,hv⟩:=x
 unfold noteFrame
 simp only[hf]
 rcases hv with h1|⟨T,oT,ts,h1,ne,pT,hT,hd,h3⟩
 ·refine wpAny_bind (wpAny_field he rfl h1 ?_)
  rw[if_neg (by decide)]
  exact Bf hs hl h0 hf pe he (Array.getElem?_eq_some_iff.mp h1).1 new q
 ·have g3:ts[3]? =some ts[3]:=Array.getElem?_eq_getElem h3
  refine wpAny_bind (wpAny_field he rfl h1 ?_)
  rw[if_pos (show(Value.ref T != Value.none)=true by simp)]
  refine wpAny_bind (wpAny_field hT hd g3 ?_)
  by_cases e3:(ts[3]==rawInt L)=true
  ·rw[if_pos e3]
   exact wpAny_pure (q s.heap pP.refl ⟨pe,vs,sl,he,T,oT,ts,h1,ne,pT,hT,hd,h3⟩)
  ·rw[if_neg e3]
   refine wpAny_bind (wpAny_setField hT hd h3 ?_)
   have other:∀b,b≠T->(s.heap.update T (Obj.mapFields (·.setIfInBounds 3 Value.none))).get? b=s.heap.get? b:=λb z=>Heap.get?_update_other _ _ (Ne.symm z)
   have n1:pP (frs (e0::r)) φ s.heap (s.heap.update T (Obj.mapFields (·.setIfInBounds 3 Value.none))):=by
    refine⟨λb o e n f=>(other b λz=>n (z▸pT)).trans e,λb o e n=>⟨o.slots,(other b λz=>n (z▸pT)).trans e⟩,λb o e=>?_,Nat.le_of_eq (Heap.size_after_update ..).symm⟩
    by_cases z:b=T
    ·subst z
     exact⟨_,Heap.get?_update_self _ hT (Obj.isFreed_of_fields (Obj.data_mapFields hd _))⟩
    ·exact⟨o,(other b z).trans e⟩
   refine Bf (s:={ s with heap:=s.heap.update T (Obj.mapFields (·.setIfInBounds 3 Value.none)) }) hs (hl.of_keeps λb o e nf=>⟨o,(other b λz=>?_).trans e,rfl⟩) h0 hf pe ((other ea (Ne.symm ne)).trans he) (Array.getElem?_eq_some_iff.mp h1).1
    (λb hb=>new b (Nat.le_trans n1.size hb)) λh' n2 x2=>q h' (n1.trans n2) x2
   subst z
   rw[hT]at e
   cases e
   exact nf ts hd
theorem uE{fl:Option Addr}{fr:List Addr}{Q:Unit->Shared->Prop}(x:AK s.heap φ ea cls od)(q:∀h',pP fr φ s.heap h'->AK h' φ ea cls od->Q () { s with heap:=h' }):
  wpAny M A (setFlight (.ref ea) fl) Q E s:=by
 obtain⟨pe,vs,sl,he,T,oT,ts,h1,ne,pT,hT,hd,h3⟩:=x
 unfold setFlight
 refine wpAny_bind (wpAny_field he rfl h1 ?_)
 rw[if_pos (show(Value.ref T != Value.none)=true by simp)]
 have other:∀(f:Obj->Obj) b,b≠T->(s.heap.update T f).get? b=s.heap.get? b:=λf b z=>Heap.get?_update_other _ _ (Ne.symm z)
 refine wpAny_setField hT hd h3 (q _ ⟨λb o e n f=>(other _ b λz=>n (z▸pT)).trans e,λb o e n=>⟨o.slots,(other _ b λz=>n (z▸pT)).trans e⟩,λb o e=>?_,Nat.le_of_eq (Heap.size_after_update ..).symm⟩
  ⟨pe,vs,sl,(other _ ea (Ne.symm ne)).trans he,T,_,_,h1,ne,pT,Heap.get?_update_self _ hT (Obj.isFreed_of_fields (Obj.data_mapFields hd _)),Obj.data_mapFields hd _,by simp[h3]⟩)
 by_cases z:b=T
 ·subst z
  exact⟨_,Heap.get?_update_self _ hT (Obj.isFreed_of_fields (Obj.data_mapFields hd _))⟩
 ·exact⟨o,(other _ b z).trans e⟩
end
end L2
namespace L2
open PySem PySem.Spec PyProof.Rows
section
variable{X:Cx}{pins:List (Addr×Obj)}{σ:St}{H H':Hp}{s:Shared}
noncomputable def XA(X:Cx)(pins:List (Addr×Obj))(H:Hp)(b:Addr):Prop :=
 H b=none/\b≠X.env.locals/\b∉X.fs/\(X.s₀.heap.get? b=none\/b∈X.ex)/\(∀x c,X.env.cells.lookup x=some c->c≠b)/\∀p∈X.pn++pins,p.1≠b
theorem Inv.CM{b:Addr}(I:Inv X pins σ H s)(hn:s.heap.get? b=none)(hH:H' b=none):XA X pins H' b:=by
 refine⟨hH,λz=>?_,λz=>?_,?_,λx c e z=>?_,λp hp z=>?_⟩
 ·obtain⟨m,⟨o,_,_,ho,_⟩,_⟩:=I.loc
  rw[←z,hn]at ho
  cases ho
 ·obtain⟨_,o,ho,_⟩:=I.uB.mem z
  rw[hn]at ho
  cases ho
 ·by_cases hx:b∈X.ex
  ·exact .inr hx
  ·left
   cases q:X.s₀.heap.get? b with
   |none=>rfl
   |some o =>
    obtain⟨o',e⟩:=I.base.there b o q hx
    rw[hn]at e
    cases e
 ·obtain⟨v,o,ho,_⟩:=I.cell x c e
  rw[z,hn]at ho
  cases ho
 ·have q:=(I.pin p hp).1
  rw[z,hn]at q
  cases q
theorem Inv.KW{b:Addr}(I:Inv X pins σ H s)(hb:s.heap.objs.size<=b):XA X pins H b:=I.CM (Heap.get?_none_of_le hb) (I.hok.fresh hb)
theorem Un.noted{fs fr ex:List Addr}{H₀:Hp}{h₀ h h':Heap}{φ:Addr->Prop}(u:Un fs ex H₀ H h₀ h)(n:pP fr φ h h')(new:∀b o,h₀.get? b=some o->b∉ex->¬ φ b)(hf:∀b o,h₀.get? b=some o->b∈fr->b∈fs):Un fs ex H₀ H h₀ h' where
 keep:=λb o e hn nf nx=>n.keep b o (u.keep b o e hn nf nx) (new b o e nx) λz=>nf (hf b o e z)
 slot:=λb o e hn hb nx=>by
  obtain⟨sl,e1⟩:=u.slot b o e hn hb nx
  obtain⟨Tu,e2⟩:=n.slot b _ e1 (new b o e nx)
  exact⟨Tu,e2⟩
 free:=u.free
 there:=λb o e nx=>by
  obtain⟨o',e1⟩:=u.there b o e nx
  exact n.there b o' e1
 tups:=u.tups
 uD:=u.uD
 uV:=u.uV
theorem qc.noted{P:Program}{w:World}{h h':Heap}{fr:List Addr}{φ:Addr->Prop}(x:qc P w H h)(n:pP fr φ h h')(hφ:∀b,φ b->H b=none)(hf:∀b∈fr,H b=none):qc P w H h':=λa u e =>
 (x a u e).stay (λb v hb q=>by
  have nb:H b≠none:=λz=>by
   rcases hb with y|y
   ·rw[y,e]at z;cases z
   ·rw[y]at z;cases z
  exact n.keep b v q (λz=>nb (hφ b z)) λz=>nb (hf b z)) (λ_ q=>q) λ_ _ q=>q
theorem Inv.noted{h':Heap}(I:Inv X pins σ H s)(n:pP (frs X.stack) (XA X pins H) s.heap h'):Inv X pins σ H { s with heap:=h' }:=by
 have cellK:∀x c,X.env.cells.lookup x=some c->∀v,s.heap.IsCell c v->h'.IsCell c v:=λx c e v ⟨o,ho,hd⟩=>by
  obtain⟨sl,q⟩:=n.slot c o ho λk=>k.2.2.2.2.1 x c e rfl
  exact⟨_,q,hd⟩
 refine⟨I.ok,I.os,I.bare,I.base.noted n (λb o e nx k=>?_) (λb o e z=>?_),?_,λx c e=>?_,I.free,I.mj,λp hp=>?_,I.hok.noted n (λb k=>k.1) I.Gi,I.len,I.up⟩
 ·rcases k.2.2.2.1 with z|z
  ·rw[e]at z;cases z
  ·exact nx z
 ·rcases List.mem_cons.mp (I.ue b z)with q|q
  ·subst q
   exact absurd (Nat.lt_of_lt_of_le (Heap.lt_size e) I.ok.above) (Nat.lt_irrefl _)
  ·exact q
 ·obtain⟨m,⟨o,es,ep,ho,rr⟩,hl⟩:=I.loc
  obtain⟨sl,q⟩:=n.slot _ o ho λk=>k.2.1 rfl
  refine⟨m,⟨_,es,ep,q,rr⟩,λi x v e1 e2 e3=>?_⟩
  obtain⟨u,rv,l⟩:=hl i x v e1 e2 e3
  refine⟨u,rv,?_⟩
  rcases l with l|⟨k,c,e,z⟩
  ·exact .inl l
  ·exact .inr ⟨k,c,e,cellK x c e _ z⟩
 ·obtain⟨v,z⟩:=I.cell x c e
  exact⟨v,cellK x c e v z⟩
 ·obtain⟨e,hn,ne,nf,d⟩:=I.pin p hp
  refine⟨n.keep p.1 p.2 e (λk=>k.2.2.2.2.2 p hp rfl) λz=>?_,hn,ne,nf,d⟩
  rcases List.mem_cons.mp (I.ue _ z)with q|q
  ·exact ne q
  ·exact nf q
end
theorem Un.same{fs ex:List Addr}{H₀ H:Hp}{h₀ h h':Heap}(u:Un fs ex H₀ H h₀ h)(k:∀b o,h₀.get? b=some o->h'.get? b=h.get? b):Un fs ex H₀ H h₀ h' where
 keep:=λb o e hn nf nx=>(k b o e).trans (u.keep b o e hn nf nx)
 slot:=λb o e hn hb nx=>by
  obtain⟨sl,e1⟩:=u.slot b o e hn hb nx
  exact⟨sl,(k b o e).trans e1⟩
 free:=u.free
 there:=λb o e nx=>by
  obtain⟨o',e1⟩:=u.there b o e nx
  exact⟨o',(k b o e).trans e1⟩
 tups:=u.tups
 uD:=u.uD
 uV:=u.uV
noncomputable def vN(P:Program)(w:World):Tt:=λouter H s E e s'=>∃ea cls od H',e= .ref ea/\s'.os=s.os/\AllBare s'.gens/\s.toks<=s'.toks/\Un (frs outer) [] H H' s.heap s'.heap/\qc P w H' s'.heap ∧
 QX s'.heap (λb=>s.heap.get? b=none/\H' b=none) ea cls od/\E cls od H'
noncomputable def Lets(X:Cx)(E:St->XK):Prop:=∀(pins:List (Addr×Obj)) (σ:St) (H:Hp) (s:Shared) (ea:Addr) (cls:Value) (od:Option Addr),Inv X pins σ H s->QX s.heap (XA X pins H) ea cls od->E σ cls od H->X.xe (.ref ea) s
theorem Lets.pass{X:Cx}{E:St->XK}{pins:List (Addr×Obj)}{σ:St}{H:Hp}{s s':Shared}{e:Value}(L:Lets X E)(I:Inv X pins σ H s)(h:vN X.prog X.w X.stack H s (E σ) e s'):X.xe e s':=by
 obtain⟨ea,cls,od,H',rfl,os,bare,tt,un,hok,x,hE⟩:=h
 have I2:Inv X pins σ H' s':=I.VZ (ch:=[]) os un hok bare (λb z=>nomatch z) (Nat.le_trans I.up tt)
 exact L pins σ H' s' ea cls od I2 (x.to λb k=>I.CM k.1 k.2) hE
theorem Lets.passes{X:Cx}{E:XK}(L:Lets X λ_=>E):Passes (vN X.prog X.w) X E:=λ_ _ _ _ _ _ I h=>L.pass I h
section
variable{P:Program}{w:World}{K:PySem.W.Frag}{mg:Str->Option Value}{base:Heap}
theorem l8{N:List Str}{qual:Str}{scope:Scope}{f:Addr}{cd:Value}{A:Around}{outer:List Env}{s:Shared}{H:Hp}{E:XK}:Lets (wC (vN P w) P w K mg base N qual scope f cd A outer s H E) λ_=>E:=by
 intro pins σ H' s' ea cls od I x hE
 show wpAny _ _ (leaving _ (.ref ea)) _ _ s'
 unfold leaving
 refine wpAny_bind (Ol I.ok.frames I.stack rfl rfl x (λb hb=>I.KW hb) λh1 n1 x1=>?_)
 refine uE (fr:=frs (wC (vN P w) P w K mg base N qual scope f cd A outer s H E).stack) x1 λh2 n2 x2=>?_
 have I2:=I.noted (n1.trans n2)
 refine⟨ea,cls,od,H',rfl,I2.os,I2.bare,I2.up,I2.base,I2.hok,x2.n.to λb k=>⟨?_,k.1⟩,hE⟩
 rcases k.2.2.2.1 with z|z
 ·exact z
 ·exact nomatch z
theorem lZ{N:List Str}{qual:Str}{scope:Scope}{f:Addr}{cd:Value}{A:Around}{outer:List Env}{s:Shared}{H:Hp}{E:XK}:
  PassesOwn (model P w) (wC (vN P w) P w K mg base N qual scope f cd A outer s H E).A (wC (vN P w) P w K mg base N qual scope f cd A outer s H E).env (wC (vN P w) P w K mg base N qual scope f cd A outer s H E).xe:=PassesOwn.leaving
theorem Wr.GZ{x qual:Str}{st:Stmt}{f:Addr}{fd:FuncData}{N ps:List Str}{k:Nat}{sp:Sp}(F:Wr K x qual st f fd)(S:aG N ps (av st))(len:∀vs H Q E,sp vs H Q E->vs.length=ps.length)
  (hbody:∀(cdv:Value) (A:Around) (outer:List Env) (s:Shared) (H:Hp) (vs:List V) (Q:VK) (E:XK),nQ k (A.deeper (envOfC qual (av st) s.heap.objs.size f cdv))->sp vs H Q E →
   ∃t,HP (wC (vN P w) P w K mg base N qual (av st) f cdv A outer s H E) (gW st) t/\t { nx:=λ_ H'=>Q .ko H',rt:=Q } (start N vs) H):aH P w K mg base (vN P w) (k+1) f fd ps sp:=by
 obtain⟨oc,od,kV,doc,pm,an,cdv,ct,osl,rfl,lk,hcd⟩:=F.ex
 exact Yh lk hcd S len λA outer s H vs Q E hr Wh=>hbody cdv A outer s H vs Q E hr Wh
end
theorem c7.got{P:Program}{w:World}{H:Hp}{h:Heap}{a:Addr}{o:HO}(x:c7 P w H h a o):h.get? a≠none:=by
 cases o with
 |lst xs=>obtain⟨_,_,_,_,e⟩:=x;rw[e];exact λz=>nomatch z
 |tup xs=>obtain⟨_,_,_,ob,e,_⟩:=x;rw[e];exact λz=>nomatch z
 |dK kvs=>obtain⟨_,_,_,_,o,_,_,e,_⟩:=x;rw[e];exact λz=>nomatch z
 |dT kvs=>obtain⟨_,_,_,_,o,_,_,e,_⟩:=x;rw[e];exact λz=>nomatch z
 |set S n=>obtain⟨o,_,_,_,e,_⟩:=x;rw[e];exact λz=>nomatch z
 |ins C dx fs=>obtain⟨_,_,_,e,_⟩:=x;rw[e];exact λz=>nomatch z
 |own y=>obtain⟨_,e⟩:=x;rw[e];exact λz=>nomatch z
 |xd fs=>obtain⟨_,⟨_,_,_,e,_⟩,_⟩:=x;rw[e];exact λz=>nomatch z
 |CV lo hi=>obtain⟨_,_,_,e⟩:=x;rw[e];exact λz=>nomatch z
 |Qz ob u=>obtain⟨e,_⟩:=x;rw[e];exact λz=>nomatch z
 |XJ ps=>have e:h.get? a=some _:=x;rw[e];exact λz=>nomatch z
 |met f y=>have e:h.get? a=some _:=x;rw[e];exact λz=>nomatch z
 |ext φ=>obtain⟨_,⟨_,e⟩,_⟩:=x;rw[e];exact λz=>nomatch z
theorem qc.none_of{P:Program}{w:World}{H:Hp}{h:Heap}{a:Addr}(x:qc P w H h)(e:h.get? a=none):H a=none:=by
 cases q:H a with
 |none=>rfl
 |some o=>exact absurd e (x a o q).got
set_option genInjectivity false in
structure XP where
 nm:Str
 q:Str
 N:Addr
 bs:List Value
 bm:List Value
 hdct:Bool
 sn:List Str
 sub:List Value
 ab:Bool
 col:Option Bool
 dd:Option Addr
 k0:Option Value
 k1:Option Value
 k2:Option Value
 k3:Option Value
 k5:Option Value
 mN:Str->Option Value
noncomputable abbrev XP.obj(d:XP)(C:Addr)(newId:String):Obj:=excClassObj d.nm d.q C d.N d.bs d.bm d.hdct d.sn d.sub d.ab d.col d.dd d.k0 d.k1 d.k2 d.k3 d.k5 newId
structure ah6(K:PySem.W.Frag)(C:Addr)(Bn B newId inN nid initId:String)(bmN bmB:List Value):Prop where
 fn:ExcBaseFacts Bn newId inN bmN
 has:bmB.contains (.type Bn)=true
 fb:ExcBaseFacts B nid initId bmB
 obj:∀h:Heap,K.In h->∃d:XP,h.get? C=some (d.obj C newId)/\h.Ns d.N d.mN/\d.mN "__init__" =none/\OwnTail h bmB d.bm
noncomputable def V5(K:PySem.W.Frag)(C:Addr):Prop:=∃Bn B newId inN nid initId bmN bmB,ah6 K C Bn B newId inN nid initId bmN bmB
theorem Wu {K:PySem.W.Frag} {C:Addr} (q:PySem.W.excIn K C [.type "ValueError",.type "Exception",.type "BaseException",.type "object"] "ValueError.__new__" =true):V5 K C:=by
 refine⟨_,_,_,_,_,_,_,_,PySem.F.excBase_ValueError,PySem.F.excBase_ValueError.hasB,PySem.F.excBase_ValueError,λh k=>?_⟩
 unfold PySem.W.excIn at q
 split at q
 ·rename_i dd cd sl hob
  split at q
  ·rename_i C' bm k0 k1 k2 k3 nn k5 hmr Vn
   simp only[Bool.and_eq_true,beq_iff_eq,Bool.not_eq_true']at q
   obtain⟨⟨⟨⟨⟨e1,e2⟩,e3⟩,e4⟩,e5⟩,e6⟩:=q
   subst e1 e2
   obtain⟨nm,bs,mro,ns,qn,hd,sn,sub,ab,col,del⟩:=cd
   dsimp only at hmr e3 e5 e6
   subst hmr e3
   have hsl:sl= #[k0,k1,k2,k3,some (.builtin "ValueError.__new__"),k5]:=by
    obtain⟨l⟩:=sl
    simp only at Vn
    rw[Vn]
   subst hsl
   exact⟨⟨nm,qn,ns,bs,bm,hd,sn,sub,ab,col,dd,k0,k1,k2,k3,k5,_⟩,k _ _ hob,.of_isNs (PySem.W.isNs_of_in k e5),PySem.W.nsMap_none_of_in k e5 e6,PySem.W.tail_of_in k e4⟩
  ·cases q
 ·cases q
noncomputable def ZL(C:Addr)(E:St->XK)(t:TA):TS:=λ_ σ H=>t σ H λvs H1=>vs.length<=sizeLine/\E σ (.ref C) none H1
theorem vc{X:Cx}{E:St->XK}{C:Addr}{x:Str}{np cpos pos:Pos}{e:Expr}{es:List Expr}{t:TA}(L:Lets X E)(OE:V5 X.K C)(hc:X.calm=true)
  (hg:Gl X x) (hm:X.mg x=some (.ref C)) (ha:PA X (e::es) t) (hdb:(x==("__debug__" :Str))=false:=by decide) (he:starEach (e::es) X.env=(false,eval e X.env)::starEach es X.env:=by rfl)
  (hpl:(backTo cpos (starEach es X.env)).any (·.1)=false:=by rfl):PS X (.Raise (some (.Call (.Name x np) (e::es) [] cpos)) none pos) (ZL C E t):=by
 intro pins s σ H D I h
 obtain⟨Bn,B,newId,inN,nid,initId,bmN,bmB,O⟩:=OE
 obtain⟨d,hC,hN,hni,T⟩:=O.obj X.base I.ok.mod.XY
 refine wpAny_Raise_call_subU (C:=C) (nm:=d.nm) (q:=d.q) (N:=d.N) (bs:=d.bs) (bm:=d.bm) (hdct:=d.hdct) (sn:=d.sn) (sub:=d.sub) (ab:=d.ab) (col:=d.col) (dd:=d.dd) (k0:=d.k0) (k1:=d.k1) (k2:=d.k2) (k3:=d.k3) (k5:=d.k5) O.fn O.has O.fb
  (mN:=d.mN) (T.hasType O.fb.hasBase) (I.ok.hd hc) (by rw[he];show(false||(backTo cpos (starEach es X.env)).any (·.1))=false;rw[hpl];rfl) hni (oF I hg hm ⟨rfl,?_⟩ hdb)
 have z:=ha cpos pins s σ H _ I h
 rw[he]at z ⊢
 refine Calls.evalArgs_plain (gB z λus s2 ⟨vs,H2,I2,r,hl,q2⟩=>⟨rfl,?_,I2.bk _ _ hC,hN.keeps I2.bk,T.keeps I2.bk,λh' ea hm=>?_⟩)
 ·show us.length<=sizeLine
  rw[←r.length]
  exact hl
 ·obtain⟨t',ht,_,_⟩:=hm.there
  exact L pins σ H2 _ ea (.ref C) none (I2.kept (t':=s2.toks) hm.keeps) ⟨I2.CM hm.new (I2.hok.none_of hm.new),_,_,ht,.inl rfl⟩ q2
end L2
namespace L2
open PySem PySem.Spec PyProof.Rows
noncomputable def Fm(X:Cx):Prop:=∃e0 r L,X.stack=e0::r/\e0.frame=some L/\X.env.frame=some L
theorem aaL{CX:Tt}{P:Program}{w:World}{K:PySem.W.Frag}{mg:Str->Option Value}{base:Heap}{N:List Str}{qual:Str}{scope:Scope}{f:Addr}{cd:Value}{A:Around}{outer:List Env}{s:Shared}{H:Hp}{E:XK}:
  Fm (wC CX P w K mg base N qual scope f cd A outer s H E).B7:=⟨_,_,_,rfl,rfl,rfl⟩
noncomputable abbrev Cx.zE(X:Cx)(pn:List (Addr×Obj))(xe:Value->Shared->Prop):Cx:={ X with pn:=pn,xe:=xe }
theorem Cx.Ok.zE{X:Cx}(ok:X.Ok)(pn:List (Addr×Obj))(xe:Value->Shared->Prop):(X.zE pn xe).Ok :=
 ⟨ok.mod,ok.kind,ok.glob,ok.blt,ok.above,ok.inj,ok.has,ok.Xw,ok.hd,ok.frames,ok.stk,ok.Dv,ok.bs,ok.V0,ok.Qh,ok.S3,ok.uB,ok.Xj,ok.tk⟩
section
variable{X:Cx}{pins ps:List (Addr×Obj)}{σ:St}{H:Hp}{s:Shared}{xe:Value->Shared->Prop}
theorem Inv.zE(I:Inv X pins σ H s):Inv (X.zE (X.pn++pins) xe) [] σ H s :=
 ⟨I.ok.zE _ _,I.os,I.bare,I.base,I.loc,I.cell,I.free,I.mj,λp hp=>I.pin p (by simpa using hp),I.hok,I.len,I.up⟩
theorem Inv.t8(ok:X.Ok)(I:Inv (X.zE (X.pn++pins) xe) ps σ H s):Inv X pins σ H s :=
 ⟨ok,I.os,I.bare,I.base,I.loc,I.cell,I.free,I.mj,λp hp=>I.pin p (List.mem_append_left _ hp),I.hok,I.len,I.up⟩
theorem XA.t8{b:Addr}(k:XA (X.zE (X.pn++pins) xe) ps H b):XA X pins H b :=
 ⟨k.1,k.2.1,k.2.2.1,k.2.2.2.1,k.2.2.2.2.1,λp hp=>k.2.2.2.2.2 p (List.mem_append_left _ hp)⟩
theorem AK.to{h:Heap}{φ ψ:Addr->Prop}{ea:Addr}{cls:Value}{od:Option Addr}(x:AK h φ ea cls od)(m:∀b,φ b->ψ b):AK h ψ ea cls od:=by
 obtain⟨p,vs,sl,e,T,oT,ts,a,b,c,d⟩:=x
 exact⟨m _ p,vs,sl,e,T,oT,ts,a,b,m _ c,d⟩
end
noncomputable abbrev TH:=Value->Option Addr->TS
noncomputable def PH(X:Cx)(hs:List ExceptHandler)(th:TH):Prop :=
 ∀(pins:List (Addr×Obj)) (s:Shared) (σ:St) (H:Hp) (D:Ends) (ea:Addr) (cls:Value) (od:Option Addr),Inv X pins σ H s->AK s.heap (XA X pins H) ea cls od->th cls od D σ H →
  wpAny (model X.prog X.w) X.A (handleBy (.ref ea) X.env hs) (SP X pins D) X.xe s
noncomputable def afR(tb:(St->XK)->TS)(th:TH):TS:=λD σ H=>tb (λσ' cls od H'=>th cls od D σ' H') D σ H
theorem Z3{X:Cx}{body:List Stmt}{h₀:ExceptHandler}{hs:List ExceptHandler}{pos:Pos}{tb:(St->XK)->TS}{th:TH}(F:Fm X)
  (hb:∀(E:St->XK) (pn:List (Addr×Obj)) (xe:Value->Shared->Prop),Lets (X.zE pn xe) E->PassesOwn (model X.prog X.w) X.A X.env xe->HP (X.zE pn xe) body (tb E)) (hh:PH X (h₀::hs) th) :
  PS X (.Try body (h₀::hs) [] [] pos) (afR tb th):=by
 intro pins s σ H D I h
 obtain⟨e0,r,L,hst,h0,hf⟩:=F
 refine wpAny_Try_except ?_
 generalize Fv:(λe s₁=>wpAny (model X.prog X.w) X.A (noteFrame e X.env) (λ_ s₂=>wpAny (model X.prog X.w) X.A (setFlight e none) (λ_ s₃=>wpAny (model X.prog X.w) X.A (handleBy e X.env (h₀::hs)) (SP X pins D) X.xe s₃) X.xe s₂) X.xe s₁)=xe
 have LX:Lets (X.zE (X.pn++pins) xe) λσ' cls od H'=>th cls od D σ' H':=by
  intro ps σ' H' s' ea cls od J x q
  show xe (.ref ea) s'
  subst Fv
  have fr:=J.ok.frames
  have sf:=J.stack
  refine Ol (s:=s') (e0:=e0) (r:=r) (by rw[←hst];exact fr) (by rw[←hst];exact sf) h0 hf x (λb hb=>J.KW hb) λh1 n1 x1=>?_
  refine uE (fr:=frs (e0::r)) x1 λh2 n2 x2=>?_
  have XW:=n1.trans n2
  rw[←hst]at XW
  have J2:=J.noted XW
  exact hh pins _ σ' H' D ea cls od (J2.t8 I.ok) (x2.to λb k=>k.t8) q
 have po:PassesOwn (model X.prog X.w) X.A X.env xe:=by
  subst Fv
  exact PassesOwn.looking
 refine wpAny_mono (hb _ _ xe LX po [] s σ H D I.zE h) (λf s1 q=>?_) λe s1 q=>?_
 ·cases f with
  |next =>
   obtain⟨σ',H',J,q⟩:=q
   exact wpAny_execs_nil ⟨σ',H',J.t8 I.ok,q⟩
  |brk =>
   obtain⟨σ',H',J,q⟩:=q
   exact⟨σ',H',J.t8 I.ok,q⟩
  |cont =>
   obtain⟨σ',H',J,q⟩:=q
   exact⟨σ',H',J.t8 I.ok,q⟩
  |ret u =>
   obtain⟨v,σ',H',J,rv,q⟩:=q
   exact⟨v,σ',H',J.t8 I.ok,rv,q⟩
 ·have q':xe e s1:=q
  subst Fv
  exact q'
noncomputable abbrev Cx.within(X:Cx)(ea:Addr):Cx:={ X with A:=X.A.mark (some (.ref ea)),calm:=false,xe:=λ_ _=>False }
theorem Cx.Ok.within{X:Cx}(ok:X.Ok)(ea:Addr):(X.within ea).Ok :=
 ⟨ok.mod,ok.kind,ok.glob,ok.blt,ok.above,ok.inj,ok.has,ok.Xw,(λz=>nomatch z),ok.frames,ok.stk,ok.Dv,ok.bs,ok.V0,ok.Qh,ok.S3,ok.uB,ok.Xj,ok.tk⟩
section
variable{X:Cx}{pins:List (Addr×Obj)}{σ:St}{H:Hp}{s:Shared}{ea:Addr}
theorem Inv.within(I:Inv X pins σ H s)(ea:Addr):Inv (X.within ea) pins σ H s:=⟨I.ok.within ea,I.os,I.bare,I.base,I.loc,I.cell,I.free,I.mj,I.pin,I.hok,I.len,I.up⟩
theorem Inv.behind(ok:X.Ok)(I:Inv (X.within ea) pins σ H s):Inv X pins σ H s:=⟨ok,I.os,I.bare,I.base,I.loc,I.cell,I.free,I.mj,I.pin,I.hok,I.len,I.up⟩
end
noncomputable def Xm(ea:Addr)(cls:Value)(od:Option Addr):HO:=.ext λh=>∃vs sl,h.get? ea=some ⟨cls,od,.fields vs,sl⟩
noncomputable def Ends.un(D:Ends)(i:Nat):Ends:={ nx:=λσ H=>D.nx (σ.set i none) H,rt:=D.rt,bk:=λσ H=>D.bk (σ.set i none) H,ct:=λσ H=>D.ct (σ.set i none) H }
theorem Inv.T8{X:Cx}{pins:List (Addr×Obj)}{σ:St}{H:Hp}{s:Shared}{a:Addr}{o:HO}(I:Inv X pins σ H s)(k:XA X pins H a)(new:c7 X.prog X.w (upd H a o) s.heap a o):Inv X pins σ (upd H a o) s:=by
 obtain⟨hn,k1,k2,k3,k4,k5⟩:=k
 refine⟨I.ok,I.os,I.bare,⟨I.base.keep,I.base.slot,λb ob q n hx=>?_,I.base.there,λb xs q=>?_,λb ob u q=>?_,λb ps q=>?_⟩,I.loc,I.cell,?_,λx c e=>?_,λp hp=>?_,λb u q=>?_,I.len,I.up⟩
 ·have ne:b≠a:=λz=>by
   rcases k3 with y|y
   ·rw[←z,q]at y;cases y
   ·exact hx (z▸y)
  rw[aA ne]
  exact I.base.free b ob q n hx
 ·have q':=I.base.tups b xs q
  rw[aA (bC q' hn)];exact q'
 ·have q':=I.base.uD b ob u q
  rw[aA (bC q' hn)];exact q'
 ·obtain⟨more,q'⟩:=I.base.uV b ps q
  exact⟨more,by rw[aA (bC q' hn)];exact q'⟩
 ·rw[aA (Ne.symm k1)];exact I.free
 ·rw[aA (k4 x c e)];exact I.mj x c e
 ·obtain⟨e,n,r⟩:=I.pin p hp
  exact⟨e,by rw[aA (k5 p hp)];exact n,r⟩
 ·by_cases hb:b=a
  ·subst hb;rw[ah]at q;cases q;exact new
  ·rw[aA hb]at q
   exact(I.hok b u q).stay (λc v _ r=>r) (λc r=>by rw[aA (bC r hn)];exact r) λc xs r=>by rw[aA (bC r hn)];exact r
structure XB(K:PySem.W.Frag)(D:Addr):Prop where
 hd:PySem.W.hasDictIn K D=true
 ty:PySem.W.typeIn K (.ref D)=some (.type "type")
 be:PySem.W.mroIn K D (.type "BaseException")=some true
theorem S4{M:Model}{A:Around}{E:Value->Shared->Prop}{s:Shared}{K:PySem.W.Frag}{Q:Bool->Shared->Prop}{ea C D:Addr}{o:Obj}{b:Bool}(k:K.In s.heap)(he:s.heap.get? ea=some o)(hc:o.cls= .ref C)
  (h0:PySem.W.subIn K (.ref C) (.ref D)=some b) (h2:XB K D) (q:Q b s):wpAny M A (excMatches (.ref ea) (.ref D)) Q E s:=by
 have h1:PySem.W.kitCls K (.ref C) (.ref D)=some b:=by
  obtain⟨cd,hcd,_⟩:=PySem.W.any_some h2.hd
  show(if((PySem.W.clsIn K D).isSome&&PySem.W.typeIn K (.ref D)==some (.type "type"))=true then PySem.W.subIn K (.ref C) (.ref D)else none)=some b
  rw[if_pos (by rw[hcd,h2.ty];simp)]
  exact h0
 obtain⟨lt,li,ls⟩:=PySem.W.kit_cls (M:=M) k h1
 have lb:=PySem.W.looks_mroIn (M:=M) k h2.be
 have le:PySem.W.Looks M s.heap (typeOf (.ref ea)) (.ref C):=by
  intro A' Q' E' s' kk qq
  unfold typeOf
  exact wpAny_bind (wpAny_loadPart (kk _ _ he) (wpAny_pure (by rw[hc];exact qq)))
 have l0:PySem.W.Looks M s.heap (isInstance (.ref D) (.type "tuple")) false:=lt.andThen (PySem.W.Looks.of_pure tc_notTuple)
 have l1:PySem.W.Looks M s.heap (isExcClass (.ref D)) true:=by
  unfold isExcClass
  exact li.andThen lb
 unfold excMatches
 refine wpAny_bind (l0.here (wpAny_bind ?_))
 simp only[Bool.false_eq_true,if_false]
 refine wpAny_pure ?_
 rw[List.forIn_cons]
 refine wpAny_bind (wpAny_bind (wpAny_bind (l1.here ?_)))
 simp only[Bool.not_true,Bool.false_eq_true,if_false]
 refine wpAny_pure (wpAny_pure ?_)
 refine wpAny_bind (le.here (wpAny_bind ?_))
 rw[List.forIn_cons]
 refine wpAny_bind (wpAny_bind (ls.here ?_))
 cases b with
 |true =>
  simp only[if_true]
  exact wpAny_pure (wpAny_pure (wpAny_pure q))
 |false =>
  simp only[Bool.false_eq_true,if_false]
  exact wpAny_pure (wpAny_pure (wpAny_pure q))
theorem name_goes{X:Cx}{pins:List (Addr×Obj)}{σ:St}{H:Hp}{s:Shared}{M:Model}{A:Around}{E:Value->Shared->Prop}{Q:Unit->Shared->Prop}{i:Nat}{n:Str}{pos:Pos}(I:Inv X pins σ H s)(hN:X.N.Nodup)(hi:X.N[i]? =some n)(hl:X.env.scope.names.lookup n=some .local)
  (h:∀s',Inv X pins (σ.set i none) H s'->Q () s'):wpAny M A (do bindName X.env n .none;unbindBehindTheSuite X.env n pos) Q E s:=by
 obtain⟨m,hn,hlk⟩:=I.loc
 refine wpAny_nameGoes_keeps hl hn (by rw[I.ok.kind];rfl) λh' v hn' sb=>h _ ?_
 have cellK:∀x c,X.env.cells.lookup x=some c->∀v,s.heap.IsCell c v->h'.IsCell c v:=λx c e v ⟨o,ho,hd⟩=>⟨o,(sb.2 c (I.Yj x c e)).trans ho,hd⟩
 refine⟨I.ok,I.os,I.bare,I.base.same λb o e=>sb.2 b (Nat.ne_of_lt (Nat.lt_of_lt_of_le (Heap.lt_size e) I.ok.above)),⟨_,hn',λj y u e1 e2 e3=>?_⟩,λx c e=>?_,I.free,I.mj,λp hp=>?_,I.hok.but I.free sb,by rw[List.length_set];exact I.len,Nat.le_succ_of_le I.up⟩
 ·have ji:i≠j:=λz=>by
   subst z
   rw[List.getElem?_set_self (by rw[I.len];exact(List.getElem?_eq_some_iff.mp hi).1)]at e2
   cases e2
  rw[List.getElem?_set_ne ji]at e2
  obtain⟨w,rv,l⟩:=hlk j y u e1 e2 e3
  refine⟨w,rv,?_⟩
  rcases l with⟨k1,k2⟩|⟨k,c,e,z⟩
  ·refine .inl ⟨k1,?_⟩
   have ne:y≠n:=λz=>ji (yT hN hi (z▸e1))
   show(if y=n then v else m y)=some w
   rw[if_neg ne]
   exact k2
  ·exact .inr ⟨k,c,e,cellK y c e _ z⟩
 ·obtain⟨v,z⟩:=I.cell x c e
  exact⟨v,cellK x c e v z⟩
 ·obtain⟨e,hh,ne,r⟩:=I.pin p hp
  exact⟨(sb.2 _ ne).trans e,hh,ne,r⟩
noncomputable def Lk(K:PySem.W.Frag)(C:Addr)(i:Nat)(ts:TS)(th:TH):TH:=λcls od D σ H=>∃Ce b,cls= .ref Ce/\PySem.W.subIn K (.ref Ce) (.ref C)=some b ∧
 if b=true then ∀ea,H ea=none->ts (D.un i) (σ.set i (some (.ref ea))) (upd H ea (Xm ea cls od))else th cls od D σ H
theorem abY{X:Cx}{i:Nat}{n x:Str}{C:Addr}{b₀:Stmt}{suite:List Stmt}{np pos:Pos}{rest:List ExceptHandler}{ts:TS}{th:TH}(hN:X.N.Nodup)(hi:X.N[i]? =some n)(hl:X.env.scope.names.lookup n=some .local)(hg:Gl X x)(hm:X.mg x=some (.ref C))
  (Vx:XB X.K C) (Mc:∀ea,HP (X.within ea) (b₀::suite) ts) (hr:PH X rest th) (hdb:(x==("__debug__" :Str))=false:=by decide) :
  PH X (.ExceptHandler (some (.Name x np)) (some n) (b₀::suite) pos::rest) (Lk X.K C i ts th):=by
 intro pins s σ H D ea cls od I x h
 obtain⟨Ce,b,rfl,hk,h⟩:=h
 obtain⟨pe,vs,sl,he,hT⟩:=id x
 refine wpAny_handleBy_cons (codeAny_handlers_test (oF (X:=X.within ea) (I.within ea) hg hm ?_ hdb)) (by intro q;cases q)
 refine S4 I.rq he rfl hk Vx ?_
 cases b with
 |false=>exact hr pins s σ H D ea _ od I x h
 |true =>
  refine codeAny_handlers_suite_as ?_
  refine uE (fr:=frs X.stack) x λh1 n1 x1=>?_
  have I1:=I.noted n1
  obtain⟨IT,Le,Ll,Di,_⟩:=id x1
  have I2:Inv X pins σ (upd H ea (Xm ea (.ref Ce) od)) { s with heap:=h1 }:=I1.T8 IT ⟨⟨Le,Ll,Di⟩,⟨_,Di⟩,λh1 h2 ⟨v,s',e⟩ k=>⟨v,s',k _ e⟩⟩
  refine yq (X:=X.within ea) (I2.within ea) hN hi (.inl hl) (v:=.ref ea) rfl (λs2 I3=>?_) (.inr hl)
  have z:=Mc ea pins s2 _ _ (D.un i) I3 (h ea IT.1)
  refine wpAny_mono z (λf s3 q=>?_) λ_ _ z=>False.elim z
  cases f with
  |next =>
   obtain⟨σ',H',J,q⟩:=q
   exact name_goes (J.behind I.ok) hN hi hl λs4 J4=>⟨_,_,J4,q⟩
  |brk =>
   obtain⟨σ',H',J,q⟩:=q
   exact name_goes (J.behind I.ok) hN hi hl λs4 J4=>⟨_,_,J4,q⟩
  |cont =>
   obtain⟨σ',H',J,q⟩:=q
   exact name_goes (J.behind I.ok) hN hi hl λs4 J4=>⟨_,_,J4,q⟩
  |ret u =>
   obtain⟨v,σ',H',J,rv,q⟩:=q
   exact name_goes (J.behind I.ok) hN hi hl λs4 J4=>⟨v,_,_,J4,rv,q⟩
theorem Z6{X:Cx}:PH X [] λ_ _ _ _ _=>False:=λ_ _ _ _ _ _ _ _ _ _ h=>False.elim h
noncomputable def ZP(sp:Sp)(zZ:List V)(E:St->XK)(t:TA):TE:=λσ H Q=>t σ H λvs H1=>sp (vs++zZ) H1 Q (E σ)
section
variable{X:Cx}{k:Nat}{f C:Addr}{fd:FuncData}{ps:List Str}{sp:Sp}{zZ:List V}{ds:List Value}{E:St->XK}{x:Str}{p pos:Pos}{e:Expr}{es:List Expr}{t:TA}
theorem UP(F:aH X.prog X.w X.K X.mg X.base (vN X.prog X.w) k f fd ps sp)(hr:nQ k X.A)(hg:Gl X x)(hm:X.mg x=some (.ref f))(hk:PySem.W.keepIn X.K (.ref f)=true)(hb:Binds X.K fd ps ds)(hd:Vals zZ ds)(LX:Lets X E)
  (ha:PA X (e::es) t) (hdb:(x==("__debug__" :Str))=false:=by decide) (he:starEach (e::es) X.env=(false,eval e X.env)::starEach es X.env:=by rfl) (hpl:(backTo pos (starEach es X.env)).any (·.1)=false:=by rfl) :
  PE X (.Call (.Name x p) (e::es) [] pos) (ZP sp zZ E t):=by
 intro pins s σ H Q I h
 refine wpAny_Call_Name_kw (oF I hg hm ?_ hdb)
 refine PySem.W.callWith_K (h₀:=X.base) I.ok.mod.XY hk (gB (ha pos pins s σ H _ I h) λus s1 ⟨vs,H1,I1,r,q⟩=>⟨I1.rq,?_⟩) he hpl
 have r2:Vals (vs++zZ) (us++ds):=r.append hd
 have hl:(us++ds).length=ps.length:=by rw[←r2.length];exact F.len _ _ _ _ q
 refine wpAny_call (codeAny_mono (F.run X.A X.stack s1 H1 ⟨us,[]⟩ (us++ds) (vs++zZ) Q (E σ) hr I1.Xo (hb s1 us I1.rq hl) r2 q) λrr s' hq=>?_)
 cases rr with
 |error e=>exact LX.pass I1 hq
 |ok fl =>
  cases fl with
  |ret u=>exact I1.after hq
  |next=>exact False.elim hq
  |brk=>exact False.elim hq
  |cont=>exact False.elim hq
end
end L2
namespace L2
open PySem PySem.Spec PyProof.Rows
end L2
namespace L2
open PySem PySem.Spec PyProof.Rows
section
variable{X:Cx}
noncomputable abbrev TJ:=St->Hp->Str->(Str->Hp->Prop)->Prop
noncomputable def PJ(X:Cx)(es:List Expr)(tj:TJ):Prop:=∀(pins:List (Addr×Obj)) (s:Shared) (σ:St) (H:Hp) (acc:Str) (R:Str->Hp->Prop),Inv X pins σ H s->tj σ H acc R →
 Joins (model X.prog X.w) X.A X.xe (evalEach es X.env) acc (λout s1=>out.length<=sizeLine/\∃H1,Inv X pins σ H1 s1/\R out H1) s
theorem Z4:PJ X [] (λ_ H acc R=>acc.length<=sizeLine/\R acc H):=λ_ _ _ H _ _ I h=>⟨h.1,H,I,h.2⟩
theorem ye{e:Expr}{es:List Expr}{te:TE}{tj:TJ}(he:PE X e te)(hr:PJ X es tj)(hx:evalEach (e::es) X.env=eval e X.env::evalEach es X.env:=by rfl):
  PJ X (e::es) (λσ H acc R=>te σ H λv H1=>∃y,v= .str y/\(acc++y).length<=sizeLine/\tj σ H1 (acc++y) R):=by
 intro pins s σ H acc R I h
 rw[hx]
 refine gB (he pins s σ H _ I h) λu s1 ⟨v,H1,I1,r,y,e1,hl,q⟩=>?_
 subst e1
 obtain⟨t,rfl⟩:=r
 exact⟨y,t,rfl,hl,hr pins s1 σ H1 _ R I1 q⟩
theorem A8{M:Model}{A:Around}{E:Value->Shared->Prop}:∀{parts:List (Sem Value)} {acc:Str} {Q Q':Str->Shared->Prop} {s:Shared},Joins M A E parts acc Q s->(∀out s1,Q out s1->Q' out s1)->Joins M A E parts acc Q' s
 |[],_,_,_,_,h,k=>k _ _ h
 |_::_,_,_,_,_,h,k=>gB h λ_ _ ⟨y,t,e,hl,q⟩=>⟨y,t,e,hl,A8 q k⟩
theorem WM{v₁ v₂:Expr}{rest:List Expr}{pos:Pos}{tj:TJ}(h:PJ X (v₁::v₂::rest) tj):PE X (.JoinedStr (v₁::v₂::rest) pos) (λσ H Q=>tj σ H Str.empty λout H1=>Q (.str out) H1):=by
 intro pins s σ H Q I q
 refine wpAny_JoinedStr (A8 (h pins s σ H Str.empty _ I q) λout s1 ⟨hl,H1,I1,q1⟩=>⟨hl,.str out,H1,I1.tok _,⟨_,rfl⟩,q1⟩)
theorem UL{value:Expr}{pos:Pos}{te:TE}(he:PE X value te):PE X (.FormattedValue value (-1) none pos) (λσ H Q=>te σ H λv H1=>∃i:Int,v= .int i/\i.natAbs.log2<1920/\Q (.str (Str.ofString (toString i))) H1):=by
 intro pins s σ H Q I h
 refine wpAny_FormattedValue_plain (gB (he pins s σ H _ I h) λu s1 ⟨v,H1,I1,r,i,e,hl,q⟩=>?_)
 subst e
 obtain⟨t,rfl⟩:=r
 exact wpAny_formatField_int hl ⟨.str (Str.ofString (toString i)),H1,I1.tok _ (by show s1.toks<=_;omega),⟨_,rfl⟩,q⟩
end
structure Im(K:PySem.W.Frag)(C:Addr):Prop where
 ga:PySem.W.findIn K (.ref C) "__getattribute__" =some (some (.builtin "BaseException.__getattribute__"))
 gn:PySem.W.findIn K (.ref C) "__getattr__" =some none
 hd:PySem.W.hasDictIn K C=true
 ha:PySem.W.findIn K (.ref C) "__class__" =some (some (.builtin "object.__class__"))
 hn:PySem.W.specialIn K (.builtin "object.__class__") "__get__" =some (some (.builtin "getset_descriptor.__get__"))
 htk:PySem.W.takesIn K (.builtin "object.__class__")=some true
 hm:PySem.W.mroIn K C (.type "object")=some true
 hb:PySem.W.mroIn K C (.type "BaseException")=some true
end L2
namespace L2
open PySem PySem.Spec PyProof.Rows
end L2
namespace GP
open PySem L2 oH
end GP
namespace L2
open PySem PySem.Spec PyProof.Rows
theorem yC{X:Cx}:Iq X (λx lo hi H Q=>∃y,x= .str y/\y.length<=sizeLine/\Q (.str (Txt.slice y lo hi)) H):=by
 intro pins s σ H x v vl vu lo hi sl Q I rx hs pl pu h
 obtain⟨y,rfl,hz,q⟩:=h
 obtain⟨t,rfl⟩:=rx
 refine⟨"str",_,PySem.F.slot_str_getitem.lookup,typeIs_str _ _ _,?_⟩
 have fin:(Txt.slice y lo hi).length<=sizeLine/\∀t' k,s.toks<=k->EP X pins σ Q (.str (Txt.slice y lo hi) t') { s with toks:=k }:=⟨Nat.le_trans (Txt.slice_le y _ _) hz,λt' k hk=>⟨.str (Txt.slice y lo hi),H,I.tok k hk,⟨_,rfl⟩,q⟩⟩
 refine TK.cZ (Nat.le_refl s.toks) ?_
 cases pl with
 |none =>
  cases pu with
  |none=>exact wpAny_getItem_str_slice (l:=none) (u:=none) (st:=none) hs rfl (post_val_or_str fin)
  |int j u=>exact wpAny_getItem_str_slice (l:=none) (u:=some (j,u)) (st:=none) hs rfl (post_val_or_str fin)
 |int i u =>
  cases pu with
  |none=>exact wpAny_getItem_str_slice (l:=some (i,u)) (u:=none) (st:=none) hs rfl (post_val_or_str fin)
  |int j u'=>exact wpAny_getItem_str_slice (l:=some (i,u)) (u:=some (j,u')) (st:=none) hs rfl (post_val_or_str fin)
end L2
namespace GP
open PySem L2 oH
theorem QF{xs:List V}{n:Nat}(h:n<=xs.length):wD xs none (some (n:Int))=xs.take n:=by
 unfold wD
 rw[HT.NW,HT.Ro,List.drop_zero,Nat.sub_zero,Nat.min_eq_left h]
theorem zw{xs:List V}{n:Nat}(h:n<=xs.length):wD xs (some (n:Int)) none=xs.drop n:=by
 unfold wD
 rw[HT.NW,HT.Ro,Nat.min_eq_left h,List.take_of_length_le]
 rw[List.length_drop]
 exact Nat.le_refl _
end GP
namespace L2
open PySem PySem.Spec PyProof.Rows
section
variable{prog:Program}{w:World}{A:Around}{E:Value->Shared->Prop}{h:Heap}{gs:Array GenState}{dr:Drawn}{tk:Nat}{os:OsState}
variable{nm qn:Str}{C N:Addr}{bs tl bmB bmN:List Value}{hdct:Bool}{sn:List Str}{sub:List Value}{ab:Bool}{col:Option Bool}{dd:Option Addr}{k0 k1 k2 k3 k5:Option Value}{B Bn newId nid initId inN:String}
theorem yl{mN:Str->Option Value}{rest:List Value}{fI:Addr}{oI:Obj}{Q:Fin->Shared->Prop}(Fn:ExcBaseFacts Bn newId inN bmN)(hBn:bmB.contains (.type Bn)=true)(FB:ExcBaseFacts B nid initId bmB)(T:OwnTail h bmB tl)
  (hob:h.get? C=some (excClassObj nm qn C N bs tl hdct sn sub ab col dd k0 k1 k2 k3 k5 newId)) (hns:h.Ns N mN) (Ig:mN "__init__" =some (.ref fI)) (hfo:h.get? fI=some oI) (hfc:oI.cls= .type "function")
  (hq:∀h' e,Heap.MadeExcOf h h' e (.ref C) rest->wpAny (model prog w) A (call (.ref fI) (.ref e::rest)) (λr s'=>r= .none/\Q (.done (.ret (.ref e))) s') E ⟨h',gs,dr,tk,os⟩) (hz:rest.length<=sizeLine) :
  wpAny (model prog w) A (Builtin.«type.__call__» ⟨.ref C::rest,[]⟩) Q E ⟨h,gs,dr,tk,os⟩:=by
 repeat (first|with_reducible refine wpAny_loadPart_at hob ?_|with_reducible refine wpAny_madeBy_exc hob ?_|wp_step)
 refine codeAny_call_builtin_code (Code.quiet_builtin _ Fn.quiet) (wpAny_check_new_subU Fn hBn T hob ?_)
 refine codeAny_exc_new_subU Fn hBn FB T hob ?_ hz
 show wpAny _ _ _ _ _ _
 have kp:∀b o,h.get? b=some o->((h.push { cls:=.type "tuple",data:=.seq rest.toArray }).push { cls:=.ref C,data:=.fields #[.ref h.objs.size,.none,.none,.none,.bool false,.none] }).get? b=some o:=λb o e=>Heap.get?_push_of_some _ (Heap.get?_push_of_some _ e)
 have KP:=kp _ _ hob
 have ahi:=kp _ _ hfo
 have ag3:=hns.keeps kp
 have T1:=T.keeps kp
 have Yd:((h.push { cls:=.type "tuple",data:=.seq rest.toArray }).push { cls:=.ref C,data:=.fields #[.ref h.objs.size,.none,.none,.none,.bool false,.none] }).get? (h.objs.size+1)=some { cls:=.ref C,data:=.fields #[.ref h.objs.size,.none,.none,.none,.bool false,.none] }:=by heap_get
 have hself:(Value.ref C::tl).contains (.ref C)=true:=by simp
 unfold isInstance
 repeat (first|with_reducible refine wpAny_loadPart_at Yd ?_|(with_reducible refine wpAny_isSubtype_exc KP ?_;rw[hself])|wp_step)
 show wpAny _ _ (typeLookup (.ref C) _) _ _ _
 refine wpAny_typeLookup_tail KP ag3 T1 FB.mroIs FB.init.lookup ?_
 rw[Ig]
 refine wpAny_holding (wpAny_bind ?_)
 unfold bindSpecial
 refine wpAny_bind (wpAny_typeOf (T:= "function") ⟨_,ahi,hfc⟩ ?_)
 rw[if_pos (by decide)]
 have made:Heap.MadeExcOf h ((h.push { cls:=.type "tuple",data:=.seq rest.toArray }).push { cls:=.ref C,data:=.fields #[.ref h.objs.size,.none,.none,.none,.bool false,.none] }) (h.objs.size+1) (.ref C) rest :=
  ⟨kp,Heap.get?_none_of_le (Nat.le_succ _),h.objs.size,Yd,Heap.get?_none_of_le (Nat.le_refl _),Heap.get?_push_of_some _ (Heap.get?_push_at rfl rfl)⟩
 refine wpAny_pure (wpAny_bind (wpAny_mono (hq _ _ made) (λr s' hr=>?_) λ_ _ x=>x))
 obtain⟨rfl,hQ⟩:=hr
 wp_walk
 exact hQ
theorem Te{mN:Str->Option Value}{rest:List Value}{fI:Addr}{oI:Obj}{Q:Value->Shared->Prop}(Fn:ExcBaseFacts Bn newId inN bmN)(hBn:bmB.contains (.type Bn)=true)(FB:ExcBaseFacts B nid initId bmB)(T:OwnTail h bmB tl)
  (hob:h.get? C=some (excClassObj nm qn C N bs tl hdct sn sub ab col dd k0 k1 k2 k3 k5 newId)) (hns:h.Ns N mN) (Ig:mN "__init__" =some (.ref fI)) (hfo:h.get? fI=some oI) (hfc:oI.cls= .type "function")
  (hq:∀h' e,Heap.MadeExcOf h h' e (.ref C) rest->wpAny (model prog w) (A.under (.builtin "type.__call__" ⟨.ref C::rest,[]⟩)) (call (.ref fI) (.ref e::rest)) (λr s'=>r= .none/\Q (.ref e) s') E ⟨h',gs,dr,tk,os⟩) (hz:rest.length<=sizeLine) :
  wpAny (model prog w) A (call (.ref C) rest) Q E ⟨h,gs,dr,tk,os⟩:=by
 have l1:=tc_lookup
 have l2:=tc_bind (.ref C)
 have hTy:(⟨h,gs,dr,tk,os⟩:Shared).TypeIs (.ref C) "type" :=⟨_,hob,rfl⟩
 refine wpAny_call (codeAny_of_tree ?_)
 show wpAny _ _ (callAny (.ref C) _) _ _ _
 repeat (any_goals (first|assumption|with_reducible refine wpAny_loadPart_at hob ?_|wp_step))
 refine⟨rfl,codeAny_call_builtin_at (Code.quiet_builtin _ (by decide +kernel)) entry_typeCall (wpAny_check_type_call_sub hob (yl Fn hBn FB T hob hns Ig hfo hfc (λh' e hm=>?_) hz))⟩
 exact hq h' e hm
end
end L2
namespace L2
open PySem PySem.Spec PyProof.Rows
noncomputable def newX(e C:Addr)(od:Option Addr):HO:=.ext λh=>∃vs sl,h.get? e=some ⟨.ref C,od,.fields vs,sl⟩/\vs[1]? =some .none
noncomputable def Ic(dx:Addr)(fs:List (Str×V)):HO:=.ext λh=>∃mA,h.Ns1 dx mA/\(∀f,qV (fs.lookup f) (mA f))/\PySem.Within mA (fs.map (·.1))
section
variable{P:Program}{w:World}{H:Hp}{h:Heap}
theorem G1{e C:Addr}{od:Option Addr}{vs:Array Value}{sl:Array (Option Value)}(he:h.get? e=some ⟨.ref C,od,.fields vs,sl⟩)(h1:vs[1]? =some .none):c7 P w H h e (newX e C od) :=
 ⟨⟨vs,sl,he,h1⟩,⟨_,he⟩,λ_ _ ⟨v,s,e,z⟩ k=>⟨v,s,k _ e,z⟩⟩
theorem Pz{dx:Addr}{fs:List (Str×V)}{mA:Str->Option Value}(n:h.Ns1 dx mA)(r:∀f,qV (fs.lookup f) (mA f))(wi:PySem.Within mA (fs.map (·.1))):c7 P w H h dx (Ic dx fs) :=
 ⟨⟨mA,n,r,wi⟩,(let ⟨o,_,_,e,_⟩:=n;⟨o,e⟩),λ_ _ ⟨m,n,r,wi⟩ k=>⟨m,n.at k,r,wi⟩⟩
end
noncomputable def del(H:Hp)(e:Addr):Hp:=λb=>if b=e then none else H b
theorem sj{H:Hp}{e b:Addr}(h:b≠e):del H e b=H b:=by unfold del;rw[if_neg h]
theorem OM{H:Hp}{e:Addr}:del H e e=none:=by unfold del;rw[if_pos rfl]
theorem vo{H:Hp}{e b:Addr}(h:H b=none):del H e b=none:=by unfold del;split<;>first|rfl|exact h
theorem Yr{H:Hp}{a:Addr}{o:HO}(h:H a=some o):upd H a o=H:=by
 funext b
 unfold upd
 split
 ·rename_i z;rw[z,h]
 ·rfl
section
variable{X:Cx}{pins:List (Addr×Obj)}{σ:St}{H:Hp}{s:Shared}
theorem Inv.drop{e:Addr}{φ:Heap->Prop}(I:Inv X pins σ H s)(he:H e=some (.ext φ)):Inv X pins σ (del H e) s:=by
 have ne:∀{b:Addr} {o:HO},H b=some o->(∀ ψ,o≠ .ext ψ)->b≠e:=λ{b o} hb n z=>by
  subst z
  rw[he]at hb
  exact n _ (Option.some.inj hb).symm
 refine⟨I.ok,I.os,I.bare,⟨I.base.keep,I.base.slot,λb ob q n hx=>vo (I.base.free b ob q n hx),I.base.there,λb xs q=>?_,λb ob u q=>?_,λb ps q=>?_⟩,I.loc,I.cell,vo I.free,λx c q=>vo (I.mj x c q),λp hp=>?_,λb u q=>?_,I.len,I.up⟩
 ·have q':=I.base.tups b xs q
  rw[sj (ne q' λψ z=>by cases z)];exact q'
 ·have q':=I.base.uD b ob u q
  rw[sj (ne q' λψ z=>by cases z)];exact q'
 ·obtain⟨more,q'⟩:=I.base.uV b ps q
  exact⟨more,by rw[sj (ne q' λψ z=>by cases z)];exact q'⟩
 ·obtain⟨a,n,r⟩:=I.pin p hp
  exact⟨a,vo n,r⟩
 ·have hb:b≠e:=λz=>by rw[z,OM]at q;cases q
  rw[sj hb]at q
  exact(I.hok b u q).stay (λc v _ r=>r) (λc r=>by rw[sj (ne r λψ z=>by cases z)];exact r) λc xs r=>by rw[sj (ne r λψ z=>by cases z)];exact r
end
section
variable{M:Model}{A:Around}{E:Value->Shared->Prop}{env:Env}
variable{nm q:Str}{C N:Addr}{bs bm:List Value}{hdct:Bool}{sn:List Str}{sub:List Value}{ab:Bool}{col:Option Bool}{dd:Option Addr}{k0 k1 k2 k3 k5:Option Value}{newId:String}
theorem P8 {s:Shared} {x:Sem Value} {Q:Flow->Shared->Prop} (hbase:bm.contains (.type "BaseException")=true) (hh:A.handled=none)
  (h:wpAny M A x (λv s₁=>∃e od vs sl,v= .ref e/\s₁.heap.get? C=some (excClassObj nm q C N bs bm hdct sn sub ab col dd k0 k1 k2 k3 k5 newId) ∧
   s₁.heap.get? e=some ⟨.ref C,od,.fields vs,sl⟩/\vs[1]? =some .none/\E (.ref e) s₁) E s):wpAny M A (raiseStmt env (some x) none) Q E s:=by
 have My:(Value.ref C::bm).contains (.type "BaseException")=true:=by rw[List.contains_cons,hbase,Bool.or_true]
 unfold raiseStmt
 refine wpAny_bind (wpAny_mono h (λv s₁ h₁=>?_) λ_ _ x=>x)
 obtain⟨e,od,vs,sl,rfl,hC,he,hv,hE⟩:=h₁
 obtain⟨hp,g,d,tk,os⟩:=s₁
 repeat (first|with_reducible refine wpAny_loadPart_at he ?_|with_reducible refine wpAny_loadPart_at hC ?_|(with_reducible refine wpAny_isSubtype_exc hC ?_;rw[My])|wp_step)
 rw[hv]
 refine wpAny_pure ?_
 rw[if_neg (by decide)]
 exact wpAny_pure (wpAny_raiseNew_none hh hE)
end
noncomputable def TX:List Value:=[.type "ValueError",.type "Exception",.type "BaseException",.type "object"]
structure RZ(K:PySem.W.Frag)(C fI:Addr):Prop where
 obj:∀h:Heap,K.In h->∃d:XP,h.get? C=some (d.obj C "ValueError.__new__")/\h.Ns d.N d.mN/\d.mN "__init__" =some (.ref fI)/\OwnTail h TX d.bm
noncomputable def QE(K:PySem.W.Frag)(C fI:Addr):Bool:=match K.lookup C with
 |some ⟨.type "type",_,.cls cd,sl⟩=>(match cd.mro,sl.toList with
  | .ref C'::bm,[_,_,_,_,some (.builtin n),_]=>C'==C&&n== "ValueError.__new__" && !cd.hasDel&&PySem.W.tailIn K TX bm&&PySem.W.nsOkIn K cd.ns&&PySem.W.nsIn K cd.ns "__init__" ==some (some (.ref fI))
  |_,_=>false)
 |_=>false
theorem Qg{K:PySem.W.Frag}{h:Heap}{N:Addr}{mg:Str->Option Value}{n:Str}{v:Value}(X:K.In h)(G:h.Ns N mg)(e:PySem.W.nsIn K N n=some (some v)):mg n=some v:=by
 obtain⟨o,es,ep,ho,hd,_,hf⟩:=G
 unfold PySem.W.nsIn at e
 split at e
 ·rename_i c d es' n' sl q
  have:=X _ _ q
  rw[ho]at this
  cases this
  cases hd
  split at e
  ·rename_i he
   cases e
   rw[←hf]
   unfold nsFind findBy
   rw[←Array.find?_toList,he]
   rfl
  ·split at e
   ·cases e
   ·cases e
 ·cases e
theorem MZ{K:PySem.W.Frag}{C fI:Addr}(q:QE K C fI=true):RZ K C fI:=by
 refine⟨λh k=>?_⟩
 unfold QE at q
 split at q
 ·rename_i dd cd sl hob
  split at q
  ·rename_i C' bm k0 k1 k2 k3 nn k5 hmr Vn
   simp only[Bool.and_eq_true,beq_iff_eq,Bool.not_eq_true']at q
   obtain⟨⟨⟨⟨⟨e1,e2⟩,e3⟩,e4⟩,e5⟩,e6⟩:=q
   subst e1 e2
   obtain⟨nm,bs,mro,ns,qn,hd,sn,sub,ab,col,del⟩:=cd
   dsimp only at hmr e3 e5 e6
   subst hmr e3
   have hsl:sl= #[k0,k1,k2,k3,some (.builtin "ValueError.__new__"),k5]:=by
    obtain⟨l⟩:=sl
    simp only at Vn
    rw[Vn]
   subst hsl
   have G:h.Ns ns _:=.of_isNs (PySem.W.isNs_of_in k e5)
   exact⟨⟨nm,qn,ns,bs,bm,hd,sn,sub,ab,col,dd,k0,k1,k2,k3,k5,_⟩,k _ _ hob,G,Qg k G e6,PySem.W.tail_of_in k e4⟩
  ·cases q
 ·cases q
structure XBase(K:PySem.W.Frag)(W:Addr):Prop where
 ga:PySem.W.specialIn K (.ref W) "__getattribute__" =some (some (.builtin "type.__getattribute__"))
 rd:PySem.W.readsIn K W (.type "type")=true
 fd:PySem.W.findCls K (.ref W) (.type "type") "__init__" =some (.val (.builtin "ValueError.__init__"))
noncomputable def uc:List Value->Bool
 |[]=>false
 |v::r=>(v::r)==TX||match v with| .ref _=>uc r|_=>false
structure Cr(K:PySem.W.Frag)(C:Addr):Prop where
 hd:PySem.W.hasDictIn K C=true
 po:((PySem.W.clsIn K C).any λcd=>uc cd.mro)=true
 sa:PySem.W.findIn K (.ref C) "__setattr__" =some (some (.builtin "object.__setattr__"))
theorem A2(self:Value):∀{l:List Value},uc l=true->refuseLoop self "__setattr__" l=pure ()
 |[],e=>by cases e
 |v::r,e=>by
  unfold uc at e
  rcases Bool.or_eq_true_iff.mp e with q|q
  ·rw[beq_iff_eq.mp q];exact PySem.F.store_ValueError.passes self
  ·split at q
   ·rw[refuseLoop_ref];exact A2 self q
   ·cases q
theorem TV:∀{l:List Value},uc l=true->l.contains (.type "object")=true
 |[],e=>by cases e
 |v::r,e=>by
  unfold uc at e
  rcases Bool.or_eq_true_iff.mp e with q|q
  ·rw[beq_iff_eq.mp q];decide +kernel
  ·split at q
   ·rw[List.contains_cons,TV q,Bool.or_true]
   ·cases q
end L2
namespace L2
open PySem PySem.Spec PyProof.Rows
noncomputable def abH(K:PySem.W.Frag)(t:TA):TE:=λσ H Q=>t σ H λvs H1=>∃e C fI od y,vs=[.ref e,y]/\H1 e=some (newX e C od)/\RZ K C fI/\Q .ko H1
theorem WQ {X:Cx} {x:Str} {W:Addr} {np apos cpos:Pos} {a b:Expr} {t:TA} {pl:Sem Bool} (hW:XBase X.K W) (hg:Gl X x) (hm:X.mg x=some (.ref W)) (ha:PA X [a,b] t) (hdb:(x==("__debug__" :Str))=false:=by decide)
  (hev:eval (.Call (.Attribute (.Name x np) "__init__" apos) [a,b] [] cpos) X.env=(do
   let ov ←eval (.Name x np) X.env
   standAt apos.atName
   let (f,first) ←holding [ov] (getMethod ov "__init__" pl)
   callWith cpos f first (backTo cpos (starEach [a,b] X.env)) (backToKw cpos (keywordEach [] X.env))):=by rfl)
  (hs:starEach [a,b] X.env=(false,eval a X.env)::starEach [b] X.env:=by rfl) (hpl:(backTo cpos (starEach [b] X.env)).any (·.1)=false:=by rfl) :
  PE X (.Call (.Attribute (.Name x np) "__init__" apos) [a,b] [] cpos) (abH X.K t):=by
 intro pins s σ H Q I h
 refine PySem.W.methodCall_KW (pl:=pl) (oF I hg hm ?_ hdb) hev
 refine PySem.W.method_cls I.rq hW.ga (PySem.W.cls_value I.rq hW.rd hW.fd (by decide +kernel) ?_)
 have hA:=ha cpos pins { s with toks:=s.toks+1 } σ H _ (I.tok _) h
 rw[hs]at hA ⊢
 refine Calls.callWith_builtin (by show(false||(backTo cpos (starEach [b] X.env)).any (·.1))=false;rw[hpl]<;>rfl) (Calls.evalArgs_plain ?_)
 refine gB hA λus s2 ⟨vs,H2,I2,r2,e,C,fI,od,y,e1,hx,O,q⟩=>?_
 subst e1
 obtain⟨u1,u2,rfl,Lp,_⟩:=vals2 r2
 cases (show u1=Value.ref e from Lp)
 obtain⟨⟨vs,sl,he,h1⟩,_,_⟩:=(show c7 X.prog X.w H2 s2.heap e (newX e C od) from I2.hok e _ hx)
 obtain⟨d,hC,hN,hni,T⟩:=O.obj s2.heap I2.rq
 have F:=PySem.F.excBase_ValueError
 have I2':=I2
 obtain⟨hh,gs,dr,tk,os⟩:=s2
 show wpAny _ _ (call (.builtin "ValueError.__init__") [.ref e,u2]) _ _ _
 refine wpAny_call (codeAny_call_builtin F.init.plain F.initEntry (wpAny_check_init_subU F T hC he rfl ?_))
 have hv:0<vs.size:=Nat.lt_of_le_of_lt (Nat.zero_le 1) (Array.getElem?_eq_some_iff.mp h1).1
 have hv0:vs[0]? =some vs[0]:=Array.getElem?_eq_getElem hv
 wp_walk
 rw[hv0]
 refine wpAny_pure ?_
 have hg:(hh.push { cls:=.type "tuple",data:=.seq #[u2] }).get? e=some ⟨.ref C,od,.fields vs,sl⟩:=Heap.get?_push_of_some _ he
 refine wpAny_bind (wpAny_setField hg rfl hv ?_)
 have hu:=Heap.get?_update_self (Obj.mapFields (·.setIfInBounds 0 (Value.ref hh.objs.size))) hg rfl
 have fin:EP X pins σ Q Value.none ⟨(hh.push { cls:=.type "tuple",data:=.seq #[u2] }).update e (Obj.mapFields (·.setIfInBounds 0 (Value.ref hh.objs.size))),gs,dr,tk,os⟩:=by
  refine⟨.ko,H2,?_,rfl,q⟩
  have J1:=I2'.kept (h':=hh.push { cls:=.type "tuple",data:=.seq #[u2] }) (t':=tk) λb u z=>Heap.get?_push_of_some _ z
  have J2:=J1.write (x:=e) (e:=e) (o:=newX e C od) (t':=tk) (by rw[hx];exact True.intro) (.inl rfl) (λb u hb z=>(Heap.get?_update_other _ _ (Ne.symm hb)).trans z) ⟨_,hu⟩ (G1 hu (by simp[h1]))
  rw[Yr hx]at J2
  exact J2
 cases hq:vs[0]with
 |ref t0=>exact wpAny_letGo (wpAny_pure fin)
 |_=>exact wpAny_pure (wpAny_pure fin)
end L2
namespace L2
open PySem PySem.Spec PyProof.Rows
section
variable{prog:Program}{w:World}{A:Around}{E:Value->Shared->Prop}{s:Shared}{K:PySem.W.Frag}{x dx C:Addr}{name:Str}{v:Value}{R:Result->Shared->Prop}
theorem Ry{ox:Obj}{od:Option Obj}{tk:Tok}(X:K.In s.heap)(I:PySem.W.InstAt s.heap x ox C od)(S:Cr K C)(ht:PySem.W.takerIn K C name=some none)
  (h:∀b,wpAny (model prog w) A.in1 (Builtin.ObjectAttr.storeInOwnDict (.ref x) (.ref C) (.str name tk) name v b)
   (λfin s'=>match fin with| .done f=>R (.ok f) s'| .again c'=>c'.quiet=true/\codeAny (model prog w) A c' R s') (λe s'=>R (.error e) s') s) :
  codeAny (model prog w) A (.call (.builtin "object.__setattr__") ⟨[.ref x,.str name tk,v],[]⟩) R s:=by
 have SF:=PySem.F.store_object
 obtain⟨cd,hc,ho⟩:=PySem.W.any_some S.po
 have ne:cd.mro.isEmpty=false:=by cases q:cd.mro with|nil=>rw[q]at ho;cases ho|cons _ _=>rfl
 have sub:PySem.W.Looks (model prog w) s.heap (isInstance (.ref x) (.type "object")) true:=I.type.andThen (PySem.W.looks_mroIn X (by unfold PySem.W.mroIn;rw[hc,Option.bind_some,if_neg (by rw[ne];decide),TV ho]))
 refine codeAny_call_builtin SF.slot.plain SF.entry (@PySem.W.check_slot (model prog w) _ _ s "object.__setattr__" "object" "__setattr__" (.ref x) [.str name tk,v] [] _ SF.kind SF.split sub (SF.args (.ref x) (.str name tk) v) ?_)
 obtain⟨attr,ha,hr⟩:=Option.bind_eq_some_iff.mp ht
 have hm:PySem.W.Looks (model prog w) s.heap (mroOf (.ref C)) cd.mro:=(PySem.W.looks_clsIn X hc).andThen .now
 have L3:PySem.W.Looks (model prog w) s.heap (Builtin.ObjectAttr.storeTaker? attr) none:=by
  cases attr with
  |none=>cases hr;exact .now
  |some a =>
   obtain⟨b,hb,e⟩:=Option.map_eq_some_iff.mp hr
   refine(PySem.W.looks_takesIn X hb).andThen ?_
   cases b with
   |false=>exact .now
   |true=>cases e
 rw[PySem.W.osa_eq,refuse_eq]
 refine wpAny_bind (wpAny_bind (I.type.here (wpAny_bind (hm.here ?_))))
 rw[A2 _ ho]
 refine wpAny_pure (wpAny_bind (I.type.here (wpAny_bind ((PySem.W.looks_findIn X ha).here (wpAny_bind (L3.here ?_))))))
 exact h _
theorem PV{vs:Array Value}{sl:Array (Option Value)}{mA:Str->Option Value}{ns:List Str}{Q:Unit->Shared->Prop}(X:K.In s.heap)(S:Cr K C)(ht:PySem.W.takerIn K C name=some none)
  (he:s.heap.get? x=some ⟨.ref C,some dx,.fields vs,sl⟩) (hn:s.heap.Ns1 dx mA) (hw:PySem.Within mA ns) (hsz:ns.length+1<=sizeLine)
  (h:∀h',h'.Ns1 dx (λy=>if y=name then some v else mA y)->Heap.SameBut dx s.heap h'->Q () { s with heap:=h',toks:=s.toks+2 }):wpAny (model prog w) A (setAttr (.ref x) name v) Q E s:=by
 obtain⟨od,ho,hl⟩:=wj hn
 have J:PySem.W.InstAt s.heap x ⟨.ref C,some dx,.fields vs,sl⟩ C (some od):=⟨he,rfl,rfl,ho⟩
 refine PySem.W.set_plain X J S.sa (Ry (s:={ s with toks:=s.toks+1 }) X J S ht λb=>?_)
 obtain⟨cd,hc,hd'⟩:=PySem.W.any_some S.hd
 refine wpAny_bind (wpAny_pure (wpAny_bind (wpAny_bind (wpAny_loadPart he (wpAny_bind (PySem.W.Looks.here (s:={ s with toks:=s.toks+1 }) (PySem.W.looks_clsIn X hc) ?_))))))
 rw[hd']
 refine wpAny_pure (a:=some dx) (wpAny_bind (wpAny_pure (wpAny_bind ?_)))
 refine wpAny_nsSet1 (s:={ s with toks:=s.toks+1 }) hn λh' hn2 hs2=>?_
 obtain⟨oD,esD,JR,Ci,Ck,Cm⟩:=hn2.count (PySem.Within.cons name v hw)
 refine wpAny_bind (wpAny_lookBehind Ci (by rw[Ck];exact pastItsLine_dict (Nat.le_trans Cm (by rw[List.length_cons];omega))) ?_)
 exact wpAny_pure (h _ hn2 hs2)
theorem PX{vs:Array Value}{sl:Array (Option Value)}{Q:Unit->Shared->Prop}(X:K.In s.heap)(S:Cr K C)(ht:PySem.W.takerIn K C name=some none)
  (he:s.heap.get? x=some ⟨.ref C,none,.fields vs,sl⟩)
  (h:∀h',h'.Ns1 s.heap.objs.size (λy=>if y=name then some v else none)->Heap.SameBut s.heap.objs.size ((s.heap.push PySem.W.emptyDict).update x λo=>{ o with dict:=some s.heap.objs.size }) h'->Q () { s with heap:=h',toks:=s.toks+2 }):wpAny (model prog w) A (setAttr (.ref x) name v) Q E s:=by
 have J:PySem.W.InstAt s.heap x ⟨.ref C,none,.fields vs,sl⟩ C none:=⟨he,rfl,rfl,trivial⟩
 refine PySem.W.set_plain X J S.sa (Ry (s:={ s with toks:=s.toks+1 }) X J S ht λb=>?_)
 obtain⟨cd,hc,hd'⟩:=PySem.W.any_some S.hd
 refine wpAny_bind (wpAny_pure (wpAny_bind (wpAny_bind (wpAny_loadPart he (wpAny_bind (PySem.W.Looks.here (s:={ s with toks:=s.toks+1 }) (PySem.W.looks_clsIn X hc) ?_))))))
 rw[hd']
 rw[if_neg (by decide)]
 have hxs:x≠s.heap.objs.size:=Nat.ne_of_lt (Heap.lt_size he)
 have acp:(s.heap.push PySem.W.emptyDict).get? x=some ⟨.ref C,none,.fields vs,sl⟩:=Heap.get?_push_of_some _ he
 show wpAny (model prog w) A.in1 (alloc PySem.W.emptyDict >>= λd=>update x (λo=>{ o with dict:=some d }) >>= λ_=>dictMade (.ref C) x d) _ _ _
 refine wpAny_bind (wpAny_alloc (wpAny_bind (wpAny_update acp ?_)))
 refine wpAny_pure ?_
 have hgd:((s.heap.push PySem.W.emptyDict).update x λo=>{ o with dict:=some s.heap.objs.size }).get? s.heap.objs.size=some PySem.W.emptyDict :=
  (Heap.get?_update_ne _ _ _ _ hxs.symm).trans (Heap.get?_push_size _ rfl)
 have hnd:((s.heap.push PySem.W.emptyDict).update x λo=>{ o with dict:=some s.heap.objs.size }).Ns s.heap.objs.size (λ_=>none) :=
  ⟨_,#[],_,hgd,rfl,λe he=>absurd he (by simp),λ_=>rfl⟩
 show wpAny _ _ (Builtin.ObjectAttr.storeInDict s.heap.objs.size (.str name s.toks) name v) _ _ _
 refine wpAny_bind (wpAny_pure (wpAny_bind ?_))
 refine wpAny_nsSet1 (s:={ s with heap:=(s.heap.push PySem.W.emptyDict).update x λo=>{ o with dict:=some s.heap.objs.size },toks:=s.toks+1 }) (Heap.Ns1.of_empty hnd) λh' hn2 hs2=>?_
 obtain⟨oD,esD,JR,Ci,Ck,Cm⟩:=hn2.count (PySem.Within.cons name v PySem.Within.nil)
 refine wpAny_bind (wpAny_lookBehind Ci (by rw[Ck];exact pastItsLine_dict (Nat.le_trans Cm (by rw[List.length_cons,List.length_nil,sizeLine_eq];omega))) ?_)
 exact wpAny_pure (h _ hn2 hs2)
end
end L2
namespace L2
open PySem PySem.Spec PyProof.Rows
theorem N1{fs:List (Str×V)}{mA:Str->Option Value}{f:Str}{y:V}{u:Value}(r:∀g,qV (fs.lookup g) (mA g))(ry:RelV y u):∀g,qV ((aL f y fs).lookup g) (if g=f then some u else mA g):=λg=>by
 rw[ay]
 by_cases q:g=f
 ·rw[if_pos q,if_pos q];exact ry
 ·rw[if_neg q,if_neg q];exact r g
theorem yi{fs:List (Str×V)}{mA:Str->Option Value}{f:Str}{y:V}{u:Value}(wi:PySem.Within mA (fs.map (·.1))):PySem.Within (λg=>if g=f then some u else mA g) ((aL f y fs).map (·.1)):=λg hg=>by
 by_cases q:g=f
 ·rw[q];exact(qo f y fs).1
 ·refine(qo f y fs).2 g (wi g λz=>hg ?_)
  show(if g=f then some u else mA g)=none
  rw[if_neg q];exact z
noncomputable def abP(K:PySem.W.Frag)(ta tv:TE)(f:Str):TS:=λD σ H=>tv σ H λy H1=>ta σ H1 λx H2=>∃e C,x= .ref e/\Cr K C/\bE K C f ∧
 ((H2 e=some (newX e C none)/\∀dx,H2 dx=none->D.nx σ (upd (upd (upd H2 dx (Ic dx [])) e (newX e C (some dx))) dx (Ic dx (aL f y [])))) ∨
  ∃dx fs,H2 e=some (newX e C (some dx))/\H2 dx=some (Ic dx fs)/\fs.length<1000/\D.nx σ (upd H2 dx (Ic dx (aL f y fs))))
theorem Rr{X:Cx}{o value:Expr}{f:Str}{pos pos':Pos}{ta tv:TE}(ha:PE X o ta)(hv:PE X value tv)(hs:swapsWith value (some (.Attribute o f pos')) pos.line X.env=pure false):PS X (.Assign [.Attribute o f pos'] value pos) (abP X.K ta tv f):=by
 intro pins s σ H D I h
 refine plainObj_wpAny_Assign_Attribute (gB (hv pins s σ H _ I h) λu s1 ⟨y,H1,I1,ry,q⟩=>gB (ha pins s1 σ H1 _ I1 q) λov s2 ⟨x,H2,I2,rx,e,C,ex,S,n,hk⟩=>?_) hs
 subst ex
 obtain rfl:ov=Value.ref e:=rx
 rcases hk with⟨hx,q2⟩|⟨dx,fs,hx,hd,hl,q2⟩
 ·obtain⟨⟨vs,sl,he,h1⟩,_,_⟩:=(show c7 X.prog X.w H2 s2.heap e (newX e C none) from I2.hok e _ hx)
  refine PX I2.rq S n.Uc he λh' hn' sb=>?_
  have ne:e≠s2.heap.objs.size:=Nat.ne_of_lt (Heap.lt_size he)
  have e1:(s2.heap.push PySem.W.emptyDict).get? s2.heap.objs.size=some PySem.W.emptyDict:=Heap.get?_push_size _ rfl
  have n1:(s2.heap.push PySem.W.emptyDict).Ns1 s2.heap.objs.size (λ_=>none):=Heap.Ns1.of_empty ⟨_,#[],_,e1,rfl,(λe he=>absurd he (by simp)),λ_=>rfl⟩
  have Di:(s2.heap.push PySem.W.emptyDict).get? e=some ⟨.ref C,none,.fields vs,sl⟩:=Heap.get?_push_of_some _ he
  have JC:=Heap.get?_update_self (λo=>{ o with dict:=some s2.heap.objs.size }) Di rfl
  have J1:=I2.laid (a:=s2.heap.objs.size) (o:=Ic s2.heap.objs.size []) (h':=s2.heap.push PySem.W.emptyDict) (t':=s2.toks) (λb u q=>Heap.get?_push_of_some _ q) (Nat.le_refl _) (Pz n1 (λ_=>True.intro) (λy hy=>absurd rfl hy))
  have J2:=J1.write (x:=e) (e:=e) (o:=newX e C (some s2.heap.objs.size)) (t':=s2.toks) (by rw[aA ne,hx];exact True.intro) (.inl rfl) (λb u hb q=>(Heap.get?_update_other _ _ (Ne.symm hb)).trans q) ⟨_,JC⟩ (G1 JC h1)
  have J3:=J2.write (x:=s2.heap.objs.size) (e:=s2.heap.objs.size) (o:=Ic s2.heap.objs.size (aL f y [])) (h':=h') (t':=s2.toks+2) (by rw[aA (Ne.symm ne),ah];exact True.intro) (.inl rfl) (λb u hb q=>(sb.2 b hb).trans q) (let ⟨o,_,_,e,_⟩:=hn';⟨o,e⟩)
   (Pz hn' (N1 (mA:=λ_=>none) (λ_=>True.intro) ry) (yi (mA:=λ_=>none) λy hy=>absurd rfl hy)) (ht:=by show s2.toks<=s2.toks+2;omega)
  exact⟨σ,_,J3,q2 _ (I2.hok.fresh (Nat.le_refl _))⟩
 ·obtain⟨⟨vs,sl,he,h1⟩,_,_⟩:=(show c7 X.prog X.w H2 s2.heap e (newX e C (some dx)) from I2.hok e _ hx)
  obtain⟨⟨mA,nA,rA,wA⟩,_,_⟩:=(show c7 X.prog X.w H2 s2.heap dx (Ic dx fs) from I2.hok dx _ hd)
  refine PV I2.rq S n.Uc he nA wA (by rw[List.length_map,sizeLine_eq];omega) λh' hn' sb=>?_
  have J3:=I2.write (x:=dx) (e:=dx) (o:=Ic dx (aL f y fs)) (h':=h') (t':=s2.toks+2) (by rw[hd];exact True.intro) (.inl rfl) (λb u hb q=>(sb.2 b hb).trans q) (let ⟨o,_,_,e,_⟩:=hn';⟨o,e⟩) (Pz hn' (N1 rA ry) (yi wA))
  exact⟨σ,_,J3,q2⟩
structure Io(K:PySem.W.Frag)(C f:Addr):Prop where
 cls:RZ K C f
 fn:PySem.W.isFn K (.ref f)=true
 kp:PySem.W.keepIn K (.ref C)=true
noncomputable def WA(C:Addr)(sp:Sp)(E:St->XK)(t:TA):TS:=λ_ σ H=>t σ H λvs H1=>vs.length<=sizeLine/\∀e,H1 e=none →
 sp (.ref e::vs) (upd H1 e (newX e C none)) (λv H2=>v= .ko/\∃od,H2 e=some (newX e C od)/\E σ (.ref C) od (del H2 e)) (E σ)
theorem Sj{X:Cx}{E:St->XK}{C f:Addr}{x:Str}{np cpos pos:Pos}{k:Nat}{fd:FuncData}{ps:List Str}{sp:Sp}{e:Expr}{es:List Expr}{t:TA}(L:Lets X E)(M:Io X.K C f)
  (F:aH X.prog X.w X.K X.mg X.base (vN X.prog X.w) k f fd ps sp) (hr:nQ (k+1) X.A) (hb:Binds X.K fd ps []) (hc:X.calm=true)
  (hg:Gl X x) (hm:X.mg x=some (.ref C)) (ha:PA X (e::es) t) (hdb:(x==("__debug__" :Str))=false:=by decide) (he:starEach (e::es) X.env=(false,eval e X.env)::starEach es X.env:=by rfl)
  (hpl:(backTo cpos (starEach es X.env)).any (·.1)=false:=by rfl):PS X (.Raise (some (.Call (.Name x np) (e::es) [] cpos)) none pos) (WA C sp E t):=by
 intro pins s σ H D I h
 obtain⟨d,hC,hN,hni,T⟩:=M.cls.obj X.base I.ok.mod.XY
 rw[arm_exec_Raise]
 have FB:=PySem.F.excBase_ValueError
 simp only[evalOpt,Option.map]
 refine wpAny_bind (wpAny_standAt (P8 (C:=C) (nm:=d.nm) (q:=d.q) (N:=d.N) (bs:=d.bs) (bm:=d.bm) (hdct:=d.hdct) (sn:=d.sn) (sub:=d.sub) (ab:=d.ab) (col:=d.col) (dd:=d.dd) (k0:=d.k0) (k1:=d.k1) (k2:=d.k2) (k3:=d.k3) (k5:=d.k5) (newId:= "ValueError.__new__") (T.hasType FB.hasBase) (I.ok.hd hc) ?_))
 refine wpAny_bind (gB (Q:=λv s₁=>∃e od vs sl,v= .ref e/\s₁.heap.get? C=some (d.obj C "ValueError.__new__")/\s₁.heap.get? e=some ⟨.ref C,od,.fields vs,sl⟩/\vs[1]? =some .none/\X.xe (.ref e) s₁) ?_ λv s2 h2=>wpAny_bind (wpAny_standAt (wpAny_pure h2)))
 refine wpAny_Call_Name_kw (oF I hg hm ?_ hdb)
 refine PySem.W.callWith_K (h₀:=X.base) I.ok.mod.XY M.kp (gB (ha cpos pins s σ H _ I h) λus s1 ⟨vs,H1,I1,r,hl,q1⟩=>⟨I1.rq,?_⟩) he hpl
 have hfo:∃o,s1.heap.get? f=some o/\o.cls= .type "function" :=by
  obtain⟨o,ho,hc⟩:=Option.map_eq_some_iff.mp (beq_iff_eq.mp M.fn)
  exact⟨o,I1.rq _ _ ho,hc⟩
 obtain⟨oI,hfo,hfc⟩:=hfo
 have I1':=I1
 obtain⟨hh,gs,dr,tk,os⟩:=s1
 refine Te (N:=d.N) (mN:=d.mN) FB FB.hasB FB (T.keeps I1.bk) (I1.bk _ _ hC) (hN.keeps I1.bk) hni hfo hfc (λh' ea made=>?_) (by show us.length<=sizeLine;rw[←r.length];exact hl)
 obtain⟨t',ht,_,_⟩:=made.there
 have xo:=I1.CM made.new (I1.hok.none_of made.new)
 have J0:Inv X pins σ H1 ⟨h',gs,dr,tk,os⟩:=I1.kept (t':=tk) made.keeps
 have J1:Inv X pins σ (upd H1 ea (newX ea C none)) ⟨h',gs,dr,tk,os⟩:=J0.T8 xo (G1 ht rfl)
 have hq:=q1 ea xo.1
 have r2:Vals (V.ref ea::vs) (Value.ref ea::us):=.cons rfl r
 have hlen:(Value.ref ea::us).length=ps.length:=by rw[←r2.length];exact F.len _ _ _ _ hq
 refine wpAny_call (codeAny_mono (F.run _ X.stack _ _ ⟨Value.ref ea::us,[]⟩ (Value.ref ea::us) _ _ (E σ) (hr.make C us []) (J1.Xo.make C us []) (by have z:=hb _ (Value.ref ea::us) J1.rq (by rw[List.append_nil];exact hlen);rw[List.append_nil]at z;exact z) r2 hq) λrr s' hq'=>?_)
 cases rr with
 |error e=>exact L.pass J1 hq'
 |ok fl =>
  cases fl with
  |ret u =>
   obtain⟨v,H',I3,rv,ev,od,hx,qE⟩:=J1.after hq'
   subst ev
   obtain⟨⟨vs',Tu,he',Bb⟩,_,_⟩:=(show c7 X.prog X.w H' s'.heap ea (newX ea C od) from I3.hok ea _ hx)
   refine⟨rv,ea,od,vs',Tu,rfl,I3.bk _ _ hC,he',Bb,?_⟩
   exact L pins σ (del H' ea) s' ea (.ref C) od (I3.drop hx) ⟨⟨OM,xo.2⟩,vs',Tu,he',.inl Bb⟩ qE
  |next=>exact False.elim hq'
  |brk=>exact False.elim hq'
  |cont=>exact False.elim hq'
end L2
namespace L2
open PySem PySem.Spec PyProof.Rows
section
variable{X:Cx}{a b c:Expr}{ta tb tc:TE}{pos:Pos}{rest:List Expr}
end
end L2
namespace L2
open PySem PySem.Spec PyProof.Rows
noncomputable def Ug(wi:TI)(g:TG)(tt:TT)(te:TE)(p9:St->St):TE:=λσ H Q=>wi σ H λJ H1=>∀l,H1 l=none->∃W:Nat->Nat->List V->Hp->Prop,(∃m,W 0 m [] (upd H1 l (.lst []))) ∧
 ∀i m ys H2,W i m ys H2->(J.stop i H2/\Q (.ref l) H2) ∨
  (J.go i H2/\∀x H3,J.AL i H2 x H3->g x (p9 σ) H3 λwV H4=>Kp (p9 σ) wV/\tt wV H4 λb H5 =>
   if b=true then te wV H5 (λy H6=>H6 l=some (.lst ys)/\ys.length<sizeLine/\∃m',m'<m/\W (i+1) m' (ys++[y]) (upd H6 l (.lst (ys++[y]))))else ∃m',m'<m/\W (i+1) m' ys H5)
theorem acg{A B:Prop}(h:if false=true then A else B):B:=by rw[if_neg Bool.false_ne_true]at h;exact h
theorem acf{A B:Prop}(h:if true=true then A else B):A:=by rw[if_pos rfl]at h;exact h
set_option maxHeartbeats 2000000 in
theorem QG{X:Cx}{elt tg iter test:Expr}{tt:TT}{scope:Scope}{pos pos':Pos}{wi:TI}{g:TG}{te:TE}{N:List Str}{p9:St->St}(hc:X.calm=true)(hS:X.Ok->∃cl,bI X scope cl N p9)(hi:PI X tg iter wi)
  (hg:∀cl C s H ex pn E,PG (kT X scope cl C N s H ex pn E) tg g) (he:∀cl C s H ex pn E,PE (kT X scope cl C N s H ex pn E) elt te) (ht:∀cl C s H ex pn E,PT (kT X scope cl C N s H ex pn E) test tt) (hs:∀x,foldedSetIterable iter X.env x=pure x)
  {pins:List (Addr×Obj)} {s:Shared} {σ:St} {H:Hp} {Q:VK} {use:Option (Value->Sem Unit)} {QQ:Value->Shared->Prop} (I:Inv X pins σ H s) (h:Ug wi g tt te p9 σ H Q)
  (Ie:∀(l C:Addr) (mC:Str->Option Value) (H':Hp) (s':Shared),Inv X pins σ H' s'->rC X pins H' C->s'.heap.Ns C mC->Q (.ref l) H'->compPost (model X.prog X.w) X.A X.xe use QQ (.ref l) C (.ok .next) s') :
  wpAny (model X.prog X.w) X.A (comprehension (.ListComp elt [⟨tg,iter,[test],0⟩] scope pos) scope X.env pos' (newList []) false (eval iter X.env) use) QQ X.xe s:=by
 obtain⟨cl,S⟩:=hS I.ok
 refine wpAny_comprehension_free (use:=use) rfl hs S.clos S.kind S.names (gB (hi pins s σ H _ I h) λv s1 h1=>gB h1 λitv s2 h2=>?_)
 obtain⟨it,fp,tn,J,H2,e,I2,T,st2,f2,hq⟩:=h2
 subst e
 obtain⟨W,⟨m0,w0⟩,turn⟩:=hq _ I2.fresh
 refine wpAny_newObj_type (ON S λHr h₁ G Qv kp=>?_)
 have I3:Inv X pins σ (upd H2 s2.heap.objs.size (.lst [])) { s2 with heap:=s2.heap.push { cls:=.type "list",data:=.seq ([]:List Value).toArray } }:=I2.W4 (t':=s2.toks) .nil (Nat.zero_le _)
 have Ob:∀b o,s2.heap.get? b=some o->(s2.heap.push { cls:=.type "list",data:=.seq ([]:List Value).toArray }).get? b=some o:=λb o e=>Heap.get?_push_of_some _ e
 have f3:∀b∈fp,rC X pins (upd H2 s2.heap.objs.size (.lst [])) b/\b<(s2.heap.push { cls:=.type "list",data:=.seq ([]:List Value).toArray }).objs.size:=λb hb=>by
  obtain⟨o,ho,_⟩:=T.obj _ _ st2 b hb
  have hlt:=Heap.lt_size ho
  obtain⟨f0,f1⟩:=f2 b hb
  exact⟨⟨by rw[aA (Nat.ne_of_lt hlt)];exact f0,f1⟩,Heap.lt_size (Ob b o ho)⟩
 have st3:tn 0 h₁:=T.keep _ _ _ st2 λb _ o e=>kp b o (Ob b o e)
 generalize hR:(λr s'=>compPost (model X.prog X.w) X.A X.xe use QQ (.ref s2.heap.objs.size) (s2.heap.push { cls:=.type "list",data:=.seq ([]:List Value).toArray }).objs.size r s')=R
 generalize tQ:kT X scope Hr (s2.heap.push { cls:=.type "list",data:=.seq ([]:List Value).toArray }).objs.size N { s2 with heap:=s2.heap.push { cls:=.type "list",data:=.seq ([]:List Value).toArray } }
  (upd H2 s2.heap.objs.size (.lst [])) fp (X.pn++pins) (notedBy (model X.prog X.w) X.A (compEnvC scope Hr (s2.heap.push { cls:=.type "list",data:=.seq ([]:List Value).toArray }).objs.size X.env) λe s'=>R (.error e) s')=X'
 have I4:Inv X' [] (p9 σ) (upd H2 s2.heap.objs.size (.lst [])) { s2 with heap:=h₁ }:=by
  subst tQ
  exact Ow (s:={ s2 with heap:=s2.heap.push { cls:=.type "list",data:=.seq ([]:List Value).toArray } }) S G I3 f3 kp Qv s2.toks
 have Iu:PG X' tg g:=by subst tQ;exact hg _ _ _ _ _ _ _
 have Iv:PE X' elt te:=by subst tQ;exact he _ _ _ _ _ _ _
 have PT':PT X' test tt:=by subst tQ;exact ht _ _ _ _ _ _ _
 have stat:∀{H':Hp},(∀b∈fp,H' b=none)->∀b∈fp,rC X' [] H' b:=λhn b hb=>by
  subst tQ
  obtain⟨⟨_,f1,fn,_,f4,f5⟩,lt⟩:=f3 b hb
  refine⟨hn b hb,Nat.ne_of_lt lt,λz=>?_,.inl hb,λx c e=>(G.look x c e).elim (λz=>Nat.ne_of_gt (Nat.lt_trans lt z.1)) λz=>f4 x c (S.sub x c z),λp hp=>f5 p ?_⟩
  ·rcases List.mem_cons.mp (I3.ue b z)with q|q
   ·exact f1 q
   ·exact fn q
  ·rcases List.mem_append.mp hp with z|z
   ·exact z
   ·cases z
 have hp1:X'.prog=X.prog:=by subst tQ;rfl
 have hp2:X'.w=X.w:=by subst tQ;rfl
 have hp3:X'.K=X.K:=by subst tQ;rfl
 have Cg:X'.calm=true:=by subst tQ;exact hc
 have Tw:X'.A=X.A:=by subst tQ;rfl
 have Bv:X'.env=compEnvC scope Hr (s2.heap.push { cls:=.type "list",data:=.seq ([]:List Value).toArray }).objs.size X.env:=by subst tQ;rfl
 have Yb:X'.xe=notedBy (model X.prog X.w) X.A X'.env λe s'=>R (.error e) s':=by subst tQ;rfl
 have fin:∀{H':Hp} {s':Shared},Inv X' [] (p9 σ) H' s'->Q (.ref s2.heap.objs.size) H'->R (.ok .next) s':=by
  intro H' s' I5 q
  subst hR
  obtain⟨mC,Cj,_⟩:=I5.loc
  rw[Bv]at Cj
  have hok:qc X.prog X.w H' s'.heap:=by
   have z:=I5.hok
   rw[hp1,hp2]at z
   exact z
  have u:Un (frs X.stack) fp (upd H2 s2.heap.objs.size (.lst [])) H' (s2.heap.push { cls:=.type "list",data:=.seq ([]:List Value).toArray }) s'.heap:=by
   have z:=I5.base
   subst tQ
   exact z
  have hC:H' (s2.heap.push { cls:=.type "list",data:=.seq ([]:List Value).toArray }).objs.size=none:=by
   have zf:=I5.free
   rw[Bv]at zf
   exact zf
  refine Ie _ _ mC H' s' (I3.VZ (ch:=fp) (s':=s') (by have z:=I5.os;subst tQ;exact z) u hok I5.bare (λb hb=>?_) (by have z:=I5.up;subst tQ;exact Nat.le_trans I3.up z)) (I3.xW (Nat.le_refl _) hC) Cj q
  obtain⟨⟨_,f1,_,FT,f4,f5⟩,_⟩:=f3 b hb
  exact⟨FT,f1,f4,f5⟩
 have loop:∀s3:Shared,Inv X' [] (p9 σ) (upd H2 s2.heap.objs.size (.lst [])) s3->tn 0 s3.heap →
   codeAny (model X.prog X.w) X.A (.compLoop (.ListComp elt [⟨tg,iter,[test],0⟩] scope pos) 0 (.ref it) (.ref s2.heap.objs.size) X'.env) R s3:=by
  intro s3 J3 t3
  refine codeAny_loop rfl (λn s'=>∃i ys H',Inv X' [] (p9 σ) H' s'/\tn i s'.heap/\(∀b∈fp,H' b=none)/\W i n ys H') ?_ m0 ⟨0,[],_,J3,t3,λb hb=>(f3 b hb).1.1,w0⟩
  rintro n s4 ⟨i,ys,H4,J4,t4,n4,w4⟩
  show wpAny _ _ ((compTurn (.ListComp elt [⟨tg,iter,[test],0⟩] scope pos) 0 (.ref it) (.ref s2.heap.objs.size) X'.env).onRaise (λx=>do noteFrame x X'.env;theTreesLotGoes x)) _ _ s4
  refine wpAny_noted ?_
  rw[compTurn_list]
  refine wpAny_bind (wpAny_standAt (wpAny_bind ?_))
  rcases turn i n ys H4 w4 with⟨stop,q⟩|⟨go,step⟩
  ·have z:=T.done X' hp1 hp2 hp3 Cg i [] s4 (p9 σ) H4 (notedBy (model X.prog X.w) X.A X'.env λe s'=>R (.error e) s') J4 (stat n4) t4 stop
   rw[Tw]at z
   refine wpAny_mono z (λr s5 ⟨hr,J5⟩=>?_) λ_ _ x=>x
   subst hr
   exact wpAny_pure (fin J5 q)
  ·have z:=T.item X' hp1 hp2 hp3 Cg i [] s4 (p9 σ) H4 (notedBy (model X.prog X.w) X.A X'.env λe s'=>R (.error e) s') J4 (stat n4) t4 go
   rw[Tw]at z
   refine wpAny_mono z (λr s5 ⟨u,hr,h5⟩=>?_) λ_ _ x=>x
   subst hr
   refine wpAny_bind (wpAny_mono h5 (λ_ s6 ⟨x,H6,J6,r6,y6,t6,n6⟩=>?_) λ_ _ x=>x)
   have Iz:=J6.pinned (stat n6) (T.obj _ _ t6)
   have zg:=Iu _ s6 (p9 σ) H6 x u _ Iz r6 (step x H6 y6)
   rw[hp1,hp2,Tw,Yb]at zg
   refine wpAny_bind (wpAny_mono zg (λ_ s7 ⟨Ib,H7,J7,k7,q7⟩=>?_) λ_ _ x=>x)
   have zt:=PT' _ s7 Ib H7 _ J7 q7
   rw[hp1,hp2,Tw,Yb]at zt
   refine wpAny_bind (wpAny_mono (wpAny_tests_one zt) (λok Lo MS=>?_) λ_ _ x=>x)
   obtain⟨H7b,Cv,IP⟩:=MS
   cases ok with
   |false =>
    obtain⟨m',hm,w8⟩:=acg IP
    refine wpAny_pure ⟨rfl,m',hm,i+1,ys,_,?_,?_,?_,w8⟩
    ·refine Cv.TZ.weak ?_ ?_
     ·rw[S.len,Cv.len]
      subst tQ
      rfl
     ·exact k7
    ·exact T.keep _ _ _ t6 λb hb o e=>(Cv.pin (b,o) (List.mem_append_right _ (List.mem_append_right _ (jw hb e)))).1
    ·intro b hb
     obtain⟨o,e,d⟩:=T.obj _ _ t6 b hb
     exact(Cv.pin (b,o) (List.mem_append_right _ (List.mem_append_right _ (jw hb e)))).2.1
   |true =>
    have ze:=Iv _ Lo Ib H7b _ Cv (acf IP)
    rw[hp1,hp2,Tw,Yb]at ze
    refine wpAny_bind (wpAny_bind (wpAny_mono ze (λyv s8 h8=>?_) λ_ _ x=>x))
    obtain⟨y,H8,J8,r8,e8,z8,m',hm,w8⟩:=h8
    have za:=jG (X:=X') _ s8 Ib H8 (.ref s2.heap.objs.size) [y] (.ref s2.heap.objs.size) [yv] (λ_ H9=>H9=upd H8 s2.heap.objs.size (.lst (ys++[y]))) J8 rfl (.cons r8 .nil) ⟨_,ys,y,rfl,rfl,e8,z8,rfl⟩
    rw[hp1,hp2,Tw,Yb]at za
    refine wpAny_bind (wpAny_mono za (λ_ s9 h9=>?_) λ_ _ x=>x)
    obtain⟨_,H9,J9,_,e9⟩:=h9
    subst e9
    refine wpAny_pure (wpAny_pure ⟨rfl,m',hm,i+1,ys++[y],_,?_,?_,?_,w8⟩)
    ·refine J9.TZ.weak ?_ ?_
     ·rw[S.len,J9.len]
      subst tQ
      rfl
     ·exact k7
    ·exact T.keep _ _ _ t6 λb hb o e=>(J9.pin (b,o) (List.mem_append_right _ (List.mem_append_right _ (jw hb e)))).1
    ·intro b hb
     obtain⟨o,e,d⟩:=T.obj _ _ t6 b hb
     exact(J9.pin (b,o) (List.mem_append_right _ (List.mem_append_right _ (jw hb e)))).2.1
 have l0:=loop _ I4 st3
 have l1:=codeAny_compStart_list l0 (T.self X.A 0 _ _ _ st3 l0)
 rw[Bv]at l1
 subst hR
 exact l1
theorem UN{X:Cx}{elt tg iter test:Expr}{tt:TT}{scope:Scope}{pos:Pos}{wi:TI}{g:TG}{te:TE}{N:List Str}{p9:St->St}(hc:X.calm=true)(hS:X.Ok->∃cl,bI X scope cl N p9)(hi:PI X tg iter wi)
  (hg:∀cl C s H ex pn E,PG (kT X scope cl C N s H ex pn E) tg g) (he:∀cl C s H ex pn E,PE (kT X scope cl C N s H ex pn E) elt te) (ht:∀cl C s H ex pn E,PT (kT X scope cl C N s H ex pn E) test tt)
  (hs:∀x,foldedSetIterable iter X.env x=pure x:=by intro _;rfl):PE X (.ListComp elt [⟨tg,iter,[test],0⟩] scope pos) (Ug wi g tt te p9):=by
 intro pins s σ H Q I h
 rw[eval_ListComp]
 refine QG (use:=none) (QQ:=EP X pins σ Q) hc hS hi hg he ht hs I h ?_
 intro l C mC H' s' I' fp hn q
 exact⟨mC,hn,λh' sb=>⟨.ref l,H',I'.moved (ch:=[C]) (t':=s'.toks) (λb o hb e=>(sb.2 b (by simpa using hb)).trans e) (λb hb=>by rw[List.mem_singleton.mp hb];exact fp),rfl,q⟩⟩
end L2
namespace GP
open PySem L2 oH
theorem A5{n:Nat}(h:n<=100000):((n:Nat):Int).natAbs.log2<1920:=by
 rw[Int.natAbs_natCast]
 by_cases z:n=0
 ·subst z;decide
 ·rw[Nat.log2_lt z]
  exact Nat.lt_of_le_of_lt h (Nat.lt_of_lt_of_le (show 100000<2 ^ 20 by decide) (Nat.pow_le_pow_right (by decide) (by decide)))
theorem Ho{a b:Str}{m n:Nat}(h1:a.length<=m)(h2:b.length<=n):(a++b).length<=m+n:=by rw[strLen_append];omega
noncomputable def NL(C:Addr):Sp:=λvs H Q _=>∃(e:Addr) (i j:Nat),vs=[.ref e,.int i,.int j]/\H e=some (newX e C none)/\i<=100000/\j<=100000 ∧
 ∀dx H',(∀b u,H b=some u->b≠e->H' b=some u)->H dx=none->H' e=some (newX e C (some dx))->H' dx=some (Ic dx (aL "place" (.int j) (aL "row" (.int i) [])))->Q .ko H'
end GP
namespace L2
open PySem PySem.Spec PyProof.Rows
theorem VL{prog:Program}{w:World}{A:Around}{E:Value->Shared->Prop}{s:Shared}{K:PySem.W.Frag}{x C:Addr}{ox:Obj}{od:Option Obj}{name:Str}{expr:Bool}{v:Value}{Q:Value->Shared->Prop}(Z:Im K C)(k:K.In s.heap)(I:PySem.W.InstAt s.heap x ox C od)
  (hf:PySem.W.findObj K C od name=some (.value v)) (hd:PySem.W.handedIn v=true) (h:Q v { s with toks:=s.toks+1 }):wpAny (model prog w) A (getAttr (.ref x) name expr) Q E s:=by
 obtain⟨hh,g,d,t,os⟩:=s
 have L0:=I.type (M:=model prog w)
 have L1:=PySem.W.looks_findIn (M:=model prog w) k Z.ga
 have L2:=PySem.W.looks_findIn (M:=model prog w) k Z.gn
 have LB:=PySem.W.looks_mroIn (M:=model prog w) k Z.hb
 have LF:=PySem.W.looks_find (M:=model prog w) k I hf
 unfold getAttr getAttrBy
 refine wpAny_bind (wpAny_mkText (wpAny_holding (wpAny_bind (L0.at (wpAny_bind (L1.at ?_))))))
 show wpAny _ _ (getAttrByItsOwn _ _ _ _ _ _) _ _ _
 unfold getAttrByItsOwn hookBefore
 refine wpAny_bind (L2.at ?_)
 refine wpAny_bind (wpAny_attempt (wpAny_holding ?_))
 have e0:∀n:Value,callGetattribute (.ref x) n (.builtin "BaseException.__getattribute__") expr=boundAndCalled (.builtin "BaseException.__getattribute__") (.ref x) n:=λn=>by
  unfold callGetattribute
  cases expr<;>rfl
 rw[e0]
 unfold boundAndCalled
 refine wpAny_bind (wpAny_of_eq (PySem.F.attr_ValueError.ga.bind (.ref x)) ?_)
 show wpAny _ _ (call (.builtin "BaseException.__getattribute__") [.ref x,.str name t]) _ _ _
 refine wpAny_call (codeAny_call_builtin PySem.F.attr_ValueError.ga.plain PySem.F.entry_bexc_ga ?_)
 have c1:builtinKind "BaseException.__getattribute__" =some .slot:=by decide +kernel
 have c2:splitId "BaseException.__getattribute__" =some ("BaseException","__getattribute__"):=by decide +kernel
 have c3:=PySem.F.args_bexc_ga (.ref x) (.str name t)
 simp only[checkBuiltinCall,c1,c2]
 refine wpAny_bind (wpAny_bind (L0.at (LB.at ?_)))
 simp only[Bool.not_true,Bool.false_eq_true,if_false]
 unfold argsOk at c3
 refine wpAny_of_eq c3 ?_
 unfold Builtin.«object.__getattribute__»
 refine wpAny_bind (wpAny_pure (wpAny_bind (wpAny_pure (wpAny_bind (L0.at (wpAny_bind (LF.at ?_)))))))
 refine wpAny_pure ?_
 show wpAny _ _ (handedOut v) _ _ _
 rw[PySem.W.handedOut_of hd]
 exact wpAny_pure h
noncomputable def XM(K:PySem.W.Frag)(ta:TE)(f:Str):TE:=λσ H Q=>ta σ H λx H1=>∃e C dx fs i,x= .ref e/\H1 e=some (Xm e (.ref C) (some dx))/\H1 dx=some (Ic dx fs)/\Im K C/\bE K C f/\fs.lookup f=some (.int i)/\Q (.int i) H1
theorem Vh{P:Program}{w:World}{H:Hp}{h:Heap}{e C dx:Addr}{fs:List (Str×V)}(hok:qc P w H h)(he:H e=some (Xm e (.ref C) (some dx)))(hd:H dx=some (Ic dx fs)):
  ∃ox od,∃mA:Str->Option Value,PySem.W.InstAt h e ox C (some od)/\(∀name,PySem.W.lookIn name od=some (mA name))/\∀f,qV (fs.lookup f) (mA f):=by
 obtain⟨⟨vs,sl,h1⟩,_,_⟩:=(show c7 P w H h e (Xm e (.ref C) (some dx)) from hok e _ he)
 obtain⟨⟨mA,nA,rA,wA⟩,_,_⟩:=(show c7 P w H h dx (Ic dx fs) from hok dx _ hd)
 obtain⟨od,ho,hl⟩:=wj nA
 exact⟨_,od,mA,⟨h1,rfl,rfl,ho⟩,hl,rA⟩
theorem WN{X:Cx}{e:Expr}{f:Str}{pos:Pos}{ta:TE}(he:PE X e ta)(hb:attributeBase e f X.env (eval e X.env)=eval e X.env):PE X (.Attribute e f pos) (XM X.K ta f):=by
 intro pins s σ H Q I h
 refine RX hb (gB (he pins s σ H _ I h) λu s1 ⟨x,H1,I1,rx,e,C,dx,fs,i,ex,hx,hd,Z,n,l,q⟩=>?_)
 subst ex
 obtain rfl:u=Value.ref e:=rx
 obtain⟨ox,od,mA,J,hl,rA⟩:=Vh I1.hok hx hd
 have r:=rA f
 rw[l]at r
 cases hm:mA f with
 |none=>rw[hm]at r;exact r.elim
 |some u =>
  rw[hm]at r
  obtain⟨t,rfl⟩:=(show ∃t,u=Value.int i t from r)
  refine VL Z I1.rq J ?_ rfl ⟨.int i,H1,I1.tok _,⟨t,rfl⟩,q⟩
  obtain⟨cd,hc,FE⟩:=PySem.W.any_some Z.hd
  have hn:PySem.W.findIn X.K (.ref C) f=some none:=n
  unfold PySem.W.findObj
  rw[hc,Option.bind_some,hn,Option.bind_some]
  simp only[Option.bind_some,PySem.W.ownOf,FE,if_true,hl,hm]
theorem sy{X:Cx}(hc:X.calm=true):mF X (.builtin "any") (λxs H Q=>∃(l:Addr) (bs:List Bool),xs=[.ref l]/\bf X.K H l (bs.map V.bl)/\Q (.bl (bs.any id)) H):=by
 intro pins s σ H xs us Q I r h
 obtain⟨l,bs,rfl,hl,q⟩:=h
 obtain⟨u,rfl,ru⟩:=vals1 r
 cases ru
 obtain⟨its,rv,p,hz⟩:=I.list hl
 have pl:s.heap.IsList l its.toArray:=p.isList
 have hlt:l<s.heap.objs.size:=by obtain⟨_,e,_⟩:=pl;exact Heap.lt_size e
 have hlen:bs.length=its.length:=by rw[←rv.length,List.length_map]
 refine TK.cZ (Nat.le_refl s.toks) ?_
 refine call_any_walk (wpAny_pyIter_list pl ?_)
 refine⟨s.heap.objs.size,[s.heap.objs.size,l],[s.heap.objs.size],its.toArray.size,_,_,λi=>(bs[i]?).getD false,rfl,Walks.list (A:=X.A.in1) (I.ok.hd hc) _ l (Nat.ne_of_lt hlt) its.toArray,
  ⟨⟨_,Heap.get?_push_size _ rfl,rfl,rfl⟩,pl.push _⟩,λi v s' Q' E' hP hQ=>?_,λh' tk hk hup=>?_⟩
 ·obtain⟨b,e,rfl⟩:=wJ rv i v (by simpa using hP)
  simp only[e,Option.getD_some]at hQ
  exact wpAny_truthy_bool hQ
 ·have e:((List.range its.toArray.size).any λi=>(bs[i]?).getD false)=bs.any id:=by
   rw[List.size_toArray,←hlen]
   rw[Bool.eq_iff_iff,List.any_eq_true,List.any_eq_true]
   constructor
   ·rintro⟨i,hi,z⟩
    have hi':=List.mem_range.mp hi
    rw[List.getElem?_eq_getElem hi']at z
    exact⟨_,List.getElem_mem hi',z⟩
   ·rintro⟨b,hb,z⟩
    obtain⟨i,hi,rfl⟩:=List.getElem_of_mem hb
    exact⟨i,List.mem_range.mpr hi,by rw[List.getElem?_eq_getElem hi];exact z⟩
  rw[e]
  refine⟨.bl (bs.any id),H,I.kept (t':=tk) (λb x e=>hk b x (λhm=>?_) (Heap.get?_push_of_some _ e)),rfl,q⟩
  rw[List.mem_singleton.mp hm]at e
  exact Nat.lt_irrefl _ (Heap.lt_size e)
theorem ZS{x y:Str}(h:x.cps=y.cps):x=y:=by
 cases x
 cases y
 exact congrArg Str.mk h
noncomputable def pX(x:Str)(n:Int):Str:=⟨(List.replicate n.toNat x.cps).foldl (·++·) #[]⟩
theorem yG(a:Array Nat):∀(n:Nat) (b:Array Nat),((List.replicate n a).foldl (·++·) b).toList=b.toList++(List.replicate n a.toList).flatten
 | 0,b=>by simp
 |n+1,b=>by
  rw[List.replicate_succ,List.foldl_cons,yG a n,List.replicate_succ,List.flatten_cons,Array.toList_append,List.append_assoc]
theorem sU(x:Str)(n:Int):(pX x n).cps.toList=(List.replicate n.toNat x.cps.toList).flatten:=by
 unfold pX
 rw[yG]
 rfl
theorem NZ(x:Str)(n:Int):(pX x n).cps.size=n.toNat*x.cps.size:=by
 rw[←Array.length_toList,sU,List.length_flatten,List.map_replicate,List.sum_replicate_nat]
 rfl
theorem sW{X:Cx}:tD X (binaryOp .Mult) (λx y H Q=>∃z n,x= .str z/\y= .int n/\ -1000000<=n/\n<=1000000/\z.cps.size<=1000000/\n.toNat*z.cps.size<=sizeLine/\Q (.str (pX z n)) H):=by
 intro pins s σ H x y v u Q I rx ry h
 obtain⟨z,n,rfl,rfl,h1,h2,h3,h4,q⟩:=h
 obtain⟨t,rfl⟩:=rx
 obtain⟨t',rfl⟩:=ry
 have hl:z.length=z.cps.size:=rfl
 refine TK.cZ (Nat.le_refl s.toks) (PySem.P.mul_str ?_ (λk1 _=>?_) (λ_ _=>?_) ?_)
 ·rw[decide_eq_false (by omega),decide_eq_false (by omega)];rfl
 ·have k2:1<=n:=by omega
  have:(2 ^ 63-1:Int) / n>=1000000:=by
   rw[ge_iff_le,Int.le_ediv_iff_mul_le (by omega)]
   calc 1000000*n<=1000000*1000000:=by omega
    _<=_:=by decide
  omega
 ·show decide (z.length*n.toNat>sizeLine)=false
  rw[hl,Nat.mul_comm]
  exact decide_eq_false (Nat.not_lt.mpr h4)
 ·have fin:∀y:Str,y=pX z n->∀t k,s.toks<=k->EP X pins σ Q (.str y t) { s with toks:=k }:=λy e t k hk=>⟨.str (pX z n),H,I.tok k hk,⟨t,by rw[e]⟩,q⟩
  by_cases k1:n<1
  ·rw[if_pos k1]
   refine⟨Nat.zero_le _,fin _ ?_ _ _⟩
   unfold pX
   rw[show n.toNat=0 by omega]
   rfl
  ·rw[if_neg k1]
   by_cases k2:(n==1||z.length==0)=true
   ·rw[if_pos k2]
    refine fin _ ?_ _ s.toks
    rcases Bool.or_eq_true_iff.mp k2 with k|k
    ·have e:n=1:=by simpa using k
     subst e
     show z=⟨#[]++z.cps⟩
     simp
    ·have e:z.cps.size=0:=(show z.length=0 from eq_of_beq k)
     have e1:=NZ z n
     rw[e,Nat.mul_zero]at e1
     have a1:z.cps= #[]:=Array.eq_empty_of_size_eq_zero e
     have a2:(pX z n).cps= #[]:=Array.eq_empty_of_size_eq_zero e1
     have:z.cps=(pX z n).cps:=a1.trans a2.symm
     exact ZS this
   ·rw[if_neg k2]
    refine⟨?_,fin _ rfl _ _⟩
    show(pX z n).cps.size<=sizeLine
    rw[NZ]
    exact h4
end L2
namespace GP
open PySem L2 oH
theorem yz{x:Str}{lo hi:Option Int}{a b:Nat}(e:PySem.Builtin.Str.strSliceIndices lo hi 1 x.length=PySem.Builtin.Str.strSliceIndices (some (a:Int)) (some (b:Int)) 1 x.length)(hab:a<=b)(hb:b<=x.cps.size):(Txt.slice x lo hi).cps.toList=(x.cps.toList.drop a).take (b-a):=by
 have hb':b<=x.length:=hb
 have f:=StrLaws.sliced_plain x hab hb'
 unfold Txt.slice
 rw[e]
 split
 ·next h =>
  have hl:(PySem.Builtin.Str.strSliceIndices (some (a:Int)) (some (b:Int)) 1 x.length).length=x.length:=by simpa using h
  rw[StrLaws.strSliceIndices_plain hab hb',List.length_map,List.length_range]at hl
  have hl':b-a=x.cps.size:=hl
  have ha:a=0:=by omega
  subst ha
  rw[List.drop_zero,List.take_of_length_le (by rw[Array.length_toList];omega)]
 ·exact f
theorem Uy{x:Str}{k:Int}(h0:0<=k)(h1:k<=(x.cps.size:Int)):(Txt.slice x none (some k)).cps.toList=x.cps.toList.take k.toNat:=by
 obtain⟨n,rfl⟩:∃n:Nat,k=(n:Int):=⟨k.toNat,(Int.toNat_of_nonneg h0).symm⟩
 have e:=yz (x:=x) (lo:=none) (hi:=some (n:Int)) (a:=0) (b:=n) (by
  simp only[PySem.Builtin.Str.strSliceIndices]
  simp
  rw[show max (0:Int) (min 0 (x.length:Int))=0 by omega]) (Nat.zero_le _) (by omega)
 rw[e,List.drop_zero]
 rfl
theorem Uz{x:Str}{k:Int}(h0:0<=k)(h1:k<=(x.cps.size:Int)):(Txt.slice x (some k) none).cps.toList=x.cps.toList.drop k.toNat:=by
 obtain⟨n,rfl⟩:∃n:Nat,k=(n:Int):=⟨k.toNat,(Int.toNat_of_nonneg h0).symm⟩
 have e:=yz (x:=x) (lo:=some (n:Int)) (hi:=none) (a:=n) (b:=x.cps.size) (by
  have hl:x.length=x.cps.size:=rfl
  simp only[PySem.Builtin.Str.strSliceIndices,hl]
  simp
  rw[if_neg (show ¬(x.cps.size:Int)<0 by omega),show max (0:Int) (min (x.cps.size:Int) (x.cps.size:Int))=(x.cps.size:Int) by omega]) (by omega) (Nat.le_refl _)
 rw[e,List.take_of_length_le (by rw[List.length_drop,Array.length_toList];omega)]
 rfl
noncomputable def Hj(i j:Nat):List (Str×V):=aL "place" (.int j) (aL "row" (.int i) [])
theorem VI{i j:Nat}:(Hj i j).lookup ("row" :Str)=some (.int i):=by
 unfold Hj
 rw[ay,if_neg (by decide +kernel),ay,if_pos rfl]
theorem QC{i j:Nat}:(Hj i j).lookup ("place" :Str)=some (.int j):=by
 unfold Hj
 rw[ay,if_pos rfl]
end GP
namespace GP
open PySem L2 oH
end GP
namespace L2
open PySem PySem.Spec PyProof.Rows PySem.Builtin PySem.Builtin.Str
noncomputable def BA(x y:Str)(lo hi:Nat):Int:=match occurrences x y lo hi 1 with|k::_=>(k:Int)|[]=>-1
theorem Oz(x y:Str)(i j:Int)(t u v z:Tok):Gives («str.find» ⟨[.str x t,.str y u,.int i v,.int j z],[]⟩) (.int (BA x y (fromIndex x.length i) (min (fromIndex x.length j) x.length))):=by
 show Gives (match occurrences x y (fromIndex x.length i) (min (fromIndex x.length j) x.length) 1 with|k::_=>retInt k|[]=>(do rule "str.find.not-found";retInt (-1))) _
 unfold BA
 cases occurrences x y (fromIndex x.length i) (min (fromIndex x.length j) x.length) 1 with
 |nil=>exact .rule (.of_eq rfl)
 |cons k _=>exact .of_eq rfl
theorem OC(n m:Nat):fromIndex n (m:Int)=m:=by
 unfold fromIndex
 rw[if_neg (by omega)]
 omega
theorem WY{X:Cx}:BU X "str.find" (λx xs H Q=>∃z y,x= .str z/\((xs=[.str y]/\Q (.int (BA z y 0 z.cps.size)) H)\/∃i j:Nat,xs=[.str y,.int i,.int j]/\j<=z.cps.size/\Q (.int (BA z y i j)) H)):=by
 intro pins s σ H x xs v us Q I rx rv h
 obtain⟨z,y,rfl,h⟩:=h
 obtain⟨t,rfl⟩:=rx
 rcases h with⟨rfl,q⟩|⟨i,j,rfl,hj,q⟩
 ·obtain⟨u,rfl,⟨t',rfl⟩⟩:=rv.one
  exact call_gives F.slot_str_find (typeIs_str _ _ _) F.entry_str_find (F.args_str_find_2 _ _) (gives_str_find z y t t') ⟨.int (BA z y 0 z.cps.size),H,I.tok _,⟨_,rfl⟩,q⟩
 ·cases rv with
  |cons r1 r2 =>
   obtain⟨t1,rfl⟩:=r1
   cases r2 with
   |cons r2 r3 =>
    obtain⟨t2,rfl⟩:=r2
    cases r3 with
    |cons r3 r4 =>
     obtain⟨t3,rfl⟩:=r3
     cases r4
     have e:=Oz z y i j t t1 t2 t3
     rw[OC,OC,Nat.min_eq_left (show j<=z.length from hj)]at e
     exact call_gives F.slot_str_find (typeIs_str _ _ _) F.entry_str_find (F.args_str_find_4 _ _ _ _) e ⟨.int (BA z y i j),H,I.tok _,⟨_,rfl⟩,q⟩
theorem UW{X:Cx}(hu:X.A.units<cLine):tD X (compareOp .NotEq) (λx y H Q=>∃p q xs,x= .ref p/\y= .ref q/\bf X.K H p xs/\bf X.K H q xs/\(∀z∈xs,(∃a,z= .str a)\/∃a,z= .ref a)/\Q (.bl false) H):=by
 intro pins s σ H x y v u Q I rx ry h
 obtain⟨p,q,xs,rfl,rfl,hp,hq,ha,k⟩:=h
 cases rx
 cases ry
 obtain⟨us,r1,t1,_⟩:=I.list hp
 obtain⟨vs,r2,t2,_⟩:=I.list hq
 have hsz:us.toArray.size=vs.toArray.size:=by rw[List.size_toArray,List.size_toArray,←r1.length,←r2.length]
 refine SeqAt.RcNeAt.lists (A:=X.A) (s:=s) (e:=λ_=>true) t1.isList t2.isList hsz hu (λj h1 h2=>?_) X.prog X.w X.xe _ ⟨.bl false,H,I,?_,k⟩
 ·have Bb:j<us.length:=by simpa using h1
  have h2':j<vs.length:=by simpa using h2
  have h3:j<xs.length:=by rw[r1.length];exact Bb
  obtain⟨u,e1,ru⟩:=r1.get (List.getElem?_eq_getElem h3)
  obtain⟨v,e2,rv⟩:=r2.get (List.getElem?_eq_getElem h3)
  have g1:us.toArray[j]=u:=by rw[List.getElem?_eq_getElem Bb]at e1;simpa using e1
  have g2:vs.toArray[j]=v:=by rw[List.getElem?_eq_getElem h2']at e2;simpa using e2
  rw[g1,g2]
  rcases ha _ (List.getElem_mem h3)with⟨i,hx⟩|⟨a,hx⟩
  ·rw[hx]at ru rv
   obtain⟨t,rfl⟩:=ru
   obtain⟨t',rfl⟩:=rv
   have z:=SeqAt.EqAt.str_str (A:=X.A.in1) (s:=s) i t i t'
   rw[beq_self_eq_true]at z
   exact z
  ·rw[hx]at ru rv
   cases ru
   cases rv
   exact .same _
 ·show Value.bool _=Value.bool false
  simp
end L2
namespace GP
open PySem L2 oH
theorem jm(x y:Str):(x++y).cps.toList=x.cps.toList++y.cps.toList:=by
 show(x.cps++y.cps).toList=_
 rw[Array.toList_append]
theorem qF(x y:Str):(x++y).cps.size=x.cps.size+y.cps.size:=by
 rw[←Array.length_toList,jm,List.length_append,Array.length_toList,Array.length_toList]
theorem Ux(x:Str)(b:Nat):(Txt.slice x none (some (b:Int))).cps.toList=x.cps.toList.take b:=by
 have hl:x.cps.toList.length=x.cps.size:=Array.length_toList
 have e:=yz (x:=x) (lo:=none) (hi:=some (b:Int)) (a:=0) (b:=min b x.cps.size) (by
  have hl:x.length=x.cps.size:=rfl
  simp only[PySem.Builtin.Str.strSliceIndices,hl]
  simp
  rw[if_neg (by omega),if_neg (by omega)]
  congr 2<;>omega) (by omega) (by omega)
 rw[e,List.drop_zero,Nat.sub_zero]
 by_cases h1:b<=x.cps.size
 ·rw[Nat.min_eq_left h1]
 ·rw[Nat.min_eq_right (by omega),List.take_of_length_le (by omega),List.take_of_length_le (by omega)]
end GP
namespace GP
open PySem L2 oH
end GP
namespace GP
open PySem L2 oH
end GP
namespace L2
open PySem PySem.Spec PyProof.Rows
noncomputable def BV(lo:Int)(n:Nat):It:=⟨λi _=>i<n,λi H x H'=>H'=H/\x= .int (lo-i),λi _=>n<=i⟩
theorem Nu{P:Program}{w:World}{K:PySem.W.Frag}{tg:Expr}(it:Addr)(lo:Int)(n:Nat):Turn P w K tg (BV lo n) [it] it (λi h=>IsRangeIter h it (lo+(i:Nat)*(-1)) ((n:Int)-(i:Nat)) (-1)) where
 mem:=by simp
 obj:=λi h st b hb=>by
  have e:b=it:=by simpa using hb
  subst e
  exact⟨_,st,λv z=>by
   have z':Data.fields _=Data.cell v:=z
   cases z'⟩
 keep:=λi h h' st k=>k it (by simp) _ st
 item:=by
  intro X hP hw hK hc i pins s σ H E I hf st hg
  subst hP hw hK
  obtain⟨f0,f1,f2,f3,f4,f5⟩:=hf it (by simp)
  have W:=Walks.range (prog:=X.prog) (w:=X.w) (I.ok.hd hc) it lo (-1) n
  refine TK.cZ (Nat.le_refl s.toks) (W.item i s _ _ hg st λv h' tk hv st' kk hup=>?_)
  obtain⟨t,rfl⟩:=hv
  have I1:Inv X pins σ H { s with heap:=h',toks:=tk }:=I.turned (λb o hb e=>kk b o (by simpa using hb) e) f0 f1 f3 f4 f5
  refine⟨_,rfl,Bc (s:={ s with heap:=h',toks:=tk }) (n:= "range_iterator") st' rfl rfl (by decide) ⟨.int (lo-i),H,I1,⟨t,?_⟩,⟨rfl,rfl⟩,st',λb hb=>(hf b hb).1⟩⟩
  rw[Int.mul_neg,Int.mul_one,Int.sub_eq_add_neg]
 done:=by
  intro X hP hw hK hc i pins s σ H E I hf st hg
  subst hP hw hK
  obtain⟨f0,f1,f2,f3,f4,f5⟩:=hf it (by simp)
  exact wpAny_pyNext_range_end (I.ok.hd hc) st (by have:n<=i:=hg;omega) λh' eb=>⟨rfl,I.turned (t':=s.toks) (λb o hb e=>eb b o hb e) f0 f1 f3 f4 f5⟩
 self:=λ_ _ _ _ _ st h=>wpAny_pyIter_rangeiter st h
theorem A0(lo hi:Int):Builtin.Range.rangeSize lo hi (-1)=(((lo-hi).toNat:Nat):Int):=by
 unfold Builtin.Range.rangeSize
 rw[if_neg (by decide)]
 split
 ·rw[show(-(-1:Int))=1 from rfl,Int.ediv_one];omega
 ·omega
theorem small_down{a b:Int}(ha: -(2 ^ 62)<=a)(ha':a<2 ^ 62)(hb: -(2 ^ 62)<=b)(hb':b<2 ^ 62):Builtin.Range.small a b (-1)=true:=by
 unfold Builtin.Range.small
 rw[A0]
 simp only[Builtin.Range.rangeFitsLong,Bool.and_eq_true,Bool.or_eq_true,decide_eq_true_eq,beq_iff_eq,show ¬(-1:Int)>0 by decide,if_false]
 omega
section
variable{X:Cx}{tg:Expr}
theorem Si{pins:List (Addr×Obj)}{σ:St}{H:Hp}{s:Shared}{R:It->Hp->Prop}{E:Value->Shared->Prop}{lo hi:Int}{t u v:Tok}{tk:Nat}(I:Inv X pins σ H s)(h1: -(2 ^ 62)<=lo)(h2:lo<2 ^ 62)(h3: -(2 ^ 62)<=hi)(h4:hi<2 ^ 62)
  (q:R (BV lo (lo-hi).toNat) H) (htk:s.toks<=tk:=by first|exact Nat.le_refl _|exact Nat.le_succ _|assumption|omega):wpAny (model X.prog X.w) X.A (pyIter (.ref s.heap.objs.size)) (Ir X pins σ tg R) E { s with heap:=s.heap.push { cls:=.type "range",data:=.fields #[.int lo t,.int hi u,.int (-1) v] },toks:=tk }:=by
 refine wpAny_pyIter_range (IsRange.new ..) (small_down h1 h2 h3 h4) ?_
 have I1:Inv X pins σ H { s with heap:=s.heap.push { cls:=.type "range",data:=.fields #[.int lo t,.int hi u,.int (-1) v] },toks:=tk }:=I.kept λb o e=>Heap.get?_push_of_some _ e
 refine⟨(s.heap.push { cls:=.type "range",data:=.fields #[.int lo t,.int hi u,.int (-1) v] }).objs.size,[(s.heap.push { cls:=.type "range",data:=.fields #[.int lo t,.int hi u,.int (-1) v] }).objs.size],_,_,H,rfl,
  I1.kept (t':=tk) λb o e=>Heap.get?_push_of_some _ e,Nu _ lo (lo-hi).toNat,?_,λb hb=>?_,q⟩
 ·have e1:lo+((0:Nat):Int)*(-1)=lo:=by simp
  have e2:(((lo-hi).toNat:Nat):Int)-((0:Nat):Int)=Builtin.Range.rangeSize lo hi (-1):=by rw[A0];omega
  show IsRangeIter _ _ (lo+((0:Nat):Int)*(-1)) ((((lo-hi).toNat:Nat):Int)-((0:Nat):Int)) (-1)
  rw[e1,e2]
  exact Heap.get?_push_size _ rfl
 ·have e:b=(s.heap.push { cls:=.type "range",data:=.fields #[.int lo t,.int hi u,.int (-1) v] }).objs.size:=by simpa using hb
  subst e
  exact I1.xW (Nat.le_refl _) (I1.hok.fresh (Nat.le_refl _))
noncomputable def ach(ta:TA):TI:=λσ H R=>ta σ H λvs H1=>∃i j:Int,vs=[.int i,.int j,.int (-1)]/\(-(2 ^ 62)<=i/\i<2 ^ 62/\ -(2 ^ 62)<=j/\j<2 ^ 62)/\R (BV i (i-j).toNat) H1
theorem Sl {a b c:Expr} {ta:TA} {p pos:Pos} (hg:Gl X "range") (hm:X.mg "range" =none) (ha:PA X [a,b,c] ta) (hs:starEach [a,b,c] X.env=[(false,eval a X.env),(false,eval b X.env),(false,eval c X.env)]:=by rfl) (hs2:starEach [b,c] X.env=[(false,eval b X.env),(false,eval c X.env)]:=by rfl) :
  PI X tg (.Call (.Name "range" p) [a,b,c] [] pos) (ach ta):=by
 intro pins s σ H R I h
 refine Call_ (qS I hg hm boot_range (PyProof.Rows.callWith_type1 (gB (ha pos pins s σ H _ I h) λus s1 ⟨vs,H1,I1,r1,q1⟩=>?_) (by rw[hs,hs2]) (by rw[hs2];rfl)))
 obtain⟨i,j,e,⟨q1,q2,q3,q4⟩,q⟩:=q1
 subst e
 cases r1 with
 |cons r rr =>
  cases rr with
  |cons r' rr =>
   cases rr with
   |cons r'' rr =>
    cases rr
    obtain⟨t,rfl⟩:=r
    obtain⟨t',rfl⟩:=r'
    obtain⟨t'',rfl⟩:=r''
    exact call_range_3 (by decide) (Si I1 q1 q2 q3 q4 q) (.inl (PyProof.noPylong_small (by decide)))
end
theorem VH{lo:Int}{n:Nat}{g:TG}{tb:TS}{D:Ends}{σ:St}{H:Hp}(Pv:Nat->St->Hp->Prop)(h0:Pv 0 σ H)
  (hs:∀i σ H,i<n->Pv i σ H->g (.int (lo-i)) σ H λσ2 H2=>tb { D with nx:=Pv (i+1),ct:=Pv (i+1),bk:=D.nx } σ2 H2) (hd:∀ σ H,Pv n σ H->D.nx σ H) :
  ∃W:Nat->Nat->St->Hp->Prop,(∃m,W 0 m σ H)/\∀i m σ H,W i m σ H →
   ((BV lo n).stop i H/\D.nx σ H)\/((BV lo n).go i H/\∃N:St->Hp->Prop,(∀ σ' H',N σ' H'->∃m',m'<m/\W (i+1) m' σ' H')/\∀x H',(BV lo n).AL i H x H'->g x σ H' λσ2 H2=>tb { D with nx:=N,ct:=N,bk:=D.nx } σ2 H2):=by
 refine⟨λi m σ H=>m=n-i/\i<=n/\Pv i σ H,⟨n,by simp,Nat.zero_le _,h0⟩,?_⟩
 rintro i m σ H ⟨rfl,hi,p⟩
 by_cases hlt:i<n
 ·refine .inr ⟨hlt,Pv (i+1),λσ' H' p'=>⟨n-(i+1),by omega,rfl,hlt,p'⟩,λx H' y=>?_⟩
  obtain⟨e,y⟩:=y
  subst e y
  exact hs i σ _ hlt p
 ·have e:i=n:=by omega
  subst e
  exact .inl ⟨Nat.le_refl _,hd σ H p⟩
end L2
namespace GP
open PySem L2 oH
end GP
namespace L2
open PySem PySem.Spec PyProof.Rows
noncomputable def Gg(K:PySem.W.Frag)(t:Nat):Bool:=match K.lookup mainGlobals with
 |some ⟨_,_,.dict es _,_⟩=>es.all λe=>match e.val with| .str _ u=>Nat.blt u t&& !(Nat.beq u 0)|_=>true
 |_=>false
theorem QD{f:Str->Value->Bool}{es:Array DictEntry}{n:Str}{v:Value}(h:PySem.findBy f es n=some v):∃e∈es,e.val=v:=by
 unfold PySem.findBy at h
 obtain⟨e,he,rfl⟩:=Option.map_eq_some_iff.mp h
 exact⟨e,Array.mem_of_find?_eq_some he,rfl⟩
theorem Wy{K:PySem.W.Frag}{h:Heap}{mg:Str->Option Value}{t:Nat}(KX:K.In h)(hns:h.Ns mainGlobals mg)(c:Gg K t=true):OY mg t:=by
 obtain⟨o,es,ep,e,d,_,hm⟩:=hns
 unfold Gg at c
 split at c
 ·rename_i cl dd es' Dw sl hl
  have e':=KX _ _ hl
  rw[e]at e'
  cases e'
  cases d
  intro x v u hx
  obtain⟨en,hen,ev⟩:=QD ((hm x).trans hx)
  have z:=Array.all_eq_true'.mp c en hen
  rw[ev]at z
  simp only[Bool.and_eq_true,Nat.blt_eq,Bool.not_eq_true']at z
  exact⟨z.1,λq=>by rw[q]at z;exact absurd z.2 (by decide)⟩
 ·cases c
theorem TU{l:PySem.W.OpenLaw}{n k N t:Nat}{q:Program}{loose:List Str}{XP:(Str->Option Value)->Heap->Prop}{as:List Addr}{d:DefRec}{K:Params->PySem.W.Frag}{CX:World->Tt}{sp:World->Sp}{x:Str}
  (hn:l.most=some n) (hn2:n<=sizeLine) (hdf:d.params.defaults=[]) (hr:nQ k callerA)
  (hk:∀P,as=(K P).map (·.1)) (ht:∀P,Gg (K P) t=true)
  (F:∀(w:World) (mg:Str->Option Value) (fa:Addr) (h:Heap),(K w.params).In h->h.Ns mainGlobals mg->mg d.name=some (.ref fa) →
   ∃fd:FuncData,(∀(s:Shared) (u:Value),BindsTo s fd ⟨[u],[]⟩ [(x,u)]) ∧
    ∀base:Heap,(K w.params).In base->base.Ns mainGlobals mg->aH l.prog w (K w.params) mg base (CX w) k fa fd [x] (sp w))
  (Wh:∀(w:World) (H:Hp) (a:Addr) (ns:List Int),ns.length<=n->Ik H->bf (K w.params) H a (ns.map V.int)->sp w [.ref a] H (λv _=>v= .bl true) λ_ _ _=>False)
  (FN:∀(w:World) (H:Hp) (s:Shared) (e:Value) (s':Shared),CX w [] H s (λ_ _ _=>False) e s'->False) :
  PySem.W.WalkX q loose XP (PySem.W.X.obsZ as) (PySem.W.X.valZ K N t) l.row.toRowW d [] (λf vs=>PySem.call f vs):=by
 intro w s₀ s₁ mg mb G y fa o pm cd doc dV kV ho hd hcd hD hmg hg args vals as' L hpre hlay hrd hwl hlo
 have Z:=PySem.W.X.z_facts hk y
 have tk:t<=s₁.toks:=by
  obtain⟨ord,_,e⟩:=L.laid
  have g:=(PySem.W.layAllW_grows _ _ _ e).toks
  rw[Z.2.2.2]at g
  exact g
 have KX:(K w.params).In s₁.heap:=PySem.W.InK.keeps w s₀.heap s₁.heap Z.2.1 L.keeps
 obtain rfl:dV= .none:=PySem.W.Dflts.none hD hdf
 obtain rfl:kV= .none:=PySem.W.Dflts.noKw hD
 obtain⟨a,vs,ns,rfl,rfl,hobj,hints,hlen⟩:=ID.Sd hn hpre hwl
 obtain⟨fd,hb,hF⟩:=F w mg fa _ KX G.T.g hmg
 refine PySem.W.enter_call (codeAny_mono (Vc KX G.T.g G.T.b G.T.builtins G.T.nolimit hg ((Wy KX G.T.g (ht _)).mono tk) hobj hints (Nat.le_trans hlen hn2) hr hF hb (λH hO hS=>Wh w H a ns hlen hO hS) λH e s'=>FN w H s₁ e s') λr s' hq=>?_)
 obtain⟨rfl,h2,h3,h4⟩:=hq
 exact⟨.inl ⟨.bool true,.bool true,[],rfl,λ_=>rfl,.bool true,ID.Sk l _,λ_=>⟨List.Pairwise.nil,λ_ hm=>(nomatch hm)⟩⟩,h2,h3,h4⟩
end L2
namespace L2
open PySem PySem.Spec PyProof.Rows
noncomputable def gR(c:Nat)(z:Str):Str:=⟨(z.cps.toList.filter (· != c)).toArray⟩
theorem P5(z:Str)(c:Nat):Txt.replace z ⟨#[c]⟩ ⟨#[]⟩=gR c z:=by
 have h:=replace_strikes z c
 unfold gR
 rw[←h]
noncomputable def Wz(c:Nat)(to:TE):TE:=λσ H Q=>to σ H λx H1=>∃z:Str,x= .str z/\z.cps.size<=1000000/\Q (.str (gR c z)) H1
section
variable{X:Cx}{o:Expr}{to:TE}{g:Str}{c j:Nat}{u:Tok}{apos cpos p1 p2:Pos}
theorem So(ho:PE X o to)(hg:Gl X g)(hmg:X.mg g=some (.str ⟨#[c]⟩ u))
  (hbase:attributeBase o "replace" X.env (eval o X.env)=eval o X.env:=by rfl)
  (hfew:((backTo cpos (starEach [.Name g p1,.Constant (.str "") j p2] X.env)).all (λx=>!x.1)&&(backToKw cpos (keywordEach [] X.env)).all (λx=>x.1.isSome)
   && decide (([.Name g p1,.Constant (.str "") j p2]:List Expr).length+([]:List Keyword).length+(if([]:List Keyword).isEmpty then 0 else 1)<30))=true:=by rfl)
  (hline:(apos.endLine==cpos.line)=true:=by rfl) (hs:starEach [.Name g p1,.Constant (.str "") j p2] X.env=[(false,eval (.Name g p1) X.env),(false,eval (.Constant (.str "") j p2) X.env)]:=by rfl)
  (hd:(g==("__debug__" :Str))=false:=by decide) :
  PE X (.Call (.Attribute o "replace" apos) [.Name g p1,.Constant (.str "") j p2] [] cpos) (Wz c to):=by
 intro pins s σ H Q I h
 refine wpAny_Call_method_late hbase hfew hline rfl (gB (ho pins s σ H _ I h) λv s1 ⟨x,H1,I1,r1,q1⟩=>?_)
 obtain⟨z,rfl,hz,q⟩:=q1
 obtain⟨h1,h2⟩:=PN (T:= "str") I1 r1 rfl
 obtain⟨t,rfl⟩:=r1
 refine⟨"str",_,F.plainAttrs_str,F.slot_str_replace,F.type_str_replace,h1,h2,?_⟩
 rw[hs]
 refine Calls.callWith_builtin rfl (Calls.evalArgs_plain ?_)
 refine Calls.spliced_cons (oF I1 hg hmg ?_ hd)
 show wpAny _ _ (spliced [(false,eval (.Constant (.str "") j p2) X.env)]) _ _ s1
 refine Calls.spliced_cons (Calls.Constant_str (Calls.spliced_nil ?_))
 obtain⟨k1,k2⟩:=I1.tk g _ _ hmg
 have I2:Inv X pins σ H1 { s1 with toks:=s1.toks+1 }:=I1.tok _
 refine TK.cZ (Nat.le_refl (s1.toks+1)) (SC.replace (s:={ s1 with toks:=s1.toks+1 }) k2 (Nat.ne_of_gt (Nat.lt_of_le_of_lt (Nat.zero_le u) k1)) (Nat.ne_of_lt k1) ?_ ?_ λt' k hk=>?_)
 ·show(((⟨#[c]⟩:Str))==((⟨#[]⟩:Str)))=false
  exact beq_eq_false_iff_ne.mpr λe=>by cases e
 ·show z.cps.size+(z.cps.size+1)*0<=16777216
  omega
 ·refine⟨.str (gR c z),H1,I2.tok k hk,⟨t',?_⟩,q⟩
  rw[←P5];rfl
end
end L2
namespace L2
open PySem PySem.Spec PyProof.Rows
noncomputable abbrev sg(c:Nat):V:=.str ⟨#[c]⟩
theorem yj:∀{cs:List Nat} {us:List Value},Vals (cs.map sg) us->∃l:List (Str×Tok),us=strValues l/\l.map (·.1)=cs.map λc=>(⟨#[c]⟩:Str)
 |[],_,.nil=>⟨[],rfl,rfl⟩
 |c::cs,_,.cons r rs=>by
  obtain⟨t,e⟩:=r
  obtain⟨l,e1,e2⟩:=yj rs
  exact⟨(⟨#[c]⟩,t)::l,by rw[e,e1];rfl,by rw[List.map_cons,e2];rfl⟩
theorem Bd:∀(l:List Nat) (n:Nat),(l.map λc=>(⟨#[c]⟩:Str)).foldl (λa (x:Str)=>a+x.length+(⟨#[]⟩:Str).length) n=n+l.length
 |[],_=>rfl
 |c::l,n=>by
  rw[List.map_cons,List.foldl_cons,Bd l]
  show n+1+0+l.length=n+(l.length+1)
  omega
theorem UQ {X:Cx} {K':PySem.W.Frag} {T id:String} {name:Str} {o e:Expr} {es:List Expr} {to:TE} {t:TA} {apos cpos:Pos} {r:V->List V->Hp->VK->Prop} (hK:X.K=K') (pa:PlainAttrs T) (slot:Slot T name id) (hty:typeOf (.builtin id)=pure (.type "method_descriptor")) (hm:BU X id r) (ho:PE X o to) (ha:PA X (e::es) t)
  (hbase:attributeBase o name X.env (eval o X.env)=eval o X.env:=by rfl)
  (hfew:((backTo cpos (starEach (e::es) X.env)).all (λx=>!x.1)&&(backToKw cpos (keywordEach [] X.env)).all (λx=>x.1.isSome)
   && decide ((e::es).length+([]:List Keyword).length+(if([]:List Keyword).isEmpty then 0 else 1)<30))=true:=by rfl)
  (hline:(apos.endLine==cpos.line)=true:=by rfl) (hs:starEach (e::es) X.env=(false,eval e X.env)::starEach es X.env:=by rfl) (hplain:(backTo cpos (starEach es X.env)).any (·.1)=false:=by rfl) :
  PE X (.Call (.Attribute o name apos) (e::es) [] cpos) (II K' T r to t):=by subst hK;exact rR pa slot hty hm ho ha hbase hfew hline hs hplain
theorem N6{X:Cx}{K':PySem.W.Frag}{tg l:Expr}{tl:TE}(hK:X.K=K')(hl:PE X l tl):PI X tg l (XZ K' tl):=by subst hK;exact eX hl
theorem Hx{X:Cx}{K':PySem.W.Frag}(hK:X.K=K')(hc:X.calm=true):mF X (.builtin "any") (λxs H Q=>∃(l:Addr) (bs:List Bool),xs=[.ref l]/\bf K' H l (bs.map V.bl)/\Q (.bl (bs.any id)) H):=by subst hK;exact sy hc
theorem Oo{X:Cx}{K':PySem.W.Frag}(hK:X.K=K'):BU X "str.join" (λx xs H Q=>∃(l:Addr) (cs:List Nat),x= .str ⟨#[]⟩/\xs=[.ref l]/\bf K' H l (cs.map sg)/\cs.length<=100000/\Q (.str ⟨cs.toArray⟩) H):=by
 subst hK
 intro pins s σ H x xs v us Q I rx rs h
 obtain⟨l,cs,rfl,rfl,hl,hn,q⟩:=h
 obtain⟨t,rfl⟩:=rx
 cases rs with
 |cons r rr =>
  cases rr
  cases r
  obtain⟨its,r1,t1,_⟩:=I.list hl
  obtain⟨ls,e1,e2⟩:=yj r1
  refine TK.cZ (Nat.le_refl s.toks) (SC.join (l:=ls) (by rw[←e1];exact t1.isList) e2 ?_ λt' k hk=>⟨.str ⟨cs.toArray⟩,H,I.tok k hk,⟨t',?_⟩,q⟩)
  ·unfold JoinOk
   rw[List.foldl_toArray,Bd]
   unfold Builtin.Str.tooLong
   rw[Bool.not_eq_true',decide_eq_false_iff_not,Nat.zero_add]
   exact Nat.not_lt.mpr (Nat.le_trans hn (by decide))
  ·have e:Txt.join ⟨#[]⟩ (cs.map λc=>(⟨#[c]⟩:Str))=⟨cs.toArray⟩:=by
    show Builtin.Str.glued _ _=_
    rw[StrLaws.glued_eq_join,join_ones]
   rw[e]
theorem RB{X:Cx}:BU X "str.join" (λx xs H Q=>∃(l:Addr) (cs:List Nat),x= .str ⟨#[]⟩/\xs=[.ref l]/\bf X.K H l (cs.map sg)/\cs.length<=100000/\Q (.str ⟨cs.toArray⟩) H):=Oo rfl
theorem aab{X:Cx}(hu:X.A.units<cLine):tD X (compareOp .Eq) (λx y H Q=>∃p q xs ys,x= .ref p/\y= .ref q/\bf X.K H p xs/\bf X.K H q ys/\xs.length=ys.length/\xs.all nX=true/\ys.all nX=true/\Q (.bl (kZ xs ys)) H):=by
 intro pins s σ H x y v u Q I rx ry h
 obtain⟨p,q,xs,ys,rfl,rfl,hp,hq,hl,fx,fy,k⟩:=h
 cases rx
 cases ry
 obtain⟨us,r1,t1,_⟩:=I.list hp
 obtain⟨vs,r2,t2,_⟩:=I.list hq
 have hsz:us.toArray.size=vs.toArray.size:=by rw[List.size_toArray,List.size_toArray,←r1.length,←r2.length,hl]
 refine SeqAt.RcAt.lists (A:=X.A) (s:=s) t1.isList t2.isList hsz hu (Hl r1 r2 fx fy) X.prog X.w X.xe _ ⟨.bl (kZ xs ys),H,I,?_,k⟩
 unfold kZ
 have e1:min xs.length ys.length=us.toArray.size:=by rw[←hl,Nat.min_self,r1.length,List.size_toArray]
 have e2:(xs.length==ys.length)=true:=by rw[hl];exact beq_self_eq_true _
 rw[e1,e2,Bool.and_true]
 rfl
end L2
namespace L2
open PySem PySem.Spec PyProof.Rows
noncomputable def nv(sp:Sp):Sp:=λvs H Q _=>sp vs H Q λ_ _ _=>False
theorem aH.nv{P:Program}{w:World}{K:PySem.W.Frag}{mg:Str->Option Value}{base:Heap}{k:Nat}{f:Addr}{fd:FuncData}{ps:List Str}{sp:Sp}(F:aH P w K mg base (vN P w) k f fd ps sp):aH P w K mg base cO k f fd ps (nv sp) :=
 ⟨λvs H Q E q=>F.len vs H Q _ q,λA outer s H args us vs Q E hr he hb hv hs=>codeAny_mono (F.run A outer s H args us vs Q _ hr he hb hv hs) λr s' h=>by
  cases r with
  |error e=>obtain⟨ea,cls,od,H',h⟩:=h;exact(h.2.2.2.2.2.2.2:False).elim
  |ok fl=>cases fl<;>exact h⟩
theorem gb{J:It}{g:TG}{te:TE}{σ':St}{H1:Hp}{D:Hp->Prop}{l:Addr}(n:Nat)(f:Nat->V)(hl:H1 l=none)(hn:n<sizeLine)
  (go:∀i H,ai H1 H->i<n->J.go i H) (st:∀H,ai H1 H->J.stop n H)
  (el:∀i x H H3 (R:VK),ai H1 H->i<n->J.AL i H x H3->(∀H5,ai H H5->R (f i) H5)->g x σ' H3 λwV H4=>Kp σ' wV/\te wV H4 R)
  (fin:∀H',ai H1 H'->H' l=some (.lst ((List.range n).map f))->D H') :
  ∃W:Nat->Nat->List V->Hp->Prop,(∃m,W 0 m [] (upd H1 l (.lst [])))/\∀i m ys H2,W i m ys H2->(J.stop i H2/\D H2) ∨
   (J.go i H2/\∀x H3,J.AL i H2 x H3->g x σ' H3 λwV H4=>Kp σ' wV/\te wV H4 λy H5=>H5 l=some (.lst ys)/\ys.length<sizeLine/\∃m',m'<m/\W (i+1) m' (ys++[y]) (upd H5 l (.lst (ys++[y])))):=by
 refine⟨λi m ys H2=>m=n-i/\i<=n/\ys=(List.range i).map f/\ai H1 H2/\H2 l=some (.lst ys),⟨n,rfl,Nat.zero_le _,rfl,GP.ai.upd hl,ah⟩,?_⟩
 rintro i m ys H2 ⟨rfl,hi,rfl,s2,h2⟩
 by_cases hlt:i<n
 ·refine .inr ⟨go i H2 s2 hlt,λx H3 y=>el i x H2 H3 _ s2 hlt y λH5 s5=>?_⟩
  refine⟨s5 _ _ h2,by rw[List.length_map,List.length_range];omega,n-(i+1),by omega,rfl,hlt,?_,GP.ai.at (s2.trans s5) hl,ah⟩
  rw[List.range_succ,List.map_append];rfl
 ·have e:i=n:=by omega
  subst e
  exact .inl ⟨st H2 s2,fin H2 s2 h2⟩
theorem Xu{J:It}{g:TG}{tt:TT}{te:TE}{σ':St}{H1:Hp}{D:Hp->Prop}{l:Addr}(n:Nat)(b:Nat->Bool)(f:Nat->V)(hl:H1 l=none)(hn:n<sizeLine)
  (go:∀i H,ai H1 H->i<n->J.go i H) (st:∀H,ai H1 H->J.stop n H)
  (el:∀i x H H3 (R:VK) (S:Hp->Prop),ai H1 H->i<n->J.AL i H x H3->(b i=true->∀H5,ai H H5->R (f i) H5)->(b i=false->∀H5,ai H H5->S H5) →
   g x σ' H3 λwV H4=>Kp σ' wV/\tt wV H4 λb' H5=>if b'=true then te wV H5 R else S H5)
  (fin:∀H',ai H1 H'->H' l=some (.lst (((List.range n).filter b).map f))->D H') :
  ∃W:Nat->Nat->List V->Hp->Prop,(∃m,W 0 m [] (upd H1 l (.lst [])))/\∀i m ys H2,W i m ys H2->(J.stop i H2/\D H2) ∨
   (J.go i H2/\∀x H3,J.AL i H2 x H3->g x σ' H3 λwV H4=>Kp σ' wV/\tt wV H4 λb H5 =>
    if b=true then te wV H5 (λy H6=>H6 l=some (.lst ys)/\ys.length<sizeLine/\∃m',m'<m/\W (i+1) m' (ys++[y]) (upd H6 l (.lst (ys++[y]))))else ∃m',m'<m/\W (i+1) m' ys H5):=by
 refine⟨λi m ys H2=>m=n-i/\i<=n/\ys=((List.range i).filter b).map f/\ai H1 H2/\H2 l=some (.lst ys),⟨n,rfl,Nat.zero_le _,rfl,GP.ai.upd hl,ah⟩,?_⟩
 rintro i m ys H2 ⟨rfl,hi,rfl,s2,h2⟩
 by_cases hlt:i<n
 ·refine .inr ⟨go i H2 s2 hlt,λx H3 y=>el i x H2 H3 _ _ s2 hlt y (λhb H5 s5=>?_) λhb H5 s5=>?_⟩
  ·refine⟨s5 _ _ h2,?_,n-(i+1),by omega,rfl,hlt,?_,GP.ai.at (s2.trans s5) hl,ah⟩
   ·rw[List.length_map]
    exact Nat.lt_of_le_of_lt (Nat.le_trans (List.length_filter_le _ _) (by rw[List.length_range];omega)) hn
   ·rw[List.range_succ,List.filter_append,List.map_append,List.filter_cons_of_pos hb];rfl
  ·refine⟨n-(i+1),by omega,rfl,hlt,?_,s2.trans s5,s5 _ _ h2⟩
   rw[List.range_succ,List.filter_append,List.filter_cons_of_neg (by rw[hb];exact Bool.false_ne_true),List.filter_nil,List.append_nil]
 ·have e:i=n:=by omega
  subst e
  exact .inl ⟨st H2 s2,fin H2 s2 h2⟩
end L2
namespace GP
open PySem L2 oH
noncomputable def Rw(K:PySem.W.Frag)(H:Hp)(v:V)(rs:List Str):Prop:=∃a,v= .ref a/\(bf K H a (rs.map V.str)\/iR K H a (rs.map V.str))
theorem Rw.same{K:PySem.W.Frag}{H H':Hp}{v:V}{rs:List Str}(h:Rw K H v rs)(e:ai H H'):Rw K H' v rs:=by
 obtain⟨a,h1,h2⟩:=h
 exact⟨a,h1,h2.imp (ai.seq e) (ai.tup e)⟩
theorem Rw.cp{K:PySem.W.Frag}{H:Hp}{v:V}{rs:List Str}(h:Rw K H v rs):∃c:Cp,v=c.val/\∀H',ai H H'->c.at K H' (rs.map V.str):=by
 obtain⟨a,rfl,h|h⟩:=h
 ·exact⟨.lst a,rfl,λH' e=>ai.seq e h⟩
 ·exact⟨.tup a,rfl,λH' e=>ai.tup e h⟩
theorem Rw.len{K:PySem.W.Frag}{H:Hp}{v:V}{rs:List Str}(h:Rw K H v rs):V8 K v H rs.length:=by
 obtain⟨a,rfl,h|h⟩:=h
 ·exact .inl ⟨_,h,by rw[List.length_map]⟩
 ·exact .inr ⟨_,h,by rw[List.length_map]⟩
theorem Rw.ix{K:PySem.W.Frag}{H:Hp}{v:V}{rs:List Str}{i:Nat}{r:Str}{Q:VK}(h:Rw K H v rs)(e:rs[i]? =some r)(q:Q (.str r) H):IM K v (.int (i:Int)) H Q:=by
 obtain⟨a,rfl,h|h⟩:=h
 ·exact .inl ⟨a,_,_,_,rfl,rfl,h,aT (by rw[List.getElem?_map,e];rfl),q⟩
 ·exact .inr (.inl ⟨a,_,_,_,rfl,rfl,h,aT (by rw[List.getElem?_map,e];rfl),q⟩)
structure TL(rs:List Str):Prop where
 len:rs.length<=100
 row:∀r∈rs,r.cps.size<=1000
noncomputable def f6(rs:List Str)(n:Nat):List Nat:=rs.map λr=>r.cps.toList.getD n 0
noncomputable def eE(rs:List Str)(n:Nat):Str:=⟨(f6 rs n).toArray⟩
noncomputable def cols(rs:List Str)(n:Nat):List Str:=(List.range n).map (eE rs)
noncomputable def cC(x:Str):Bool:=x.cps.toList.all (·==45)
noncomputable def kD(x:Str):Bool:=(gR 45 x).cps.toList.all dZ
noncomputable def oE:List Str->Bool
 |[]=>false
 |r::rs=>(r::rs).all λx=>x.cps.size==r.cps.size
noncomputable def br(rs:List Str):Nat:=(rs.headD ⟨#[]⟩).cps.size
noncomputable def zC(rs:List Str):Bool:=(cols rs (br rs)).all λc=>!cC c
noncomputable def gf(rs:List Str):Bool:=oE rs&&(rs.all kD&&zC rs)
theorem cP{rs:List Str}:oE rs=true↔rs≠[]/\∀r∈rs,r.cps.size=br rs:=by
 cases rs with
 |nil=>exact⟨λh=>(by cases h),λh=>absurd rfl h.1⟩
 |cons r rs =>
  show((r::rs).all λx=>x.cps.size==r.cps.size)=true↔_
  rw[List.all_eq_true]
  exact⟨λh=>⟨by simp,λx hx=>eq_of_beq (h x hx)⟩,λh x hx=>beq_iff_eq.mpr (h.2 x hx)⟩
theorem Xi{x:Str}:decide (V.str x=V.str (pX (Str.ofString "-") (x.length:Nat)))=cC x:=by
 have e:(pX (Str.ofString "-") (x.length:Nat)).cps.toList=List.replicate x.cps.toList.length 45:=by
  rw[sU]
  show(List.replicate x.cps.size [45]).flatten=_
  rw[Array.length_toList]
  generalize x.cps.size=n
  induction n with
  |zero=>rfl
  |succ n ih=>rw[List.replicate_succ,List.flatten_cons,ih,List.replicate_succ];rfl
 rw[Bool.eq_iff_iff,decide_eq_true_iff]
 unfold cC
 rw[List.all_eq_true]
 refine⟨λh c hc=>?_,λh=>?_⟩
 ·injection h with h
  rw[h,e]at hc
  exact beq_iff_eq.mpr (List.eq_of_mem_replicate hc)
 ·have z:x.cps.toList=List.replicate x.cps.toList.length 45:=List.eq_replicate_of_mem λc hc=>eq_of_beq (h c hc)
  rw[←e]at z
  have:x.cps=(pX (Str.ofString "-") (x.length:Nat)).cps:=Array.toList_inj.mp z
  have e2:x=pX (Str.ofString "-") (x.length:Nat):=by
   rcases h3:pX (Str.ofString "-") (x.length:Nat)with⟨cs⟩
   rw[h3]at this
   rcases x with⟨xs⟩
   exact congrArg Str.mk this
  rw[←e2]
noncomputable def yt(K:PySem.W.Frag):Sp:=λvs H Q _=>∃(v:V) (rs:List Str) (n:Nat),vs=[v,.int n]/\Rw K H v rs/\TL rs/\(∀r∈rs,n<r.cps.size)/\∀H',ai H H'->Q (.str (eE rs n)) H'
noncomputable def yr(K:PySem.W.Frag):Sp:=λvs H Q _=>∃(v:V) (rs:List Str) (n:Nat),vs=[v,.int n]/\Rw K H v rs/\TL rs/\n<=1000/\(∀r∈rs,n<=r.cps.size) ∧
 ∀l H',ai H H'->H l=none->H' l=some (.lst ((cols rs n).map V.str))->Q (.ref l) H'
noncomputable def vS(K:PySem.W.Frag):Sp:=λvs H Q _=>∃(v:V) (rs:List Str),vs=[v]/\Rw K H v rs/\TL rs/\oE rs=true ∧
 ∀l H',ai H H'->H l=none->H' l=some (.lst ((cols rs (br rs)).map V.str))->Q (.ref l) H'
noncomputable def NR:Sp:=λvs H Q _=>∃x:Str,vs=[.str x]/\x.cps.size<=1000/\Q (.bl (cC x)) H
noncomputable def sN:Sp:=λvs H Q _=>∃x:Str,vs=[.str x]/\x.cps.size<=1000/\Q (.str (gR 45 x)) H
noncomputable def xg:Sp:=λvs H Q _=>∃x:Str,vs=[.str x]/\x.cps.size<=1000/\∀H',ai H H'->Q (.bl (kD x)) H'
noncomputable def AZ(K:PySem.W.Frag)(C:Addr)(pre p:List Str->Bool):Sp:=λvs H Q E=>∃(v:V) (rs:List Str),vs=[v]/\Rw K H v rs/\TL rs/\pre rs=true ∧
 (p rs=true->∀H',ai H H'->Q .ko H')/\(p rs=false->∀H',ai H H'->E (.ref C) none H')
noncomputable def t7(K:PySem.W.Frag)(C:Addr)(H:Hp)(b:Addr)(rs:List Str):Prop:=∃dx q,H b=some (.ins C dx (aL "rows" (.ref q) []))/\iR K H q (rs.map V.str)
theorem t7.same{K:PySem.W.Frag}{C:Addr}{H H':Hp}{b:Addr}{rs:List Str}(h:t7 K C H b rs)(e:ai H H'):t7 K C H' b rs:=by
 obtain⟨dx,q,h1,h2⟩:=h
 exact⟨dx,q,e _ _ h1,ai.tup e h2⟩
noncomputable def yc(K:PySem.W.Frag)(C X:Addr):Sp:=λvs H Q E=>∃(b dx:Addr) (v:V) (rs:List Str),vs=[.ref b,v]/\H b=some (.ins C dx [])/\Rw K H v rs/\TL rs ∧
 (gf rs=true->∀H',(∀a u,H a=some u->a≠b->H' a=some u)->t7 K C H' b rs->Q .ko H')/\(gf rs=false->∀H',ai H H'->E (.ref X) none H')
end GP
namespace L2
open PySem PySem.Spec PyProof.Rows
end L2
namespace GP
open PySem L2 oH
theorem iR.agn{K:PySem.W.Frag}{H:Hp}{l a C dx:Addr}{fs:List (Str×V)}{xs:List V}{o:HO}(hl:H l=some (.ins C dx fs))(h:iR K H a xs):iR K (L2.upd H l o) a xs:=by
 rcases h with(h|⟨u,h⟩)|h
 ·exact .inl (.inl (by rw[aA (pL h hl (by intro z;cases z))];exact h))
 ·exact .inl (.inr ⟨u,by rw[aA (pL h hl (by intro z;cases z))];exact h⟩)
 ·exact .inr h
theorem kJ{q:V}:(aL "rows" q []).lookup ("rows" :Str)=some q:=by
 rw[ay,if_pos rfl]
noncomputable def packed(rs:List Str):List Str:=cols ((cols rs (br rs)).filter λc=>!cC c) rs.length
theorem aZ{rs:List Str}{n:Nat}:(cols rs n).length=n:=by unfold cols;rw[List.length_map,List.length_range]
theorem Xr{rs:List Str}{n i:Nat}(h:i<n):(cols rs n)[i]? =some (eE rs i):=by
 unfold cols
 rw[List.getElem?_map,List.getElem?_range h]
 rfl
theorem ua{x:Str}:kD x=true↔∀c∈x.cps.toList,c≠45->dZ c=true:=by
 unfold kD gR
 rw[List.all_eq_true]
 refine⟨λh c hc n=>h c ?_,λh c hc=>?_⟩
 ·show c∈x.cps.toList.filter (· != 45)
  exact List.mem_filter.mpr ⟨hc,by simpa using n⟩
 ·have hc':c∈x.cps.toList.filter (· != 45):=hc
  obtain⟨a,b⟩:=List.mem_filter.mp hc'
  exact h c a (by simpa using b)
theorem wF{cs:List Str}{n:Nat}(h:∀c∈cs,c.cps.size=n):cols (cols cs n) cs.length=cs:=by
 refine List.ext_getElem? λi=>?_
 by_cases hi:i<cs.length
 ·rw[Xr hi,List.getElem?_eq_getElem hi]
  have hs:=h _ (List.getElem_mem hi)
  have e:f6 (cols cs n) i=cs[i].cps.toList:=by
   unfold f6 cols
   rw[List.map_map]
   refine List.ext_getElem (by simp[hs]) λj h1 h2=>?_
   have hj:j<n:=by simpa using h1
   have hj2:j<cs[i].cps.toList.length:=h2
   have e1:(eE cs j).cps.toList.getD i 0=cs[i].cps.toList.getD j 0:=by
    show(f6 cs j).getD i 0=_
    unfold f6
    rw[List.getD_eq_getElem?_getD,List.getElem?_map,List.getElem?_eq_getElem hi]
    rfl
   simp only[List.getElem_map,List.getElem_range,Function.comp]
   rw[e1,List.getD_eq_getElem?_getD,List.getElem?_eq_getElem hj2,Option.getD_some]
  unfold eE
  rw[e]
 ·rw[List.getElem?_eq_none (by rw[aZ];omega),List.getElem?_eq_none (by omega)]
end GP
namespace GP
open PySem L2 oH
noncomputable def UZ(c:Nat):Prop:=c=45\/dZ c=true
structure mU(rs:List Str)(n i:Nat):Prop where
 len:rs.length=n
 br:∀r∈rs,r.cps.size=i
 ok:∀r∈rs,∀c∈r.cps.toList,UZ c
 col:∀j,j<i->∃r∈rs,∃c,r.cps.toList[j]? =some c/\c≠45
theorem mU.w{rs:List Str}{n i:Nat}(h:mU rs n i)(hn:0<n):GP.br rs=i:=by
 cases hr:rs with
 |nil=>have:=h.len;rw[hr]at this;have:0=n:=this;omega
 |cons r t=>exact h.br r (by rw[hr];exact List.mem_cons_self ..)
theorem mU.oE{rs:List Str}{n i:Nat}(h:mU rs n i)(hn:0<n):GP.oE rs=true:=by
 refine cP.mpr ⟨λz=>?_,λr hr=>(h.br r hr).trans (h.w hn).symm⟩
 have:=h.len
 rw[z]at this
 have:0=n:=this
 omega
theorem mU.things{rs:List Str}{n i:Nat}(h:mU rs n i):rs.all kD=true :=
 List.all_eq_true.mpr λr hr=>ua.mpr λc hc hn=>(h.ok r hr c hc).resolve_left hn
theorem VD{rs:List Str}{j:Nat}:cC (eE rs j)=true↔∀r∈rs,r.cps.toList.getD j 0=45:=by
 unfold cC eE f6
 rw[List.all_eq_true]
 refine⟨λh r hr=>eq_of_beq (h _ (List.mem_map.mpr ⟨r,hr,rfl⟩)),λh c hc=>?_⟩
 obtain⟨r,hr,rfl⟩:=List.mem_map.mp (show c∈rs.map λr=>r.cps.toList.getD j 0 from hc)
 exact beq_iff_eq.mpr (h r hr)
theorem mU.block{rs:List Str}{n i:Nat}(h:mU rs n i)(hn:0<n):gf rs=true:=by
 unfold gf
 rw[h.oE hn,h.things,Bool.true_and,Bool.true_and]
 unfold zC
 rw[h.w hn,List.all_eq_true]
 intro c hc
 unfold cols at hc
 obtain⟨j,hj,rfl⟩:=List.mem_map.mp hc
 obtain⟨r,hr,c,hc,hne⟩:=h.col j (List.mem_range.mp hj)
 rw[Bool.not_eq_true',Bool.eq_false_iff]
 intro z
 have:=VD.mp z r hr
 rw[List.getD_eq_getElem?_getD,hc]at this
 exact hne this
noncomputable def grown(rs:List Str)(cs:List Nat)(n:Nat):List Str:=(List.range n).map λr=>rs.getD r ⟨#[]⟩++⟨#[cs.getD r 0]⟩
theorem aO{α:Type}{l:List α}{i:Nat}{d x:α}(h:l[i]? =some x):l.getD i d=x:=by
 rw[List.getD_eq_getElem?_getD,h];rfl
theorem mU.next{rs:List Str}{n i:Nat}{cs:List Nat}(h:mU rs n i)(hl:cs.length=n)(ho:∀c∈cs,UZ c)(hg:∃c∈cs,c≠45):mU (grown rs cs n) n (i+1):=by
 have at_:∀r,r<n->∃x c,rs[r]? =some x/\cs[r]? =some c/\x∈rs/\c∈cs/\rs.getD r ⟨#[]⟩++⟨#[cs.getD r 0]⟩=x++(⟨#[c]⟩:Str):=λr hr=>by
  have h1:r<rs.length:=by rw[h.len];exact hr
  have h2:r<cs.length:=by rw[hl];exact hr
  refine⟨rs[r],cs[r],List.getElem?_eq_getElem h1,List.getElem?_eq_getElem h2,List.getElem_mem h1,List.getElem_mem h2,?_⟩
  rw[aO (List.getElem?_eq_getElem h1),aO (List.getElem?_eq_getElem h2)]
 have mem:∀y∈grown rs cs n,∃x c,x∈rs/\c∈cs/\y=x++(⟨#[c]⟩:Str):=λy hy=>by
  unfold grown at hy
  obtain⟨r,hr,rfl⟩:=List.mem_map.mp hy
  obtain⟨x,c,_,_,a,b,e⟩:=at_ r (List.mem_range.mp hr)
  exact⟨x,c,a,b,e⟩
 have app:∀(x:Str) (c:Nat),(x++(⟨#[c]⟩:Str)).cps.toList=x.cps.toList++[c]:=λx c=>by
  rw[Str.cps_append,Array.toList_append]
 refine⟨by unfold grown;rw[List.length_map,List.length_range],λy hy=>?_,λy hy d hd=>?_,λj hj=>?_⟩
 ·obtain⟨x,c,a,b,rfl⟩:=mem y hy
  rw[←Array.length_toList,app,List.length_append,Array.length_toList,h.br x a]
  rfl
 ·obtain⟨x,c,a,b,rfl⟩:=mem y hy
  rw[app]at hd
  rcases List.mem_append.mp hd with hd|hd
  ·exact h.ok x a d hd
  ·rw[List.mem_singleton.mp hd];exact ho c b
 ·by_cases z:j<i
  ·obtain⟨x,hx,c,hc,hne⟩:=h.col j z
   obtain⟨r,hr,e⟩:=List.getElem_of_mem hx
   have hr':r<n:=by rw[←h.len];exact hr
   obtain⟨x',c',e1,_,_,_,e3⟩:=at_ r hr'
   rw[List.getElem?_eq_getElem hr,e]at e1
   cases e1
   refine⟨_,List.mem_map.mpr ⟨r,List.mem_range.mpr hr',e3⟩,c,?_,hne⟩
   rw[app,List.getElem?_append_left (by rw[Array.length_toList,h.br x hx];exact z),hc]
  ·have ej:j=i:=by omega
   subst ej
   obtain⟨c,hc,hne⟩:=hg
   obtain⟨r,hr,e⟩:=List.getElem_of_mem hc
   have hr':r<n:=by rw[←hl];exact hr
   obtain⟨x',c',e1,e2,hx',_,e3⟩:=at_ r hr'
   rw[List.getElem?_eq_getElem hr,e]at e2
   cases e2
   refine⟨_,List.mem_map.mpr ⟨r,List.mem_range.mpr hr',e3⟩,c,?_,hne⟩
   have hs:x'.cps.toList.length=j:=by rw[Array.length_toList];exact h.br x' hx'
   rw[app,List.getElem?_append_right (by omega),hs,Nat.sub_self]
   rfl
noncomputable def AX(K:PySem.W.Frag):Sp:=λvs H Q _=>∃(a:Addr) (rs:List Str),vs=[.ref a]/\bf K H a (rs.map V.str)/\TL rs/\oE rs=true/\br rs<=100 ∧
 ∀l H',ai H H'->H l=none->H' l=some (.lst ((packed rs).map V.str))->Q (.ref l) H'
noncomputable def Rk(K:PySem.W.Frag)(C:Addr):Sp:=λvs H Q _=>∃(b a:Addr) (rs:List Str),vs=[.ref b,.ref a]/\t7 K C H b rs/\bf K H a (rs.map V.str)/\rs.length<=100/\∀H',ai H H'->Q (.bl true) H'
end GP
namespace L2
open PySem PySem.Spec PyProof.Rows
theorem vv{X:Cx}:mF X (.builtin "isinstance") (λxs H Q=>∃b C dx fs,xs=[.ref b,.ref C]/\H b=some (.ins C dx fs)/\PySem.W.isIn X.K (.ref C) C=true/\Q (.bl true) H):=by
 intro pins s σ H xs us Q I r h
 obtain⟨b,C,dx,fs,rfl,hb,e,q⟩:=h
 obtain⟨u,w',rfl,rx,rn⟩:=vals2 r
 cases (show u=Value.ref b from rx)
 cases (show w'=Value.ref C from rn)
 obtain⟨mA,J,_⟩:=yg I.hok hb
 obtain⟨od,J',_⟩:=J.look
 exact PySem.W.isi_call I.rq (λM=>J'.type) e (λz=>nomatch z) ⟨.bl true,H,I,rfl,q⟩
end L2
namespace GP
open PySem L2 oH
theorem ym{xs:List Str}:kZ (xs.map V.str) (xs.map V.str)=true:=by
 unfold kZ
 rw[beq_self_eq_true,Bool.and_true,List.all_eq_true]
 intro j hj
 have hj':j<xs.length:=by
  have:=List.mem_range.mp hj
  rw[Nat.min_self,List.length_map]at this
  exact this
 rw[aO (show(xs.map V.str)[j]? =some (V.str xs[j]) by rw[List.getElem?_map,List.getElem?_eq_getElem hj'];rfl)]
 show(xs[j]==xs[j])=true
 exact beq_self_eq_true _
theorem wz{xs:List Str}:(xs.map V.str).all nX=true:=List.all_eq_true.mpr λy hy=>by
 obtain⟨x,_,rfl⟩:=List.mem_map.mp hy
 rfl
theorem Rn(cs:List Nat):cs.map sg=(cs.map λc=>(⟨#[c]⟩:Str)).map V.str:=by rw[List.map_map];rfl
theorem rN(n:Nat)(v:V):(List.replicate n [v]).flatten=List.replicate n v:=by
 induction n with
 |zero=>rfl
 |succ n ih=>rw[List.replicate_succ,List.flatten_cons,ih,List.replicate_succ];rfl
theorem WX{cs:List Nat}{n:Nat}(hl:cs.length=n)(h:kZ (cs.map sg) (List.replicate n (sg 45))=false):∃c∈cs,c≠45:=by
 by_cases z:∃c∈cs,c≠45
 ·exact z
 ·have e:cs=List.replicate n 45:=List.eq_replicate_iff.mpr ⟨hl,λc hc=>Classical.byContradiction λhne=>z ⟨c,hc,hne⟩⟩
  have e2:List.replicate n (sg 45)=cs.map sg:=by rw[e,List.map_replicate]
  rw[e2,Rn,ym]at h
  cases h
theorem Gq{c:Nat}(h:dZ c=true):c≠45:=λz=>by rw[z]at h;exact absurd h (by decide)
end GP
namespace GP
open PySem L2 oH
theorem zD{rs:List Str}{i:Nat}:(rs.map λr=>!decide (sg (r.cps.toList.getD i 0)=V.str (Str.ofString "-"))).any id= !cC (eE rs i):=by
 have e:∀c:Nat,decide (sg c=V.str (Str.ofString "-"))=(c==45):=λc=>by
  rw[Bool.eq_iff_iff,decide_eq_true_iff,beq_iff_eq]
  refine⟨λh=>?_,λh=>by rw[h];rfl⟩
  have h':(⟨#[c]⟩:Str)=⟨#[45]⟩:=by injection h
  injection h' with h'
  simpa using h'
 unfold cC eE f6
 show _= !((rs.map λr=>r.cps.toList.getD i 0).all (·==45))
 induction rs with
 |nil=>rfl
 |cons r rs ih =>
  rw[List.map_cons,List.any_cons,ih,List.map_cons,List.all_cons,Bool.not_and,e]
  rfl
theorem N9{rs:List Str}:(List.range rs.length).map (λr=>V.str ⟨(((List.range (br rs)).filter λi=>!cC (eE rs i)).map λi=>(rs.getD r ⟨#[]⟩).cps.toList.getD i 0).toArray⟩)=(packed rs).map V.str:=by
 have e:(cols rs (br rs)).filter (λc=>!cC c)=((List.range (br rs)).filter λi=>!cC (eE rs i)).map (eE rs):=by
  unfold cols
  rw[List.filter_map]
  rfl
 unfold packed
 rw[e]
 generalize (List.range (br rs)).filter (λi=>!cC (eE rs i))=ks
 show _=((List.range rs.length).map (eE (ks.map (eE rs)))).map V.str
 rw[List.map_map]
 refine List.map_congr_left λr hr=>?_
 have hr':=List.mem_range.mp hr
 have e2:f6 (ks.map (eE rs)) r=ks.map λi=>(rs.getD r ⟨#[]⟩).cps.toList.getD i 0:=by
  unfold f6
  rw[List.map_map]
  refine List.map_congr_left λi hi=>?_
  show(f6 rs i).getD r 0=_
  unfold f6
  rw[aO (l:=rs) (List.getElem?_eq_getElem hr')]
  exact aO (by rw[List.getElem?_map,List.getElem?_eq_getElem hr'];rfl)
 show V.str _=V.str (eE (ks.map (eE rs)) r)
 unfold eE at e2 ⊢
 rw[e2]
end GP
namespace GP
open PySem L2 oH
end GP
namespace GP
open PySem L2 oH
noncomputable def Uk:Sp:=λvs H Q _=>∃(r z:Str) (k:Nat),vs=[.str r,.int (k:Int),.str z]/\k<r.cps.size/\r.cps.size<=1000/\z.cps.size<=100/\∀o:Str,o.cps.toList=r.cps.toList.take k++z.cps.toList++r.cps.toList.drop (k+1)->Q (.str o) H
end GP
namespace GP
open PySem L2 oH
end GP
namespace GP
open PySem L2 oH
end GP
namespace L2
end L2
namespace GP
open PySem L2 oH
structure Da(K:PySem.W.Frag)(mg:Str->Option Value)(x y:Str)(st:Stmt)(ps:List Str)(f:Addr)(fd:FuncData):Prop where
 fn:Wr K y y st f fd
 b:Binds K fd ps []
 m:mg x=some (.ref f)
end GP
namespace L2
open PySem PySem.Spec PyProof.Rows
theorem xj(ns:List Int):∀n:Nat,preSum (λi=>(ns[i]?).getD 0) n=(ns.take n).sum
 | 0=>rfl
 |n+1=>by
  show preSum _ n+(ns[n]?).getD 0=_
  rw[xj ns n]
  by_cases hn:n<ns.length
  ·rw[List.take_add_one,List.getElem?_eq_getElem hn,List.sum_append]
   simp
  ·rw[List.getElem?_eq_none (by omega),List.take_of_length_le (by omega),List.take_of_length_le (by omega)]
   simp
theorem ints_get:∀{ns:List Int} {us:List Value},Vals (ns.map V.int) us->∀(i:Nat) (v:Value),us[i]? =some v->∃n t,ns[i]? =some n/\v= .int n t
 |[],_,r,i,v,e=>by
  cases r
  simp at e
 |n::ns,_,r,i,v,e=>by
  cases r with
  |cons r1 r2 =>
   cases i with
   |zero =>
    simp at e
    subst e
    obtain⟨t,z⟩:=r1
    exact⟨n,t,rfl,z⟩
   |succ i=>exact ints_get r2 i v e
theorem Bj{X:Cx}{K':PySem.W.Frag}(hK:X.K=K')(hc:X.calm=true):mF X (.builtin "sum") (λxs H Q=>∃(l:Addr) (ns:List Int),xs=[.ref l]/\bf K' H l (ns.map V.int)/\Q (.int ns.sum) H):=by
 subst hK
 intro pins s σ H xs us Q I r h
 obtain⟨l,ns,rfl,hl,q⟩:=h
 obtain⟨u,rfl,ru⟩:=vals1 r
 cases ru
 obtain⟨its,rv,p,hz⟩:=I.list hl
 have pl:s.heap.IsList l its.toArray:=p.isList
 have hlt:l<s.heap.objs.size:=by obtain⟨_,e,_⟩:=pl;exact Heap.lt_size e
 have hlen:ns.length=its.length:=by rw[←rv.length,List.length_map]
 refine TK.cZ (Nat.le_refl s.toks) ?_
 refine call_sum_walkG (wpAny_pyIter_list pl ?_)
 refine⟨s.heap.objs.size,[s.heap.objs.size,l],[s.heap.objs.size],its.toArray.size,_,_,λi=>(ns[i]?).getD 0,rfl,Walks.list (A:=X.A.in1) (I.ok.hd hc) _ l (Nat.ne_of_lt hlt) its.toArray,
  ⟨⟨_,Heap.get?_push_size _ rfl,rfl,rfl⟩,pl.push _⟩,λb hb=>?_,λi v hP=>?_,λh' tk t' hk hup=>?_⟩
 ·show b<(s.heap.push _).objs.size
  rw[Heap.size_push]
  rcases List.mem_cons.mp hb with rfl|z
  ·exact Nat.lt_succ_self _
  ·rw[List.mem_singleton.mp z]
   exact Nat.lt_succ_of_lt hlt
 ·obtain⟨n,t,e,rfl⟩:=ints_get rv i v (by simpa using hP)
  exact⟨t,by show _=Value.int ((ns[i]?).getD 0) t;rw[e];rfl⟩
 ·rw[xj,List.size_toArray,←hlen,List.take_length]
  refine⟨.int ns.sum,H,I.kept (t':=tk) (λb x e=>hk b x (λhm=>?_) (Heap.get?_push_of_some _ e)),⟨_,rfl⟩,q⟩
  rw[List.mem_singleton.mp hm]at e
  exact Nat.lt_irrefl _ (Heap.lt_size e)
end L2
namespace GP
open PySem L2 oH
noncomputable def sm(f:Nat->Int):Nat->Int
 | 0=>0
 |n+1=>sm f n+f n
theorem fq{f g:Nat->Int}:∀{n:Nat},(∀i,i<n->f i=g i)->sm f n=sm g n
 | 0,_=>rfl
 |n+1,h=>by
  show sm f n+f n=sm g n+g n
  rw[fq λi hi=>h i (by omega),h n (by omega)]
theorem Gn:∀n:Nat,sm (λ_=>0) n=0
 | 0=>rfl
 |n+1=>by show sm (λ_=>0) n+0=0;rw[Gn n];rfl
theorem Uw(f g:Nat->Int):∀n:Nat,sm (λi=>f i+g i) n=sm f n+sm g n
 | 0=>rfl
 |n+1=>by show sm (λi=>f i+g i) n+(f n+g n)=sm f n+f n+(sm g n+g n);rw[Uw f g n];omega
theorem yd(f:Nat->Nat->Int)(m:Nat):∀n:Nat,sm (λi=>sm (f i) m) n=sm (λj=>sm (λi=>f i j) n) m
 | 0=>(Gn m).symm
 |n+1=>by
  show sm (λi=>sm (f i) m) n+sm (f n) m=sm (λj=>sm (λi=>f i j) n+f n j) m
  rw[Uw,yd f m n]
theorem Uv(f:Nat->Int){r:Nat}:∀{n:Nat},r<=n->sm f r=sm (λi=>if i<r then f i else 0) n
 | 0,h=>by
  have:r=0:=by omega
  rw[this];rfl
 |n+1,h=>by
  show _=sm (λi=>if i<r then f i else 0) n+(if n<r then f n else 0)
  by_cases e:r=n+1
  ·rw[e,if_pos (by omega)]
   show sm f n+f n=_
   rw[fq (f:=f) λi hi=>(if_pos (show i<n+1 by omega)).symm]
  ·rw[Uv f (show r<=n by omega),if_neg (by omega),Int.add_zero]
theorem ZU(g:Nat->Nat->Nat->Int)(n w:Nat):
  sm (λk=>sm (λr=>sm (λi=>g k i r) r) n) w=sm (λi=>sm (λj=>if i<j then sm (λk=>g k i j) w else 0) n) n:=by
 rw[fq λk _=>fq λr hr=>Uv (λi=>g k i r) (Nat.le_of_lt hr)]
 rw[yd (λk r=>sm (λi=>if i<r then g k i r else 0) n) n w]
 rw[fq λr _=>yd (λk i=>if i<r then g k i r else 0) n w]
 rw[yd (λr i=>sm (λk=>if i<r then g k i r else 0) w) n n]
 refine fq λi _=>fq λr _=>?_
 by_cases h:i<r
 ·rw[if_pos h];exact fq λk _=>if_pos h
 ·rw[if_neg h];exact(fq λk _=>if_neg h).trans (Gn w)
theorem Ui(l:List Int)(x:Int):(l++[x]).sum=l.sum+x:=by rw[List.sum_append];simp
theorem yy(f:Nat->Int):∀n:Nat,((List.range n).map f).sum=sm f n
 | 0=>rfl
 |n+1=>by rw[List.range_succ,List.map_append,List.map_singleton,Ui,yy f n];rfl
noncomputable def tP(sg:Str):Str:=sg++Str.ofString "-"
theorem oG{sg:Str}{c:Nat}:c∈(tP sg).cps.toList↔c=45\/c∈sg.cps.toList:=by
 have e:(tP sg).cps.toList=sg.cps.toList++[45]:=jm _ _
 rw[e,List.mem_append,List.mem_singleton]
 exact Or.comm
noncomputable def MY(sg:Str)(rows:List (List bY))(fo fm:bY)(a b:Nat):Int :=
 if a=45/\b=45 then 0 else if a=45\/b=45 then fm.1*(aY fo.2 fm.2 rows / fm.2)else rT sg rows (aY fo.2 fm.2 rows) a b
noncomputable def VW(tc:Nat->Nat->Int)(L:List Nat)(n:Nat):Int:=sm (λr=>sm (λi=>tc (L.getD i 0) (L.getD r 0)) r) n
noncomputable def wK(tc:Nat->Nat->Int)(rs:List Str):Int:=sm (λk=>VW tc (f6 rs k) rs.length) (br rs)
noncomputable def vO(kn:Str)(rs:List Str)(i j:Nat):Prop :=
 (∃r c,rs[i]? =some r/\r.cps[j]? =some c/\c∉kn.cps.toList/\∀k d,k<j->r.cps[k]? =some d->d∈kn.cps.toList)/\∀m r,m<i->rs[m]? =some r->Of kn r
noncomputable def NP(K:PySem.W.Frag)(C:Addr):Sp:=λvs H Q E=>∃(kn:Str) (v:V) (rs:List Str),vs=[.str kn,v]/\Rw K H v rs/\TL rs ∧
 ((∀r∈rs,Of kn r)->∀H',ai H H'->Q .ko H')/\(∀i j,vO kn rs i j->∀dx H',ai H H'->H' dx=some (Ic dx (Hj i j))->E (.ref C) (some dx) H')
noncomputable def w9(K:PySem.W.Frag)(C X:Addr):Sp:=λvs H Q E=>∃(x:Addr) (sg:Str) (rows:List (List bY)) (fo fm:bY) (v:V) (rs:List Str),vs=[.ref x,v]/\jk K C H x sg rows fo fm/\Rw K H v rs/\TL rs ∧
 ((∀r∈rs,Of (tP sg) r)->∀H',ai H H'->Q .ko H')/\(∀i j,vO (tP sg) rs i j->∀dx H',ai H H'->H' dx=some (Ic dx (Hj i j))->E (.ref X) (some dx) H')
noncomputable def Q6(K:PySem.W.Frag)(C:Addr):Sp:=λvs H Q _=>∃(x:Addr) (sg:Str) (rows:List (List bY)) (fo fm:bY) (a b:Nat),vs=[.ref x,.str ⟨#[a]⟩,.str ⟨#[b]⟩]/\jk K C H x sg rows fo fm/\a∈(tP sg).cps.toList/\b∈(tP sg).cps.toList ∧
 ∀H',ai H H'->Q (.int (MY sg rows fo fm a b)) H'
end GP
namespace GP
open PySem L2 oH
theorem VF(c:Nat):decide (V.str ⟨#[c]⟩=V.str (Str.ofString "-"))=decide (c=45):=by
 rw[Bool.eq_iff_iff,decide_eq_true_iff,decide_eq_true_iff]
 refine⟨λh=>?_,λh=>by rw[h];rfl⟩
 have h':(⟨#[c]⟩:Str)=⟨#[45]⟩:=by injection h
 injection h' with h'
 simpa using h'
theorem Ua{sg:Str}{rows:List (List bY)}{fo fm:bY}{a b:Nat}(h:a=45)(h2:b=45):MY sg rows fo fm a b=0:=if_pos ⟨h,h2⟩
theorem Ub{sg:Str}{rows:List (List bY)}{fo fm:bY}{a b:Nat}(h:¬(a=45/\b=45))(h2:a=45\/b=45):MY sg rows fo fm a b=fm.1*(aY fo.2 fm.2 rows / fm.2):=(if_neg h).trans (if_pos h2)
theorem XI{sg:Str}{rows:List (List bY)}{fo fm:bY}{a b:Nat}(h:a≠45)(h2:b≠45):MY sg rows fo fm a b=rT sg rows (aY fo.2 fm.2 rows) a b:=(if_neg λz=>h z.1).trans (if_neg λz=>z.elim h h2)
end GP
namespace GP
open PySem L2 oH
theorem Wx{a tv:Int}{i j:Nat}(ht:tv=1\/tv=3\/tv=5\/tv=7\/tv=9\/tv=11)(hij:i<j)(hj:j<6):((a+(i:Int)*tv) % 92).toNat≠((a+(j:Int)*tv) % 92).toNat:=by
 rcases ht with rfl|rfl|rfl|rfl|rfl|rfl<;>omega
theorem Qi{L:List Nat}{p:Nat->Nat}(hL:L.Nodup)(n:Nat)(hp:∀i,i<n->p i<L.length)(hne:∀i j,i<j->j<n->p i≠p j):((List.range n).map λi=>L.getD (p i) 0).Nodup:=by
 rw[List.Nodup,List.pairwise_map]
 refine List.Pairwise.imp_of_mem ?_ (List.pairwise_lt_range (n:=n))
 intro i j hi hj hij z
 have h1:=hp i (List.mem_range.mp hi)
 have h2:=hp j (List.mem_range.mp hj)
 rw[aO (List.getElem?_eq_getElem h1),aO (List.getElem?_eq_getElem h2)]at z
 exact hne i j hij (List.mem_range.mp hj) ((List.getElem_inj hL).mp z)
noncomputable def Vi:List Nat->Bool
 |a::b::r=>decide (a<b)&&Vi (b::r)
 |_=>true
theorem G7:∀{a:Nat} {l:List Nat},Vi (a::l)=true->(∀c∈l,a<c)/\Vi l=true
 |a,[],_=>⟨λc hc=>(nomatch hc),rfl⟩
 |a,b::r,h=>by
  have h':(decide (a<b)&&Vi (b::r))=true:=h
  rw[Bool.and_eq_true]at h'
  have h1:=of_decide_eq_true h'.1
  refine⟨λc hc=>?_,h'.2⟩
  rcases List.mem_cons.mp hc with rfl|hc
  ·exact h1
  ·exact Nat.lt_trans h1 ((G7 h'.2).1 c hc)
theorem zl:∀{l:List Nat},Vi l=true->l.Nodup
 |[],_=>List.nodup_nil
 |a::l,h=>List.nodup_cons.mpr ⟨λz=>Nat.lt_irrefl _ ((G7 h).1 a z),zl (G7 h).2⟩
theorem Tg(e:Int):Sm (e % ((10:Int) ^ (40:Int).toNat)-5*(10:Int) ^ (39:Int).toNat):=by
 have e1:(10:Int) ^ (40:Int).toNat=10000000000000000000000000000000000000000:=by decide
 have e2:(10:Int) ^ (39:Int).toNat=1000000000000000000000000000000000000000:=by decide
 rw[e1,e2]
 have h1:=Int.emod_nonneg e (show(10000000000000000000000000000000000000000:Int)≠0 by decide)
 have h2:=Int.emod_lt_of_pos e (show(0:Int)<10000000000000000000000000000000000000000 by decide)
 exact OW (by omega) (by omega)
noncomputable def NI(K:PySem.W.Frag):Sp:=λvs H Q _=>∃(s t:Addr) (ns:List Int) (k:Int) (n:Nat),vs=[.ref s,.ref t,.int n]/\uO K H s t ns k/\k<=100000/\n<=6 ∧
 ∀(x:Str) H',x.cps.size=n->(∀c∈x.cps.toList,dZ c=true)->x.cps.toList.Nodup->ai (L2.upd H t (.lst [.int (k+1)])) H'->Q (.str x) H'
noncomputable def AW(K:PySem.W.Frag)(C:Addr):Sp:=λvs H Q _=>∃(s t:Addr) (ns:List Int) (k:Int) (sg:Str) (b:Bool),vs=[.ref s,.ref t,.str sg,.bl b]/\uO K H s t ns k/\k<=80000/\OZ sg/\sg.cps.size<=12 ∧
 ∀x H' k' rows fo fm,jk K C (Wo t H') x sg rows fo fm->H x=none->ai (Wo t H) (Wo t H')->H' t=some (.lst [.int k'])->k<=k'->k'<=k+200->Q (.ref x) H'
end GP
namespace GP
open PySem L2 oH
noncomputable def uU(rs:List Str)(i k:Nat):Nat:=(rs.getD i ⟨#[]⟩).cps.toList.getD k 0
theorem RU{rs:List Str}{i k:Nat}(h:i<rs.length):(f6 rs k).getD i 0=uU rs i k:=by
 unfold f6 uU
 rw[aO (by rw[List.getElem?_map,List.getElem?_eq_getElem h];rfl),aO (List.getElem?_eq_getElem h)]
theorem V3(tc:Nat->Nat->Int)(rs:List Str):sm (λi=>sm (λj=>if i<j then sm (λk=>tc (uU rs i k) (uU rs j k)) (br rs)else 0) rs.length) rs.length=wK tc rs:=by
 rw[←ZU λk i r=>tc (uU rs i k) (uU rs r k)]
 unfold wK VW
 refine fq λk _=>fq λr hr=>fq λi hi=>?_
 rw[RU hr,RU (Nat.lt_trans hi hr)]
theorem Rm{i:Nat}(f:Nat->Int):∀n,n<=i+1->sm (λj=>if i<j then f j else 0) n=0
 | 0,_=>rfl
 |n+1,h=>by
  show sm (λj=>if i<j then f j else 0) n+(if i<n then f n else 0)=0
  rw[Rm f n (by omega),if_neg (by omega)]
  rfl
noncomputable def Rj(K:PySem.W.Frag)(C:Addr):Sp:=λvs H Q _=>∃(x a:Addr) (sg:Str) (rows:List (List bY)) (fo fm:bY) (rs:List Str),vs=[.ref x,.ref a]/\jk K C H x sg rows fo fm/\bf K H a (rs.map V.str)/\TL rs/\oE rs=true/\(∀r∈rs,Of (tP sg) r) ∧
 ∀H',ai H H'->Q (.int (wK (MY sg rows fo fm) rs)) H'
end GP
namespace GP
open PySem L2 oH
theorem eF{rs:List Str}(h:gf rs=true):oE rs=true:=by
 unfold gf at h
 rw[Bool.and_eq_true]at h
 exact h.1
theorem vO.uniq{kn:Str}{rs:List Str}{i j i' j':Nat}(h:vO kn rs i j)(h':vO kn rs i' j'):i=i'/\j=j':=by
 obtain⟨⟨r,c,h1,h2,h3,h4⟩,h5⟩:=h
 obtain⟨⟨r',c',Bb,h2',h3',MU⟩,MT⟩:=h'
 have m:c∈r.cps.toList:=by rw[←Array.getElem?_toList]at h2;exact List.mem_of_getElem? h2
 have m':c'∈r'.cps.toList:=by rw[←Array.getElem?_toList]at h2';exact List.mem_of_getElem? h2'
 have ei:i=i':=Nat.le_antisymm (Nat.not_lt.mp λz=>h3' (h5 i' r' z Bb c' m')) (Nat.not_lt.mp λz=>h3 (MT i r z h1 c m))
 subst ei
 rw[h1]at Bb
 cases Bb
 exact⟨rfl,Nat.le_antisymm (Nat.not_lt.mp λz=>h3' (h4 j' c' z h2')) (Nat.not_lt.mp λz=>h3 (MU j c z h2))⟩
theorem vO.no{kn:Str}{rs:List Str}{i j:Nat}(h:vO kn rs i j):¬ ∀r∈rs,Of kn r:=λz=>by
 obtain⟨⟨r,c,h1,h2,h3,_⟩,_⟩:=h
 exact h3 (z r (List.mem_of_getElem? h1) c (by rw[←Array.getElem?_toList]at h2;exact List.mem_of_getElem? h2))
end GP
namespace GP
open PySem L2 oH
noncomputable def GZ(x:Str)(c:Nat):Prop:=UZ c/\c∈(tP x).cps.toList
theorem GZ.gap{x:Str}:GZ x 45:=⟨.inl rfl,oG.mpr (.inl rfl)⟩
theorem GZ.of{x:Str}{c:Nat}(h:dZ c=true/\c∈x.cps.toList):GZ x c:=⟨.inr h.1,oG.mpr (.inr h.2)⟩
theorem Vz{kn:Str}{rs:List Str}{cs:List Nat}{n:Nat}(hl:rs.length=n)(hc:cs.length=n)(h:∀r∈rs,Of kn r)(hk:∀c∈cs,c∈kn.cps.toList):∀r∈grown rs cs n,Of kn r:=λy hy d hd=>by
 unfold grown at hy
 obtain⟨r,hr,rfl⟩:=List.mem_map.mp hy
 have hr':=List.mem_range.mp hr
 have h1:r<rs.length:=by rw[hl];exact hr'
 have h2:r<cs.length:=by rw[hc];exact hr'
 rw[aO (List.getElem?_eq_getElem h1),aO (List.getElem?_eq_getElem h2),jm]at hd
 rcases List.mem_append.mp hd with hd|hd
 ·exact h _ (List.getElem_mem h1) d hd
 ·rw[List.mem_singleton.mp hd]
  exact hk _ (List.getElem_mem h2)
noncomputable def Uu(K:PySem.W.Frag):Sp:=λvs H Q _=>∃(s t:Addr) (ns:List Int) (k:Int) (x:Str) (n:Nat),vs=[.ref s,.ref t,.str x,.int n]/\uO K H s t ns k/\k<=90000/\0<n/\n<=10/\0<x.cps.size/\x.cps.size<=10/\(∀c∈x.cps.toList,dZ c=true) ∧
 ∀(l:Addr) (cs:List Nat) (k':Int) (H':Hp),cs.length=n->(∀c∈cs,GZ x c)->(∃c∈cs,c≠45)->H' l=some (.lst (cs.map sg))->H l=none->ai (Wo t H) (Wo t H')->H' t=some (.lst [.int k'])->k<=k'->k'<=k+20->Q (.ref l) H'
noncomputable def Q7(K:PySem.W.Frag):Sp:=λvs H Q _=>∃(s t:Addr) (ns:List Int) (k:Int) (x:Str) (n m:Nat),vs=[.ref s,.ref t,.str x,.int n,.int m]/\uO K H s t ns k/\k<=80000/\0<n/\n<=10/\m<=50/\0<x.cps.size/\x.cps.size<=10/\(∀c∈x.cps.toList,dZ c=true) ∧
 ∀(l:Addr) (rs:List Str) (k':Int) (H':Hp),mU rs n m->(∀r∈rs,Of (tP x) r)->H' l=some (.lst (rs.map V.str))->H l=none->ai (Wo t H) (Wo t H')->H' t=some (.lst [.int k'])->k<=k'->k'<=k+1000->Q (.ref l) H'
end GP
namespace GP
open PySem L2 oH
theorem Xq(l:List Nat)(c:Nat):∀(k:Nat),k<l.length->l.take k++[c]++l.drop (k+1)=l.set k c:=by
 induction l with
 |nil=>intro k h;cases h
 |cons a l ih =>
  intro k h
  cases k with
  |zero=>rfl
  |succ k =>
   have:=ih k (by simpa using h)
   show a::(l.take k++[c]++l.drop (k+1))=a::l.set k c
   rw[this]
theorem mU.put{rs:List Str}{n w r k:Nat}{row o:Str}{c:Nat}(h:mU rs n w)(hr:rs[r]? =some row)(hk:k<w)(ho:o.cps.toList=row.cps.toList.set k c)(hc:dZ c=true):mU (rs.set r o) n w:=by
 have hm:=List.mem_of_getElem? hr
 have hrl:r<rs.length:=(List.getElem?_eq_some_iff.mp hr).1
 have Vv:k<row.cps.toList.length:=by rw[Array.length_toList,h.br row hm];exact hk
 refine⟨by rw[List.length_set];exact h.len,λy hy=>?_,λy hy d hd=>?_,λj hj=>?_⟩
 ·rcases List.mem_or_eq_of_mem_set hy with hy|rfl
  ·exact h.br y hy
  ·rw[←Array.length_toList,ho,List.length_set,Array.length_toList];exact h.br row hm
 ·rcases List.mem_or_eq_of_mem_set hy with hy|rfl
  ·exact h.ok y hy d hd
  ·rw[ho]at hd
   rcases List.mem_or_eq_of_mem_set hd with hd|rfl
   ·exact h.ok row hm d hd
   ·exact .inr hc
 ·obtain⟨y,hy,d,hd,hne⟩:=h.col j hj
  obtain⟨q,hq,e⟩:=List.getElem_of_mem hy
  by_cases z:q=r
  ·subst z
   rw[List.getElem?_eq_getElem hq,e]at hr
   cases hr
   refine⟨o,List.mem_set hrl o,?_⟩
   by_cases z2:j=k
   ·subst z2
    exact⟨c,by rw[ho,List.getElem?_set_self Vv],Gq hc⟩
   ·exact⟨d,by rw[ho,List.getElem?_set_ne (Ne.symm z2)];exact hd,hne⟩
  ·refine⟨y,?_,d,hd,hne⟩
   refine List.mem_of_getElem? (i:=q) ?_
   rw[List.getElem?_set_ne (Ne.symm z),List.getElem?_eq_getElem hq,e]
theorem Ud{l:List Nat}(h:l.Nodup){k j c:Nat}(hj:l[j]? =some c)(hk:k<=j):c∉l.take k:=λz=>by
 obtain⟨i,hi,e⟩:=List.getElem_of_mem z
 rw[List.length_take]at hi
 have hi2:i<l.length:=by omega
 obtain⟨hj2,e2⟩:=List.getElem?_eq_some_iff.mp hj
 rw[List.getElem_take]at e
 have:=(List.getElem_inj (h₀:=hi2) (h₁:=hj2) h).mp (e.trans e2.symm)
 omega
section
variable{K:PySem.W.Frag}{CP CB:Addr}{H H' Pw:Hp}{t a x o:Addr}{k k2:Int}{sg:Str}{rows:List (List bY)}{fo fm:bY}{rs0 rs rs2:List Str}
end
end GP
namespace GP
open PySem L2 oH
theorem t7.wo{K:PySem.W.Frag}{C:Addr}{H:Hp}{t b:Addr}{ys:List V}{rs:List Str}(ht:H t=some (.lst ys))(h:t7 K C H b rs):t7 K C (Wo t H) b rs:=by
 obtain⟨dx,q,h1,h2⟩:=h
 exact⟨dx,q,Wo.in (pL h1 ht (by intro z;cases z)) h1,iR.wo ht h2⟩
theorem Q0(a b:Int):kZ [V.int a,V.int b] [V.int a,V.int b]=true:=by simp[kZ,List.range,List.range.loop,S5]
end GP
namespace GP
open PySem L2 oH
noncomputable def qe(e b b1 r:Int):Int:=if e<=0 then min (e+b1) (min b r)else min b r
noncomputable def tH(e b:Nat->Int)(n:Nat):Nat->Int
 | 0=>0
 |k+1=>qe (e (n-1-k)) (b (n-1-k)) (b (n-k)) (tH e b n k)
noncomputable def Sh(E:Nat->Nat->Int)(m n:Nat):Nat->Nat->Int
 | 0,_=>0
 |k+1,j=>tH (E (m-1-k)) (Sh E m n k) n (n-j)
noncomputable def c6(E:Nat->Nat->Int)(m n i j:Nat):Int:=Sh E m n (m-i) j
theorem oS{E:Nat->Nat->Int}{m n j:Nat}:c6 E m n m j=0:=by unfold c6;rw[Nat.sub_self];rfl
theorem yF{E:Nat->Nat->Int}{m n i j:Nat}(hi:i<m):c6 E m n i j=tH (E i) (c6 E m n (i+1)) n (n-j):=by
 unfold c6
 obtain⟨k,hk⟩:∃k,m-i=k+1:=⟨m-i-1,by omega⟩
 rw[hk]
 show tH (E (m-1-k)) (Sh E m n k) n (n-j)=_
 rw[show m-1-k=i by omega,show m-(i+1)=k by omega]
theorem sS{E:Nat->Nat->Int}{m n i:Nat}(hi:i<=m):c6 E m n i n=0:=by
 by_cases h:i<m
 ·rw[yF h,Nat.sub_self];rfl
 ·rw[show i=m by omega,oS]
theorem sR{E:Nat->Nat->Int}{m n i j:Nat}(hi:i<m)(hj:j<n):c6 E m n i j=qe (E i j) (c6 E m n (i+1) j) (c6 E m n (i+1) (j+1)) (c6 E m n i (j+1)):=by
 rw[yF (j:=j) hi,yF (j:=j+1) hi]
 obtain⟨k,hk⟩:∃k,n-j=k+1:=⟨n-j-1,by omega⟩
 rw[hk,show n-(j+1)=k by omega]
 show qe (E i (n-1-k)) (c6 E m n (i+1) (n-1-k)) (c6 E m n (i+1) (n-k)) _=_
 rw[show n-1-k=j by omega,show n-k=j+1 by omega]
theorem uW{e b b1 r:Int}:qe e b b1 r<=b/\qe e b b1 r<=r/\(e<=0->qe e b b1 r<=e+b1)/\(qe e b b1 r=e+b1\/qe e b b1 r=b\/qe e b b1 r=r):=by
 unfold qe
 split<;>(refine⟨by omega,by omega,by omega,by omega⟩)
theorem UG{E:Nat->Nat->Int}{m n i j:Nat}(hi:i<m)(hj:j<=n):c6 E m n i j<=c6 E m n (i+1) j:=by
 by_cases h:j<n
 ·rw[sR hi h];exact uW.1
 ·rw[show j=n by omega,sS (by omega),sS (by omega)];exact Int.le_refl _
theorem UE{E:Nat->Nat->Int}{m n i j:Nat}(hi:i<=m)(hj:j<n):c6 E m n i j<=c6 E m n i (j+1):=by
 by_cases h:i<m
 ·rw[sR h hj];exact uW.2.1
 ·rw[show i=m by omega,oS,oS];exact Int.le_refl _
theorem ZY{E:Nat->Nat->Int}{m n i j:Nat}(hi:i<m)(hj:j<n):c6 E m n i j<=E i j+c6 E m n (i+1) (j+1):=by
 have h1:=UG (E:=E) hi (Nat.le_of_lt hj)
 have h2:=UE (E:=E) (m:=m) (i:=i+1) hi hj
 by_cases h:E i j<=0
 ·have h3:=sR (E:=E) hi hj
  have h4:=(uW (e:=E i j) (b:=c6 E m n (i+1) j) (b1:=c6 E m n (i+1) (j+1)) (r:=c6 E m n i (j+1))).2.2.1 h
  omega
 ·omega
theorem WJ{E:Nat->Nat->Int}{m n i j:Nat}(hi:i<m)(hj:j<n):c6 E m n i j=E i j+c6 E m n (i+1) (j+1)\/c6 E m n i j=c6 E m n (i+1) j\/c6 E m n i j=c6 E m n i (j+1):=by
 rw[sR hi hj];exact uW.2.2.2
noncomputable def zY(E:Nat->Nat->Int)(m n i j:Nat):Nat :=
 if i=m then 98 else if j<n/\E i j+c6 E m n (i+1) (j+1)=c6 E m n i j then 112 else if c6 E m n (i+1) j=c6 E m n i j then 97 else 98
theorem aaf{E:Nat->Nat->Int}{m n i j:Nat}:Sz (zY E m n i j):=by
 unfold zY Sz
 split
 ·exact .inr (.inr rfl)
 ·split
  ·exact .inl rfl
  ·split
   ·exact .inr (.inl rfl)
   ·exact .inr (.inr rfl)
inductive o4(m n i j:Nat):Nat->Nat->Nat->Prop
 |p (hi:i<m) (hj:j<n):o4 m n i j 112 (i+1) (j+1)
 |a (hi:i<m):o4 m n i j 97 (i+1) j
 |b (hj:j<n):o4 m n i j 98 i (j+1)
theorem aag{E:Nat->Nat->Int}{m n i j:Nat}(hi:i<=m)(hj:j<=n)(h:¬(i=m/\j=n)):
  ∃i' j',o4 m n i j (zY E m n i j) i' j'/\c6 E m n i j=(if zY E m n i j=112 then E i j else 0)+c6 E m n i' j':=by
 unfold zY
 by_cases h1:i=m
 ·rw[if_pos h1]
  refine⟨i,j+1,.b (by omega),?_⟩
  rw[h1,oS,oS];rfl
 ·rw[if_neg h1]
  by_cases h2:j<n/\E i j+c6 E m n (i+1) (j+1)=c6 E m n i j
  ·rw[if_pos h2]
   refine⟨i+1,j+1,.p (by omega) h2.1,?_⟩
   rw[if_pos rfl];exact h2.2.symm
  ·rw[if_neg h2]
   by_cases h3:c6 E m n (i+1) j=c6 E m n i j
   ·rw[if_pos h3]
    refine⟨i+1,j,.a (by omega),?_⟩
    rw[h3];simp
   ·rw[if_neg h3]
    have hjn:j<n:=by
     by_cases z:j<n
     ·exact z
     ·exfalso
      apply h3
      rw[show j=n by omega,sS (by omega),sS (by omega)]
    refine⟨i,j+1,.b hjn,?_⟩
    rcases WJ (E:=E) (show i<m by omega) hjn with z|z|z
    ·exact absurd ⟨hjn,z.symm⟩ h2
    ·exact absurd z.symm h3
    ·rw[←z];simp
inductive Path(m n:Nat):List Nat->Nat->Nat->Prop
 |nil:Path m n [] 0 0
 |snoc {cs:List Nat} {i j c i' j':Nat}:Path m n cs i j->o4 m n i j c i' j'->Path m n (cs++[c]) i' j'
theorem o4.in{m n i j c i' j':Nat}(h:o4 m n i j c i' j')(hi:i<=m)(hj:j<=n):i'<=m/\j'<=n/\i+j<i'+j':=by
 cases h<;>omega
theorem Path.in{m n:Nat}{cs:List Nat}{i j:Nat}(h:Path m n cs i j):i<=m/\j<=n/\cs.length<=i+j:=by
 induction h with
 |nil=>exact⟨Nat.zero_le _,Nat.zero_le _,Nat.le_refl _⟩
 |snoc _ s ih =>
  obtain⟨a,b,c⟩:=s.in ih.1 ih.2.1
  refine⟨a,b,?_⟩
  rw[List.length_append]
  have:=ih.2.2
  show _+1<=_
  omega
theorem o4.stp{m n i j c i' j':Nat}(h:o4 m n i j c i' j'):GP.stp ((i:Int),(j:Int)) c=((i':Int),(j':Int)):=by
 cases h<;>rfl
theorem o4.ok{m n i j c i' j':Nat}(h:o4 m n i j c i' j'):Sz c:=by
 cases h
 ·exact .inl rfl
 ·exact .inr (.inl rfl)
 ·exact .inr (.inr rfl)
inductive rB(E:Nat->Nat->Int)(m n:Nat):List Nat->Nat->Nat->Prop
 |nil:rB E m n [] 0 0
 |snoc {cs:List Nat} {i j i' j':Nat}:rB E m n cs i j->o4 m n i j (zY E m n i j) i' j'->c6 E m n i j=(if zY E m n i j=112 then E i j else 0)+c6 E m n i' j'->rB E m n (cs++[zY E m n i j]) i' j'
theorem rB.path{E:Nat->Nat->Int}{m n:Nat}{cs:List Nat}{i j:Nat}(h:rB E m n cs i j):Path m n cs i j:=by
 induction h with
 |nil=>exact .nil
 |snoc _ s _ ih=>exact .snoc ih s
noncomputable def pI(cs:List Nat)(k:Nat):Nat:=((cs.take k).filter (· != 98)).length
noncomputable def pJ(cs:List Nat)(k:Nat):Nat:=((cs.take k).filter (· != 97)).length
noncomputable def tR(A B:List Str)(g1 g2:Str)(i j c:Nat):Str:=(if c=98 then g1 else A.getD i ⟨#[]⟩)++(if c=97 then g2 else B.getD j ⟨#[]⟩)
noncomputable def oV(A B:List Str)(g1 g2:Str)(cs:List Nat)(n:Nat):List Str:=(List.range n).map λk=>tR A B g1 g2 (pI cs k) (pJ cs k) (cs.getD k 0)
theorem Qa{cs ds:List Nat}{k:Nat}(h:k<=cs.length):pI (cs++ds) k=pI cs k/\pJ (cs++ds) k=pJ cs k:=by
 unfold pI pJ
 rw[List.take_append_of_le_length h]
 exact⟨rfl,rfl⟩
theorem Rx{cs:List Nat}{k c:Nat}(h:cs[k]? =some c):pI cs (k+1)=pI cs k+(if c=98 then 0 else 1)/\pJ cs (k+1)=pJ cs k+(if c=97 then 0 else 1):=by
 unfold pI pJ
 rw[List.take_add_one,h]
 show(List.filter _ (cs.take k++[c])).length=_/\(List.filter _ (cs.take k++[c])).length=_
 rw[List.filter_append,List.filter_append,List.length_append,List.length_append]
 constructor
 ·by_cases e:c=98<;>simp[e]
 ·by_cases e:c=97<;>simp[e]
theorem Path.at_{m n:Nat}{cs:List Nat}{i j:Nat}(h:Path m n cs i j):pI cs cs.length=i/\pJ cs cs.length=j/\∀k,k<cs.length->∃c,cs[k]? =some c/\o4 m n (pI cs k) (pJ cs k) c (pI cs (k+1)) (pJ cs (k+1)):=by
 induction h with
 |nil=>exact⟨rfl,rfl,λk hk=>absurd hk (Nat.not_lt_zero _)⟩
 | @snoc cs i j c i' j' _ s ih =>
  obtain⟨h1,h2,h3⟩:=ih
  have e1:(cs++[c])[cs.length]? =some c:=by rw[List.getElem?_append_right (Nat.le_refl _),Nat.sub_self];rfl
  have e2:=Rx e1
  have e3:=Qa (cs:=cs) (ds:=[c]) (Nat.le_refl cs.length)
  rw[e3.1,e3.2,h1,h2]at e2
  have e4:i'=i+(if c=98 then 0 else 1)/\j'=j+(if c=97 then 0 else 1):=by cases s<;>exact⟨rfl,rfl⟩
  have el:(cs++[c]).length=cs.length+1:=List.length_append
  rw[el]
  refine⟨e2.1.trans e4.1.symm,e2.2.trans e4.2.symm,λk hk=>?_⟩
  by_cases z:k=cs.length
  ·subst z
   refine⟨c,e1,?_⟩
   rw[e2.1,e2.2,←e4.1,←e4.2,e3.1,e3.2,h1,h2]
   exact s
  ·have hk':k<cs.length:=by omega
   obtain⟨d,hd,sd⟩:=h3 k hk'
   refine⟨d,by rw[List.getElem?_append_left hk'];exact hd,?_⟩
   have a1:=Qa (cs:=cs) (ds:=[c]) (k:=k) (by omega)
   have a2:=Qa (cs:=cs) (ds:=[c]) (k:=k+1) (by omega)
   rw[a1.1,a1.2,a2.1,a2.2]
   exact sd
end GP
namespace GP
open PySem L2 oH
noncomputable def jB(f:Nat->Int)(L:List Nat):Int:=(L.map f).sum
theorem yo(f:Nat->Int):jB f []=0:=rfl
theorem jA(f:Nat->Int)(a:Nat)(L:List Nat):jB f (a::L)=f a+jB f L:=by unfold jB;rw[List.map_cons,List.sum_cons]
theorem NG(f:Nat->Int)(L M:List Nat):jB f (L++M)=jB f L+jB f M:=by unfold jB;rw[List.map_append,List.sum_append]
theorem R6(f:Nat->Int)(L:List Nat)(a:Nat):jB f (L++[a])=jB f L+f a:=by rw[NG,jA,yo];omega
theorem rH(f g:Nat->Int):∀L:List Nat,jB (λa=>f a+g a) L=jB f L+jB g L
 |[]=>rfl
 |a::L=>by rw[jA,jA,jA,rH f g L];omega
theorem kO{f g:Nat->Int}:∀{L:List Nat},(∀a∈L,f a=g a)->jB f L=jB g L
 |[],_=>rfl
 |a::L,h=>by rw[jA,jA,h a (List.mem_cons_self ..),kO λb hb=>h b (List.mem_cons_of_mem _ hb)]
theorem rG(c:Int):∀L:List Nat,jB (λ_=>c) L=(L.length:Int)*c
 |[]=>by rw[yo];simp
 |a::L=>by rw[jA,rG c L,List.length_cons,Int.natCast_add,Int.add_mul];simp;omega
noncomputable def tF(L:List Nat):List Nat:=L.filter (· != 45)
theorem rF(f:Nat->Int):∀L:List Nat,jB (λa=>if a=45 then 0 else f a) L=jB f (tF L)
 |[]=>rfl
 |a::L=>by
  rw[jA,rF f L]
  unfold tF
  by_cases e:a=45
  ·rw[if_pos e,List.filter_cons_of_neg (by simp[e])];omega
  ·rw[if_neg e,List.filter_cons_of_pos (by simp[e]),jA]
theorem WD(f:Nat->Int)(L:List Nat):sm (λi=>f (L.getD i 0)) L.length=jB f L:=by
 rw[←yy]
 unfold jB
 congr 1
 refine List.ext_getElem (by simp) λi h1 h2=>?_
 have hi:i<L.length:=by simpa using h2
 rw[List.getElem_map,List.getElem_map,List.getElem_range,aO (List.getElem?_eq_getElem hi)]
noncomputable def cc(tc:Nat->Nat->Int)(L:List Nat):Int:=VW tc L L.length
theorem Hs(tc:Nat->Nat->Int)(L:List Nat)(x:Nat):cc tc (L++[x])=cc tc L+jB (λl=>tc l x) L:=by
 unfold cc
 rw[show(L++[x]).length=L.length+1 from List.length_append]
 show VW tc (L++[x]) L.length+sm (λi=>tc ((L++[x]).getD i 0) ((L++[x]).getD L.length 0)) L.length=_
 have e:∀i,i<L.length->(L++[x]).getD i 0=L.getD i 0:=λi hi=>by rw[List.getD_eq_getElem?_getD,List.getElem?_append_left hi,←List.getD_eq_getElem?_getD]
 have e2:(L++[x]).getD L.length 0=x:=by rw[List.getD_eq_getElem?_getD,List.getElem?_append_right (Nat.le_refl _),Nat.sub_self];rfl
 rw[e2,fq λi hi=>congrArg (tc · x) (e i hi),WD λl=>tc l x]
 unfold VW
 rw[fq λr hr=>fq λi hi=>by rw[e i (by omega),e r hr]]
noncomputable def DA(tc:Nat->Nat->Int)(L M:List Nat):Int:=jB (λb=>jB (λa=>tc a b) L) M
theorem QI(tc:Nat->Nat->Int)(L:List Nat):∀M:List Nat,cc tc (L++M)=cc tc L+cc tc M+DA tc L M:=by
 intro M
 obtain⟨n,hn⟩:∃n,M.length=n:=⟨_,rfl⟩
 induction n generalizing M with
 |zero =>
  have e:M=[]:=List.eq_nil_of_length_eq_zero hn
  rw[e,List.append_nil]
  show _=cc tc L+0+0
  omega
 |succ n ih =>
  obtain⟨M',x,rfl⟩:∃M' x,M=M'++[x]:=by
   rcases List.eq_nil_or_concat M with h|⟨M',x,h⟩
   ·rw[h]at hn;cases hn
   ·exact⟨M',x,by rw[h,List.concat_eq_append]⟩
  have hM:M'.length=n:=by rw[List.length_append]at hn;exact Nat.succ.inj hn
  rw[←List.append_assoc,Hs,ih M' hM,Hs,NG]
  unfold DA
  rw[R6]
  omega
noncomputable def RM(pc:Nat->Nat->Int)(mo:Int)(S O:List Nat):Int:=jB (λo=>jB (λs=>pc s o-2*mo) S) O
theorem QL{tc pc:Nat->Nat->Int}{mo:Int}(h0:∀a b,a=45->b=45->tc a b=0)(h1:∀a b,¬(a=45/\b=45)->(a=45\/b=45)->tc a b=mo)(h2:∀a b,a≠45->b≠45->tc a b=pc a b)(L M:List Nat):
  DA tc L M=RM pc mo (tF L) (tF M)+((tF L).length:Int)*(M.length:Int)*mo+((tF M).length:Int)*(L.length:Int)*mo:=by
 have e:∀a b,tc a b=(if a=45 then 0 else if b=45 then 0 else pc a b-2*mo)+((if a=45 then 0 else mo)+(if b=45 then 0 else mo)):=λa b=>by
  by_cases ha:a=45
  ·by_cases hb:b=45
   ·rw[h0 a b ha hb,if_pos ha,if_pos ha,if_pos hb];rfl
   ·rw[h1 a b (λz=>hb z.2) (.inl ha),if_pos ha,if_pos ha,if_neg hb];omega
  ·by_cases hb:b=45
   ·rw[h1 a b (λz=>ha z.1) (.inr hb),if_neg ha,if_neg ha,if_pos hb,if_pos hb];omega
   ·rw[h2 a b ha hb,if_neg ha,if_neg ha,if_neg hb,if_neg hb];omega
 unfold DA
 rw[kO (g:=λb=>(if b=45 then 0 else jB (λs=>pc s b-2*mo) (tF L))+(((tF L).length:Int)*mo+(if b=45 then 0 else(L.length:Int)*mo))) λb _=>?_]
 ·rw[rH,rF (λb=>jB (λs=>pc s b-2*mo) (tF L)),rH,rG,rF (λ_=>(L.length:Int)*mo),rG]
  unfold RM
  rw[Int.mul_comm ((tF L).length:Int) (M.length:Int),Int.mul_assoc,Int.mul_assoc,Int.add_assoc]
 ·rw[kO λa _=>e a b,rH,rH,rF (λ_=>mo),rG,rG,rF (λa=>if b=45 then 0 else pc a b-2*mo)]
  by_cases hb:b=45
  ·rw[if_pos hb,if_pos hb,kO (g:=λ_=>0) λa _=>if_pos hb,rG,if_pos hb]
   omega
  ·rw[if_neg hb,if_neg hb,kO (g:=λa=>pc a b-2*mo) λa _=>if_neg hb,if_neg hb]
theorem NT(n:Nat):tF (List.replicate n 45)=[]:=by
 unfold tF
 rw[List.filter_eq_nil_iff]
 intro a ha
 rw[List.eq_of_mem_replicate ha]
 simp
theorem Ht{tc:Nat->Nat->Int}(h0:∀a b,a=45->b=45->tc a b=0):∀n:Nat,cc tc (List.replicate n 45)=0
 | 0=>rfl
 |n+1=>by
  rw[List.replicate_succ',Hs,Ht h0 n,kO (g:=λ_=>0) λa ha=>h0 _ _ (List.eq_of_mem_replicate ha) rfl,rG]
  omega
end GP
namespace GP
open PySem L2 oH
noncomputable def aF(n:Nat):Str:=⟨(List.replicate n 45).toArray⟩
theorem jH(n:Nat):(aF n).cps.toList=List.replicate n 45:=rfl
theorem gm(n:Nat):(aF n).cps.size=n:=by rw[←Array.length_toList,jH,List.length_replicate]
theorem NY(n:Nat):pX (Str.ofString "-") (n:Nat)=aF n:=by
 have e:(pX (Str.ofString "-") (n:Nat)).cps.toList=List.replicate n 45:=by
  rw[sU]
  show(List.replicate n [45]).flatten=_
  induction n with
  |zero=>rfl
  |succ n ih=>rw[List.replicate_succ,List.flatten_cons,ih,List.replicate_succ];rfl
 rw[←jH n]at e
 have e2:=Array.toList_inj.mp e
 rcases h3:pX (Str.ofString "-") (n:Nat)with⟨cs⟩
 rw[h3]at e2
 exact congrArg Str.mk e2
structure kY(kn:List Nat)(A:List Str)(n:Nat):Prop where
 size:∀c∈A,c.cps.size=n
 ok:∀c∈A,∀x∈c.cps.toList,UZ x
 of:∀c∈A,∀x∈c.cps.toList,x∈kn
 full:∀c∈A,cC c=false
theorem T9{x:Str}{c:Nat}(h:kD x=true)(hc:c∈x.cps.toList):UZ c:=by
 by_cases e:c=45
 ·exact .inl e
 ·exact .inr (ua.mp h c hc e)
theorem pO{sg:Str}{rs:List Str}(hb:gf rs=true)(ho:∀r∈rs,Of (tP sg) r):kY (tP sg).cps.toList (cols rs (br rs)) rs.length:=by
 unfold gf at hb
 rw[Bool.and_eq_true,Bool.and_eq_true]at hb
 obtain⟨hl,ht,hc⟩:=hb
 obtain⟨hne,hw⟩:=cP.mp hl
 have key:∀c∈cols rs (br rs),∀x∈c.cps.toList,∃r∈rs,x∈r.cps.toList:=λc hc x hx=>by
  unfold cols at hc
  obtain⟨j,hj,rfl⟩:=List.mem_map.mp hc
  obtain⟨r,hr,rfl⟩:=List.mem_map.mp (show x∈rs.map λr=>r.cps.toList.getD j 0 from hx)
  have hj':j<r.cps.toList.length:=by rw[Array.length_toList,hw r hr];exact List.mem_range.mp hj
  refine⟨r,hr,?_⟩
  rw[aO (List.getElem?_eq_getElem hj')]
  exact List.getElem_mem hj'
 refine⟨λc hc=>?_,λc hc x hx=>?_,λc hc x hx=>?_,λc hc'=>?_⟩
 ·unfold cols at hc
  obtain⟨j,hj,rfl⟩:=List.mem_map.mp hc
  exact List.length_map ..
 ·obtain⟨r,hr,hx⟩:=key c hc x hx
  exact T9 (List.all_eq_true.mp ht r hr) hx
 ·obtain⟨r,hr,hx⟩:=key c hc x hx
  exact ho r hr x hx
 ·unfold zC at hc
  have:=List.all_eq_true.mp hc c hc'
  rw[Bool.not_eq_true']at this
  exact this
theorem ZV{α:Type}(F:α->Int)(l:List α)(d:α):sm (λi=>F (l.getD i d)) l.length=(l.map F).sum:=by
 rw[←yy]
 congr 1
 refine List.ext_getElem (by simp) λi h1 h2=>?_
 have hi:i<l.length:=by simpa using h2
 rw[List.getElem_map,List.getElem_map,List.getElem_range,aO (List.getElem?_eq_getElem hi)]
theorem sM{os:List Str}{N k:Nat}{o:Str}(hs:∀o∈os,o.cps.size=N)(hk:os[k]? =some o):f6 (cols os N) k=o.cps.toList:=by
 have ho:=hs o (List.mem_of_getElem? hk)
 unfold f6 cols
 rw[List.map_map]
 refine List.ext_getElem (by rw[List.length_map,List.length_range,Array.length_toList,ho]) λr h1 h2=>?_
 rw[List.getElem_map,List.getElem_range]
 show(os.map λx=>x.cps.toList.getD r 0).getD k 0=_
 rw[aO (x:=o.cps.toList.getD r 0) (by rw[List.getElem?_map,hk];rfl),aO (List.getElem?_eq_getElem h2)]
theorem uR{os:List Str}{N:Nat}(h:0<N):br (cols os N)=os.length:=by
 obtain⟨M,rfl⟩:∃M,N=M+1:=⟨N-1,by omega⟩
 unfold br cols
 rw[List.range_succ_eq_map,List.map_cons]
 exact List.length_map ..
theorem Tf(tc:Nat->Nat->Int){os:List Str}{N:Nat}(h:0<N)(hs:∀o∈os,o.cps.size=N):wK tc (cols os N)=(os.map λo=>cc tc o.cps.toList).sum:=by
 unfold wK
 rw[uR h,aZ,←ZV (λo=>cc tc o.cps.toList) os ⟨#[]⟩]
 refine fq λk hk=>?_
 rw[sM hs (List.getElem?_eq_getElem hk),aO (List.getElem?_eq_getElem hk)]
 unfold cc
 rw[Array.length_toList,hs _ (List.getElem_mem hk)]
theorem UD{os:List Str}{N:Nat}{r:Str}{x:Nat}(hs:∀o∈os,o.cps.size=N)(hr:r∈cols os N)(hx:x∈r.cps.toList):∃o∈os,x∈o.cps.toList:=by
 unfold cols at hr
 obtain⟨j,hj,rfl⟩:=List.mem_map.mp hr
 obtain⟨o,ho,rfl⟩:=List.mem_map.mp (show x∈os.map λr=>r.cps.toList.getD j 0 from hx)
 have hj':j<o.cps.toList.length:=by rw[Array.length_toList,hs o ho];exact List.mem_range.mp hj
 refine⟨o,ho,?_⟩
 rw[aO (List.getElem?_eq_getElem hj')]
 exact List.getElem_mem hj'
theorem t9{kn:List Nat}{os:List Str}{N:Nat}(hN:0<N)(h:kY kn os N):gf (cols os N)=true/\∀r∈cols os N,∀x∈r.cps.toList,x∈kn:=by
 have hw:=uR (os:=os) hN
 have hl:oE (cols os N)=true:=by
  refine cP.mpr ⟨λz=>?_,λr hr=>?_⟩
  ·have:=aZ (rs:=os) (n:=N)
   rw[z]at this
   have:0=N:=this
   omega
  ·rw[hw]
   unfold cols at hr
   obtain⟨j,hj,rfl⟩:=List.mem_map.mp hr
   exact List.length_map ..
 refine⟨?_,λr hr x hx=>?_⟩
 ·unfold gf
  rw[hl,Bool.true_and,Bool.and_eq_true]
  refine⟨List.all_eq_true.mpr λr hr=>ua.mpr λc hc hn=>?_,?_⟩
  ·obtain⟨o,ho,hx⟩:=UD h.size hr hc
   exact(h.ok o ho c hx).resolve_left hn
  ·unfold zC
   rw[hw,List.all_eq_true]
   intro c hc
   obtain⟨k,hk,rfl⟩:=List.mem_map.mp (show c∈(List.range os.length).map (eE (cols os N)) from hc)
   have hk':=List.mem_range.mp hk
   have e:=sM h.size (List.getElem?_eq_getElem hk')
   have:=h.full _ (List.getElem_mem hk')
   unfold cC at this ⊢
   rw[show(eE (cols os N) k).cps.toList=f6 (cols os N) k from rfl,e,this]
   rfl
 ·obtain⟨o,ho,hx⟩:=UD h.size hr hx
  exact h.of o ho x hx
theorem VE{a b:Str}:cC (a++b)=(cC a&&cC b):=by
 unfold cC
 rw[jm,List.all_append]
section
variable{kn:List Nat}{A B:List Str}{n1 n2:Nat}
theorem getD_mem{i:Nat}(h:i<A.length):A.getD i ⟨#[]⟩∈A:=by
 rw[aO (List.getElem?_eq_getElem h)]
 exact List.getElem_mem h
theorem Xs(hA:kY kn A n1)(hB:kY kn B n2)(hk:45∈kn){i j c i' j':Nat}(h:o4 A.length B.length i j c i' j'):
  (tR A B (aF n1) (aF n2) i j c).cps.size=n1+n2/\(∀x∈(tR A B (aF n1) (aF n2) i j c).cps.toList,UZ x/\x∈kn)/\cC (tR A B (aF n1) (aF n2) i j c)=false:=by
 have ga:∀n x,x∈(aF n).cps.toList->UZ x/\x∈kn:=λn x hx=>by
  rw[List.eq_of_mem_replicate hx]
  exact⟨.inl rfl,hk⟩
 have mk:∀{a b:Str},a.cps.size=n1->b.cps.size=n2->(∀x∈a.cps.toList,UZ x/\x∈kn)->(∀x∈b.cps.toList,UZ x/\x∈kn)->(cC a=false\/cC b=false) →
   (a++b).cps.size=n1+n2/\(∀x∈(a++b).cps.toList,UZ x/\x∈kn)/\cC (a++b)=false:=λ{a b} h1 h2 h3 h4 h5=>by
  refine⟨by rw[qF,h1,h2],λx hx=>?_,?_⟩
  ·rw[jm]at hx
   exact(List.mem_append.mp hx).elim (h3 x) (h4 x)
  ·rw[VE]
   rcases h5 with h5|h5<;>rw[h5]
   ·rfl
   ·rw[Bool.and_false]
 unfold tR
 cases h with
 |p hi hj =>
  rw[if_neg (by decide),if_neg (by decide)]
  exact mk (hA.size _ (getD_mem hi)) (hB.size _ (getD_mem hj)) (λx hx=>⟨hA.ok _ (getD_mem hi) x hx,hA.of _ (getD_mem hi) x hx⟩) (λx hx=>⟨hB.ok _ (getD_mem hj) x hx,hB.of _ (getD_mem hj) x hx⟩) (.inl (hA.full _ (getD_mem hi)))
 |a hi =>
  rw[if_neg (by decide),if_pos rfl]
  exact mk (hA.size _ (getD_mem hi)) (gm _) (λx hx=>⟨hA.ok _ (getD_mem hi) x hx,hA.of _ (getD_mem hi) x hx⟩) (ga n2) (.inl (hA.full _ (getD_mem hi)))
 |b hj =>
  rw[if_pos rfl,if_neg (by decide)]
  exact mk (gm _) (hB.size _ (getD_mem hj)) (ga n1) (λx hx=>⟨hB.ok _ (getD_mem hj) x hx,hB.of _ (getD_mem hj) x hx⟩) (.inr (hB.full _ (getD_mem hj)))
theorem Path.cols(hA:kY kn A n1)(hB:kY kn B n2)(hk:45∈kn){cs:List Nat}{i j:Nat}(h:Path A.length B.length cs i j):kY kn (oV A B (aF n1) (aF n2) cs cs.length) (n1+n2):=by
 have key:∀o∈oV A B (aF n1) (aF n2) cs cs.length,o.cps.size=n1+n2/\(∀x∈o.cps.toList,UZ x/\x∈kn)/\cC o=false:=λo ho=>by
  unfold oV at ho
  obtain⟨k,hk',rfl⟩:=List.mem_map.mp ho
  obtain⟨c,hc,s⟩:=h.at_.2.2 k (List.mem_range.mp hk')
  rw[aO hc]
  exact Xs hA hB hk s
 exact⟨λo ho=>(key o ho).1,λo ho x hx=>((key o ho).2.1 x hx).1,λo ho x hx=>((key o ho).2.1 x hx).2,λo ho=>(key o ho).2.2⟩
end
end GP
namespace L2
open PySem PySem.Spec PyProof.Rows
noncomputable def CC(K:PySem.W.Frag)(a:Addr)(n:Nat):It :=
 ⟨λi H=>∃xs x,bf K H a xs/\i<n/\xs[n-1-i]? =some x,λi H x H'=>H'=H/\∀xs,bf K H a xs->xs[n-1-i]? =some x,λi _=>n<=i⟩
theorem T6{P:Program}{w:World}{K:PySem.W.Frag}{tg:Expr}(a it:Addr)(n:Nat):Turn P w K tg (CC K a n) [it] it (λi h=>i<=n/\h.IsRevIter it a ((n:Int)-1-(i:Int))) where
 mem:=by simp
 obj:=λi h st b hb=>by
  have e:b=it:=by simpa using hb
  subst e
  obtain⟨o,e,c,d⟩:=st.2
  exact⟨o,e,λv z=>by rw[d]at z;cases z⟩
 keep:=λi h h' st k=>⟨st.1,st.2.at λo e=>k it (by simp) o e⟩
 item:=by
  intro X hP hw hK hc i pins s σ H E I hf st hg
  subst hP hw hK
  obtain⟨xs,x,hq,hi,hx⟩:=hg
  obtain⟨its,rv,p,hz⟩:=I.list hq
  obtain⟨u,hu,ru⟩:=rv.get hx
  obtain⟨f0,f1,f2,f3,f4,f5⟩:=hf it (by simp)
  have st':s.heap.IsRevIter it a ((n-1-i:Nat):Int):=by
   rw[show((n-1-i:Nat):Int)=(n:Int)-1-(i:Int) by omega]
   exact st.2
  refine wpAny_pyNext_rev_item st' p.isList (x:=u) (by simpa using hu) λh' st' sb=>?_
  have I1:Inv X pins σ H { s with heap:=h' }:=I.turned (t':=s.toks) (λb o hb e=>(sb.2 b hb).trans e) f0 f1 f3 f4 f5
  obtain⟨o,e,c,d⟩:=id st'
  refine⟨u,rfl,Bc (s:={ s with heap:=h' }) e c d (by decide) ⟨x,H,I1,ru,⟨rfl,λys hy=>by rw[I.y9 hy hq];exact hx⟩,⟨by omega,?_⟩,λb hb=>(hf b hb).1⟩⟩
  rw[show(n:Int)-1-((i+1:Nat):Int)=((n-1-i:Nat):Int)-1 by omega]
  exact st'
 done:=by
  intro X hP hw hK hc i pins s σ H E I hf st hg
  subst hP hw hK
  obtain⟨f0,f1,f2,f3,f4,f5⟩:=hf it (by simp)
  have hg':n<=i:=hg
  have st':s.heap.IsRevIter it a (-1):=by
   rw[show(-1:Int)=(n:Int)-1-(i:Int) by have:=st.1;omega]
   exact st.2
  exact wpAny_pyNext_rev_end (I.ok.hd hc) st' λh' eb=>⟨rfl,I.turned (t':=s.toks) (λb o hb e=>eb b o hb e) f0 f1 f3 f4 f5⟩
 self:=λ_ _ _ _ _ st h=>wpAny_pyIter_revIter st.2 h
noncomputable def agK(K:PySem.W.Frag)(ta:TA):TI:=λσ H R=>ta σ H λvs H1=>∃a xs,vs=[.ref a]/\bf K H1 a xs/\R (CC K a xs.length) H1
theorem boot_reversed:bootBuiltins "reversed" =some (.type "reversed"):=by decide +kernel
theorem Z5 {X:Cx} {tg a:Expr} {ta:TA} {p pos:Pos} (hg:Gl X "reversed") (hm:X.mg "reversed" =none) (ha:PA X [a] ta) (hs:starEach [a] X.env=[(false,eval a X.env)]:=by rfl):PI X tg (.Call (.Name "reversed" p) [a] [] pos) (agK X.K ta):=by
 intro pins s σ H R I h
 refine Call_ (qS I hg hm boot_reversed (PyProof.Rows.callWith_type1 (gB (ha pos pins s σ H _ I h) λus s1 ⟨vs,H1,I1,r1,q1⟩=>?_) hs rfl))
 obtain⟨l,xs,rfl,hq,q⟩:=q1
 obtain⟨u,rfl,ru⟩:=vals1 r1
 cases ru
 obtain⟨its,rv,pl,hz⟩:=I1.list hq
 have hl:s1.heap.IsList l its.toArray:=pl.isList
 have hlen:=rv.length
 refine call_reversed_list hl ?_
 have e0:({ s1 with heap:=s1.heap.push (revObj l ((its.toArray.size:Int)-1)) }:Shared).heap.IsRevIter s1.heap.objs.size l ((xs.length:Int)-1-((0:Nat):Int)) :=
  ⟨_,Heap.get?_push_size _ rfl,rfl,by rw[show(xs.length:Int)-1-((0:Nat):Int)=(its.toArray.size:Int)-1 by rw[List.size_toArray];omega];rfl⟩
 refine wpAny_pyIter_revIter e0 ?_
 refine⟨s1.heap.objs.size,[s1.heap.objs.size],_,_,H1,rfl,I1.kept (t':=s1.toks) λb o e=>Heap.get?_push_of_some _ e,T6 l _ xs.length,⟨Nat.zero_le _,e0⟩,λb hb=>?_,q⟩
 have e:b=s1.heap.objs.size:=by simpa using hb
 subst e
 exact I1.xW (Nat.le_refl _) (I1.hok.fresh (Nat.le_refl _))
end L2
namespace L2
open PySem PySem.Spec PyProof.Rows
theorem Qc{X:Cx}(hu:X.A.units+1<cLine):tD X (compareOp .NotIn) (λx y H Q=>∃a o,y= .ref a/\wU H a x o/\Q (.bl (!o.isSome)) H):=by
 intro pins s σ H x y u v Q I rx ry h
 obtain⟨a,o,rfl,g,q⟩:=h
 cases (show v=Value.ref a from ry)
 exact Xp hu I g rx λs3 I3=>⟨.bl (!o.isSome),H,I3,rfl,q⟩
theorem Xk{K:PySem.W.Frag}{a:Addr}{xs:List V}{g:TG}{tb:TS}{D:Ends}{σ:St}{H:Hp}(Pv:Nat->St->Hp->Prop)(h0:Pv 0 σ H)(hl:∀i σ H,i<xs.length->Pv i σ H->bf K H a xs)
  (hs:∀i x σ H,i<xs.length->xs[xs.length-1-i]? =some x->Pv i σ H->g x σ H λσ2 H2=>tb { D with nx:=Pv (i+1),ct:=Pv (i+1),bk:=D.nx } σ2 H2) (hd:∀ σ H,Pv xs.length σ H->D.nx σ H) :
  ∃W:Nat->Nat->St->Hp->Prop,(∃m,W 0 m σ H)/\∀i m σ H,W i m σ H →
   ((CC K a xs.length).stop i H/\D.nx σ H)\/((CC K a xs.length).go i H/\∃N:St->Hp->Prop,(∀ σ' H',N σ' H'->∃m',m'<m/\W (i+1) m' σ' H')/\∀x H',(CC K a xs.length).AL i H x H'->g x σ H' λσ2 H2=>tb { D with nx:=N,ct:=N,bk:=D.nx } σ2 H2):=by
 refine⟨λi m σ H=>m=xs.length-i/\i<=xs.length/\Pv i σ H,⟨xs.length,by simp,Nat.zero_le _,h0⟩,?_⟩
 rintro i m σ H ⟨rfl,hi,p⟩
 by_cases hlt:i<xs.length
 ·have hx:xs[xs.length-1-i]? =some xs[xs.length-1-i]:=List.getElem?_eq_getElem (by omega)
  refine .inr ⟨⟨xs,_,hl i σ H hlt p,hlt,hx⟩,Pv (i+1),λσ' H' p'=>⟨xs.length-(i+1),by omega,rfl,hlt,p'⟩,λx H' y=>?_⟩
  obtain⟨e,y⟩:=y
  subst e
  exact hs i x σ _ hlt (y xs (hl i σ _ hlt p)) p
 ·have e:i=xs.length:=by omega
  subst e
  exact .inl ⟨Nat.le_refl _,hd σ H p⟩
end L2
namespace GP
open PySem L2 oH
theorem b9{α β:Type}{d:α}(l:List α)(F:α->β):(List.range l.length).map (λj=>F (l.getD j d))=l.map F:=by
 refine List.ext_getElem (by simp) λi h1 h2=>?_
 have hi:i<l.length:=by simpa using h2
 rw[List.getElem_map,List.getElem_map,List.getElem_range,aO (List.getElem?_eq_getElem hi)]
theorem Rq{P:Nat->Addr->Prop}{f:Nat->V}:∀{m:Nat},(∀j,j<m->∃r,f j= .ref r/\P j r)->∃rs:List Addr,rs.length=m/\(List.range m).map f=rs.map V.ref/\∀i r,rs[i]? =some r->P i r
 | 0,_=>⟨[],rfl,rfl,λi r h=>by simp at h⟩
 |m+1,h=>by
  obtain⟨rs,h1,h2,h3⟩:=Rq (m:=m) λj hj=>h j (by omega)
  obtain⟨r,e,hr⟩:=h m (Nat.lt_succ_self _)
  refine⟨rs++[r],by rw[List.length_append,h1];rfl,by rw[List.range_succ,List.map_append,h2,List.map_append,List.map_singleton,e];rfl,λi q hq=>?_⟩
  by_cases z:i<rs.length
  ·rw[List.getElem?_append_left z]at hq
   exact h3 i q hq
  ·rw[List.getElem?_append_right (by omega)]at hq
   have ei:i=m:=by
    have:=(List.getElem?_eq_some_iff.mp hq).1
    have:i-rs.length<1:=this
    omega
   subst ei
   rw[h1,Nat.sub_self]at hq
   cases hq
   exact hr
theorem Sg{α:Type}(F:Nat->α)(n:Nat):((List.range (n+1)).map F).reverse=(List.range (n+1)).map λj=>F (n-j):=by
 refine List.ext_getElem (by simp) λi h1 h2=>?_
 rw[List.getElem_reverse,List.getElem_map,List.getElem_map,List.getElem_range,List.getElem_range]
 have e:((List.range (n+1)).map F).length-1-i=n-i:=by simp
 rw[e]
theorem fX{α:Type}{F:Nat->α}{n j:Nat}(h:j<n):((List.range n).map F)[j]? =some (F j):=by
 rw[List.getElem?_map,List.getElem?_range h];rfl
theorem qN{α:Type}{F:Nat->α}{n:Nat}:(List.range (n+1)).map F=(List.range n).map F++[F n]:=by
 rw[List.range_succ,List.map_append];rfl
noncomputable def qa(rows:List (List bY))(fo fm:bY):Int:=fm.1*(aY fo.2 fm.2 rows / fm.2)
noncomputable def VA(mo:Int)(c:Str)(n:Nat):Int:=((tF c.cps.toList).length:Int)*(n:Int)*mo
noncomputable def sG(H:Hp)(l:Addr)(m n:Nat)(f:Nat->Nat->Int):Prop :=
 ∃rs:List Addr,rs.length=m/\H l=some (.lst (rs.map V.ref))/\∀i r,rs[i]? =some r->H r=some (.lst ((List.range n).map λj=>V.int (f i j)))
theorem sG.same{H H':Hp}{l:Addr}{m n:Nat}{f:Nat->Nat->Int}(h:sG H l m n f)(e:ai H H'):sG H' l m n f:=by
 obtain⟨rs,h1,h2,h3⟩:=h
 exact⟨rs,h1,e _ _ h2,λi r hr=>e _ _ (h3 i r hr)⟩
noncomputable def uP(pc:Nat->Nat->Int)(mo:Int)(A B:List Str)(i j:Nat):Int:=RM pc mo (tF (A.getD i ⟨#[]⟩).cps.toList) (tF (B.getD j ⟨#[]⟩).cps.toList)
noncomputable abbrev y1(l1:Addr):List (Str×V):=aL "ones" (.ref l1) []
noncomputable abbrev y2(l1 l2:Addr):=aL "others" (.ref l2) (y1 l1)
noncomputable abbrev y3(l1 l2:Addr)(g1:Str):=aL "one_gaps" (.str g1) (y2 l1 l2)
noncomputable abbrev y4(l1 l2:Addr)(g1 g2:Str):=aL "other_gaps" (.str g2) (y3 l1 l2 g1)
noncomputable abbrev y5(l1 l2:Addr)(g1 g2:Str)(a:Addr):=aL "by_a" (.ref a) (y4 l1 l2 g1 g2)
noncomputable abbrev y6(l1 l2:Addr)(g1 g2:Str)(a b:Addr):=aL "by_b" (.ref b) (y5 l1 l2 g1 g2 a)
noncomputable abbrev y7(l1 l2:Addr)(g1 g2:Str)(a b e:Addr):=aL "extras" (.ref e) (y6 l1 l2 g1 g2 a b)
noncomputable def jF(l1 l2:Addr)(g1 g2:Str)(a b e r:Addr):List (Str×V):=aL "rests" (.ref r) (y7 l1 l2 g1 g2 a b e)
noncomputable def BD(C:Addr)(H:Hp)(jn:Addr)(A B:List Str)(n1 n2:Nat)(pc:Nat->Nat->Int)(mo:Int):Prop :=
 ∃dx l1 l2 a b e r,H jn=some (.ins C dx (jF l1 l2 (aF n1) (aF n2) a b e r))/\H l1=some (.lst (A.map V.str))/\H l2=some (.lst (B.map V.str)) ∧
  H a=some (.lst (A.map λc=>V.int (VA mo c n2)))/\H b=some (.lst (B.map λc=>V.int (VA mo c n1)))/\sG H e A.length B.length (uP pc mo A B)/\sG H r (A.length+1) (B.length+1) (c6 (uP pc mo A B) A.length B.length)
theorem BD.same{C:Addr}{H H':Hp}{jn:Addr}{A B:List Str}{n1 n2:Nat}{pc:Nat->Nat->Int}{mo:Int}(h:BD C H jn A B n1 n2 pc mo)(s:ai H H'):BD C H' jn A B n1 n2 pc mo:=by
 obtain⟨dx,l1,l2,a,b,e,r,h1,h2,h3,h4,h5,h6,h7⟩:=h
 exact⟨dx,l1,l2,a,b,e,r,s _ _ h1,s _ _ h2,s _ _ h3,s _ _ h4,s _ _ h5,h6.same s,h7.same s⟩
theorem SJ{f:Str}{v:V}{fs:List (Str×V)}:(aL f v fs).lookup f=some v:=by rw[ay,if_pos rfl]
theorem p5{f g:Str}{u:V}{r:Option V}{fs:List (Str×V)}(h:fs.lookup f=r)(n:¬f=g):(aL g u fs).lookup f=r:=by rw[ay,if_neg n];exact h
section
variable{l1 l2 a b e r:Addr}{g1 g2:Str}
theorem Ov:(jF l1 l2 g1 g2 a b e r).lookup ("rests" :Str)=some (.ref r):=SJ
theorem SO:(jF l1 l2 g1 g2 a b e r).lookup ("extras" :Str)=some (.ref e):=p5 (SJ) (by decide +kernel)
theorem tW:(jF l1 l2 g1 g2 a b e r).lookup ("other_gaps" :Str)=some (.str g2):=p5 (p5 (p5 (p5 (SJ) (by decide +kernel)) (by decide +kernel)) (by decide +kernel)) (by decide +kernel)
theorem xw:(jF l1 l2 g1 g2 a b e r).lookup ("one_gaps" :Str)=some (.str g1):=p5 (p5 (p5 (p5 (p5 (SJ) (by decide +kernel)) (by decide +kernel)) (by decide +kernel)) (by decide +kernel)) (by decide +kernel)
theorem wu:(jF l1 l2 g1 g2 a b e r).lookup ("others" :Str)=some (.ref l2):=p5 (p5 (p5 (p5 (p5 (p5 (SJ) (by decide +kernel)) (by decide +kernel)) (by decide +kernel)) (by decide +kernel)) (by decide +kernel)) (by decide +kernel)
theorem G6:(jF l1 l2 g1 g2 a b e r).lookup ("ones" :Str)=some (.ref l1):=p5 (p5 (p5 (p5 (p5 (p5 (p5 (SJ) (by decide +kernel)) (by decide +kernel)) (by decide +kernel)) (by decide +kernel)) (by decide +kernel)) (by decide +kernel)) (by decide +kernel)
end
theorem sG.congr{H:Hp}{l:Addr}{m n:Nat}{f g:Nat->Nat->Int}(h:sG H l m n f)(e:∀i j,i<m->j<n->f i j=g i j):sG H l m n g:=by
 obtain⟨rs,h1,h2,h3⟩:=h
 refine⟨rs,h1,h2,λi r hr=>?_⟩
 have hi:i<m:=by rw[←h1];exact(List.getElem?_eq_some_iff.mp hr).1
 rw[h3 i r hr]
 congr 2
 exact List.map_congr_left λj hj=>by rw[e i j hi (List.mem_range.mp hj)]
theorem jk.Yq{K:PySem.W.Frag}{C CJ jn dj:Addr}{H:Hp}{x:Addr}{sg:Str}{rows:List (List bY)}{fo fm:bY}(hj:H jn=some (.ins CJ dj []))(h:jk K C H x sg rows fo fm):jk K C (Wo jn H) x sg rows fo fm:=by
 have D:Dat H (Wo jn H):=λb u n e=>Wo.in (λz=>by rw[z,hj]at e;exact n _ _ _ (Option.some.inj e).symm) e
 obtain⟨a,b,c,d,f,g,i,dx,P,o,m,dd,kvs,h1,h2,h3,h4,h5,h6,fs,h7,h8,h9⟩:=h
 refine⟨a,b,c,d,f,g,i,dx,P,o,m,dd,kvs,Wo.in (λz=>?_) h1,h2.dat D,h3.dat D,h4.dat D,D _ _ (λ_ _ _ z=>by cases z) h5,h6,fs,h7,h8,D _ _ (λ_ _ _ z=>by cases z) h9⟩
 rw[z,hj]at h1
 have e:=HO.ins.inj (Option.some.inj h1)
 have e2:=congrArg (λl=>List.lookup ("factors" :Str) l) e.2.2
 rw[qT]at e2
 cases e2
theorem t7.Yq{K:PySem.W.Frag}{C CJ jn dj:Addr}{H:Hp}{b:Addr}{rs:List Str}(hj:H jn=some (.ins CJ dj []))(h:t7 K C H b rs):t7 K C (Wo jn H) b rs:=by
 have D:Dat H (Wo jn H):=λb u n e=>Wo.in (λz=>by rw[z,hj]at e;exact n _ _ _ (Option.some.inj e).symm) e
 obtain⟨dx,q,h1,h2⟩:=h
 refine⟨dx,q,Wo.in (λz=>?_) h1,Dat.tup D h2⟩
 rw[z,hj]at h1
 have e:=HO.ins.inj (Option.some.inj h1)
 have e2:=congrArg (λl=>List.lookup ("rows" :Str) l) e.2.2
 rw[SJ]at e2
 cases e2
theorem AU{sg c:Str}(h:∀x∈c.cps.toList,x∈(tP sg).cps.toList):Of sg (gR 45 c):=λx hx=>by
 obtain⟨h1,h2⟩:=List.mem_filter.mp (show x∈c.cps.toList.filter (· != 45) from hx)
 exact(oG.mp (h x h1)).resolve_left (by simpa using h2)
theorem yp{c:Str}{n:Nat}(h:c.cps.size<=n):(gR 45 c).cps.size<=n:=Nat.le_trans (List.length_filter_le _ _) (by rw[Array.length_toList];exact h)
theorem wY{cs:List Str}{i:Nat}(h:i<cs.length):(cs.map (gR 45)).getD i ⟨#[]⟩=gR 45 (cs.getD i ⟨#[]⟩):=by
 rw[aO (List.getElem?_eq_getElem h),aO (by rw[List.getElem?_map,List.getElem?_eq_getElem h];rfl)]
theorem sG.Yq{C jn dj:Addr}{fs:List (Str×V)}{H:Hp}{l:Addr}{m n:Nat}{f:Nat->Nat->Int}(hj:H jn=some (.ins C dj fs))(h:sG H l m n f):sG (Wo jn H) l m n f:=by
 have ni:∀{l:Addr} {xs:List V},H l=some (.lst xs)->l≠jn:=λh2 z=>by rw[z,hj]at h2;cases h2
 obtain⟨rs,h1,h2,h3⟩:=h
 exact⟨rs,h1,Wo.in (ni h2) h2,λi r hr=>Wo.in (ni (h3 i r hr)) (h3 i r hr)⟩
theorem sG.at_{H:Hp}{l:Addr}{m n:Nat}{f:Nat->Nat->Int}(h:sG H l m n f):∃L:List V,H l=some (.lst L)/\L.length=m/\∀i,i<m->∃r,L[i]? =some (.ref r)/\H r=some (.lst ((List.range n).map λj=>V.int (f i j))):=by
 obtain⟨rs,h1,h2,h3⟩:=h
 refine⟨_,h2,by rw[List.length_map,h1],λi hi=>?_⟩
 have hi':i<rs.length:=by omega
 exact⟨rs[i],by rw[List.getElem?_map,List.getElem?_eq_getElem hi'];rfl,h3 i _ (List.getElem?_eq_getElem hi')⟩
theorem vp{i j:Int}[Decidable (V.int i=V.int j)]:decide (V.int i=V.int j)=decide (i=j):=by
 by_cases h:i=j
 ·rw[decide_eq_true h,decide_eq_true (by rw[h])]
 ·rw[decide_eq_false h,decide_eq_false λz=>h (V.int.inj z)]
theorem T7{a b c d:Int}:kZ [V.int a,V.int b] [V.int c,V.int d]=decide (a=c/\b=d):=by
 by_cases h:a=c/\b=d
 ·rw[decide_eq_true h,h.1,h.2]
  exact Q0 c d
 ·rw[decide_eq_false h]
  by_cases h1:a=c
  ·have h2:¬b=d:=λz=>h ⟨h1,z⟩
   simp[kZ,List.range,List.range.loop,S5,h1,h2]
  ·simp[kZ,List.range,List.range.loop,S5,h1]
noncomputable def Au(rs:List Str):Prop:=rs.length<=40/\∀r∈rs,r.cps.size<=50
theorem Au.sm{rs:List Str}(h:Au rs):TL rs:=⟨Nat.le_trans h.1 (by decide),λy hy=>Nat.le_trans (h.2 y hy) (by decide)⟩
theorem Au.br{rs:List Str}(h:Au rs)(hl:oE rs=true):br rs<=50:=by
 obtain⟨hne,hw⟩:=cP.mp hl
 obtain⟨r0,hr0⟩:=List.exists_mem_of_ne_nil rs hne
 rw[←hw r0 hr0]
 exact h.2 r0 hr0
noncomputable def adj(K:PySem.W.Frag)(C:Addr)(x:Addr)(sg:Str)(rows:List (List bY))(fo fm:bY)(c:Str)(n:Nat)(H:Hp)(Q:VK):Prop:=jk K C H x sg rows fo fm/\c.cps.size<=1000/\n<=1000/\Q (.int (VA (qa rows fo fm) c n)) H
noncomputable def Ur(K:PySem.W.Frag)(C:Addr):Sp:=λvs H Q _=>∃(x:Addr) (sg:Str) (rows:List (List bY)) (fo fm:bY) (c:Str) (n:Nat),vs=[.ref x,.str c,.int n]/\adj K C x sg rows fo fm c n H Q
noncomputable def aa0(K:PySem.W.Frag)(C:Addr)(x l:Addr)(sg:Str)(rows:List (List bY))(fo fm:bY)(cs:List Str)(n:Nat)(H:Hp)(Q:VK):Prop:=jk K C H x sg rows fo fm/\H l=some (.lst (cs.map V.str))/\cs.length<=1000/\(∀c∈cs,c.cps.size<=1000)/\n<=1000 ∧
 ∀l' H',ai H H'->H l'=none->H' l'=some (.lst (cs.map λc=>V.int (VA (qa rows fo fm) c n)))->Q (.ref l') H'
noncomputable def Rg(K:PySem.W.Frag)(C:Addr):Sp:=λvs H Q _=>∃(x l:Addr) (sg:Str) (rows:List (List bY)) (fo fm:bY) (cs:List Str) (n:Nat),vs=[.ref x,.ref l,.int n]/\aa0 K C x l sg rows fo fm cs n H Q
noncomputable def adh(K:PySem.W.Frag)(C:Addr)(x:Addr)(sg:Str)(rows:List (List bY))(fo fm:bY)(S:Str)(H:Hp)(Q:VK):Prop:=jk K C H x sg rows fo fm/\Of sg S/\S.cps.size<=1000 ∧
 ∀(d:Addr) H' (kvs:List (Key×V)),ai H H'->H d=none->H' d=some (.dK kvs)->(∀o∈sg.cps.toList,jl kvs (.inr ⟨#[o]⟩)=some (.int (jB (λs=>rT sg rows (aY fo.2 fm.2 rows) s o-2*qa rows fo fm) S.cps.toList)))->Q (.ref d) H'
noncomputable def Ul(K:PySem.W.Frag)(C:Addr):Sp:=λvs H Q _=>∃(x:Addr) (sg:Str) (rows:List (List bY)) (fo fm:bY) (S:Str),vs=[.ref x,.str S]/\adh K C x sg rows fo fm S H Q
noncomputable def ahY(K:PySem.W.Frag)(C:Addr)(x l:Addr)(sg:Str)(rows:List (List bY))(fo fm:bY)(S:Str)(os:List Str)(H:Hp)(Q:VK):Prop:=jk K C H x sg rows fo fm/\Of sg S/\S.cps.size<=1000/\H l=some (.lst (os.map V.str))/\os.length<=1000/\(∀o∈os,Of sg o/\o.cps.size<=1000) ∧
 ∀l' H',ai H H'->H l'=none->H' l'=some (.lst (os.map λo=>V.int (RM (rT sg rows (aY fo.2 fm.2 rows)) (qa rows fo fm) S.cps.toList o.cps.toList)))->Q (.ref l') H'
noncomputable def XO(K:PySem.W.Frag)(C:Addr):Sp:=λvs H Q _=>∃(x l:Addr) (sg:Str) (rows:List (List bY)) (fo fm:bY) (S:Str) (os:List Str),vs=[.ref x,.str S,.ref l]/\ahY K C x l sg rows fo fm S os H Q
noncomputable def ahZ(K:PySem.W.Frag)(C:Addr)(x l1 l2:Addr)(sg:Str)(rows:List (List bY))(fo fm:bY)(ss os:List Str)(H:Hp)(Q:VK):Prop:=jk K C H x sg rows fo fm/\H l1=some (.lst (ss.map V.str))/\ss.length<=1000/\(∀o∈ss,Of sg o/\o.cps.size<=1000)/\H l2=some (.lst (os.map V.str))/\os.length<=1000/\(∀o∈os,Of sg o/\o.cps.size<=1000) ∧
 ∀l' H',ai H H'->H l'=none->sG H' l' ss.length os.length (λi j=>RM (rT sg rows (aY fo.2 fm.2 rows)) (qa rows fo fm) (ss.getD i ⟨#[]⟩).cps.toList (os.getD j ⟨#[]⟩).cps.toList)->Q (.ref l') H'
noncomputable def XQ(K:PySem.W.Frag)(C:Addr):Sp:=λvs H Q _=>∃(x l1 l2:Addr) (sg:Str) (rows:List (List bY)) (fo fm:bY) (ss os:List Str),vs=[.ref x,.ref l1,.ref l2]/\ahZ K C x l1 l2 sg rows fo fm ss os H Q
noncomputable def aa2(l b:Addr)(n:Nat)(f g:Nat->Int)(H:Hp)(Q:VK):Prop:=H l=some (.lst ((List.range n).map λj=>V.int (f j)))/\H b=some (.lst ((List.range (n+1)).map λj=>V.int (g j)))/\n<=1000 ∧
 ∀l' H',ai H H'->H l'=none->H' l'=some (.lst ((List.range (n+1)).map λj=>V.int (tH f g n (n-j))))->Q (.ref l') H'
noncomputable def Rl:Sp:=λvs H Q _=>∃(l b:Addr) (n:Nat) (f g:Nat->Int),vs=[.ref l,.ref b]/\aa2 l b n f g H Q
noncomputable def aaX(l:Addr)(m n:Nat)(E:Nat->Nat->Int)(H:Hp)(Q:VK):Prop:=sG H l m n E/\m<=1000/\n<=1000 ∧
 ∀l' H',ai H H'->H l'=none->sG H' l' (m+1) (n+1) (c6 E m n)->Q (.ref l') H'
noncomputable def Ra:Sp:=λvs H Q _=>∃(l:Addr) (m n:Nat) (E:Nat->Nat->Int),vs=[.ref l,.int n]/\aaX l m n E H Q
noncomputable def aaZ(K:PySem.W.Frag)(C CB CJ X:Addr)(jn dx x o1 o2:Addr)(sg:Str)(rows:List (List bY))(fo fm:bY)(r1 r2:List Str)(H:Hp)(Q:VK)(E:XK):Prop:=H jn=some (.ins CJ dx [])/\jk K C H x sg rows fo fm/\t7 K CB H o1 r1/\t7 K CB H o2 r2/\Au r1/\Au r2/\gf r1=true/\gf r2=true ∧
 ((∀r∈r1++r2,Of (tP sg) r)->∀H',(∀a u,H a=some u->a≠jn->H' a=some u)->BD CJ H' jn (cols r1 (br r1)) (cols r2 (br r2)) r1.length r2.length (rT sg rows (aY fo.2 fm.2 rows)) (qa rows fo fm)->Q .ko H') ∧
 (∀i j,vO (tP sg) (r1++r2) i j->∀dx H',(∀a u,H a=some u->a≠jn->H' a=some u)->H' dx=some (Ic dx (Hj i j))->E (.ref X) (some dx) H')
noncomputable def Rc(K:PySem.W.Frag)(C CB CJ X:Addr):Sp:=λvs H Q E=>∃(jn dx x o1 o2:Addr) (sg:Str) (rows:List (List bY)) (fo fm:bY) (r1 r2:List Str),vs=[.ref jn,.ref x,.ref o1,.ref o2]/\aaZ K C CB CJ X jn dx x o1 o2 sg rows fo fm r1 r2 H Q E
noncomputable def adk(K:PySem.W.Frag)(CJ:Addr)(jn:Addr)(A B:List Str)(n1 n2:Nat)(pc:Nat->Nat->Int)(mo:Int)(i j:Nat)(H:Hp)(Q:VK):Prop:=BD CJ H jn A B n1 n2 pc mo/\A.length<=400/\B.length<=400/\i<=A.length/\j<=B.length ∧
 Q (.str ⟨#[zY (uP pc mo A B) A.length B.length i j]⟩) H
noncomputable def Us(K:PySem.W.Frag)(CJ:Addr):Sp:=λvs H Q _=>∃(jn:Addr) (A B:List Str) (n1 n2:Nat) (pc:Nat->Nat->Int) (mo:Int) (i j:Nat),vs=[.ref jn,.int i,.int j]/\adk K CJ jn A B n1 n2 pc mo i j H Q
noncomputable def aa1(K:PySem.W.Frag)(CJ:Addr)(jn:Addr)(A B:List Str)(n1 n2:Nat)(pc:Nat->Nat->Int)(mo:Int)(H:Hp)(Q:VK):Prop:=BD CJ H jn A B n1 n2 pc mo/\A.length<=400/\B.length<=400 ∧
 ∀l H' cs,ai H H'->H l=none->H' l=some (.lst (cs.map sg))->rB (uP pc mo A B) A.length B.length cs A.length B.length->Q (.ref l) H'
noncomputable def Rh(K:PySem.W.Frag)(CJ:Addr):Sp:=λvs H Q _=>∃(jn:Addr) (A B:List Str) (n1 n2:Nat) (pc:Nat->Nat->Int) (mo:Int),vs=[.ref jn]/\aa1 K CJ jn A B n1 n2 pc mo H Q
noncomputable def aaW(K:PySem.W.Frag)(l1 l2 lm:Addr)(A B:List Str)(g1 g2:Str)(cs:List Nat)(i j:Nat)(H:Hp)(Q:VK):Prop:=H l1=some (.lst (A.map V.str))/\H l2=some (.lst (B.map V.str))/\H lm=some (.lst (cs.map sg))/\A.length<=400/\B.length<=400/\(∀c∈A,c.cps.size<=1000)/\(∀c∈B,c.cps.size<=1000)/\g1.cps.size<=1000/\g2.cps.size<=1000/\Path A.length B.length cs i j ∧
 ∀l H',ai H H'->H l=none->H' l=some (.lst ((oV A B g1 g2 cs cs.length).map V.str))->Q (.ref l) H'
noncomputable def Q9(K:PySem.W.Frag):Sp:=λvs H Q _=>∃(l1 l2 lm:Addr) (A B:List Str) (g1 g2:Str) (cs:List Nat) (i j:Nat),vs=[.ref l1,.ref l2,.str g1,.str g2,.ref lm]/\aaW K l1 l2 lm A B g1 g2 cs i j H Q
structure JOk(kn:List Nat)(A B:List Str)(n1 n2:Nat):Prop where
 a:kY kn A n1
 b:kY kn B n2
 la:A.length<=50
 lb:B.length<=50
 s1:n1<=40
 s2:n2<=40
 p1:0<n1
 kn:45∈kn
noncomputable def Rf(K:PySem.W.Frag)(CB CJ:Addr):Sp:=λvs H Q _=>∃(jn:Addr) (A B:List Str) (n1 n2:Nat) (pc:Nat->Nat->Int) (mo:Int) (kn:List Nat),vs=[.ref jn]/\BD CJ H jn A B n1 n2 pc mo/\JOk kn A B n1 n2 ∧
 ∀b H' cs,ai H H'->H b=none->rB (uP pc mo A B) A.length B.length cs A.length B.length->t7 K CB H' b (cols (oV A B (aF n1) (aF n2) cs cs.length) (n1+n2))->Q (.ref b) H'
end GP
namespace L2
open PySem PySem.Spec PyProof.Rows
theorem N7{X:Cx}{K':PySem.W.Frag}{e:Expr}{f:Str}{pos:Pos}{ta:TE}(hK:X.K=K')(he:PE X e ta)(hb:attributeBase e f X.env (eval e X.env)=eval e X.env):PE X (.Attribute e f pos) (XM K' ta f):=by subst hK;exact WN he hb
end L2
namespace GP
open PySem L2 oH
section
variable{sg:Str}{rows:List (List bY)}{fo fm:bY}{r1 r2:List Str}
theorem qA{rs:List Str}{i:Nat}(h:i<br rs):((cols rs (br rs)).getD i ⟨#[]⟩).cps.toList=f6 rs i/\(f6 rs i).length=rs.length:=by
 refine⟨?_,List.length_map ..⟩
 rw[aO (show(cols rs (br rs))[i]? =some (eE rs i) from fX h)]
 rfl
end
noncomputable def adi(K:PySem.W.Frag)(C CB:Addr)(x o1 o2:Addr)(sg:Str)(rows:List (List bY))(fo fm:bY)(r1 r2:List Str)(i j:Nat)(H:Hp)(Q:VK):Prop:=jk K C H x sg rows fo fm/\t7 K CB H o1 r1/\t7 K CB H o2 r2/\Au r1/\Au r2/\gf r1=true/\gf r2=true/\vO (tP sg) (r1++r2) i j ∧
 ∀q H',ai H H'->H' q=some (.tup [.int (i:Int),.int (j:Int)])->Q (.ref q) H'
noncomputable def Um(K:PySem.W.Frag)(C CB:Addr):Sp:=λvs H Q _=>∃(x o1 o2:Addr) (sg:Str) (rows:List (List bY)) (fo fm:bY) (r1 r2:List Str) (i j:Nat),vs=[.ref x,.ref o1,.ref o2]/\adi K C CB x o1 o2 sg rows fo fm r1 r2 i j H Q
end GP
namespace GP
open PySem L2 oH
structure nO(K:PySem.W.Frag)(CP CB:Addr)(H H':Hp)(t x a1 a2 o1 o2:Addr)(k:Int)(sg:Str)(rows:List (List bY))(fo fm:bY)(r1 r2:List Str):Prop where
 ct:H' t=some (.lst [.int k])
 pr:jk K CP (Wo t H') x sg rows fo fm
 l1:Wo t H' a1=some (.lst (r1.map V.str))
 l2:Wo t H' a2=some (.lst (r2.map V.str))
 b1:t7 K CB (Wo t H') o1 r1
 b2:t7 K CB (Wo t H') o2 r2
 off:ai (Wo t H) (Wo t H')
section
variable{K:PySem.W.Frag}{CP CB:Addr}{H H' Pw:Hp}{t x a1 a2 o1 o2:Addr}{k k2:Int}{sg:Str}{rows:List (List bY)}{fo fm:bY}{r1 r2:List Str}
theorem nO.same(h:nO K CP CB H H' t x a1 a2 o1 o2 k sg rows fo fm r1 r2)(e:ai H' Pw):nO K CP CB H Pw t x a1 a2 o1 o2 k sg rows fo fm r1 r2 :=
 ⟨e _ _ h.ct,h.pr.same (Wo.same e),Wo.same e _ _ h.l1,Wo.same e _ _ h.l2,h.b1.same (Wo.same e),h.b2.same (Wo.same e),h.off.trans (Wo.same e)⟩
theorem nO.Fp(h:nO K CP CB H H' t x a1 a2 o1 o2 k sg rows fo fm r1 r2):jk K CP H' x sg rows fo fm:=h.pr.same Wo.sub
theorem nO.JX(h:nO K CP CB H H' t x a1 a2 o1 o2 k sg rows fo fm r1 r2):t7 K CB H' o1 r1:=h.b1.same Wo.sub
theorem nO.JW(h:nO K CP CB H H' t x a1 a2 o1 o2 k sg rows fo fm r1 r2):t7 K CB H' o2 r2:=h.b2.same Wo.sub
theorem nO.Wg(h:nO K CP CB H H' t x a1 a2 o1 o2 k sg rows fo fm r1 r2):H' a1=some (.lst (r1.map V.str)):=Wo.sub _ _ h.l1
theorem nO.XX(h:nO K CP CB H H' t x a1 a2 o1 o2 k sg rows fo fm r1 r2):H' a2=some (.lst (r2.map V.str)):=Wo.sub _ _ h.l2
end
noncomputable def NJ(K:PySem.W.Frag):Sp:=λvs H Q _=>∃(s t:Addr) (ns:List Int) (k:Int),vs=[.ref s,.ref t]/\uO K H s t ns k/\k<=70000 ∧
 ∀(k':Int) (H':Hp),ai (Wo t H) (Wo t H')->H' t=some (.lst [.int k'])->k<=k'->k'<=k+3000->Q (.bl true) H'
theorem mU.put2{r1 r2:List Str}{n1 n2 w1 w2 r k c:Nat}{row o:Str}(h1:mU r1 n1 w1)(h2:mU r2 n2 w2)(hr:(r1++r2)[r]? =some row)(hk:k<row.cps.size)(ho:o.cps.toList=row.cps.toList.set k c)(hc:dZ c=true):
  mU (((r1++r2).set r o).take n1) n1 w1/\mU (((r1++r2).set r o).drop n1) n2 w2:=by
 have hl:=h1.len
 by_cases z:r<r1.length
 ·rw[List.getElem?_append_left z]at hr
  have hs:(r1.set r o).length=n1:=by rw[List.length_set];exact hl
  rw[List.set_append_left _ _ z,List.take_left' hs,List.drop_left' hs]
  exact⟨h1.put hr (by rw[←h1.br row (List.mem_of_getElem? hr)];exact hk) ho hc,h2⟩
 ·rw[List.getElem?_append_right (by omega)]at hr
  rw[List.set_append_right _ _ (by omega),List.take_left' hl,List.drop_left' hl]
  exact⟨h1,h2.put hr (by rw[←h2.br row (List.mem_of_getElem? hr)];exact hk) ho hc⟩
theorem vO.mk1{kn:Str}{rs:List Str}{r k c:Nat}{row o:Str}(hO:∀r∈rs,Of kn r)(hr:rs[r]? =some row)(hk:k<row.cps.size)(ho:o.cps.toList=row.cps.toList.set k c)(hc:c∉kn.cps.toList):vO kn (rs.set r o) r k:=by
 have hrl:=(List.getElem?_eq_some_iff.mp hr).1
 have Vv:k<row.cps.toList.length:=by rw[Array.length_toList];exact hk
 refine⟨⟨o,c,List.getElem?_set_self hrl,by rw[←Array.getElem?_toList,ho,List.getElem?_set_self Vv],hc,λi d hi hd=>?_⟩,λm q hm hq=>?_⟩
 ·rw[←Array.getElem?_toList,ho,List.getElem?_set_ne (by omega)]at hd
  exact hO row (List.mem_of_getElem? hr) d (List.mem_of_getElem? hd)
 ·rw[List.getElem?_set_ne (by omega)]at hq
  exact hO q (List.mem_of_getElem? hq)
end GP
namespace GP
open PySem L2 oH
noncomputable def stI(c:Nat):Nat:=if c=98 then 0 else 1
noncomputable def uf(c:Nat):Nat:=if c=97 then 0 else 1
noncomputable def Jw(m n:Nat):Nat->Nat->List Nat->Prop
 |i,j,[]=>i=m/\j=n
 |i,j,c::cs=>o4 m n i j c (i+stI c) (j+uf c)/\Jw m n (i+stI c) (j+uf c) cs
noncomputable def Po(E:Nat->Nat->Int)(m n:Nat):Nat->Nat->List Nat->Prop
 |i,j,[]=>i=m/\j=n
 |i,j,c::cs=>c=zY E m n i j/\c6 E m n i j=(if c=112 then E i j else 0)+c6 E m n (i+stI c) (j+uf c)/\o4 m n i j c (i+stI c) (j+uf c)/\Po E m n (i+stI c) (j+uf c) cs
noncomputable def Wn(E:Nat->Nat->Int):Nat->Nat->List Nat->Int
 |_,_,[]=>0
 |i,j,c::cs=>(if c=112 then E i j else 0)+Wn E (i+stI c) (j+uf c) cs
noncomputable def wG(A B:List Str)(g1 g2:Str):Nat->Nat->List Nat->List Str
 |_,_,[]=>[]
 |i,j,c::cs=>tR A B g1 g2 i j c::wG A B g1 g2 (i+stI c) (j+uf c) cs
theorem o4.st{m n i j c i' j':Nat}(h:o4 m n i j c i' j'):i'=i+stI c/\j'=j+uf c:=by
 cases h<;>exact⟨rfl,rfl⟩
theorem Path.wk{m n:Nat}{cs:List Nat}{i j:Nat}(h:Path m n cs i j):∀{ds:List Nat},Jw m n i j ds->Jw m n 0 0 (cs++ds):=by
 induction h with
 |nil=>exact λh=>h
 | @snoc cs i j c i' j' hp s ih =>
  intro ds hd
  rw[List.append_assoc]
  obtain⟨e1,e2⟩:=s.st
  subst e1 e2
  exact ih ⟨s,hd⟩
theorem Jw.path{m n:Nat}:∀{ds:List Nat} {cs:List Nat} {i j:Nat},Path m n cs i j->Jw m n i j ds->Path m n (cs++ds) m n
 |[],cs,i,j,hp,h=>by
  obtain⟨rfl,rfl⟩:=h
  rw[List.append_nil]
  exact hp
 |c::ds,cs,i,j,hp,h=>by
  have:=Jw.path (hp.snoc h.1) h.2
  rw[List.append_assoc]at this
  exact this
theorem rB.FO{E:Nat->Nat->Int}{m n:Nat}{cs:List Nat}{i j:Nat}(h:rB E m n cs i j):∀{ds:List Nat},Po E m n i j ds->Po E m n 0 0 (cs++ds):=by
 induction h with
 |nil=>exact λh=>h
 | @snoc cs i j i' j' hp s e ih =>
  intro ds hd
  rw[List.append_assoc]
  obtain⟨e1,e2⟩:=s.st
  subst e1 e2
  exact ih ⟨rfl,e,s,hd⟩
theorem Po.wk{E:Nat->Nat->Int}{m n:Nat}:∀{cs:List Nat} {i j:Nat},Po E m n i j cs->Jw m n i j cs
 |[],_,_,h=>h
 |_::_,_,_,h=>⟨h.2.2.1,Po.wk h.2.2.2⟩
theorem Po.ex{E:Nat->Nat->Int}{m n:Nat}:∀{cs:List Nat} {i j:Nat},Po E m n i j cs->Wn E i j cs=c6 E m n i j
 |[],_,_,h=>by rw[h.1,oS];rfl
 |c::cs,i,j,h=>by
  rw[h.2.1,←Po.ex h.2.2.2];rfl
theorem U4{E:Nat->Nat->Int}{m n i j c i' j':Nat}(h:o4 m n i j c i' j')(hi:i<=m)(hj:j<=n):c6 E m n i j<=(if c=112 then E i j else 0)+c6 E m n i' j':=by
 cases h with
 |p a b=>rw[if_pos rfl];exact ZY a b
 |a a=>rw[if_neg (by decide),Int.zero_add];exact UG a hj
 |b b=>rw[if_neg (by decide),Int.zero_add];exact UE hi b
theorem Jw.in{m n:Nat}:∀{cs:List Nat} {i j:Nat},Jw m n i j cs->i<=m/\j<=n
 |[],_,_,h=>by rw[h.1,h.2];exact⟨Nat.le_refl _,Nat.le_refl _⟩
 |c::cs,i,j,h=>by
  obtain⟨a,b⟩:=Jw.in h.2
  omega
theorem Jw.low{E:Nat->Nat->Int}{m n:Nat}:∀{cs:List Nat} {i j:Nat},Jw m n i j cs->c6 E m n i j<=Wn E i j cs
 |[],_,_,h=>by rw[h.1,oS];exact Int.le_refl _
 |c::cs,i,j,h=>by
  have h1:=U4 (E:=E) h.1 (Jw.in (cs:=c::cs) h).1 (Jw.in (cs:=c::cs) h).2
  have h2:=Jw.low (E:=E) h.2
  show _<=(if c=112 then E i j else 0)+Wn E (i+stI c) (j+uf c) cs
  omega
noncomputable def vW(c:Nat):Int:=if c=112 then 0 else if c=97 then 1 else 2
theorem ab8{E:Nat->Nat->Int}{m n i j:Nat}(hi:i<m)(hj:j<n)(e:E i j+c6 E m n (i+1) (j+1)=c6 E m n i j):zY E m n i j=112:=by
 unfold zY
 rw[if_neg (by omega),if_pos ⟨hj,e⟩]
theorem ab9{E:Nat->Nat->Int}{m n i j:Nat}(hi:i<m)(e:c6 E m n (i+1) j=c6 E m n i j):zY E m n i j=112\/zY E m n i j=97:=by
 unfold zY
 rw[if_neg (by omega)]
 by_cases h:j<n/\E i j+c6 E m n (i+1) (j+1)=c6 E m n i j
 ·rw[if_pos h];exact .inl rfl
 ·rw[if_neg h,if_pos e];exact .inr rfl
theorem Po.lex{E:Nat->Nat->Int}{m n:Nat}:∀{ms cs:List Nat} {i j:Nat},Po E m n i j cs->Jw m n i j ms->Wn E i j ms=c6 E m n i j->HT.lexLt (ms.map vW) (cs.map vW)=false
 |[],[],_,_,_,_,_=>rfl
 |[],d::cs,i,j,hf,hw,_=>by
  obtain⟨rfl,rfl⟩:=hw
  have s:=hf.2.2.1
  exfalso
  generalize i+stI d=i' at s
  generalize j+uf d=j' at s
  cases s with
  |p a b=>omega
  |a a=>omega
  |b b=>omega
 |c::ms,[],_,_,_,_,_=>rfl
 |c::ms,d::cs,i,j,hf,hw,he=>by
  obtain⟨hi,hj⟩:=Jw.in (cs:=c::ms) hw
  have l1:=U4 (E:=E) hw.1 hi hj
  have l2:=Jw.low (E:=E) hw.2
  have he':(if c=112 then E i j else 0)+Wn E (i+stI c) (j+uf c) ms=c6 E m n i j:=he
  have t1:(if c=112 then E i j else 0)+c6 E m n (i+stI c) (j+uf c)=c6 E m n i j:=by omega
  have t2:Wn E (i+stI c) (j+uf c) ms=c6 E m n (i+stI c) (j+uf c):=by omega
  by_cases hcd:c=d
  ·subst hcd
   rw[List.map_cons,List.map_cons,HT.uz,if_pos rfl]
   exact Po.lex hf.2.2.2 hw.2 t2
  ·have hd:d=zY E m n i j:=hf.1
   have hlt:¬vW c<vW d:=by
    have s:=hw.1
    generalize hi':i+stI c=i' at s t1
    generalize hj':j+uf c=j' at s t1
    cases s with
    |p a b =>
     rw[if_pos rfl]at t1
     exact absurd (hd.trans (ab8 a b t1)).symm hcd
    |a a =>
     rw[if_neg (by decide),Int.zero_add]at t1
     rcases ab9 a t1 with z|z
     ·rw[hd,z];decide
     ·rw[hd,z];decide
    |b b =>
     unfold vW
     rw[if_neg (by decide),if_neg (by decide)]
     split
     ·decide
     ·split<;>decide
   have hne:vW c≠vW d:=λz=>by
    have ok:∀{c i' j':Nat},o4 m n i j c i' j'->c=112\/c=97\/c=98:=λh=>by cases h<;>simp
    rcases ok hw.1 with rfl|rfl|rfl<;>rcases ok hf.2.2.1 with rfl|rfl|rfl<;>first|exact hcd rfl|(revert z;decide)
   rw[List.map_cons,List.map_cons,HT.uz,if_neg hne,decide_eq_false hlt]
theorem RT{A B:List Str}{g1 g2:Str}:∀{cs:List Nat} {i j:Nat},(List.range cs.length).map (λk=>tR A B g1 g2 (i+pI cs k) (j+pJ cs k) (cs.getD k 0))=wG A B g1 g2 i j cs
 |[],_,_=>rfl
 |c::cs,i,j=>by
  rw[List.length_cons,List.range_succ_eq_map,List.map_cons,List.map_map]
  show _::_=tR A B g1 g2 i j c::wG A B g1 g2 (i+stI c) (j+uf c) cs
  rw[←RT]
  congr 1
  refine List.map_congr_left λk _=>?_
  have e1:pI (c::cs) (k+1)=stI c+pI cs k:=by
   unfold pI stI
   rw[List.take_succ_cons,List.filter_cons]
   by_cases h:c=98
   ·rw[if_pos h,if_neg (by simp[h]),Nat.zero_add]
   ·rw[if_neg h,if_pos (by simpa using h),List.length_cons,Nat.add_comm]
  have e2:pJ (c::cs) (k+1)=uf c+pJ cs k:=by
   unfold pJ uf
   rw[List.take_succ_cons,List.filter_cons]
   by_cases h:c=97
   ·rw[if_pos h,if_neg (by simp[h]),Nat.zero_add]
   ·rw[if_neg h,if_pos (by simpa using h),List.length_cons,Nat.add_comm]
  show tR A B g1 g2 (i+pI (c::cs) (k+1)) (j+pJ (c::cs) (k+1)) ((c::cs).getD (k+1) 0)=_
  rw[e1,e2,←Nat.add_assoc,←Nat.add_assoc]
  rfl
theorem ve{A B:List Str}{g1 g2:Str}{cs:List Nat}:oV A B g1 g2 cs cs.length=wG A B g1 g2 0 0 cs:=by
 rw[←RT]
 unfold oV
 refine List.map_congr_left λk _=>?_
 rw[Nat.zero_add,Nat.zero_add]
section
variable{A B:List Str}{n1 n2:Nat}
theorem S8(hA:∀c∈A,c.cps.size=n1)(hB:∀c∈B,c.cps.size=n2){tc pc:Nat->Nat->Int}{mo:Int}(h0:∀a b,a=45->b=45->tc a b=0)(h1:∀a b,¬(a=45/\b=45)->(a=45\/b=45)->tc a b=mo)(h2:∀a b,a≠45->b≠45->tc a b=pc a b)
  {E:Nat->Nat->Int} (hE:∀i j,i<A.length->j<B.length->E i j=RM pc mo (tF (A.getD i ⟨#[]⟩).cps.toList) (tF (B.getD j ⟨#[]⟩).cps.toList)) {i j c i' j':Nat} (s:o4 A.length B.length i j c i' j') :
  cc tc (tR A B (aF n1) (aF n2) i j c).cps.toList+sm (λi=>cc tc (A.getD i ⟨#[]⟩).cps.toList+((tF (A.getD i ⟨#[]⟩).cps.toList).length:Int)*(n2:Int)*mo) i+sm (λj=>cc tc (B.getD j ⟨#[]⟩).cps.toList+((tF (B.getD j ⟨#[]⟩).cps.toList).length:Int)*(n1:Int)*mo) j
   = sm (λi=>cc tc (A.getD i ⟨#[]⟩).cps.toList+((tF (A.getD i ⟨#[]⟩).cps.toList).length:Int)*(n2:Int)*mo) i'+sm (λj=>cc tc (B.getD j ⟨#[]⟩).cps.toList+((tF (B.getD j ⟨#[]⟩).cps.toList).length:Int)*(n1:Int)*mo) j'+(if c=112 then E i j else 0):=by
 have hl:∀{i},i<A.length->(A.getD i ⟨#[]⟩).cps.toList.length=n1:=λ{i} hi=>by rw[Array.length_toList];exact hA _ (getD_mem hi)
 have hr:∀{j},j<B.length->(B.getD j ⟨#[]⟩).cps.toList.length=n2:=λ{j} hj=>by rw[Array.length_toList];exact hB _ (getD_mem hj)
 unfold tR
 cases s with
 |p hi hj =>
  rw[if_neg (by decide),if_neg (by decide),jm,QI,QL h0 h1 h2,hl hi,hr hj,←hE i j hi hj,if_pos rfl]
  show _=sm _ i+(_+_)+(sm _ j+(_+_))+_
  omega
 |a hi =>
  rw[if_neg (by decide),if_pos rfl,if_neg (by decide),jm,QI,QL h0 h1 h2,hl hi,jH,NT,Ht h0,List.length_replicate]
  show _=sm _ i+(_+_)+sm _ j+_
  rw[show RM pc mo (tF (A.getD i ⟨#[]⟩).cps.toList) []=0 from rfl,List.length_nil,show((0:Nat):Int)*(n1:Int)*mo=0 by simp]
  omega
 |b hj =>
  rw[if_pos rfl,if_neg (by decide),if_neg (by decide),jm,QI,QL h0 h1 h2,hr hj,jH,NT,Ht h0,List.length_replicate]
  show _=sm _ i+(sm _ j+(_+_))+_
  rw[show RM pc mo [] (tF (B.getD j ⟨#[]⟩).cps.toList)=0 from(kO λ_ _=>yo _).trans ((rG 0 _).trans (Int.mul_zero _)),List.length_nil,show((0:Nat):Int)*(n2:Int)*mo=0 by simp]
  omega
theorem Jw.cost(hA:∀c∈A,c.cps.size=n1)(hB:∀c∈B,c.cps.size=n2){tc pc:Nat->Nat->Int}{mo:Int}(h0:∀a b,a=45->b=45->tc a b=0)(h1:∀a b,¬(a=45/\b=45)->(a=45\/b=45)->tc a b=mo)(h2:∀a b,a≠45->b≠45->tc a b=pc a b)
  {E:Nat->Nat->Int} (hE:∀i j,i<A.length->j<B.length->E i j=RM pc mo (tF (A.getD i ⟨#[]⟩).cps.toList) (tF (B.getD j ⟨#[]⟩).cps.toList)):∀{cs:List Nat} {i j:Nat},Jw A.length B.length i j cs →
  ((wG A B (aF n1) (aF n2) i j cs).map λo=>cc tc o.cps.toList).sum+sm (λi=>cc tc (A.getD i ⟨#[]⟩).cps.toList+((tF (A.getD i ⟨#[]⟩).cps.toList).length:Int)*(n2:Int)*mo) i+sm (λj=>cc tc (B.getD j ⟨#[]⟩).cps.toList+((tF (B.getD j ⟨#[]⟩).cps.toList).length:Int)*(n1:Int)*mo) j
   = sm (λi=>cc tc (A.getD i ⟨#[]⟩).cps.toList+((tF (A.getD i ⟨#[]⟩).cps.toList).length:Int)*(n2:Int)*mo) A.length+sm (λj=>cc tc (B.getD j ⟨#[]⟩).cps.toList+((tF (B.getD j ⟨#[]⟩).cps.toList).length:Int)*(n1:Int)*mo) B.length+Wn E i j cs
 |[],i,j,h=>by
  obtain⟨rfl,rfl⟩:=h
  show(0:Int)+_+_=_+_+0
  omega
 |c::cs,i,j,h=>by
  have e1:=S8 hA hB h0 h1 h2 hE h.1
  have e2:=Jw.cost hA hB h0 h1 h2 hE h.2
  show(cc tc (tR A B (aF n1) (aF n2) i j c).cps.toList::((wG A B (aF n1) (aF n2) (i+stI c) (j+uf c) cs).map λo=>cc tc o.cps.toList)).sum+_+_=_+_+((if c=112 then E i j else 0)+Wn E (i+stI c) (j+uf c) cs)
  rw[List.sum_cons]
  omega
end
inductive xF:Nat->Nat->List Nat->Prop
 |nil:xF 0 0 []
 |p {i j:Nat} {cs:List Nat} (h:xF i j cs):xF (i+1) (j+1) (112::cs)
 |a {i j:Nat} {cs:List Nat} (h:xF i j cs):xF (i+1) j (97::cs)
 |b {i j:Nat} {cs:List Nat} (h:xF i j cs):xF i (j+1) (98::cs)
theorem xF.wk{m n:Nat}{i j:Nat}{cs:List Nat}(h:xF i j cs):∀{p q:Nat},p+i=m->q+j=n->Jw m n p q cs:=by
 induction h with
 |nil=>exact λh1 h2=>⟨h1,h2⟩
 |p h ih=>exact λh1 h2=>⟨.p (by omega) (by omega),ih (by show _+1+_=_;omega) (by show _+1+_=_;omega)⟩
 |a h ih=>exact λh1 h2=>⟨.a (by omega),ih (by show _+1+_=_;omega) h2⟩
 |b h ih=>exact λh1 h2=>⟨.b (by omega),ih h1 (by show _+1+_=_;omega)⟩
end GP
namespace L2
open PySem PySem.Spec PyProof.Rows
section
open PySem.SeqAt
open PySem.AutoSeq1 (wpAny_loadPart')
open PySem.MeetsSeq PySem.MeetsSeq2 PySem.MeetsSeq3
theorem uA:∀{vs:List Value} {ns:List Int} {i:Nat},IntsAre vs ns->i<vs.length->∃a t,vs[i]? =some (.int a t)/\ns.drop i=a::ns.drop (i+1)
 |_,_,0,.cons n t h,_=>⟨n,t,rfl,rfl⟩
 |_,_,i+1,.cons n t h,hi=>by
  obtain⟨a,t',e1,e2⟩:=uA (i:=i) h (by simpa using hi)
  exact⟨a,t',e1,e2⟩
theorem SI(l b:Addr)(items items2:Array Value)(n n2:Nat)(dd dd2:Option Addr)(sl sl2:Array (Option Value))(ns ms:List Int)(hi:IntsAre items.toList ns)(hj:IntsAre items2.toList ms)(k:Nat):
  ∀i:Nat,items.size-i=k->i<=items.size->Meets (Builtin.«list.__eq__.loop» ⟨[.ref l,.ref b,rawInt i,rawInt 0],[]⟩)
   (λ_ R s=>s.heap.get? l=some { cls:=.type "list",dict:=dd,data:=.seq items n,slots:=sl }/\s.heap.get? b=some { cls:=.type "list",dict:=dd2,data:=.seq items2 n2,slots:=sl2 } ∧
    R (.ok (.ret (.bool (HT.lexLt (ns.drop i) (ms.drop i))))) s):=by
 have z1:items.size=ns.length:=by rw[←hi.length];simp
 have z2:items2.size=ms.length:=by rw[←hj.length];simp
 induction k with
 |zero =>
  intro i hk hle prog w A R s h
  obtain⟨hp,g,d,tk,os⟩:=s;obtain⟨hl,hb,h⟩:=h
  wp_walk using wpAny_loadPart' hl,wpAny_loadPart' hb
  have hi1:items[((i:Nat):Int).toNat]? =none:=by simp;omega
  have e:HT.lexLt (ns.drop i) (ms.drop i)=decide (items.size<items2.size):=by
   rw[List.drop_eq_nil_of_le (show ns.length<=i by omega)]
   by_cases z:i<ms.length
   ·rw[List.drop_eq_getElem_cons z,HT.zd,decide_eq_true (by omega)]
   ·rw[List.drop_eq_nil_of_le (show ms.length<=i by omega),HT.Am,decide_eq_false (by omega)]
  rw[e]at h
  rw[hi1]
  wp_walk using wpAny_loadPart' hl,wpAny_loadPart' hb
  show R (.ok (.ret (.bool (decide (items.size<items2.size))))) _
  exact h
 |succ k ih =>
  intro i hk hle prog w A R s h
  obtain⟨hp,g,d,tk,os⟩:=s;obtain⟨hl,hb,h⟩:=h
  wp_walk using wpAny_loadPart' hl,wpAny_loadPart' hb
  have hlt:i<items.size:=by omega
  obtain⟨a,t,ea,da⟩:=uA hi (i:=i) (by simpa using hlt)
  have hi1:items[((i:Nat):Int).toNat]? =some (.int a t):=by simpa using ea
  have hc:((i:Int)+1)=((i+1:Nat):Int):=by push_cast;rfl
  by_cases ag9:i<items2.size
  ·obtain⟨c,u,ec,dc⟩:=uA hj (i:=i) (by simpa using ag9)
   have hi2:items2[((i:Nat):Int).toNat]? =some (.int c u):=by simpa using ec
   rw[da,dc,HT.uz]at h
   rw[hi1,hi2]
   obtain⟨e,he,hiff⟩:=HT.VN A.in1 ⟨hp,g,d,tk,os⟩ a t c u
   refine wpAny_bind (he prog w _ _ ?_)
   cases e with
   |true =>
    rw[if_pos (hiff.mp rfl)]at h
    wp_walk
    rw[hc]
    exact⟨plainId_quiet plain_eq_loop _,codeAny_builtin entry_eq_loop (by
     rw[Around.under_plainId plain_eq_loop _]
     exact ih (i+1) (by omega) hlt prog w A R _ ⟨hl,hb,h⟩)⟩
   |false =>
    rw[if_neg (λq=>absurd (hiff.mpr q) Bool.false_ne_true)]at h
    have Mf:=HT.UH A.in1 ⟨hp,g,d,tk,os⟩ a t c u prog w
    wp_walk using wpAny_loadPart' hl,wpAny_loadPart' hb
    rw[hi1,hi2]
    wp_walk using Mf
    exact h
  ·have hi2:items2[((i:Nat):Int).toNat]? =none:=by simp;omega
   rw[da,List.drop_eq_nil_of_le (show ms.length<=i by omega),HT.zh]at h
   rw[hi1,hi2]
   wp_walk using wpAny_loadPart' hl,wpAny_loadPart' hb
   show R (.ok (.ret (.bool (decide (items.size<items2.size))))) _
   rw[decide_eq_false (by omega)]
   exact h
theorem G3(l b:Addr)(items items2:Array Value)(n n2:Nat)(dd dd2:Option Addr)(sl sl2:Array (Option Value))(ns ms:List Int)(hi:IntsAre items.toList ns)(hj:IntsAre items2.toList ms):
  Meets (Builtin.«list.__lt__» ⟨[.ref l,.ref b],[]⟩)
   (λ_ R s=>s.heap.get? l=some { cls:=.type "list",dict:=dd,data:=.seq items n,slots:=sl }/\s.heap.get? b=some { cls:=.type "list",dict:=dd2,data:=.seq items2 n2,slots:=sl2 } ∧
    R (.ok (.ret (.bool (HT.lexLt ns ms)))) s):=by
 intro prog w A R s h
 obtain⟨hp,g,d,tk,os⟩:=s;obtain⟨hl,hb,h⟩:=h
 have f3:=AutoSeq1.sub_list_list
 wp_walk using wpAny_loadPart' hl,wpAny_loadPart' hb
 exact⟨plainId_quiet plain_eq_loop _,codeAny_builtin entry_eq_loop (by
  rw[Around.under_plainId plain_eq_loop _]
  exact SI l b items items2 n n2 dd dd2 sl sl2 ns ms hi hj _ 0 rfl (Nat.zero_le _) prog w A R _ ⟨hl,hb,h⟩)⟩
end
theorem aaa{X:Cx}(hu:X.A.units<cLine):tD X (compareOp .Lt) (λx y H Q=>∃a b ns ms,x= .ref a/\y= .ref b/\bf X.K H a (ns.map V.int)/\bf X.K H b (ms.map V.int)/\Q (.bl (HT.lexLt ns ms)) H):=by
 intro pins s σ H x y v u Q I rx ry h
 obtain⟨a,b,ns,ms,rfl,rfl,ha,hb,q⟩:=h
 cases rx
 cases ry
 obtain⟨us,r1,t1,_⟩:=I.list ha
 obtain⟨vs,r2,t2,_⟩:=I.list hb
 have i1:IntsAre us.toArray.toList ns:=intsAre_of r1
 have i2:IntsAre vs.toArray.toList ms:=intsAre_of r2
 obtain⟨⟨cls,dd,data,sl⟩,ho,hc,n,hd⟩:=id t1.isList
 obtain⟨⟨ahV,dd2,data2,sl2⟩,ho2,hc2,n2,hd2⟩:=id t2.isList
 simp only at hc hd hc2 hd2
 subst hc hd hc2 hd2
 exact richCompare_meets_room (op:=.Lt) ⟨_,ho,rfl⟩ ⟨_,ho2,rfl⟩ PySem.F.slot_list_lt PySem.F.entry_list_lt (PySem.F.args_list_lt_2 _ _) (G3 a b us.toArray vs.toArray n n2 dd dd2 sl sl2 ns ms i1 i2)
  ⟨ho,ho2,show Value.bool (HT.lexLt ns ms)≠Value.notImplemented/\_ from⟨(λx=>nomatch x),⟨.bl (HT.lexLt ns ms),H,I,rfl,q⟩⟩⟩ hu
end L2
namespace GP
open PySem L2 oH
noncomputable def xH(A:List Str)(g:Str):Nat->List Nat->List Str
 |_,[]=>[]
 |i,c::cs=>(if c=98 then g else A.getD i ⟨#[]⟩)::xH A g (i+stI c) cs
noncomputable def wI(B:List Str)(g:Str):Nat->List Nat->List Str
 |_,[]=>[]
 |j,c::cs=>(if c=97 then g else B.getD j ⟨#[]⟩)::wI B g (j+uf c) cs
theorem xq{T:List Str}{N:Nat}(hN:0<N)(hs:∀o∈T,o.cps.size=N):packed (cols T N)=cols (T.filter λc=>!cC c) N:=by
 unfold packed
 rw[uR hN,wF hs,aZ]
section
variable{A B:List Str}{n1 n2:Nat}{kn:List Nat}
theorem Nv{g:Str}:∀{cs:List Nat} {i:Nat},(xH A g i cs).length=cs.length
 |[],_=>rfl
 |c::cs,i=>by show(xH A g (i+stI c) cs).length+1=_;rw[Nv];rfl
theorem OU{g:Str}:∀{cs:List Nat} {i:Nat},(wI B g i cs).length=cs.length
 |[],_=>rfl
 |c::cs,i=>by show(wI B g (i+uf c) cs).length+1=_;rw[OU];rfl
theorem U6{m n i j c i' j':Nat}(h:o4 m n i j c i' j'):c≠98->i<m:=λz=>by
 cases h with
 |p a b=>exact a
 |a a=>exact a
 |b b=>exact absurd rfl z
theorem U5{m n i j c i' j':Nat}(h:o4 m n i j c i' j'):c≠97->j<n:=λz=>by
 cases h with
 |p a b=>exact b
 |a a=>exact absurd rfl z
 |b b=>exact b
theorem qd(hA:∀c∈A,c.cps.size=n1){n:Nat}:∀{cs:List Nat} {i j:Nat},Jw A.length n i j cs->∀o∈xH A (aF n1) i cs,o.cps.size=n1
 |[],_,_,_,o,ho=>absurd ho List.not_mem_nil
 |c::cs,i,j,h,o,ho=>by
  rcases List.mem_cons.mp (show o∈_::xH A (aF n1) (i+stI c) cs from ho)with rfl|ho
  ·by_cases z:c=98
   ·rw[if_pos z,gm]
   ·rw[if_neg z];exact hA _ (getD_mem (U6 h.1 z))
  ·exact qd hA h.2 o ho
theorem wH(hB:∀c∈B,c.cps.size=n2){n:Nat}:∀{cs:List Nat} {i j:Nat},Jw n B.length i j cs->∀o∈wI B (aF n2) j cs,o.cps.size=n2
 |[],_,_,_,o,ho=>absurd ho List.not_mem_nil
 |c::cs,i,j,h,o,ho=>by
  rcases List.mem_cons.mp (show o∈_::wI B (aF n2) (j+uf c) cs from ho)with rfl|ho
  ·by_cases z:c=97
   ·rw[if_pos z,gm]
   ·rw[if_neg z];exact hB _ (getD_mem (U5 h.1 z))
  ·exact wH hB h.2 o ho
theorem sZ(n:Nat):cC (aF n)=true:=by
 unfold cC
 rw[jH,List.all_eq_true]
 exact λx hx=>by rw[List.eq_of_mem_replicate hx];rfl
theorem wX{n1:Nat}(hA:∀c∈A,cC c=false){n:Nat}:∀{cs:List Nat} {i j:Nat},Jw A.length n i j cs->(xH A (aF n1) i cs).filter (λc=>!cC c)=A.drop i
 |[],i,_,h=>by rw[h.1,List.drop_length];rfl
 |c::cs,i,j,h=>by
  show(_::xH A (aF n1) (i+stI c) cs).filter (λc=>!cC c)=_
  have ih:=wX (n1:=n1) hA h.2
  by_cases z:c=98
  ·rw[if_pos z,List.filter_cons_of_neg (by rw[sZ];decide),ih]
   unfold stI
   rw[if_pos z,Nat.add_zero]
  ·have hi:=U6 h.1 z
   rw[if_neg z,List.filter_cons_of_pos (by rw[hA _ (getD_mem hi)];rfl),ih,List.drop_eq_getElem_cons hi,aO (List.getElem?_eq_getElem hi)]
   unfold stI
   rw[if_neg z]
theorem xC{n2:Nat}(hB:∀c∈B,cC c=false){n:Nat}:∀{cs:List Nat} {i j:Nat},Jw n B.length i j cs->(wI B (aF n2) j cs).filter (λc=>!cC c)=B.drop j
 |[],_,j,h=>by rw[h.2,List.drop_length];rfl
 |c::cs,i,j,h=>by
  show(_::wI B (aF n2) (j+uf c) cs).filter (λc=>!cC c)=_
  have ih:=xC (n2:=n2) hB h.2
  by_cases z:c=97
  ·rw[if_pos z,List.filter_cons_of_neg (by rw[sZ];decide),ih]
   unfold uf
   rw[if_pos z,Nat.add_zero]
  ·have hj:=U5 h.1 z
   rw[if_neg z,List.filter_cons_of_pos (by rw[hB _ (getD_mem hj)];rfl),ih,List.drop_eq_getElem_cons hj,aO (List.getElem?_eq_getElem hj)]
   unfold uf
   rw[if_neg z]
theorem Nx(hA:∀c∈A,cC c=false){n:Nat}:∀{cs:List Nat} {i j k c:Nat},Jw A.length n i j cs->cs[k]? =some c->cC ((xH A (aF n1) i cs).getD k ⟨#[]⟩)=(c==98)
 |[],_,_,_,_,_,e=>by simp at e
 |d::cs,i,j,0,c,h,e=>by
  cases e
  show cC (if d=98 then aF n1 else A.getD i ⟨#[]⟩)=_
  by_cases z:d=98
  ·rw[if_pos z,sZ,z];rfl
  ·rw[if_neg z,hA _ (getD_mem (U6 h.1 z))];simpa using z
 |d::cs,i,j,k+1,c,h,e=>Nx (k:=k) hA h.2 e
theorem OV(hB:∀c∈B,cC c=false){n:Nat}:∀{cs:List Nat} {i j k c:Nat},Jw n B.length i j cs->cs[k]? =some c->cC ((wI B (aF n2) j cs).getD k ⟨#[]⟩)=(c==97)
 |[],_,_,_,_,_,e=>by simp at e
 |d::cs,i,j,0,c,h,e=>by
  cases e
  show cC (if d=97 then aF n2 else B.getD j ⟨#[]⟩)=_
  by_cases z:d=97
  ·rw[if_pos z,sZ,z];rfl
  ·rw[if_neg z,hB _ (getD_mem (U5 h.1 z))];simpa using z
 |d::cs,i,j,k+1,c,h,e=>OV (k:=k) hB h.2 e
theorem OQ(hA:∀c∈A,c.cps.size=n1){n r:Nat}(hr:r<n1):∀{cs:List Nat} {i j:Nat},Jw A.length n i j cs->f6 (wG A B (aF n1) (aF n2) i j cs) r=f6 (xH A (aF n1) i cs) r
 |[],_,_,_=>rfl
 |c::cs,i,j,h=>by
  show(tR A B (aF n1) (aF n2) i j c).cps.toList.getD r 0::f6 (wG A B (aF n1) (aF n2) (i+stI c) (j+uf c) cs) r=(if c=98 then aF n1 else A.getD i ⟨#[]⟩).cps.toList.getD r 0::f6 (xH A (aF n1) (i+stI c) cs) r
  rw[OQ hA hr h.2]
  congr 1
  have hz:=qd hA (cs:=c::cs) h _ (List.mem_cons_self ..)
  have hz':(if c=98 then aF n1 else A.getD i ⟨#[]⟩).cps.toList.length=n1:=by rw[Array.length_toList];exact hz
  unfold tR
  generalize (if c=98 then aF n1 else A.getD i ⟨#[]⟩)=U at hz'
  rw[jm]
  simp only[List.getD_eq_getElem?_getD]
  rw[List.getElem?_append_left (by omega)]
theorem OR(hA:∀c∈A,c.cps.size=n1){r:Nat}:∀{cs:List Nat} {i j:Nat},Jw A.length B.length i j cs->f6 (wG A B (aF n1) (aF n2) i j cs) (n1+r)=f6 (wI B (aF n2) j cs) r
 |[],_,_,_=>rfl
 |c::cs,i,j,h=>by
  show(tR A B (aF n1) (aF n2) i j c).cps.toList.getD (n1+r) 0::f6 (wG A B (aF n1) (aF n2) (i+stI c) (j+uf c) cs) (n1+r)=(if c=97 then aF n2 else B.getD j ⟨#[]⟩).cps.toList.getD r 0::f6 (wI B (aF n2) (j+uf c) cs) r
  rw[OR hA h.2]
  congr 1
  have hz:=qd hA (cs:=c::cs) h _ (List.mem_cons_self ..)
  have hz':(if c=98 then aF n1 else A.getD i ⟨#[]⟩).cps.toList.length=n1:=by rw[Array.length_toList];exact hz
  unfold tR
  generalize (if c=98 then aF n1 else A.getD i ⟨#[]⟩)=U at hz'
  generalize (if c=97 then aF n2 else B.getD j ⟨#[]⟩)=U2
  rw[jm]
  simp only[List.getD_eq_getElem?_getD]
  rw[List.getElem?_append_right (by omega),hz',Nat.add_sub_cancel_left]
theorem OO(hA:∀c∈A,c.cps.size=n1){cs:List Nat}(h:Jw A.length B.length 0 0 cs):(cols (wG A B (aF n1) (aF n2) 0 0 cs) (n1+n2)).take n1=cols (xH A (aF n1) 0 cs) n1:=by
 unfold cols
 rw[←List.map_take,List.take_range,Nat.min_eq_left (Nat.le_add_right _ _)]
 refine List.map_congr_left λr hr=>?_
 unfold eE
 rw[OQ hA (List.mem_range.mp hr) h]
theorem OP(hA:∀c∈A,c.cps.size=n1){cs:List Nat}(h:Jw A.length B.length 0 0 cs):(cols (wG A B (aF n1) (aF n2) 0 0 cs) (n1+n2)).drop n1=cols (wI B (aF n2) 0 cs) n2:=by
 refine List.ext_getElem? λr=>?_
 rw[List.getElem?_drop]
 by_cases hr:r<n2
 ·rw[show(cols (wG A B (aF n1) (aF n2) 0 0 cs) (n1+n2))[n1+r]? =some (eE _ (n1+r)) from fX (by omega),show(cols (wI B (aF n2) 0 cs) n2)[r]? =some (eE _ r) from fX hr]
  unfold eE
  rw[OR hA h]
 ·rw[List.getElem?_eq_none (by rw[aZ];omega),List.getElem?_eq_none (by rw[aZ];omega)]
end
theorem G5{kn:List Nat}{r1 r2:List Str}{cs:List Nat}(h1:kY kn (cols r1 (br r1)) r1.length)(h2:kY kn (cols r2 (br r2)) r2.length)(l1:oE r1=true)(l2:oE r2=true)(h:Jw (br r1) (br r2) 0 0 cs):
  packed ((cols (oV (cols r1 (br r1)) (cols r2 (br r2)) (aF r1.length) (aF r2.length) cs cs.length) (r1.length+r2.length)).take r1.length)=r1 ∧
  packed ((cols (oV (cols r1 (br r1)) (cols r2 (br r2)) (aF r1.length) (aF r2.length) cs cs.length) (r1.length+r2.length)).drop r1.length)=r2:=by
 have h':Jw (cols r1 (br r1)).length (cols r2 (br r2)).length 0 0 cs:=by rw[aZ,aZ];exact h
 rw[ve,OO h1.size h',OP h1.size h',xq (List.length_pos_iff.mpr (cP.mp l1).1) (qd h1.size h'),xq (List.length_pos_iff.mpr (cP.mp l2).1) (wH h2.size h'),wX h1.full h',xC h2.full h',List.drop_zero,List.drop_zero]
 exact⟨wF (cP.mp l1).2,wF (cP.mp l2).2⟩
end GP
namespace GP
open PySem L2 oH
noncomputable def mE(ms:List Nat):Str:=⟨ms.toArray⟩
theorem nI(ms:List Nat):(mE ms).cps.size=ms.length:=by rw[←Array.length_toList];rfl
theorem Q4(ms:List Nat)(c:Nat)(s:Str)(h:s.cps.toList=[c]):mE ms++s=mE (ms++[c]):=by
 have e:(mE ms++s).cps.toList=(mE (ms++[c])).cps.toList:=by rw[jm,h];rfl
 have e2:=Array.toList_inj.mp e
 rcases h3:mE ms++s with⟨x⟩
 rw[h3]at e2
 exact congrArg Str.mk e2
theorem Gj(ms:List Nat)(c:Nat)(s:Str)(h:s.cps.toList=[c]):s++mE ms=mE (c::ms):=by
 have e:(s++mE ms).cps.toList=(mE (c::ms)).cps.toList:=by rw[jm,h];rfl
 have e2:=Array.toList_inj.mp e
 rcases h3:s++mE ms with⟨x⟩
 rw[h3]at e2
 exact congrArg Str.mk e2
theorem yH{s:Str}{c:Nat}(h:s.cps.toList=[c])(n:Nat):pX s (n:Nat)=mE (List.replicate n c):=by
 have e:(pX s (n:Nat)).cps.toList=(mE (List.replicate n c)).cps.toList:=by
  rw[sU,h]
  show(List.replicate n [c]).flatten=List.replicate n c
  induction n with
  |zero=>rfl
  |succ n ih=>rw[List.replicate_succ,List.flatten_cons,ih,List.replicate_succ];rfl
 have e2:=Array.toList_inj.mp e
 rcases h3:pX s (n:Nat)with⟨cs⟩
 rw[h3]at e2
 exact congrArg Str.mk e2
noncomputable abbrev Xa(r1 r2:List Str)(ms:List Nat):List Str:=oV (cols r1 (br r1)) (cols r2 (br r2)) (aF r1.length) (aF r2.length) ms ms.length
noncomputable abbrev oY(r1 r2:List Str)(ms:List Nat):List Str:=cols (Xa r1 r2 ms) (r1.length+r2.length)
theorem Jw.ok{m n:Nat}:∀{cs:List Nat} {i j:Nat},Jw m n i j cs->∀c∈cs,Sz c
 |[],_,_,_,c,hc=>absurd hc List.not_mem_nil
 |d::cs,i,j,h,c,hc=>by
  rcases List.mem_cons.mp hc with rfl|hc
  ·exact h.1.ok
  ·exact Jw.ok h.2 c hc
theorem Jw.len{m n:Nat}{cs:List Nat}(h:Jw m n 0 0 cs):cs.length<=m+n:=by
 have h':Path m n cs m n:=(Jw.path (cs:=[]) .nil h)
 have:=h'.in
 omega
theorem xF.len{i j:Nat}{cs:List Nat}(h:xF i j cs):cs.length<=i+j:=by
 induction h with
 |nil=>exact Nat.le_refl _
 |p h ih=>rw[List.length_cons];omega
 |a h ih=>rw[List.length_cons];omega
 |b h ih=>rw[List.length_cons];omega
theorem xF.bs:∀j:Nat,xF 0 j (List.replicate j 98)
 | 0=>.nil
 |j+1=>.b (xF.bs j)
theorem xF.as:∀i:Nat,xF i 0 (List.replicate i 97)
 | 0=>.nil
 |i+1=>.a (xF.as i)
noncomputable def V4(K:PySem.W.Frag)(C CB X:Addr)(x o1 o2:Addr)(sg:Str)(rows:List (List bY))(fo fm:bY)(r1 r2:List Str)(H:Hp)(Q:VK)(E:XK):Prop:=jk K C H x sg rows fo fm/\t7 K CB H o1 r1/\t7 K CB H o2 r2/\Au r1/\Au r2/\gf r1=true/\gf r2=true ∧
 ((∀r∈r1++r2,Of (tP sg) r)->∀b H' cs,ai H H'->H b=none->rB (uP (rT sg rows (aY fo.2 fm.2 rows)) (qa rows fo fm) (cols r1 (br r1)) (cols r2 (br r2))) (br r1) (br r2) cs (br r1) (br r2)->t7 K CB H' b (oY r1 r2 cs)->Q (.ref b) H') ∧
 (∀i j,vO (tP sg) (r1++r2) i j->∀dx H',ai H H'->H' dx=some (Ic dx (Hj i j))->E (.ref X) (some dx) H')
noncomputable def vR(K:PySem.W.Frag)(C CB X:Addr):Sp:=λvs H Q E=>∃(x o1 o2:Addr) (sg:Str) (rows:List (List bY)) (fo fm:bY) (r1 r2:List Str),vs=[.ref x,.ref o1,.ref o2]/\V4 K C CB X x o1 o2 sg rows fo fm r1 r2 H Q E
noncomputable def aaY(K:PySem.W.Frag)(a1 a2:Addr)(r1 r2:List Str)(ms:List Nat)(H:Hp)(Q:VK):Prop:=H a1=some (.lst (r1.map V.str))/\H a2=some (.lst (r2.map V.str))/\Au r1/\Au r2/\oE r1=true/\oE r2=true/\Jw (br r1) (br r2) 0 0 ms ∧
 ∀l H',ai H H'->H' l=some (.lst ((oY r1 r2 ms).map V.str))->Q (.ref l) H'
noncomputable def Rb(K:PySem.W.Frag):Sp:=λvs H Q _=>∃(a1 a2:Addr) (r1 r2:List Str) (ms:List Nat),vs=[.ref a1,.ref a2,.str (mE ms)]/\aaY K a1 a2 r1 r2 ms H Q
noncomputable def Xy(K:PySem.W.Frag)(s t:Addr)(ns:List Int)(k:Int)(i j:Nat)(H:Hp)(Q:VK):Prop:=uO K H s t ns k/\k<=90000/\i<=50/\j<=50 ∧
 ∀ms k' H',xF i j ms->ai (Wo t H) (Wo t H')->H' t=some (.lst [.int k'])->k<=k'->k'<=k+(i:Int)+(j:Int)->Q (.str (mE ms)) H'
noncomputable def NN(K:PySem.W.Frag):Sp:=λvs H Q _=>∃(s t:Addr) (ns:List Int) (k:Int) (i j:Nat),vs=[.ref s,.ref t,.int i,.int j]/\Xy K s t ns k i j H Q
noncomputable def DE(H:Hp)(s t:Addr)(k:Int)(i j i' j':Nat)(σ:L2.St)(H2:Hp):Prop:=∃(ms:List Nat) (k':Int) (v5:Option V),σ=[some (.ref s),some (.ref t),some (.int i'),some (.int j'),some (.str (mE ms)),v5]/\ai (Wo t H) (Wo t H2)/\H2 t=some (.lst [.int k'])/\k<=k'/\k'+(i':Int)+(j':Int)<=k+(i:Int)+(j:Int)/\ms.length+i'+j'<=i+j+ms.length/\ms.length+(i'+j')<=2*(i+j)/\(∀ds,xF i' j' ds->xF i j (ms++ds))
noncomputable def aaV(K:PySem.W.Frag)(l:Addr)(r1 r2:List Str)(cs kn:List Nat)(H:Hp)(Q:VK):Prop:=H l=some (.lst ((oY r1 r2 cs).map V.str))/\Au r1/\Au r2/\oE r1=true/\oE r2=true/\kY kn (cols r1 (br r1)) r1.length/\kY kn (cols r2 (br r2)) r2.length/\Jw (br r1) (br r2) 0 0 cs ∧
 ∀H',ai H H'->Q (.str (mE cs)) H'
noncomputable def Q5(K:PySem.W.Frag):Sp:=λvs H Q _=>∃(l:Addr) (r1 r2:List Str) (cs kn:List Nat),vs=[.ref l,.int r1.length]/\aaV K l r1 r2 cs kn H Q
noncomputable def Gm(d:Nat):Sp:=λvs H Q _=>∃i j:Nat,vs=[.int i,.int j]/\i<=3/\j<=3/\i+j<=d ∧
 ∀l H' (tO:List (List Nat)),ai H H'->H l=none->H' l=some (.lst (tO.map λms=>V.str (mE ms)))->(∀ms∈tO,xF i j ms)->tO.length<=3 ^ (i+j)->Q (.ref l) H'
theorem GB{c:Nat}{tO:List (List Nat)}:(List.range tO.length).map (λk=>V.str (mE (c::tO.getD k [])))=(tO.map (c::·)).map λms=>V.str (mE ms):=by
 rw[List.map_map]
 exact b9 (d:=[]) tO λms=>V.str (mE (c::ms))
noncomputable def NK:Sp:=λvs H Q _=>∃ms:List Nat,vs=[.str (mE ms)]/\ms.length<=1000/\(∀c∈ms,Sz c)/\∀l H',ai H H'->H l=none->H' l=some (.lst ((ms.map vW).map V.int))->Q (.ref l) H'
noncomputable def Xz(K:PySem.W.Frag)(C:Addr)(x a1 a2 lf ls:Addr)(sg:Str)(rows:List (List bY))(fo fm:bY)(r1 r2:List Str)(cs:List Nat)(tO:List (List Nat))(H:Hp)(Q:VK):Prop:=jk K C H x sg rows fo fm/\H a1=some (.lst (r1.map V.str))/\H a2=some (.lst (r2.map V.str))/\H lf=some (.lst ((oY r1 r2 cs).map V.str))/\H ls=some (.lst (tO.map λms=>V.str (mE ms)))/\Au r1/\Au r2/\gf r1=true/\gf r2=true/\(∀r∈r1++r2,Of (tP sg) r) ∧
 rB (uP (rT sg rows (aY fo.2 fm.2 rows)) (qa rows fo fm) (cols r1 (br r1)) (cols r2 (br r2))) (br r1) (br r2) cs (br r1) (br r2)/\(∀ms∈tO,Jw (br r1) (br r2) 0 0 ms)/\∀H',ai H H'->Q (.bl true) H'
noncomputable def NO(K:PySem.W.Frag)(C:Addr):Sp:=λvs H Q _=>∃(x a1 a2 lf ls:Addr) (sg:Str) (rows:List (List bY)) (fo fm:bY) (r1 r2:List Str) (cs:List Nat) (tO:List (List Nat)),vs=[.ref x,.ref a1,.ref a2,.ref lf,.ref ls]/\Xz K C x a1 a2 lf ls sg rows fo fm r1 r2 cs tO H Q
noncomputable def Th(K:PySem.W.Frag)(C:Addr)(s t x a1 a2:Addr)(ns:List Int)(k:Int)(sg:Str)(rows:List (List bY))(fo fm:bY)(r1 r2:List Str)(n1 w1 n2 w2 c:Nat)(H:Hp)(Q:VK):Prop:=uO K H s t ns k/\k<=90000/\jk K C (Wo t H) x sg rows fo fm/\Wo t H a1=some (.lst (r1.map V.str))/\Wo t H a2=some (.lst (r2.map V.str))/\mU r1 n1 w1/\mU r2 n2 w2/\0<n1/\n1<=10/\0<n2/\n2<=10/\w1<=50/\w2<=50/\(∀r∈r1++r2,Of (tP sg) r)/\dZ c=true/\c∉(tP sg).cps.toList ∧
 ∀H',ai (Wo t H) (Wo t H')->H' t=some (.lst [.int (k+1)])->Q (.bl true) H'
noncomputable def yu(K:PySem.W.Frag)(C:Addr):Sp:=λvs H Q _=>∃(s t x a1 a2:Addr) (ns:List Int) (k:Int) (sg:Str) (rows:List (List bY)) (fo fm:bY) (r1 r2:List Str) (n1 w1 n2 w2 c:Nat),vs=[.ref s,.ref t,.ref x,.ref a1,.ref a2,.str ⟨#[c]⟩]/\Th K C s t x a1 a2 ns k sg rows fo fm r1 r2 n1 w1 n2 w2 c H Q
theorem Vd{sg:Str}{rows:List (List bY)}{fo fm:bY}{r1 r2:List Str}{kn:List Nat}{cs ms:List Nat}(h1:kY kn (cols r1 (br r1)) r1.length)(h2:kY kn (cols r2 (br r2)) r2.length)(hk:45∈kn)(hp:0<r1.length)
  (hf:rB (uP (rT sg rows (aY fo.2 fm.2 rows)) (qa rows fo fm) (cols r1 (br r1)) (cols r2 (br r2))) (br r1) (br r2) cs (br r1) (br r2)) (hm:Jw (br r1) (br r2) 0 0 ms) :
  wK (MY sg rows fo fm) (oY r1 r2 cs)<=wK (MY sg rows fo fm) (oY r1 r2 ms)/\(wK (MY sg rows fo fm) (oY r1 r2 ms)=wK (MY sg rows fo fm) (oY r1 r2 cs)->HT.lexLt (ms.map vW) (cs.map vW)=false):=by
 have l1:(cols r1 (br r1)).length=br r1:=aZ
 have l2:(cols r2 (br r2)).length=br r2:=aZ
 have hw:Po (uP (rT sg rows (aY fo.2 fm.2 rows)) (qa rows fo fm) (cols r1 (br r1)) (cols r2 (br r2))) (br r1) (br r2) 0 0 (cs++[]):=hf.FO ⟨rfl,rfl⟩
 rw[List.append_nil]at hw
 have cost:∀{zs:List Nat},Jw (br r1) (br r2) 0 0 zs->wK (MY sg rows fo fm) (oY r1 r2 zs)=sm (λi=>cc (MY sg rows fo fm) ((cols r1 (br r1)).getD i ⟨#[]⟩).cps.toList+((tF ((cols r1 (br r1)).getD i ⟨#[]⟩).cps.toList).length:Int)*(r2.length:Int)*qa rows fo fm) (cols r1 (br r1)).length+sm (λj=>cc (MY sg rows fo fm) ((cols r2 (br r2)).getD j ⟨#[]⟩).cps.toList+((tF ((cols r2 (br r2)).getD j ⟨#[]⟩).cps.toList).length:Int)*(r1.length:Int)*qa rows fo fm) (cols r2 (br r2)).length+Wn (uP (rT sg rows (aY fo.2 fm.2 rows)) (qa rows fo fm) (cols r1 (br r1)) (cols r2 (br r2))) 0 0 zs:=λ{zs} h=>by
  have h':Jw (cols r1 (br r1)).length (cols r2 (br r2)).length 0 0 zs:=by rw[l1,l2];exact h
  have hC:=(show Path (cols r1 (br r1)).length (cols r2 (br r2)).length zs _ _ from Jw.path (cs:=[]) .nil h').cols h1 h2 hk
  have e:=Jw.cost h1.size h2.size (tc:=MY sg rows fo fm) (pc:=rT sg rows (aY fo.2 fm.2 rows)) (mo:=qa rows fo fm) (E:=uP (rT sg rows (aY fo.2 fm.2 rows)) (qa rows fo fm) (cols r1 (br r1)) (cols r2 (br r2))) (λ_ _ a b=>Ua a b) (λ_ _ a b=>Ub a b) (λ_ _ a b=>XI a b) (λ_ _ _ _=>rfl) h'
  have z:∀f:Nat->Int,sm f 0=0:=λ_=>rfl
  rw[z,z,Int.add_zero,Int.add_zero]at e
  rw[←e,←ve]
  exact Tf _ (by omega) hC.size
 have e1:=cost hw.wk
 have e2:=cost hm
 have lo:=Jw.low (E:=uP (rT sg rows (aY fo.2 fm.2 rows)) (qa rows fo fm) (cols r1 (br r1)) (cols r2 (br r2))) hm
 have ex:=hw.ex
 refine⟨by rw[e1,e2];omega,λhe=>hw.lex hm ?_⟩
 rw[e1,e2]at he
 omega
end GP
namespace L2
open PySem PySem.Spec PyProof.Rows
theorem oQ{X:Cx}{K':PySem.W.Frag}(hK:X.K=K'):mF X (.builtin "len") (λxs H Q=>∃x n,xs=[x]/\V8 K' x H n/\Q (.int (n:Int)) H):=by subst hK;exact aK
end L2
namespace GP
open PySem L2 oH
noncomputable def Kb(k a c:Int):Prop:=k<=a/\a<=k+c
theorem Kb.up{k a b c d f:Int}(h:Kb k a c)(h1:a<=b)(h2:b<=a+d)(e:c+d<=f):Kb k b f:=by
 obtain⟨p,q⟩:=h
 exact⟨by omega,by omega⟩
theorem Kb.top{k a c f:Int}(h:Kb k a c)(hk:k<=70000)(e:70000+c<=f):a<=f:=by
 obtain⟨p,q⟩:=h
 omega
theorem Kb.lo{k a c:Int}(h:Kb k a c)(k0:0<=k):0<=a:=Int.le_trans k0 h.1
theorem Kb.add{k a c d f:Int}(h:Kb k a c)(d0:0<=d)(e:c+d<=f):Kb k (a+d) f:=h.up (by omega) (Int.le_refl _) e
theorem Po.uniq{E:Nat->Nat->Int}{m n:Nat}:∀{cs ds:List Nat} {i j:Nat},Po E m n i j cs->Po E m n i j ds->cs=ds
 |[],[],_,_,_,_=>rfl
 |c::cs,d::ds,i,j,h,h'=>by
  have e:c=d:=h.1.trans h'.1.symm
  subst e
  rw[Po.uniq h.2.2.2 h'.2.2.2]
 |[],d::ds,i,j,h,h'=>by
  obtain⟨rfl,rfl⟩:=h
  have s:=h'.2.2.1
  exfalso
  generalize i+stI d=i' at s
  generalize j+uf d=j' at s
  cases s with
  |p a b=>omega
  |a a=>omega
  |b b=>omega
 |d::ds,[],i,j,h',h=>by
  obtain⟨rfl,rfl⟩:=h
  have s:=h'.2.2.1
  exfalso
  generalize i+stI d=i' at s
  generalize j+uf d=j' at s
  cases s with
  |p a b=>omega
  |a a=>omega
  |b b=>omega
theorem rB.uniq{E:Nat->Nat->Int}{m n:Nat}{cs ds:List Nat}(h:rB E m n cs m n)(h':rB E m n ds m n):cs=ds:=by
 have a:=h.FO (ds:=[]) ⟨rfl,rfl⟩
 have b:=h'.FO (ds:=[]) ⟨rfl,rfl⟩
 rw[List.append_nil]at a b
 exact a.uniq b
theorem nO.off2{K:PySem.W.Frag}{CP CB:Addr}{H H' Pw:Hp}{t x a1 a2 o1 o2:Addr}{k k2:Int}{sg:Str}{rows:List (List bY)}{fo fm:bY}{r1 r2:List Str}(h:nO K CP CB H H' t x a1 a2 o1 o2 k sg rows fo fm r1 r2)(e:ai (Wo t H') (Wo t Pw))(ht:Pw t=some (.lst [.int k2])):nO K CP CB H Pw t x a1 a2 o1 o2 k2 sg rows fo fm r1 r2 :=
 ⟨ht,h.pr.same e,e _ _ h.l1,e _ _ h.l2,h.b1.same e,h.b2.same e,h.off.trans e⟩
theorem ahU{J:It}{g:TG}{te:TE}{σ':L2.St}{H1:Hp}{D:Hp->Prop}{l t:Addr}{k b:Int}(n:Nat)(Pv:V->Prop)(hl:H1 l=none)(ht:H1 t=some (.lst [.int k]))(hb:0<=b)(hn:n<sizeLine)
  (go:∀i H,i<n->J.go i H) (st:∀H,J.stop n H)
  (el:∀(i:Nat) x H H3 k' (R:VK),ai (Wo t H1) (Wo t H)->H t=some (.lst [.int k'])->k<=k'->k'<=k+b*(i:Int)->i<n->J.AL i H x H3->(∀y k2 H5,Pv y->ai (Wo t H) (Wo t H5)->H5 t=some (.lst [.int k2])->k'<=k2->k2<=k'+b->R y H5)->g x σ' H3 λwV H4=>Kp σ' wV/\te wV H4 R)
  (fin:∀H' (ys:List V) k',ai (Wo t H1) (Wo t H')->H' t=some (.lst [.int k'])->k<=k'->k'<=k+b*(n:Int)->ys.length=n->(∀y∈ys,Pv y)->H' l=some (.lst ys)->D H') :
  ∃W:Nat->Nat->List V->Hp->Prop,(∃m,W 0 m [] (upd H1 l (.lst [])))/\∀i m ys H2,W i m ys H2->(J.stop i H2/\D H2) ∨
   (J.go i H2/\∀x H3,J.AL i H2 x H3->g x σ' H3 λwV H4=>Kp σ' wV/\te wV H4 λy H5=>H5 l=some (.lst ys)/\ys.length<sizeLine/\∃m',m'<m/\W (i+1) m' (ys++[y]) (upd H5 l (.lst (ys++[y])))):=by
 have xu:l≠t:=λz=>by rw[z,ht]at hl;cases hl
 refine⟨λi m ys H2=>m=n-i/\i<=n/\ys.length=i/\(∀y∈ys,Pv y)/\ai (Wo t H1) (Wo t H2)/\H2 l=some (.lst ys)/\∃k',H2 t=some (.lst [.int k'])/\k<=k'/\k'<=k+b*(i:Int),⟨n,rfl,Nat.zero_le _,rfl,λy hy=>absurd hy List.not_mem_nil,Wo.same (GP.ai.upd hl),ah,k,by rw[aA xu.symm];exact ht,Int.le_refl _,by omega⟩,?_⟩
 rintro i m ys H2 ⟨rfl,hi,hys,hP,w2,h2,k',yh,b1,b2⟩
 by_cases hlt:i<n
 ·refine .inr ⟨go i H2 hlt,λx H3 y=>el i x H2 H3 k' _ w2 yh b1 b2 hlt y λv k2 H5 hv w5 Vl b3 b4=>?_⟩
  refine⟨Wo.sub _ _ (w5 _ _ (Wo.in xu h2)),by omega,n-(i+1),by omega,rfl,hlt,by rw[List.length_append,hys];rfl,λz hz=>?_,?_,ah,k2,by rw[aA xu.symm];exact Vl,by omega,?_⟩
  ·rcases List.mem_append.mp hz with hz|hz
   ·exact hP z hz
   ·rw[List.mem_singleton.mp hz];exact hv
  ·intro c u hc
   have hcl:c≠l:=λz=>by rw[z,Wo.free hl]at hc;cases hc
   have:=(w2.trans w5) _ _ hc
   rw[Wo.aA xu,aA hcl]
   exact this
  ·rw[show((i+1:Nat):Int)=(i:Int)+1 by omega,Int.mul_add,Int.mul_one]
   omega
 ·have e:i=n:=by omega
  subst e
  exact .inl ⟨st H2,fin H2 ys k' w2 yh b1 b2 hys hP h2⟩
theorem ZR{ys:List V}{P:List Nat->Prop}(h:∀y∈ys,∃ms,y= .str (mE ms)/\P ms):∃tO:List (List Nat),ys=tO.map (λms=>V.str (mE ms))/\∀ms∈tO,P ms:=by
 induction ys with
 |nil=>exact⟨[],rfl,λms h=>absurd h List.not_mem_nil⟩
 |cons y ys ih =>
  obtain⟨ms,rfl,hm⟩:=h y (List.mem_cons_self ..)
  obtain⟨tO,e,hs⟩:=ih λz hz=>h z (List.mem_cons_of_mem _ hz)
  refine⟨ms::tO,by rw[e];rfl,λz hz=>?_⟩
  rcases List.mem_cons.mp hz with rfl|hz
  ·exact hm
  ·exact hs z hz
end GP
set_option Elab.async false
set_option linter.all false
set_option maxRecDepth 100000
set_option maxHeartbeats 4000000
namespace DH
open PySem L2 oH GP
noncomputable def top(i:Nat):Stmt:=PySem.Challenge.pw_gapweave_k42_joined.main.body.getD i (.Pass ⟨0,0,0,0⟩)
theorem kE{N P:List Str}{sc:Scope}(a:sc.kind=.function:=by rfl)(b:sc.isCoroutine=false:=by rfl)(c:sc.isGenerator=false:=by rfl)(d:N.Nodup:=by decide +kernel)(e:N.take P.length=P:=by rfl)(f:∀x∈P,sc.names.lookup x=some .local\/sc.names.lookup x=some .cell:=by decide +kernel)(g:∀y∈sc.names,y.2≠.free:=by decide +kernel):aG N P sc:=⟨a,b,c,d,e,f,g⟩
noncomputable abbrev cS:Stmt:=inClass (top 5) 0
theorem ur:aG ["self","row","place"] ["self","row","place"] (av cS):=kE
noncomputable abbrev fW:Stmt:=top 7
theorem gU:aG ["one","other","rest"] ["one","other"] (av fW):=kE
noncomputable abbrev uZ:Stmt:=top 8
theorem A1:aG ["fraction","divisor"] ["fraction"] (av uZ):=kE
noncomputable abbrev sO:Stmt:=top 13
theorem yD:aG ["sign","number"] ["sign"] (av sO):=kE
noncomputable abbrev nL:Stmt:=top 14
theorem Gy:aG ["text"] ["text"] (av nL):=kE
noncomputable abbrev ny:Stmt:=top 15
theorem yE:aG ["signs"] ["signs"] (av ny):=kE
noncomputable abbrev fC:Stmt:=top 16
theorem k9:aG ["signs","pairs","row"] ["signs","pairs"] (av fC):=kE
noncomputable abbrev ju:Stmt:=top 18
theorem xJ:aG ["price"] ["price"] (av ju):=kE
noncomputable abbrev kF:Stmt:=top 19
theorem vU:aG ["row"] ["row"] (av kF):=kE
noncomputable abbrev ow:Stmt:=top 20
theorem pV:aG ["pairs","opening","more","unders","row"] ["pairs","opening","more"] (av ow):=kE
noncomputable abbrev lS:Stmt:=top 21
theorem gk:aG ["unders","factors","unit","under","factor"] ["unders"] (av lS):=kE
noncomputable abbrev n8:Stmt:=top 22
theorem m6:aG ["factors","product","factor"] ["factors"] (av n8):=kE
noncomputable abbrev qh:Stmt:=top 23
theorem P1:aG ["price","unit"] ["price","unit"] (av qh):=kE
noncomputable abbrev jE:Stmt:=top 24
theorem eT:aG ["signs","pairs","unit","costs","one","row","other","price"] ["signs","pairs","unit"] (av jE):=kE
noncomputable abbrev cR:Stmt:=inClass (top 25) 0
theorem uq:aG ["self","signs","pairs","opening","more"] ["self","signs","pairs","opening","more"] (av cR):=kE
noncomputable abbrev nK:Stmt:=top 26
theorem Gu:aG ["prices","one","other"] ["prices","one","other"] (av nK):=kE
noncomputable abbrev lu:Stmt:=top 27
theorem Gv:aG ["prices"] ["prices"] (av lu):=kE
noncomputable abbrev nD:Stmt:=top 30
theorem jr:aG ["known","rows","number","row","place","sign"] ["known","rows"] (av nD):=kE
noncomputable abbrev jt:Stmt:=top 31
theorem q8:aG ["place","move","step"] ["place","move"] (av jt):=kE
noncomputable abbrev pq:Stmt:=top 34
theorem Gs:aG ["texts","place"] ["texts","place"] (av pq):=kE
noncomputable abbrev rL:Stmt:=top 35
theorem Se:aG ["texts","many"] ["texts","many"] (av rL):=kE
noncomputable abbrev lX:Stmt:=top 36
theorem z7:aG ["rows"] ["rows"] (av lX):=kE
noncomputable abbrev lU:Stmt:=top 37
theorem dJ:aG ["ones","others","one_gaps","other_gaps","moves","columns","place","move","step","left","right"] ["ones","others","one_gaps","other_gaps","moves"] (av lU):=kE
noncomputable abbrev sP:Stmt:=top 38
theorem P0:aG ["column"] ["column"] (av sP):=kE
noncomputable abbrev mH:Stmt:=top 39
theorem NU:aG ["things"] ["things"] (av mH):=kE
noncomputable abbrev fD:Stmt:=top 40
theorem lq:aG ["rows","row"] ["rows"] (av fD):=kE
noncomputable abbrev oq:Stmt:=top 42
theorem z9:aG ["row"] ["row"] (av oq):=kE
noncomputable abbrev lY:Stmt:=top 43
theorem q9:aG ["rows","row"] ["rows"] (av lY):=kE
noncomputable abbrev kI:Stmt:=top 44
theorem qg:aG ["rows","column"] ["rows"] (av kI):=kE
noncomputable abbrev cj:Stmt:=inClass (top 45) 0
theorem uY:aG ["self","rows"] ["self","rows"] (av cj):=kE
noncomputable abbrev iI:Stmt:=top 46
theorem tG:aG ["prices","rows"] ["prices","rows"] (av iI):=kE
noncomputable abbrev lW:Stmt:=top 48
theorem xM:aG ["prices","column","many"] ["prices","column","many"] (av lW):=kE
noncomputable abbrev kH:Stmt:=top 49
theorem vV:aG ["prices","columns","many"] ["prices","columns","many"] (av kH):=kE
noncomputable abbrev m8:Stmt:=top 50
theorem oR:aG ["prices","signs","extras","other"] ["prices","signs"] (av m8):=kE
noncomputable abbrev kG:Stmt:=top 51
theorem qf:aG ["prices","signs","others","extras"] ["prices","signs","others"] (av kG):=kE
noncomputable abbrev oA:Stmt:=top 52
theorem pW:aG ["prices","ones","others","known","signs"] ["prices","ones","others"] (av oA):=kE
noncomputable abbrev nh:Stmt:=top 53
theorem jo:aG ["extras","below","rests","j","least"] ["extras","below"] (av nh):=kE
noncomputable abbrev oj:Stmt:=top 54
theorem pS:aG ["extras","many","rests","row"] ["extras","many"] (av oj):=kE
noncomputable abbrev cF:Stmt:=inClass (top 55) 0
theorem kj:aG ["self","prices","one","other","ones","others"] ["self","prices","one","other"] (av cF):=kE
noncomputable abbrev om:Stmt:=top 56
theorem pU:aG ["joining","i","j","rest","below"] ["joining","i","j"] (av om):=kE
noncomputable abbrev nu:Stmt:=top 57
theorem jq:aG ["joining","place","moves","move"] ["joining"] (av nu):=kE
noncomputable abbrev lV:Stmt:=top 58
theorem nT:aG ["joining","moves","columns"] ["joining"] (av lV):=kE
noncomputable abbrev rM:Stmt:=top 59
theorem Sf:aG ["prices","one","other"] ["prices","one","other"] (av rM):=kE
noncomputable abbrev iH:Stmt:=top 61
theorem o9:aG ["_law_script","_law_at","_law_cell","_law_m"] ["_law_script","_law_at"] (av iH):=kE
noncomputable abbrev pB:Stmt:=top 62
theorem lO:aG ["_law_script","_law_at","_law_many","_law_some","_law_m","_law_turn"] ["_law_script","_law_at","_law_many"] (av pB):=kE
noncomputable abbrev pD:Stmt:=top 63
theorem lQ:aG ["_law_script","_law_at","_law_m","_law_cell","_law_under"] ["_law_script","_law_at"] (av pD):=kE
noncomputable abbrev n9:Stmt:=top 64
theorem m7:aG ["_law_script","_law_at","_law_signs_here","_law_same","_law_pairs","_law_i","_law_j"] ["_law_script","_law_at","_law_signs_here","_law_same"] (av n9):=kE
noncomputable abbrev oi:Stmt:=top 65
theorem ku:aG ["_law_script","_law_at","_law_signs_here","_law_many","_law_column_here","_law_k","_law_m"] ["_law_script","_law_at","_law_signs_here","_law_many"] (av oi):=kE
noncomputable abbrev qJ:Stmt:=top 66
theorem nJ:aG ["_law_script","_law_at","_law_signs_here","_law_many","_law_columns","_law_rows_here","_law_k","_law_column_here"] ["_law_script","_law_at","_law_signs_here","_law_many","_law_columns"] (av qJ):=kE
noncomputable abbrev oh:Stmt:=top 67
theorem tS:aG ["_law_rows_here","_law_kept"] ["_law_rows_here"] (av oh):=kE
noncomputable abbrev pA:Stmt:=top 68
theorem Gw:aG ["_law_prices_here","_law_one","_law_other"] ["_law_prices_here","_law_one","_law_other"] (av pA):=kE
noncomputable abbrev qL:Stmt:=top 69
theorem k8:aG ["_law_prices_here","_law_rows_here","_law_total","_law_i","_law_j","_law_k"] ["_law_prices_here","_law_rows_here"] (av qL):=kE
noncomputable abbrev qK:Stmt:=top 70
theorem c5:aG ["_law_ones","_law_others","_law_moves_here","_law_rows_here","_law_i","_law_j","_law_move","_law_left","_law_right","_law_column_here"] ["_law_ones","_law_others","_law_moves_here"] (av qK):=kE
noncomputable abbrev pG:Stmt:=top 71
theorem dY:aG ["_law_script","_law_at","_law_i","_law_j","_law_moves_here","_law_m"] ["_law_script","_law_at","_law_i","_law_j"] (av pG):=kE
noncomputable abbrev jD:Stmt:=top 72
theorem cQ:aG ["_law_rows_here","_law_many","_law_moves_here","_law_k","_law_left","_law_right"] ["_law_rows_here","_law_many"] (av jD):=kE
noncomputable abbrev iN:Stmt:=top 73
theorem jC:aG ["_law_i","_law_j","_law_found"] ["_law_i","_law_j"] (av iN):=kE
noncomputable abbrev pF:Stmt:=top 74
theorem Gx:aG ["_law_moves_here"] ["_law_moves_here"] (av pF):=kE
noncomputable abbrev lT:Stmt:=top 75
theorem xK:aG ["_law_block","_law_rows_here"] ["_law_block","_law_rows_here"] (av lT):=kE
noncomputable abbrev qI:Stmt:=top 76
theorem NV:aG ["_law_row","_law_k","_law_thing_here"] ["_law_row","_law_k","_law_thing_here"] (av qI):=kE
noncomputable abbrev nk:Stmt:=top 77
theorem lP:aG ["_law_prices_here","_law_one","_law_other","_law_place","e"] ["_law_prices_here","_law_one","_law_other"] (av nk):=kE
noncomputable abbrev pH:Stmt:=top 78
theorem lR:aG ["_law_prices_here","_law_ones","_law_others","_law_found","_law_some","_law_cost_here","_law_mine","_law_moves_here","_law_other"] ["_law_prices_here","_law_ones","_law_others","_law_found","_law_some"] (av pH):=kE
noncomputable abbrev nj:Stmt:=top 79
theorem gX:aG ["_law_script","_law_at","_law_prices_here","_law_ones","_law_others","_law_sign","_law_m","_law_rows_here","_law_r","_law_k","_law_one"] ["_law_script","_law_at","_law_prices_here","_law_ones","_law_others","_law_sign"] (av nj):=kE
noncomputable abbrev pC:Stmt:=top 80
theorem bT:aG ["_law_script","_law_at","_law_m","_law_many","_law_signs_here","_law_prices_here","_law_sizes","_law_ones","_law_others","_law_one","_law_other","_law_block","_law_found","_law_some"] ["_law_script","_law_at"] (av pC):=kE
noncomputable abbrev tT:Stmt:=top 81
theorem PZ:aG ["_law_script","_law_at","_law_k"] ["_law_script"] (av tT):=kE
structure Pm where
 nY:Tok
 o8:Tok
 kU:Addr
 kh:Addr
 iM:Addr
 iL:Addr
 iK:Addr
 Q2:Tok
 aq:Addr
 aJ:Addr
 au:Addr
 gQ:Addr
 dI:Addr
 aN:Addr
structure Txt(K:PySem.W.Frag)(mg:Str->Option Value)(p:Pm)(w:World):Prop where
 abt:mg "abs" =none
 bJ:mg "len" =none
 z_ord:mg "ord" =none
 abp:mg "set" =none
 uQ:mg "tuple" =none
 XE:mg "zip" =none
 wW:mg "enumerate" =none
 gT:mg "range" =none
 qC:mg "isinstance" =none
 ail:mg "int" =none
 aeq:mg "bool" =none
 abr:mg "all" =none
 TR:mg "any" =none
 XF:mg "sum" =none
 Yp:mg "list" =none
 XG:mg "min" =none
 abq:mg "max" =none
 Py:mg "reversed" =none
 Hh:mg "FIRST_SIGN" =some (.int 32 p.nY)
 OA:mg "LAST_SIGN" =some (.int 126 p.o8)
 Qy:mg "NO_SIGNS" =some (.ref p.kU)
 P9:∀H:Hp,iR K H p.kU [.int 34,.int 37,.int 45]
 Hg:mg "STEPS" =some (.ref p.kh)
 zj:∀P:Program,KDict P w K p.kh [(.inr (Str.ofString "p"),.ref p.iM),(.inr (Str.ofString "a"),.ref p.iL),(.inr (Str.ofString "b"),.ref p.iK)]
 N5:∀H:Hp,iR K H p.iM [.int 1,.int 1]
 N4:∀H:Hp,iR K H p.iL [.int 1,.int 0]
 N3:∀H:Hp,iR K H p.iK [.int 0,.int 1]
 OB:mg "GAP" =some (.str (Str.ofString "-") p.Q2)
 SE:mg "Prices" =some (.ref p.aq)
 bQ:Ws K p.aq
 l6:bE K p.aq "signs"
 oX:bE K p.aq "pairs"
 mK:bE K p.aq "opening"
 pZ:bE K p.aq "more"
 qk:bE K p.aq "factors"
 nE:bE K p.aq "unit"
 rW:bE K p.aq "costs"
 qP:bE K p.aq "opening_units"
 nW:bE K p.aq "more_units"
 l7:mg "Block" =some (.ref p.aJ)
 gF:Ws K p.aJ
 cu:bE K p.aJ "rows"
 Ox:PySem.W.isIn K (.ref p.aJ) p.aJ=true
 Qn:mg "Joining" =some (.ref p.au)
 bu:Ws K p.au
 gY:bE K p.au "ones"
 dU:bE K p.au "others"
 kR:bE K p.au "one_gaps"
 jv:bE K p.au "other_gaps"
 yV:bE K p.au "by_a"
 yU:bE K p.au "by_b"
 mL:bE K p.au "extras"
 nV:bE K p.au "rests"
 Ak:mg "WeaveError" =some (.ref p.gQ)
 qQ:mg "NoBlock" =some (.ref p.dI)
 qD:V5 K p.dI
 A4:mg "NoSign" =some (.ref p.aN)
 R1:XB K p.aN
 AM:Im K p.aN
 AN:Cr K p.aN
 R0:∃f,RZ K p.aN f
 vm:bE K p.aN "row"
 rX:bE K p.aN "place"
 z0:XBase K p.gQ
 wm:PySem.W.subIn K (.ref p.aN) (.ref p.aN)=some true
theorem aaT:bootBuiltins "abs" =some (.builtin "abs"):=by decide +kernel
theorem aW:bootBuiltins "len" =some (.builtin "len"):=by decide +kernel
theorem aaQ:bootBuiltins "ord" =some (.builtin "ord"):=by decide +kernel
theorem aaP:bootBuiltins "set" =some (.type "set"):=by decide +kernel
theorem sC:bootBuiltins "tuple" =some (.type "tuple"):=by decide +kernel
theorem p7:bootBuiltins "isinstance" =some (.builtin "isinstance"):=by decide +kernel
theorem aaS:bootBuiltins "all" =some (.builtin "all"):=by decide +kernel
theorem QK:bootBuiltins "any" =some (.builtin "any"):=by decide +kernel
theorem V1:bootBuiltins "sum" =some (.builtin "sum"):=by decide +kernel
theorem Xx:bootBuiltins "list" =some (.type "list"):=by decide +kernel
theorem V2:bootBuiltins "min" =some (.builtin "min"):=by decide +kernel
theorem aaR:bootBuiltins "max" =some (.builtin "max"):=by decide +kernel
section
variable{P:Program}{w:World}{K:PySem.W.Frag}{mg:Str->Option Value}{base:Heap}
theorem tL {bZ:Addr} {bU:FuncData} {p:Pm} (T:Txt K mg p w) (bw:Dn K mg "greatest_divisor" fW ["one","other"] bZ bU)  :aH P w K mg base cO 1 bZ bU ["one","other"] Uq:=by
 refine bw.fn.ok gU (λvs H Q E h=>?_) (λcdv A outer s H vs Q E hr h=>?_)
 ·obtain⟨a,b,rfl,_⟩:=h
  rfl
 ·obtain⟨a,b,rfl,hb,k⟩:=h
  refine⟨_,(aj (yJ PassesOwn.never (aU rV (pv 1) ak (bq _)) (aj (aD (i:=2) gU.nd rfl (Or.inl rfl) (aB cG (pv 0) (pv 1)))
   (aj (aD (i:=0) gU.nd rfl (Or.inl rfl) (pv 1))
   (ao (aD (i:=1) gU.nd rfl (Or.inl rfl) (pv 2))))))
   (ao (aS (aC (VY) rfl T.abt aaT (aa (pv 0) af))))),?_⟩
  refine⟨λm σ H'=>H'=H/\∃(x y:Int) (r:Option V),σ=[some (.int x),some (.int y),r]/\0<=y/\Int.gcd x y=Int.gcd a b/\m=y.toNat,⟨b.toNat,rfl,a,b,none,rfl,hb,rfl,rfl⟩,?_⟩
  rintro m σ H' ⟨rfl,x,y,r,rfl,hy,hg,rfl⟩
  refine⟨_,rfl,rfl,_,rfl,?_⟩
  refine zk (λh0=>?_) (λh0=>?_)
  ·have l1:=Int.emod_nonneg x h0
   have l2:=Int.emod_lt_of_pos x (show 0<y by omega)
   refine⟨λσ' Pw=>Pw=H'/\∃r,σ'=[some (.int y),some (.int (x % y)),r],?_,?_⟩
   ·rintro σ' Pw ⟨rfl,r,rfl⟩
    exact⟨(x % y).toNat,by omega,rfl,y,x % y,r,rfl,l1,(VB x y).trans hg,rfl⟩
   ·exact⟨_,rfl,_,rfl,_,_,rfl,rfl,(by show 0<y;omega),_,rfl,_,rfl,rfl,_,rfl⟩
  ·subst h0
   refine⟨_,rfl,_,rfl,?_⟩
   rw[Xh,hg]
   exact k
theorem Ss {qz bZ:Addr} {oM bU:FuncData} {p:Pm} (T:Txt K mg p w) (nS:Dn K mg "lowest" uZ ["fraction"] qz oM) (bw:Dn K mg "greatest_divisor" fW ["one","other"] bZ bU) (kW:aH P w K mg base cO 1 bZ bU ["one","other"] Uq):aH P w K mg base cO 2 qz oM ["fraction"] (XN K):=by
 refine nS.fn.ok A1 (λvs H Q E h=>?_) (λcdv A outer s H vs Q E hr h=>?_)
 ·obtain⟨p,f,rfl,_⟩:=h
  rfl
 ·obtain⟨p,⟨a,b⟩,rfl,hS,hb,hb2,k⟩:=h
  have hb0:0<b:=hb
  have g1:=sY a hb0
  have g2:=VC a hb0
  have hb':b<1073741824:=hb2
  refine⟨_,(aj (aD (i:=1) A1.nd rfl (Or.inl rfl) (az kW (hr.mono (by decide)) rfl bw.m bw.fn.kp bw.b .nil aQ (aa (aV gS (pv 0) ak (λ_ _=>rfl)) (aa (aV gS (pv 0) ak (λ_ _=>rfl)) af))))
   (ao (aS (oU (aa (aB cT (aV gS (pv 0) ak (λ_ _=>rfl)) (pv 1)) (aa (aB cT (aV gS (pv 0) ak (λ_ _=>rfl)) (pv 1)) af)))))),?_⟩
  refine⟨_,rfl,_,_,_,_,rfl,rfl,hS,rfl,_,rfl,_,_,_,_,rfl,rfl,hS,rfl,a,b,rfl,Int.le_of_lt hb,?_⟩
  refine⟨_,rfl,_,_,_,_,rfl,rfl,hS,rfl,_,rfl,_,_,rfl,rfl,⟨g1,by omega⟩,_,rfl,_,_,_,_,rfl,rfl,hS,rfl,_,rfl,_,_,rfl,rfl,⟨g1,by omega⟩,?_⟩
  exact⟨by show 2<=sizeLine;decide,λq hq=>k q hq⟩
theorem xP {dD qz:Addr} {cX oM:FuncData} {p:Pm} (T:Txt K mg p w) (bB:Dn K mg "lowest_price" ju ["price"] dD cX) (nS:Dn K mg "lowest" uZ ["fraction"] qz oM) (Wb:aH P w K mg base cO 2 qz oM ["fraction"] (XN K)):aH P w K mg base cO 3 dD cX ["price"] (um K):=by
 refine bB.fn.ok xJ (λvs H Q E h=>?_) (λcdv A outer s H vs Q E hr h=>?_)
 ·obtain⟨p,f,rfl,_⟩:=h
  rfl
 ·obtain⟨p,f,rfl,hS,⟨h1,h2⟩,k⟩:=h
  refine⟨_,(aj (cK (aU Rz (aV gS (pv 0) ak (λ_ _=>rfl)) ak (bq _)) mJ bx)
   (ao (aS (az Wb (hr.mono (by decide)) rfl nS.m nS.fn.kp nS.b .nil aQ (aa (pv 0) af))))),?_⟩
  refine⟨_,rfl,_,_,_,_,rfl,rfl,hS,rfl,_,_,rfl,rfl,_,rfl,?_⟩
  refine eY (λz=>absurd z (by omega)) λ_=>?_
  exact⟨_,rfl,p,f,rfl,hS,by omega,h2,k⟩
theorem vY {gx dD:Addr} {fQ cX:FuncData} {p:Pm} (T:Txt K mg p w) (dO:Dn K mg "lowest_prices" kF ["row"] gx fQ) (bB:Dn K mg "lowest_price" ju ["price"] dD cX) (mz:aH P w K mg base cO 3 dD cX ["price"] (um K)):aH P w K mg base cO 4 gx fQ ["row"] (wZ K):=by
 refine dO.fn.ok vU (λvs H Q E h=>?_) (λcdv A outer s H vs Q E hr h=>?_)
 ·obtain⟨c,fs,rfl,_⟩:=h
  rfl
 ·obtain⟨c,fs,rfl,⟨ps,hc,hp⟩,ho,hz,k⟩:=h
  have hl:=Paired.len hp
  refine⟨_,(ao (aS (oK (nG) rfl T.uQ sC (aa (dw (N:=["price"]) rfl (λ_=>⟨[],bI.plain (by decide +kernel) rfl (by decide +kernel) (by decide +kernel)⟩) (xm (pv 0)) (λ_ _ _ _ _ _ _=>(aM (i:=0) (show(["price"]:List Str).Nodup by decide +kernel) rfl (Or.inl rfl))) (λ_ _ _ _ _ _ _=>(az mz (hr.mono (by decide)) rfl bB.m bB.fn.kp bB.b .nil aQ (aa (pv 0) af)))) af)))),?_⟩
  refine⟨_,rfl,c,_,rfl,hc,λl S0=>?_⟩
  refine⟨λi m ys H2=>m=fs.length-i/\i<=fs.length/\ai H H2/\H2 l=some (.lst ys)/\∃qs:List Addr,ys=qs.map V.ref/\qs.length=i/\Paired (λq f=>H2 q=some (.tup [.int f.1,.int f.2])) qs ((fs.map nF).take i),⟨fs.length,rfl,Nat.zero_le _,ai.upd S0,ah,[],rfl,rfl,.nil⟩,?_⟩
  rintro i m ys H2 ⟨rfl,hi,s2,hl2,qs,rfl,hq,hP⟩
  have zc:c.at K H2 (ps.map V.ref):=ai.cp s2 hc
  by_cases hlt:i<fs.length
  ·have Jq:i<ps.length:=by omega
   have e1:(ps.map V.ref)[i]? =some (.ref ps[i]):=by rw[List.getElem?_map,List.getElem?_eq_getElem Jq];rfl
   refine .inr ⟨⟨_,_,zc,e1⟩,?_⟩
   rintro x H3 ⟨rfl,hx⟩
   have ex:=hx _ zc
   rw[e1]at ex
   cases ex
   obtain⟨f,ef,hf⟩:=Paired.at hp (List.getElem?_eq_getElem Jq)
   refine⟨Kp.rep _ _,?_⟩
   refine⟨_,rfl,ps[i],f,rfl,hf.same s2,ho f (List.mem_of_getElem? ef),λq hqn=>?_⟩
   have IW:q≠l:=λz=>by rw[z,hl2]at hqn;cases hqn
   refine⟨by rw[aA (Ne.symm IW)];exact hl2,?_,fs.length-(i+1),by omega,rfl,hlt,ai.at (s2.trans (ai.upd hqn)) S0,ah,qs++[q],by rw[List.map_append];rfl,by rw[List.length_append,hq];rfl,?_⟩
   ·rw[List.length_map,hq]
    exact Nat.lt_of_lt_of_le hlt (Nat.le_trans hz (by decide))
   ·rw[tV ef]
    refine GP.Paired.snoc (Paired.qm hP λa b z=>?_) ?_
    ·have n1:a≠q:=bC z hqn
     have n2:a≠l:=pL z hl2 (by intro z;cases z)
     rw[aA n2,aA n1]
     exact z
    ·rw[aA IW]
     exact ah
  ·have ei:i=fs.length:=by omega
   subst ei
   refine .inl ⟨⟨_,zc,by rw[List.length_map];omega⟩,?_⟩
   refine⟨l,_,rfl,.inl ⟨bf.of hl2,λq hqn=>?_⟩⟩
   refine k q _ (s2.trans (ai.upd hqn)) (ai.free s2 hqn) ⟨qs,iR.of ah,?_⟩
   rw[List.take_of_length_le (by rw[List.length_map];exact Nat.le_refl _)]at hP
   exact Paired.qm hP λa b z=>iR.of (by rw[aA (bC z hqn)];exact z)
theorem Ai {j9:Addr} {i0:FuncData} {p:Pm} (T:Txt K mg p w) (gO:Dn K mg "all_unders" ow ["pairs","opening","more"] j9 i0)  :aH P w K mg base cO 1 j9 i0 ["pairs","opening","more"] (NH K):=by
 refine gO.fn.ok pV (λvs H Q E h=>?_) (λcdv A outer s H vs Q E hr h=>?_)
 ·obtain⟨Pp,o,m,rows,fo,fm,rfl,_⟩:=h
  rfl
 ·obtain⟨Pp,o,m,rows,fo,fm,rfl,⟨cs,hc,hp⟩,hfo,hfm,Vt,F4,k⟩:=h
  refine⟨_,(aj (aD (i:=3) pV.nd rfl (Or.inl rfl) (gj (aa (aV gS (pv 1) ak (λ_ _=>rfl)) (aa (aV gS (pv 2) ak (λ_ _=>rfl)) af))))
   (aj (dR PassesOwn.never rfl (xm (pv 0)) (aM (i:=4) pV.nd rfl (Or.inl rfl)) (ao (fE (rR PySem.F.plainAttrs_list PySem.F.slot_list_extend PySem.F.type_list_extend SA (pv 3) (aa (dw (N:=["price"]) rfl (λ_=>⟨[],bI.plain (by decide +kernel) rfl (by decide +kernel) (by decide +kernel)⟩) (xm (pv 4)) (λ_ _ _ _ _ _ _=>(aM (i:=0) (show(["price"]:List Str).Nodup by decide +kernel) rfl (Or.inl rfl))) (λ_ _ _ _ _ _ _=>(aV (Xb (K':=K) rfl) (pv 0) ak (λ_ _=>rfl)))) af)))))
   (ao (aS (pv 3))))),?_⟩
  refine⟨_,rfl,_,_,_,_,rfl,rfl,hfo,rfl,_,rfl,_,_,_,_,rfl,rfl,hfm,rfl,(by show 2<=sizeLine;decide),λl hl=>?_⟩
  have ahJ:∀i,((rows.take i).flatten.map (·.2)).length<=12*12:=λi=>by
   have:∀(q:List (List bY)),(∀r∈q,r.length<=12)->q.flatten.length<=12*q.length:=λq=>by
    induction q with
    |nil=>intro _;simp
    |cons r q ih =>
     intro h
     have a:=h r List.mem_cons_self
     have b:=ih λr' hr=>h r' (List.mem_cons_of_mem _ hr)
     rw[List.flatten_cons,List.length_append,List.length_cons]
     omega
   have a:=this (rows.take i) λr hr=>F4 r (List.mem_of_mem_take hr)
   have b:(rows.take i).length<=12:=by rw[List.length_take];omega
   rw[List.length_map]
   omega
  refine⟨_,rfl,.tup Pp,_,rfl,ai.cp (ai.upd hl) (c:=.tup Pp) hc,Hi (K:=K) (c:=.tup Pp) (xs:=cs.map Cp.val) (λi σ H2=>∃v4,σ=[some (.ref Pp),some (.ref o),some (.ref m),some (.ref l),v4]/\ai H H2/\H2 l=some (.lst ((fo.2::fm.2::(rows.take i).flatten.map (·.2)).map V.int)))
   ⟨_,rfl,ai.upd hl,ah⟩ (λi σ H2 _ ⟨_,_,s2,_⟩=>ai.cp s2 hc) ?_ ?_⟩
  ·rintro i x σ H2 hx ⟨v4,rfl,s2,hl2⟩
   obtain⟨c,ec,rfl⟩:=qR hx
   obtain⟨row,er,⟨ps,hc2,hp2⟩⟩:=Paired.at hp ec
   have Kz:=ai.cp s2 hc2
   refine⟨_,rfl,.inl ⟨rfl,_,bf.of hl2⟩,?_⟩
   refine⟨_,rfl,c,_,rfl,Kz,λlx hlx=>?_⟩
   refine⟨λj m' ys H3=>m'=row.length-j/\j<=row.length/\ai H2 H3/\H3 lx=some (.lst ys)/\ys=((row.take j).map (·.2)).map V.int,⟨row.length,rfl,Nat.zero_le _,ai.upd hlx,ah,rfl⟩,?_⟩
   rintro j m' ys H3 ⟨rfl,hj,s3,F1,rfl⟩
   have zr:=ai.cp s3 Kz
   by_cases Dh:j<row.length
   ·have Jp:j<ps.length:=by rw[Paired.len hp2];exact Dh
    have e1:(ps.map V.ref)[j]? =some (.ref ps[j]):=by rw[List.getElem?_map,List.getElem?_eq_getElem Jp];rfl
    refine .inr ⟨⟨_,_,zr,e1⟩,?_⟩
    rintro y H4 ⟨rfl,LZ⟩
    have ey:=LZ _ zr
    rw[e1]at ey
    cases ey
    refine⟨Kp.rep _ _,?_⟩
    obtain⟨f,ef,hf⟩:=Paired.at hp2 (List.getElem?_eq_getElem Jp)
    have hf':=hf.same (s2.trans s3)
    refine⟨_,rfl,_,_,_,_,rfl,rfl,hf',rfl,?_⟩
    refine⟨F1,?_,row.length-(j+1),by omega,rfl,Dh,ai.at s3 hlx,ah,?_⟩
    ·rw[List.length_map,List.length_map,List.length_take]
     have:=F4 row (List.mem_of_getElem? er)
     exact Nat.lt_of_lt_of_le (show min j row.length<100 by omega) (by decide)
    ·rw[take_snoc ef,List.map_append,List.map_append]
     rfl
   ·have ej:j=row.length:=by omega
    subst ej
    rw[List.take_of_length_le (Nat.le_refl _)]at F1
    refine .inl ⟨⟨_,zr,by rw[List.length_map,Paired.len hp2];exact Nat.le_refl _⟩,?_⟩
    have hl3:=s3 _ _ hl2
    refine⟨l,lx,_,_,rfl,rfl,hl3,F1,?_,?_⟩
    ·have a:=ahJ i
     have a2:=F4 row (List.mem_of_getElem? er)
     have a3:((fo.2::fm.2::(rows.take i).flatten.map (·.2)).map V.int).length+((row.map (·.2)).map V.int).length<=200:=by
      rw[List.length_map,List.length_cons,List.length_cons,List.length_map,List.length_map,List.length_map]
      rw[List.length_map]at a
      omega
     exact Nat.le_trans a3 (by decide)
    refine⟨_,rfl,ai.at (s2.trans s3) hl,?_⟩
    rw[ah,take_snoc er,List.flatten_append,List.map_append]
    simp
  ·rintro σ H2 ⟨v4,rfl,s2,hl2⟩
   refine⟨_,rfl,?_⟩
   rw[List.length_map,Paired.len hp,List.take_of_length_le (Nat.le_refl _)]at hl2
   exact k l H2 s2 hl hl2
theorem xN {ig bZ:Addr} {gp bU:FuncData} {p:Pm} (T:Txt K mg p w) (eG:Dn K mg "unit_factors" lS ["unders"] ig gp) (bw:Dn K mg "greatest_divisor" fW ["one","other"] bZ bU) (kW:aH P w K mg base cO 1 bZ bU ["one","other"] Uq):aH P w K mg base cO 2 ig gp ["unders"] (AY K):=by
 refine eG.fn.ok gk (λvs H Q E h=>?_) (λcdv A outer s H vs Q E hr h=>?_)
 ·obtain⟨l,ns,rfl,_⟩:=h
  rfl
 ·obtain⟨l,ns,rfl,hl,hn,hs,k⟩:=h
  refine⟨_,(aj (aD (i:=1) gk.nd rfl (Or.inl rfl) (gj af))
   (aj (aD (i:=2) gk.nd rfl (Or.inl rfl) ak)
   (aj (dR PassesOwn.never rfl (eX (pv 0)) (aM (i:=3) gk.nd rfl (Or.inl rfl)) (aj (aD (i:=4) gk.nd rfl (Or.inl rfl) (aB cT (pv 3) (az kW (hr.mono (by decide)) rfl bw.m bw.fn.kp bw.b .nil aQ (aa (pv 2) (aa (pv 3) af)))))
   (ao (cK (aU xr (pv 4) ak (bq _)) (aj (fE (rR PySem.F.plainAttrs_list PySem.F.slot_list_append PySem.F.type_list_append jG (pv 1) (aa (pv 4) af)))
   (ao (aD (i:=2) gk.nd rfl (Or.inl rfl) (aB oW (pv 2) (pv 4))))) bx))))
   (ao (aS (pv 1)))))),?_⟩
  refine⟨by show 0<=sizeLine;decide,λq hq=>?_⟩
  refine⟨_,rfl,l,rfl,⟨_,ai.seq (ai.upd hq) hl⟩,qv (K:=K) (a:=l) (xs:=ns.map V.int) (λi σ H2=>∃v3 v4,σ=[some (.ref l),some (.ref q),some (.int (qw (ns.take i)).2),v3,v4]/\ai H H2/\H2 q=some (.lst ((qw (ns.take i)).1.map V.int)))
   ⟨_,_,rfl,ai.upd hq,ah⟩ (λi σ H2 _ ⟨_,_,_,s2,_⟩=>ai.seq s2 hl) ?_ ?_⟩
  ·rintro i x σ H2 hx ⟨v3,v4,rfl,s2,hq2⟩
   obtain⟨b,eb,rfl⟩:=qR hx
   have hi:i<ns.length:=(List.getElem?_eq_some_iff.mp eb).1
   have hb:=hs b (List.mem_of_getElem? eb)
   have F:=wB hs i (Nat.le_of_lt hi)
   have es:qw (ns.take (i+1))=tu (qw (ns.take i)) b:=by rw[take_snoc eb,zv]
   have fl:=F.len
   rw[List.length_take]at fl
   rw[es]
   unfold tu
   generalize hp:qw (ns.take i)=pr at *
   obtain⟨fs,u⟩:=pr
   obtain⟨b1,b2⟩:=hb
   have g1:=sY u b1
   have g2:=VC u b1
   obtain⟨d1,d2⟩:=RL (u:=u) ⟨b1,b2⟩
   refine⟨_,rfl,_,rfl,_,rfl,u,b,rfl,Int.le_of_lt b1,_,_,rfl,rfl,⟨g1,by omega⟩,_,rfl,_,_,rfl,rfl,_,rfl,?_⟩
   refine eY (λh1=>?_) (λh1=>?_)
   ·rw[if_pos h1]
    refine⟨_,rfl,.inl ⟨rfl,_,bf.of hq2⟩,_,rfl,q,_,_,rfl,rfl,hq2,?_,?_⟩
    ·rw[List.length_map]
     exact Nat.lt_of_le_of_lt (show fs.length<=1000 by dsimp only at fl;omega) (by decide)
    refine⟨_,rfl,_,rfl,_,_,rfl,rfl,.inr ⟨by omega,by omega⟩,?_⟩
    exact⟨_,_,rfl,ai.at s2 hq,by rw[ah,List.map_append];rfl⟩
   ·rw[if_neg h1]
    exact⟨_,_,rfl,s2,hq2⟩
  ·rintro σ H2 ⟨v3,v4,rfl,s2,hq2⟩
   refine⟨_,rfl,?_⟩
   rw[List.length_map,List.take_of_length_le (Nat.le_refl _)]at hq2
   exact k q H2 s2 hq hq2
theorem Aa {jT:Addr} {iT:FuncData} {p:Pm} (T:Txt K mg p w) (gG:Dn K mg "product_of" n8 ["factors"] jT iT)  :aH P w K mg base cO 1 jT iT ["factors"] (Uo K):=by
 refine gG.fn.ok m6 (λvs H Q E h=>?_) (λcdv A outer s H vs Q E hr h=>?_)
 ·obtain⟨l,fs,rfl,_⟩:=h
  rfl
 ·obtain⟨l,fs,rfl,hl,hs,k⟩:=h
  refine⟨_,(aj (aD (i:=1) m6.nd rfl (Or.inl rfl) ak)
   (aj (dR PassesOwn.never rfl (eX (pv 0)) (aM (i:=2) m6.nd rfl (Or.inl rfl)) (ao (aD (i:=1) m6.nd rfl (Or.inl rfl) (aB oW (pv 1) (pv 2)))))
   (ao (aS (pv 1))))),?_⟩
  refine⟨_,rfl,l,rfl,⟨_,hl⟩,qv (K:=K) (a:=l) (xs:=fs.map V.int) (λi σ H2=>H2=H/\∃v2,σ=[some (.ref l),some (.int (xh (fs.take i))),v2])
   ⟨rfl,_,rfl⟩ (λi σ H2 _ ⟨e,_⟩=>by subst e;exact hl) ?_ ?_⟩
  ·rintro i x σ H2 hx ⟨rfl,v2,rfl⟩
   obtain⟨b,eb,rfl⟩:=qR hx
   obtain⟨b1,b2⟩:=hs b (List.mem_of_getElem? eb)
   refine⟨_,rfl,_,rfl,_,_,rfl,rfl,.inr ⟨by omega,by omega⟩,rfl,some (.int b),?_⟩
   rw[take_snoc eb,yK]
   rfl
  ·rintro σ H2 ⟨rfl,v2,rfl⟩
   refine⟨_,rfl,?_⟩
   rw[List.length_map,List.take_of_length_le (Nat.le_refl _)]
   exact k
theorem Qf {jZ:Addr} {iJ:FuncData} {p:Pm} (T:Txt K mg p w) (dH:Dn K mg "by_unit" qh ["price","unit"] jZ iJ)  :aH P w K mg base cO 1 jZ iJ ["price","unit"] (yw K):=by
 refine dH.fn.ok P1 (λvs H Q E h=>?_) (λcdv A outer s H vs Q E hr h=>?_)
 ·obtain⟨p,f,u,rfl,_⟩:=h
  rfl
 ·obtain⟨p,f,u,rfl,hS,⟨h1,h2⟩,b1,b2,k⟩:=h
  refine⟨_,(ao (aS (aB WR (aV gS (pv 0) ak (λ_ _=>rfl)) (aB cT (pv 1) (aV gS (pv 0) ak (λ_ _=>rfl)))))),?_⟩
  exact⟨_,rfl,_,_,_,_,rfl,rfl,hS,rfl,_,rfl,_,rfl,_,_,_,_,rfl,rfl,hS,rfl,_,_,rfl,rfl,⟨by omega,h2⟩,_,_,rfl,rfl,⟨b1,b2⟩,k⟩
end
section
variable{P:Program}{w:World}{K:PySem.W.Frag}{mg:Str->Option Value}{base:Heap}
theorem Qd {oN:Addr} {mO:FuncData} {p:Pm} (T:Txt K mg p w) (lM:Dn K mg "is_sign" sO ["sign"] oN mO)  :aH P w K mg base cO 1 oN mO ["sign"] NQ:=by
 refine lM.fn.ok yD (λvs H Q E h=>?_) (λcdv A outer s H vs Q E hr h=>?_)
 ·obtain⟨c,rfl,_⟩:=h
  rfl
 ·obtain⟨c,rfl,k⟩:=h
  refine⟨_,(aj (aD (i:=1) yD.nd rfl (Or.inl rfl) (aC (VX) rfl T.z_ord aaQ (aa (pv 0) af)))
   (ao (aS (US (UO UX UX (kM (v:=.int 32) rfl T.Hh ⟨_,rfl⟩) (pv 1) (kM (v:=.int 126) rfl T.OA ⟨_,rfl⟩)) (UK (pK GJ (pv 1) (kM (v:=.ref p.kU) rfl T.Qy rfl) (by with_unfolding_all rfl))))))),?_⟩
  refine⟨_,rfl,_,rfl,rfl,?_⟩
  have k':Q (.bl ((decide ((32:Int)<=(c:Int))&&decide ((c:Int)<=126))&& !C6 (.int c) [.int 34,.int 37,.int 45])) H:=k
  refine⟨_,rfl,_,_,rfl,rfl,_,rfl,?_⟩
  refine eY (λh1=>?_) (λh1=>?_)
  ·refine⟨_,_,rfl,rfl,_,rfl,?_⟩
   have Bb:(32:Int)<=(c:Int):=h1
   rw[decide_eq_true Bb,Bool.true_and]at k'
   refine eY (λh2=>?_) (λh2=>?_)
   ·have h2':(c:Int)<=126:=h2
    rw[decide_eq_true h2',Bool.true_and]at k'
    exact⟨_,rfl,_,_,rfl,.inr (T.P9 _),rfl,rfl,k'⟩
   ·have h2':¬(c:Int)<=126:=h2
    rw[decide_eq_false h2',Bool.false_and]at k'
    exact k'
  ·have Bb:¬(32:Int)<=(c:Int):=h1
   rw[decide_eq_false Bb,Bool.false_and,Bool.false_and]at k'
   exact⟨_,rfl,iQ k'⟩
theorem GY {gE oN:Addr} {fG mO:FuncData} {p:Pm} (T:Txt K mg p w) (dh:Dn K mg "are_signs" nL ["text"] gE fG) (lM:Dn K mg "is_sign" sO ["sign"] oN mO) (Tq:aH P w K mg base cO 1 oN mO ["sign"] NQ):aH P w K mg base cO 2 gE fG ["text"] uo:=by
 refine dh.fn.ok Gy (λvs H Q E h=>?_) (λcdv A outer s H vs Q E hr h=>?_)
 ·obtain⟨x,rfl,_⟩:=h
  rfl
 ·obtain⟨x,rfl,hx,k⟩:=h
  refine⟨_,(ao (aS (aC (OT rfl) rfl T.abr aaS (aa (dw (N:=["sign"]) rfl (λ_=>⟨[],bI.plain (by decide +kernel) rfl (by decide +kernel) (by decide +kernel)⟩) (rQ (pv 0)) (λ_ _ _ _ _ _ _=>(aM (i:=0) (show(["sign"]:List Str).Nodup by decide +kernel) rfl (Or.inl rfl))) (λ_ _ _ _ _ _ _=>(az Tq (hr.mono (by decide)) rfl lM.m lM.fn.kp lM.b .nil aQ (aa (pv 0) af)))) af)))),?_⟩
  refine⟨_,rfl,x,rfl,λl hl=>?_⟩
  refine⟨λi m ys H2=>m=x.cps.size-i/\i<=x.cps.size/\ai H H2/\H2 l=some (.lst ys)/\ys=((x.cps.toList.take i).map dZ).map V.bl,⟨x.cps.size,rfl,Nat.zero_le _,ai.upd hl,ah,rfl⟩,?_⟩
  rintro i m ys H2 ⟨rfl,hi,s2,hl2,rfl⟩
  by_cases hlt:i<x.cps.size
  ·refine .inr ⟨hlt,?_⟩
   rintro y H3 ⟨rfl,c,ec,rfl⟩
   refine⟨Kp.rep _ _,?_⟩
   refine⟨_,rfl,c,rfl,?_⟩
   refine⟨hl2,?_,x.cps.size-(i+1),by omega,rfl,hlt,ai.at s2 hl,ah,?_⟩
   ·rw[List.length_map,List.length_map,List.length_take]
    exact Nat.lt_of_le_of_lt (show min i x.cps.toList.length<=1000 by omega) (by decide)
   ·rw[take_snoc (x:=c) (by rw[Array.getElem?_toList];exact ec),List.map_append,List.map_append]
    rfl
  ·have ei:i=x.cps.size:=by omega
   subst ei
   refine .inl ⟨Nat.le_refl _,?_⟩
   rw[List.take_of_length_le (by rw[Array.length_toList];exact Nat.le_refl _)]at hl2
   refine⟨l,_,rfl,bf.of hl2,?_⟩
   have e:(x.cps.toList.map dZ).all id=x.cps.toList.all dZ:=by rw[List.all_map];rfl
   rw[e]
   exact k H2 s2
theorem yR {jc gE:Addr} {ia fG:FuncData} {p:Pm} (T:Txt K mg p w) (fO:Dn K mg "check_signs" ny ["signs"] jc ia) (dh:Dn K mg "are_signs" nL ["text"] gE fG) (sJ:aH P w K mg base cO 2 gE fG ["text"] uo):aH P w K mg base cO 3 jc ia ["signs"] uX:=by
 refine fO.fn.ok yE (λvs H Q E h=>?_) (λcdv A outer s H vs Q E hr h=>?_)
 ·obtain⟨x,rfl,_⟩:=h
  rfl
 ·obtain⟨x,rfl,⟨h1,h2,h3,h4⟩,k⟩:=h
  refine⟨_,(aj (cK (aU iP (aC (aK) rfl T.bJ aW (aa (pv 0) af)) ak (bq _)) mJ bx)
   (aj (cK (qO (kP (az sJ (hr.mono (by decide)) rfl dh.m dh.fn.kp dh.b .nil aQ (aa (pv 0) af)))) mJ bx)
   (ao (cK (aU rV (aC (Ar) rfl T.bJ aW (aa (oK (Tc rfl) rfl T.abp aaP (aa (pv 0) af)) af)) (aC (aK) rfl T.bJ aW (aa (pv 0) af)) (bq _)) mJ bx)))),?_⟩
  have hz:x.length<=sizeLine:=Nat.le_trans h2 (by decide)
  refine⟨_,rfl,_,_,rfl,⟨hz,rfl⟩,rfl,_,rfl,?_⟩
  refine Vg (λz=>absurd z (by show ¬((x.cps.size:Nat):Int)=0;omega)) λ_=>?_
  refine⟨_,rfl,x,rfl,Nat.le_trans h2 (by decide),λH2 s2=>?_⟩
  refine⟨_,rfl,?_⟩
  rw[List.all_eq_true.mpr h3]
  refine qu ?_
  refine⟨_,rfl,x,rfl,Nat.lt_of_le_of_lt (Nat.succ_le_succ h2) (by decide),λp hp=>?_⟩
  refine⟨p,_,rfl,ah,_,rfl,_,_,rfl,⟨hz,rfl⟩,rfl,_,rfl,?_⟩
  refine zk (λz=>absurd (by rw[SG h4];rfl) z) λ_=>?_
  exact k _ (s2.trans (ai.upd hp))
theorem qi {cL:Addr} {cD:FuncData} {p:Pm} (T:Txt K mg p w) (bM:Da K mg "check_lengths_prices" "check_lengths" fC ["signs","pairs"] cL cD)  :aH P w K mg base cO 1 cL cD ["signs","pairs"] (rJ K):=by
 refine bM.fn.ok k9 (λvs H Q E h=>?_) (λcdv A outer s H vs Q E hr h=>?_)
 ·obtain⟨x,c,rows,rfl,_⟩:=h
  rfl
 ·obtain⟨x,c,rows,rfl,⟨nc,cs,Ja,hc,hp⟩,hx,⟨hq1,hq2⟩,k⟩:=h
  refine⟨_,(aj (cK (aU rV (aC (aK) rfl T.bJ aW (aa (pv 1) af)) (aC (aK) rfl T.bJ aW (aa (pv 0) af)) (bq _)) mJ bx)
   (ao (dR PassesOwn.never rfl (xm (pv 1)) (aM (i:=2) k9.nd rfl (Or.inl rfl)) (ao (cK (aU rV (aC (aK) rfl T.bJ aW (aa (pv 2) af)) (aC (aK) rfl T.bJ aW (aa (pv 0) af)) (bq _)) mJ bx))))),?_⟩
  have hz:x.length<=sizeLine:=Nat.le_trans hx (by decide)
  have hl:(cs.map Cp.val).length=x.cps.size:=by rw[List.length_map,Paired.len hp,hq1]
  refine⟨_,rfl,_,_,rfl,VV hc nc,_,rfl,_,_,rfl,⟨hz,rfl⟩,rfl,_,rfl,?_⟩
  refine zk (λz=>absurd (by rw[hl];rfl) z) λ_=>?_
  refine⟨_,rfl,c,_,rfl,hc,Hi (K:=K) (c:=c) (xs:=cs.map Cp.val) (λi σ H2=>H2=H/\∃v,σ=[some (.str x),some c.val,v]) ⟨rfl,_,rfl⟩ (λi σ H2 _ ⟨e,_⟩=>by subst e;exact hc) ?_ ?_⟩
  ·rintro i y σ H2 hy ⟨rfl,v,rfl⟩
   obtain⟨d,ed,rfl⟩:∃d,cs[i]? =some d/\y=d.val:=by
    rw[List.getElem?_map]at hy
    cases e:cs[i]? with
    |none=>rw[e]at hy;cases hy
    |some d=>rw[e]at hy;exact⟨d,rfl,(Option.some.inj hy).symm⟩
   obtain⟨row,er,hr2⟩:=Paired.at hp ed
   refine⟨_,rfl,_,_,rfl,hr2.len (Ja d (List.mem_of_getElem? ed)),_,rfl,_,_,rfl,⟨hz,rfl⟩,rfl,_,rfl,?_⟩
   refine zk (λz=>absurd (by rw[hq2 row (List.mem_of_getElem? er)];rfl) z) λ_=>?_
   exact⟨rfl,_,rfl⟩
  ·rintro σ H2 ⟨rfl,v,rfl⟩
   exact k
end
section
variable{P:Program}{w:World}{K:PySem.W.Frag}{mg:Str->Option Value}{base:Heap}
theorem vg {fV jZ:Addr} {e7 iJ:FuncData} {p:Pm} (T:Txt K mg p w) (dg:Dn K mg "costs_by_signs" jE ["signs","pairs","unit"] fV e7) (dH:Dn K mg "by_unit" qh ["price","unit"] jZ iJ) (tE:aH P w K mg base cO 1 jZ iJ ["price","unit"] (yw K)):aH P w K mg base cO 2 fV e7 ["signs","pairs","unit"] (Ri K):=by
 refine dg.fn.ok eT (λvs H Q E h=>?_) (λcdv A outer s H vs Q E hr h=>?_)
 ·obtain⟨x,Pp,u,rows,rfl,_⟩:=h
  rfl
 ·obtain⟨x,Pp,u,rows,rfl,hM,hx,nd,⟨hq1,hq2⟩,ho,k⟩:=h
  refine⟨_,(aj (aD (i:=3) eT.nd rfl (Or.inl rfl) UM)
   (aj (dR PassesOwn.never rfl (UJ rfl rfl T.XE (aa (pv 0) (aa (pv 1) af))) (GF (n:=2) rfl (nM (aM (i:=4) eT.nd rfl (Or.inl rfl)) (nM (aM (i:=5) eT.nd rfl (Or.inl rfl)) yf))) (ao (dR PassesOwn.never rfl (UJ rfl rfl T.XE (aa (pv 0) (aa (pv 5) af))) (GF (n:=2) rfl (nM (aM (i:=6) eT.nd rfl (Or.inl rfl)) (nM (aM (i:=7) eT.nd rfl (Or.inl rfl)) yf))) (ao (Gz (pM hr) (pv 3) (oU (aa (pv 4) (aa (pv 6) af))) (az tE (hr.mono (by decide)) rfl dH.m dH.fn.kp dH.b .nil aQ (aa (pv 7) (aa (pv 2) af))) rfl)))))
   (ao (aS (pv 3))))),?_⟩
  intro d hd
  obtain⟨qs,Bt,hp⟩:=hM
  have hlen:qs.length=x.cps.size:=by rw[Paired.len hp,hq1]
  have hmin:min (gi x).length (qs.map V.ref).length=x.cps.size:=by rw[signs_length,List.length_map,hlen,Nat.min_self]
  refine⟨_,rfl,_,rfl,.txt x,.tup Pp,_,_,rfl,rfl,Dat.tup (Dat.of (ai.upd hd)) Bt,RJ (K:=K) (c:=.txt x) (d:=.tup Pp) (xs:=gi x) (ys:=qs.map V.ref) (λi σ H2=>∃kvs v4 v5 v6 v7,σ=[some (.str x),some (.ref Pp),some (.int u),some (.ref d),v4,v5,v6,v7]/\ai H H2/\H2 d=some (.dT kvs)/\kvs.length<=i*x.cps.size/\mZ kvs x rows u i 0)
   ⟨[],_,_,_,_,rfl,ai.upd hd,ah,Nat.zero_le _,mZ.nil x rows u⟩ (λi σ H2 _ ⟨kvs,v4,v5,v6,v7,_,s2,_⟩=>⟨rfl,Dat.tup (Dat.of s2) Bt⟩) ?_ ?_⟩
  ·rintro i y z p1 σ H2 hy hz hp1 ⟨kvs,v4,v5,v6,v7,rfl,s2,hd2,hk,hc⟩
   obtain⟨a,ha,rfl⟩:=signs_get hy
   obtain⟨q,hq,rfl⟩:=qR hz
   obtain⟨row,er,Vp⟩:=Paired.at hp hq
   have hi:i<x.cps.size:=by rw[←hlen];exact(List.getElem?_eq_some_iff.mp hq).1
   obtain⟨ps,hps,hpp⟩:=Vp
   have hpl:ps.length=x.cps.size:=by rw[Paired.len hpp,hq2 row (List.mem_of_getElem? er)]
   have acF:min (gi x).length (ps.map V.ref).length=x.cps.size:=by rw[signs_length,List.length_map,hpl,Nat.min_self]
   refine⟨p1,_,rfl,iR.of ah,rfl,_,_,rfl,_,_,rfl,rfl,?_⟩
   have LP:d≠p1:=bC hd2 hp1
   refine⟨_,rfl,_,rfl,.txt x,.tup q,_,_,rfl,rfl,Dat.tup (Dat.of (s2.trans (ai.upd hp1))) hps,RJ (K:=K) (c:=.txt x) (d:=.tup q) (xs:=gi x) (ys:=ps.map V.ref)
    (λj σ H3=>∃kvs v6 v7,σ=[some (.str x),some (.ref Pp),some (.int u),some (.ref d),some (.str ⟨#[a]⟩),some (.ref q),v6,v7]/\ai H H3/\H3 d=some (.dT kvs)/\kvs.length<=i*x.cps.size+j/\mZ kvs x rows u i j)
    ⟨kvs,v6,v7,rfl,s2.trans (ai.upd hp1),by rw[aA LP];exact hd2,hk,hc⟩ (λj σ H3 _ ⟨kvs,v6,v7,_,s3,_⟩=>⟨rfl,Dat.tup (Dat.of s3) hps⟩) ?_ ?_⟩
   ·rintro j y z p2 σ H3 hy hz hp2 ⟨kvs,v6,v7,rfl,s3,Wl,hk,hc⟩
    obtain⟨b,hb,rfl⟩:=signs_get hy
    obtain⟨pr,Jo,rfl⟩:=qR hz
    obtain⟨f,ef,hf⟩:=Paired.at hpp Jo
    have hj:j<x.cps.size:=by rw[←hpl];exact(List.getElem?_eq_some_iff.mp Jo).1
    obtain⟨o1,o2,o3⟩:=ho row (List.mem_of_getElem? er) f (List.mem_of_getElem? ef)
    refine⟨p2,_,rfl,iR.of ah,rfl,_,_,rfl,_,_,rfl,rfl,?_⟩
    have s4:=s3.trans (ai.upd (o:=.tup [.str ⟨#[b]⟩,.ref pr]) hp2)
    have JD:upd H3 p2 (.tup [.str ⟨#[b]⟩,.ref pr]) d=some (.dT kvs):=by rw[aA (bC Wl hp2)];exact Wl
    refine⟨_,rfl,_,rfl,pr,f,u,rfl,hf.same s4,o1,o2.bg,o3.bg,?_⟩
    refine⟨_,rfl,_,rfl,_,rfl,by show 2<=sizeLine;decide,λt ht=>?_⟩
    have FF:upd (upd H3 p2 (.tup [.str ⟨#[b]⟩,.ref pr])) t (.tup [.str ⟨#[a]⟩,.str ⟨#[b]⟩]) d=some (.dT kvs):=by rw[aA (bC JD ht)];exact JD
    have hsz:kvs.length<sizeLine:=by
     have:i*x.cps.size<=100*100:=Nat.mul_le_mul (by omega) hx
     have:kvs.length<20000:=by omega
     exact Nat.lt_of_lt_of_le this (by decide)
    refine⟨d,_,rfl,Ia.t (k:=keyOf a b) FF ah hsz,?_⟩
    refine⟨putK kvs (keyOf a b) (.int (f.1*(u / f.2))),_,_,rfl,ai.at (s4.trans (ai.upd ht)) hd,ah,?_,hc.put nd ha hb ⟨row,er,ef⟩⟩
    have:=nN kvs (keyOf a b) (.int (f.1*(u / f.2)))
    omega
   ·rintro σ H3 ⟨kvs,v6,v7,rfl,s3,Wl,hk,hc⟩
    rw[acF]at hk hc
    refine⟨kvs,_,_,_,_,rfl,s3,Wl,?_,hc.row (Nat.le_refl _)⟩
    rw[Nat.succ_mul]
    exact hk
  ·rintro σ H2 ⟨kvs,v4,v5,v6,v7,rfl,s2,hd2,hk,hc⟩
   rw[hmin]at hc
   exact⟨_,rfl,k d H2 kvs s2 hd hd2 (hc.all (Nat.le_refl _))⟩
theorem GN {gD:Addr} {fF:FuncData} {p:Pm} (T:Txt K mg p w) (c8:Dn K mg "pair_cost" nK ["prices","one","other"] gD fF)  :aH P w K mg base cO 1 gD fF ["prices","one","other"] (ug K p.aq):=by
 refine c8.fn.ok Gu (λvs H Q E h=>?_) (λcdv A outer s H vs Q E hr h=>?_)
 ·obtain⟨x,sg,rows,fo,fm,i,j,a,b,f,rfl,_⟩:=h
  rfl
 ·obtain⟨x,sg,rows,fo,fm,i,j,a,b,f,rfl,⟨_,_,_,_,_,_,_,dx,Pp,o,m,d,kvs,h1,h2,h3,h4,h5,h6⟩,ha,hb,hf,k⟩:=h
  refine⟨_,(ao (aS (GH (pM hr) (bG (pv 0) rfl) (oU (aa (pv 1) (aa (pv 2) af))) (λ_ _=>rfl)))),?_⟩
  refine⟨_,rfl,x,_,_,_,_,rfl,h1,T.bQ,T.rW,QA,?_⟩
  refine⟨_,rfl,_,rfl,by show 2<=sizeLine;decide,λt ht=>?_⟩
  have FF:upd H t (.tup [.str ⟨#[a]⟩,.str ⟨#[b]⟩]) d.1=some (.dT kvs):=by rw[aA (bC h5 ht)];exact h5
  have z:=wU.t (k:=keyOf a b) FF ah
  rw[h6.1 i j a b f ha hb hf]at z
  exact⟨d.1,_,rfl,z,k _ (ai.upd ht)⟩
theorem GO {dN:Addr} {cW:FuncData} {p:Pm} (T:Txt K mg p w) (bS:Dn K mg "more_cost" lu ["prices"] dN cW)  :aH P w K mg base cO 2 dN cW ["prices"] (Gk K p.aq):=by
 refine bS.fn.ok Gv (λvs H Q E h=>?_) (λcdv A outer s H vs Q E hr h=>?_)
 ·obtain⟨x,sg,rows,fo,fm,rfl,_⟩:=h
  rfl
 ·obtain⟨x,sg,rows,fo,fm,rfl,⟨_,_,_,_,_,_,_,dx,Pp,o,m,d,kvs,h1,h2,h3,h4,h5,h6⟩,k⟩:=h
  refine⟨_,(ao (aS (bG (pv 0) rfl))),?_⟩
  exact⟨_,rfl,x,_,_,_,_,rfl,h1,T.bQ,T.nW,xX,k⟩
end
section
variable{P:Program}{w:World}{K:PySem.W.Frag}{mg:Str->Option Value}{base:Heap}
theorem ux {bF jc cL gx dD j9 ig jT fV jZ:Addr} {fY ia cD fQ cX i0 gp iT e7 iJ:FuncData} {p:Pm} (T:Txt K mg p w) (ff:Dm K "__init__" "Prices.__init__" cR ["self","signs","pairs","opening","more"] bF fY) (fO:Dn K mg "check_signs" ny ["signs"] jc ia) (AI:aH P w K mg base cO 3 jc ia ["signs"] uX) (bM:Da K mg "check_lengths_prices" "check_lengths" fC ["signs","pairs"] cL cD) (qY:aH P w K mg base cO 1 cL cD ["signs","pairs"] (rJ K)) (dO:Dn K mg "lowest_prices" kF ["row"] gx fQ) (x9:aH P w K mg base cO 4 gx fQ ["row"] (wZ K)) (bB:Dn K mg "lowest_price" ju ["price"] dD cX) (mz:aH P w K mg base cO 3 dD cX ["price"] (um K)) (gO:Dn K mg "all_unders" ow ["pairs","opening","more"] j9 i0) (HY:aH P w K mg base cO 1 j9 i0 ["pairs","opening","more"] (NH K)) (eG:Dn K mg "unit_factors" lS ["unders"] ig gp) (zP:aH P w K mg base cO 2 ig gp ["unders"] (AY K)) (gG:Dn K mg "product_of" n8 ["factors"] jT iT) (HR:aH P w K mg base cO 1 jT iT ["factors"] (Uo K)) (dg:Dn K mg "costs_by_signs" jE ["signs","pairs","unit"] fV e7) (wR:aH P w K mg base cO 2 fV e7 ["signs","pairs","unit"] (Ri K)) (dH:Dn K mg "by_unit" qh ["price","unit"] jZ iJ) (tE:aH P w K mg base cO 1 jZ iJ ["price","unit"] (yw K)):aH P w K mg base cO 5 bF fY ["self","signs","pairs","opening","more"] (Up K p.aq):=by
 refine ff.fn.ok uq (λvs H Q E h=>?_) (λcdv A outer s H vs Q E hr h=>?_)
 ·obtain⟨x,dx,o,m,sg,c,rows,fo,fm,rfl,_⟩:=h
  rfl
 ·obtain⟨x,dx,o,m,sg,c,rows,fo,fm,rfl,hx,hS,h12,hM,Dc,hok,hfo,WT,hfm,WU,k⟩:=h
  have S:=hS
  obtain⟨q1,q2,q3,q4⟩:=S
  refine⟨_,(aj (fE (az AI (hr.mono (by decide)) rfl fO.m fO.fn.kp fO.b .nil aQ (aa (pv 1) af)))
   (aj (fE (az qY (hr.mono (by decide)) rfl bM.m bM.fn.kp bM.b .nil aQ (aa (pv 1) (aa (pv 2) af))))
   (aj (jg (pv 0) (pv 1) rfl)
   (aj (jg (pv 0) (oK (nG) rfl T.uQ sC (aa (dw (N:=["row"]) rfl (λ_=>⟨[],bI.plain (by decide +kernel) rfl (by decide +kernel) (by decide +kernel)⟩) (xm (pv 2)) (λ_ _ _ _ _ _ _=>(aM (i:=0) (show(["row"]:List Str).Nodup by decide +kernel) rfl (Or.inl rfl))) (λ_ _ _ _ _ _ _=>(az x9 (hr.mono (by decide)) rfl dO.m dO.fn.kp dO.b .nil aQ (aa (pv 0) af)))) af)) rfl)
   (aj (jg (pv 0) (az mz (hr.mono (by decide)) rfl bB.m bB.fn.kp bB.b .nil aQ (aa (pv 3) af)) rfl)
   (aj (jg (pv 0) (az mz (hr.mono (by decide)) rfl bB.m bB.fn.kp bB.b .nil aQ (aa (pv 4) af)) rfl)
   (aj (jg (pv 0) (az zP (hr.mono (by decide)) rfl eG.m eG.fn.kp eG.b .nil aQ (aa (az HY (hr.mono (by decide)) rfl gO.m gO.fn.kp gO.b .nil aQ (aa (bG (pv 0) rfl) (aa (bG (pv 0) rfl) (aa (bG (pv 0) rfl) af)))) af)) rfl)
   (aj (jg (pv 0) (az HR (hr.mono (by decide)) rfl gG.m gG.fn.kp gG.b .nil aQ (aa (bG (pv 0) rfl) af)) rfl)
   (aj (jg (pv 0) (az wR (hr.mono (by decide)) rfl dg.m dg.fn.kp dg.b .nil aQ (aa (bG (pv 0) rfl) (aa (bG (pv 0) rfl) (aa (bG (pv 0) rfl) af)))) rfl)
   (aj (jg (pv 0) (az tE (hr.mono (by decide)) rfl dH.m dH.fn.kp dH.b .nil aQ (aa (bG (pv 0) rfl) (aa (bG (pv 0) rfl) af))) rfl)
   (ao (jg (pv 0) (az tE (hr.mono (by decide)) rfl dH.m dH.fn.kp dH.b .nil aQ (aa (bG (pv 0) rfl) (aa (bG (pv 0) rfl) af))) rfl)))))))))))),?_⟩
  refine⟨_,rfl,sg,rfl,hS,λH1 s1=>?_⟩
  refine⟨_,rfl,_,rfl,sg,c,rows,rfl,hM.dat (Dat.of s1),by omega,Dc,?_⟩
  have L8:H1 x=some (.ins p.aq dx []):=s1 _ _ hx
  refine⟨_,rfl,_,rfl,x,_,dx,_,rfl,L8,T.bQ,T.l6,by decide,?_⟩
  generalize JO:upd H1 x (.ins p.aq dx (aL "signs" (.str sg) []))=H2
  have L7:H2 x=some (.ins p.aq dx (aL "signs" (.str sg) [])):=by rw[←JO];exact ah
  have f2:Off x H H2:=by rw[←JO];exact(Off.of s1).trans Off.set
  obtain⟨nc,cs,Ja,hcs,hp⟩:=hM.dat (f2.dat hx)
  refine⟨_,rfl,c,_,rfl,hcs,λl S0=>?_⟩
  refine⟨λi n ys H3=>n=rows.length-i/\i<=rows.length/\ai H2 H3/\H3 l=some (.lst ys)/\∃qs:List Addr,ys=qs.map V.ref/\qs.length=i/\Paired (λq r=>nP K H3 (.tup q) r) qs ((Al rows).take i),⟨rows.length,rfl,Nat.zero_le _,ai.upd S0,ah,[],rfl,rfl,.nil⟩,?_⟩
  rintro i n ys H3 ⟨rfl,hi,s3,hl3,qs,rfl,hq,hP⟩
  have zc:c.at K H3 (cs.map Cp.val):=ai.cp s3 hcs
  have hcl:=Paired.len hp
  by_cases hlt:i<rows.length
  ·have JE:i<cs.length:=by omega
   have e1:(cs.map Cp.val)[i]? =some cs[i].val:=by rw[List.getElem?_map,List.getElem?_eq_getElem JE];rfl
   refine .inr ⟨⟨_,_,zc,e1⟩,?_⟩
   rintro y H4 ⟨rfl,hy⟩
   have ey:=hy _ zc
   rw[e1]at ey
   cases ey
   obtain⟨r,er,hr2⟩:=Paired.at hp (List.getElem?_eq_getElem JE)
   have hrm:=List.mem_of_getElem? er
   refine⟨Kp.rep _ _,?_⟩
   refine⟨_,rfl,cs[i],r,rfl,hr2.same s3,λf hf=>(hok r hrm f hf).1,by rw[Dc.2 r hrm];omega,λq H5 s5 hqn hR=>?_⟩
   have Qw:H5 l=some (.lst (qs.map V.ref)):=s5 _ _ hl3
   refine⟨Qw,?_,rows.length-(i+1),by omega,rfl,hlt,ai.at (s3.trans s5) S0,ah,qs++[q],by rw[List.map_append];rfl,by rw[List.length_append,hq];rfl,?_⟩
   ·rw[List.length_map,hq]
    have:i<100:=by rw[Dc.1]at hlt;omega
    exact Nat.lt_of_lt_of_le this (by decide)
   ·rw[show(Al rows).take (i+1)=(Al rows).take i++[r.map nF] from tV er]
    refine GP.Paired.snoc (Paired.qm hP λa b z=>?_) ?_
    ·exact(z.same s5).off Qw
    ·exact hR.off Qw
  ·have ei:i=rows.length:=by omega
   subst ei
   refine .inl ⟨⟨_,zc,by rw[List.length_map];omega⟩,?_⟩
   refine⟨l,_,rfl,.inl ⟨bf.of hl3,λPp JG=>?_⟩⟩
   generalize JN:upd H3 Pp (.tup (qs.map V.ref))=H4
   have s4:ai H2 H4:=by rw[←JN];exact s3.trans (ai.upd JG)
   have m4:HC K H4 Pp (Al rows):=by
    rw[←JN]
    refine⟨qs,iR.of ah,?_⟩
    rw[List.take_of_length_le (by unfold Al;rw[List.length_map];exact Nat.le_refl _)]at hP
    exact Paired.qm hP λa b z=>z.same (ai.upd JG)
   have Jg:=s4 _ _ L7
   refine⟨_,rfl,x,_,dx,_,rfl,Jg,T.bQ,T.oX,IS,?_⟩
   generalize FL:upd H4 x (.ins p.aq dx (aL "pairs" (.ref Pp) (aL "signs" (.str sg) [])))=H5
   have L6:H5 x=some (.ins p.aq dx (aL "pairs" (.ref Pp) (aL "signs" (.str sg) []))):=by rw[←FL];exact ah
   have f5:Off x H H5:=by rw[←FL];exact(f2.trans (Off.of s4)).trans Off.set
   have d5:Dat H4 H5:=by rw[←FL];exact Dat.set Jg
   refine⟨_,rfl,o,fo,rfl,hfo.dat (f5.dat hx),WT.1,λo' ho'=>?_⟩
   generalize Co:upd H5 o' (.tup [.int (nF fo).1,.int (nF fo).2])=H6
   have s6:ai H5 H6:=by rw[←Co];exact ai.upd ho'
   have ho6:mD K H6 o' (nF fo):=by rw[←Co];exact iR.of ah
   have C9:=s6 _ _ L6
   refine⟨_,rfl,x,_,dx,_,rfl,C9,T.bQ,T.mK,LD,?_⟩
   generalize FJ:upd H6 x (.ins p.aq dx (aL "opening" (.ref o') (aL "pairs" (.ref Pp) (aL "signs" (.str sg) []))))=H7
   have L5:H7 x=some (.ins p.aq dx (aL "opening" (.ref o') (aL "pairs" (.ref Pp) (aL "signs" (.str sg) [])))):=by rw[←FJ];exact ah
   have f7:Off x H H7:=by rw[←FJ];exact(f5.trans (Off.of s6)).trans Off.set
   have d7:Dat H6 H7:=by rw[←FJ];exact Dat.set C9
   refine⟨_,rfl,m,fm,rfl,hfm.dat (f7.dat hx),WU.1,λm' hm'=>?_⟩
   generalize JM:upd H7 m' (.tup [.int (nF fm).1,.int (nF fm).2])=H8
   have s8:ai H7 H8:=by rw[←JM];exact ai.upd hm'
   have Mn:mD K H8 m' (nF fm):=by rw[←JM];exact iR.of ah
   have Jf:=s8 _ _ L5
   refine⟨_,rfl,x,_,dx,_,rfl,Jf,T.bQ,T.pZ,LC,?_⟩
   generalize FH:upd H8 x (.ins p.aq dx (aL "more" (.ref m') (aL "opening" (.ref o') (aL "pairs" (.ref Pp) (aL "signs" (.str sg) [])))))=H9
   have Ca:H9 x=some (.ins p.aq dx (aL "more" (.ref m') (aL "opening" (.ref o') (aL "pairs" (.ref Pp) (aL "signs" (.str sg) []))))):=by rw[←FH];exact ah
   have f9:Off x H H9:=by rw[←FH];exact(f7.trans (Off.of s8)).trans Off.set
   have d9:Dat H8 H9:=by rw[←FH];exact Dat.set Jf
   have JU:Dat H6 H9:=d7.trans ((Dat.of s8).trans d9)
   have Ng:Dat H4 H9:=d5.trans ((Dat.of s6).trans JU)
   have M9:HC K H9 Pp (Al rows):=m4.dat Ng
   have O9:mD K H9 o' (nF fo):=ho6.dat JU
   have m9:mD K H9 m' (nF fm):=Mn.dat d9
   have B0:∀r∈Al rows,∀f∈r,Pb f:=G2 λr hr f hf=>r9 (hok r hr f hf).1
   have ZT:=W2 Dc
   refine⟨_,rfl,x,_,_,_,_,rfl,Ca,T.bQ,T.oX,U8,_,rfl,x,_,_,_,_,rfl,Ca,T.bQ,T.mK,Ql,_,rfl,x,_,_,_,_,rfl,Ca,T.bQ,T.pZ,W0,?_⟩
   refine⟨Pp,o',m',Al rows,nF fo,nF fm,rfl,M9.LQ,O9,m9,by rw[ZT.1];exact h12,λr hr=>by rw[ZT.2 r hr];exact h12,λl1 Ha sa hl1 hla=>?_⟩
   have IU:∀n∈nH (nF fo) (nF fm) (Al rows),p8 n:=λn hn=>by
    have z:∀{f:bY},Pb f->p8 f.2:=λq=>⟨by have:=q.1;omega,q.2⟩
    rcases List.mem_cons.mp hn with e|hn
    ·rw[e];exact z (r9 WT.1)
    rcases List.mem_cons.mp hn with e|hn
    ·rw[e];exact z (r9 WU.1)
    obtain⟨f,hf,rfl⟩:=List.mem_map.mp hn
    obtain⟨r,hr,hfr⟩:=List.mem_flatten.mp hf
    exact z (B0 r hr f hfr)
   have agD:(nH (nF fo) (nF fm) (Al rows)).length<=1000:=by
    unfold nH
    rw[List.length_cons,List.length_cons,List.length_map,zu ZT.2,ZT.1]
    have:sg.cps.size*sg.cps.size<=12*12:=Nat.mul_le_mul h12 h12
    omega
   refine⟨l1,_,rfl,bf.of hla,agD,IU,λfl Hb sb hfl hlb=>?_⟩
   have FI:=Xl IU
   have eU:xh (qw (nH (nF fo) (nF fm) (Al rows))).1=aY (nF fo).2 (nF fm).2 (Al rows):=by rw[FI.prod,FI.unit,M1]
   have hsm:=FI.small
   generalize (qw (nH (nF fo) (nF fm) (Al rows))).1=Du at hlb eU hsm
   clear FI
   have hxb:=sb _ _ (sa _ _ Ca)
   refine⟨_,rfl,x,_,dx,_,rfl,hxb,T.bQ,T.qk,LA,?_⟩
   generalize Dr:upd Hb x (.ins p.aq dx (aL "factors" (.ref fl) (aL "more" (.ref m') (aL "opening" (.ref o') (aL "pairs" (.ref Pp) (aL "signs" (.str sg) []))))))=Hc
   have hxc:Hc x=some (.ins p.aq dx (aL "factors" (.ref fl) (aL "more" (.ref m') (aL "opening" (.ref o') (aL "pairs" (.ref Pp) (aL "signs" (.str sg) [])))))):=by rw[←Dr];exact ah
   have fc:Off x H Hc:=by rw[←Dr];exact((f9.trans (Off.of sa)).trans (Off.of sb)).trans Off.set
   have dc:Dat H9 Hc:=by rw[←Dr];exact((Dat.of sa).trans (Dat.of sb)).trans (Dat.set hxb)
   have KA:Hc fl=some (.lst (Du.map V.int)):=by rw[←Dr];exact Dat.set hxb fl _ (λ_ _ _ z=>by cases z) hlb
   refine⟨_,rfl,x,_,_,_,_,rfl,hxc,T.bQ,T.qk,Qm,fl,Du,rfl,bf.of KA,hsm,?_⟩
   have up:=T3 (r9 WT.1) (r9 WU.1) B0
   have ub:=T4 h12 ZT (r9 WT.1) (r9 WU.1) B0
   have BK:∀{f:bY},Cs f->Ct (aY (nF fo).2 (nF fm).2 (Al rows)) (nF f):=λz=>⟨r9 z.1,W3 z.2,Bu.div ub _⟩
   rw[eU]
   generalize hu:aY (nF fo).2 (nF fm).2 (Al rows)=u at *
   refine⟨_,rfl,x,_,dx,_,rfl,hxc,T.bQ,T.nE,Lz,?_⟩
   generalize Ge:upd Hc x (.ins p.aq dx (aL "unit" (.int u) (aL "factors" (.ref fl) (aL "more" (.ref m') (aL "opening" (.ref o') (aL "pairs" (.ref Pp) (aL "signs" (.str sg) [])))))))=Pd
   have Xe:Pd x=some (.ins p.aq dx (aL "unit" (.int u) (aL "factors" (.ref fl) (aL "more" (.ref m') (aL "opening" (.ref o') (aL "pairs" (.ref Pp) (aL "signs" (.str sg) []))))))):=by rw[←Ge];exact ah
   have Nf:Off x H Pd:=by rw[←Ge];exact fc.trans Off.set
   have KQ:Dat Hc Pd:=by rw[←Ge];exact Dat.set hxc
   have BR:Dat H9 Pd:=dc.trans KQ
   have acR:Pd fl=some (.lst (Du.map V.int)):=KQ fl _ (λ_ _ _ z=>by cases z) KA
   refine⟨_,rfl,x,_,_,_,_,rfl,Xe,T.bQ,T.l6,U7,_,rfl,x,_,_,_,_,rfl,Xe,T.bQ,T.oX,SD,_,rfl,x,_,_,_,_,rfl,Xe,T.bQ,T.nE,WZ,?_⟩
   refine⟨sg,Pp,u,Al rows,rfl,M9.dat BR,q2,q4,ZT,G2 λr hr f hf=>BK (hok r hr f hf),λd HQ kvs BY hdn Sa hc=>?_⟩
   have F6:=BY _ _ Xe
   refine⟨_,rfl,x,_,dx,_,rfl,F6,T.bQ,T.rW,Ly,?_⟩
   generalize Xg:upd HQ x (.ins p.aq dx (aL "costs" (.ref d) (aL "unit" (.int u) (aL "factors" (.ref fl) (aL "more" (.ref m') (aL "opening" (.ref o') (aL "pairs" (.ref Pp) (aL "signs" (.str sg) []))))))))=Br
   have Xd:Br x=some (.ins p.aq dx (kC sg Pp o' m' u (d,fl))):=by rw[←Xg];exact ah
   have FW:Dat Pd Br:=by rw[←Xg];exact(Dat.of BY).trans (Dat.set F6)
   have Nd:Off x H Br:=by rw[←Xg];exact(Nf.trans (Off.of BY)).trans Off.set
   have aho:Br d=some (.dT kvs):=by rw[←Xg];exact Dat.set F6 d _ (λ_ _ _ z=>by cases z) Sa
   obtain⟨w1,w2,w3⟩:=BK WT
   obtain⟨y1,y2,y3⟩:=BK WU
   refine⟨_,rfl,x,_,_,_,_,rfl,Xd,T.bQ,T.mK,An,_,rfl,x,_,_,_,_,rfl,Xd,T.bQ,T.nE,zq,o',nF fo,u,rfl,(O9.dat BR).dat FW,w1,w2.bg,w3.bg,?_⟩
   refine⟨_,rfl,x,_,dx,_,rfl,Xd,T.bQ,T.qP,Lx,?_⟩
   generalize Gf:upd Br x (.ins p.aq dx (aL "opening_units" (.int ((nF fo).1*(u / (nF fo).2))) (kC sg Pp o' m' u (d,fl))))=Pc
   have Vk:Pc x=some (.ins p.aq dx (aL "opening_units" (.int ((nF fo).1*(u / (nF fo).2))) (kC sg Pp o' m' u (d,fl)))):=by rw[←Gf];exact ah
   have FU:Dat Br Pc:=by rw[←Gf];exact Dat.set Xd
   have Nc:Off x H Pc:=by rw[←Gf];exact Nd.trans Off.set
   refine⟨_,rfl,x,_,_,_,_,rfl,Vk,T.bQ,T.pZ,(tZ (by decide +kernel)).trans QB,_,rfl,x,_,_,_,_,rfl,Vk,T.bQ,T.nE,(tZ (by decide +kernel)).trans zq,m',nF fm,u,rfl,((m9.dat BR).dat FW).dat FU,y1,y2.bg,y3.bg,?_⟩
   refine⟨_,rfl,x,_,dx,_,rfl,Vk,T.bQ,T.nW,Lw,?_⟩
   have Dz:Dat Pd (upd Pc x (.ins p.aq dx (Aq sg Pp o' m' u (d,fl) ((nF fo).1*(u / (nF fo).2)) ((nF fm).1*(u / (nF fm).2))))):=FW.trans (FU.trans (Dat.set Vk))
   have Nb:Off x H (upd Pc x (.ins p.aq dx (Aq sg Pp o' m' u (d,fl) ((nF fo).1*(u / (nF fo).2)) ((nF fm).1*(u / (nF fm).2))))):=Nc.trans Off.set
   refine k _ ⟨hS,ZT,?_,?_,?_,?_,?_,dx,Pp,o',m',(d,fl),kvs,?_,(M9.dat BR).dat Dz,(O9.dat BR).dat Dz,(m9.dat BR).dat Dz,?_,?_,Du,hsm,?_,?_⟩ Nb (λc0 hc0 C' TF fs' hx' hl'=>?_)
   ·rw[hu];exact G2 λr hr f hf=>BK (hok r hr f hf)
   ·rw[hu];exact BK WT
   ·rw[hu];exact BK WU
   ·rw[hu];exact up
   ·rw[hu];exact ub
   ·rw[hu];exact ah
   ·exact(FU.trans (Dat.set Vk)) d _ (λ_ _ _ z=>by cases z) aho
   ·rw[hu];exact hc
   ·rw[hu];exact eU
   ·exact Dz fl _ (λ_ _ _ z=>by cases z) acR
   ·rw[ah]at hx'
    cases hx'
    have e:fl=c0:=V.ref.inj (Option.some.inj ((qT (x:=sg) (P:=Pp) (o:=o') (m:=m') (u:=u) (d:=(d,fl))).symm.trans hl'))
    subst e
    cases q:H fl with
    |none=>exact hc0 q
    |some u0 =>
     by_cases ex:fl=x
     ·rw[ex,sa _ _ Ca]at hfl
      cases hfl
     ·rw[(f9.trans (Off.of sa)) fl u0 q ex]at hfl
      cases hfl
end
section
variable{P:Program}{w:World}{K:PySem.W.Frag}{mg:Str->Option Value}{base:Heap}
theorem Og {bO:Addr} {bD:FuncData} {p:Pm} (T:Txt K mg p w) (aP:Dn K mg "_law_next" iH ["_law_script","_law_at"] bO bD)  :aH P w K mg base cO 1 bO bD ["_law_script","_law_at"] (uh K):=by
 refine aP.fn.ok o9 (λvs H Q E h=>?_) (λcdv A outer s H vs Q E hr h=>?_)
 ·obtain⟨s,t,ns,k,rfl,_⟩:=h
  rfl
 ·obtain⟨s,t,ns,k,rfl,hC,hk2,kk⟩:=h
  have hS:=hC.IJ
  have qb:=hC.K3
  have ht:=hC.at_
  have hk:=hC.k0
  refine⟨_,(aj (GA (aB cY (aV bh (pv 1) ak (λ_ _=>rfl)) ak) (GG (pv 1) ak set_list))
   (aj (aD (i:=2) o9.nd rfl (Or.inl rfl) ak)
   (aj (cK (aU xr (aC (aK) rfl T.bJ aW (aa (pv 0) af)) ak (bq _)) (ao (aD (i:=2) o9.nd rfl (Or.inl rfl) (aV bh (pv 0) (aB cG (aV bh (pv 1) ak (λ_ _=>rfl)) (aC (aK) rfl T.bJ aW (aa (pv 0) af))) (λ_ _=>rfl)))) bx)
   (aj (aD (i:=3) o9.nd rfl (Or.inl rfl) (aB cG (aB oW (aB cY (aB cY (aB cG (pv 2) ak) (aB oW (aB oW (aV bh (pv 1) ak (λ_ _=>rfl)) (aV bh (pv 1) ak (λ_ _=>rfl))) ak)) ak) ak) ak))
   (ao (aS (aB cG (aB oW (pv 3) (pv 3)) ak))))))),?_⟩
  refine⟨_,rfl,t,_,_,_,rfl,rfl,bf.of ht,rfl,_,_,rfl,rfl,_,rfl,t,_,_,0,rfl,rfl,ht,rfl,?_⟩
  have hq:bf K (upd H t (.lst [.int (k+1)])) s (ns.map V.int):=qb _
  refine⟨_,rfl,_,_,rfl,.inl ⟨_,hq,rfl⟩,_,_,rfl,rfl,_,rfl,?_⟩
  have fin:∀c:Int,∀m1:Int,m1=(c % 2147483647+(k+1)*(k+1)*7919+11)*48271 % 2147483647->Q (.int (m1*m1 % 1999999973)) (upd H t (.lst [.int (k+1)])):=λc m1 _ =>
   kk _ (Int.emod_nonneg _ (by decide)) (Int.emod_lt_of_pos _ (by decide))
  have rest:∀c:Int,Q (.int (((c % 2147483647+(k+1)*(k+1)*7919+11)*48271 % 2147483647)*((c % 2147483647+(k+1)*(k+1)*7919+11)*48271 % 2147483647) % 1999999973)) (upd H t (.lst [.int (k+1)])):=λc=>fin c _ rfl
  have By:bf K (upd H t (.lst [.int (k+1)])) t [.int (k+1)]:=bf.of ah
  refine eY (λh0=>?_) (λh0=>?_)
  ·have hn:0<ns.length:=by rw[List.length_map]at h0;omega
   have i1:=Int.emod_nonneg (k+1) (show((ns.length:Nat):Int)≠0 by omega)
   have i2:=Int.emod_lt_of_pos (k+1) (show(0:Int)<((ns.length:Nat):Int) by omega)
   obtain⟨j,hj⟩:∃j:Nat,(k+1) % ((ns.length:Nat):Int)=(j:Int):=⟨_,(Int.toNat_of_nonneg i1).symm⟩
   have hjl:j<ns.length:=by omega
   refine⟨_,rfl,_,rfl,t,_,_,_,rfl,rfl,By,rfl,_,rfl,_,_,rfl,.inl ⟨_,hq,rfl⟩,_,_,rfl,rfl,(by show(0:Int)<(((ns.map V.int).length:Nat):Int);rw[List.length_map];omega),?_⟩
   refine⟨s,_,_,.int ns[j],rfl,rfl,hq,?_,?_⟩
   ·rw[List.length_map,hj]
    exact aT (by rw[List.getElem?_map,List.getElem?_eq_getElem hjl];rfl)
   ·refine⟨_,rfl,_,_,rfl,rfl,(by show(0:Int)<_;decide),?_⟩
    refine⟨_,rfl,t,_,_,_,rfl,rfl,By,rfl,_,rfl,t,_,_,_,rfl,rfl,By,rfl,_,_,rfl,rfl,.inl ⟨by omega,by omega⟩,_,_,rfl,rfl,.inr ⟨by decide,by decide⟩,_,_,rfl,rfl,_,_,rfl,rfl,_,_,rfl,rfl,.inr ⟨by decide,by decide⟩,_,_,rfl,rfl,(by show(0:Int)<_;decide),?_⟩
    have m0:=Int.emod_nonneg ((ns[j] % 2147483647+(k+1)*(k+1)*7919+11)*48271) (show(2147483647:Int)≠0 by decide)
    have m1:=Int.emod_lt_of_pos ((ns[j] % 2147483647+(k+1)*(k+1)*7919+11)*48271) (show(0:Int)<2147483647 by decide)
    exact⟨_,rfl,_,rfl,_,_,rfl,rfl,.inl ⟨by omega,by omega⟩,_,_,rfl,rfl,(by show(0:Int)<_;decide),rest _⟩
  ·refine⟨_,rfl,_,_,rfl,rfl,(by show(0:Int)<_;decide),?_⟩
   refine⟨_,rfl,t,_,_,_,rfl,rfl,By,rfl,_,rfl,t,_,_,_,rfl,rfl,By,rfl,_,_,rfl,rfl,.inl ⟨by omega,by omega⟩,_,_,rfl,rfl,.inr ⟨by decide,by decide⟩,_,_,rfl,rfl,_,_,rfl,rfl,_,_,rfl,rfl,.inr ⟨by decide,by decide⟩,_,_,rfl,rfl,(by show(0:Int)<_;decide),?_⟩
   have m0:=Int.emod_nonneg (((0:Int) % 2147483647+(k+1)*(k+1)*7919+11)*48271) (show(2147483647:Int)≠0 by decide)
   have m1:=Int.emod_lt_of_pos (((0:Int) % 2147483647+(k+1)*(k+1)*7919+11)*48271) (show(0:Int)<2147483647 by decide)
   exact⟨_,rfl,_,rfl,_,_,rfl,rfl,.inl ⟨by omega,by omega⟩,_,_,rfl,rfl,(by show(0:Int)<_;decide),rest _⟩
end
section
variable{P:Program}{w:World}{K:PySem.W.Frag}{mg:Str->Option Value}{base:Heap}
end
noncomputable def HN(K:PySem.W.Frag)(H:Hp)(t l:Addr)(n:Nat)(k:Int)(H2:Hp):Prop:=∃rs rows,vI K (Wo t H2) l rs rows/\XC n rows/\(∀r∈rows,∀f∈r,BS f)/\(∀r∈rs,H r=none)/\ai (Wo t H) (Wo t H2)/\H2 t=some (.lst [.int k])
section
variable{P:Program}{w:World}{K:PySem.W.Frag}{mg:Str->Option Value}{base:Heap}
end
section
variable{P:Program}{w:World}{K:PySem.W.Frag}{mg:Str->Option Value}{base:Heap}
end
section
variable{P:Program}{w:World}{K:PySem.W.Frag}{mg:Str->Option Value}{base:Heap}
theorem GL {lD:Addr} {jK:FuncData} {p:Pm} (T:Txt K mg p w) (iB:Dn K mg "things_at" pq ["texts","place"] lD jK)  :aH P w K mg base cO 1 lD jK ["texts","place"] (yt K):=by
 refine iB.fn.ok Gs (λvs H Q E h=>?_) (λcdv A outer s H vs Q E hr h=>?_)
 ·obtain⟨v,rs,n,rfl,_⟩:=h
  rfl
 ·obtain⟨v,rs,n,rfl,hR,hS,hn,k⟩:=h
  obtain⟨c,rfl,hc⟩:=hR.cp
  have hz:rs.length<sizeLine:=Nat.lt_of_le_of_lt hS.len (by decide)
  refine⟨_,(ao (aS (rR PySem.F.plainAttrs_str PySem.F.slot_str_join PySem.F.type_str_join RB bH (aa (dw (N:=["text","place"]) rfl (bI.jx (nt:=1) (ix:=[1]) rfl (by decide +kernel) (by decide +kernel) (by kernel_rfl) rfl (by kernel_rfl)) (xm (pv 0)) (λ_ _ _ _ _ _ _=>(aM (i:=0) (show(["text","place"]:List Str).Nodup by decide +kernel) rfl (Or.inl rfl))) (λ_ _ _ _ _ _ _=>(aV l9 (pv 0) (pv 1) (λ_ _=>rfl)))) af)))),?_⟩
  refine⟨rfl,_,rfl,c,_,rfl,hc _ (ai.refl _),λl hl=>?_⟩
  refine gb rs.length (λi=>sg ((rs.getD i ⟨#[]⟩).cps.toList.getD n 0)) hl hz (λi H2 s2 hi=>?_) (λH2 s2=>?_) (λi x H2 H3 R s2 hi y hR=>?_) λH2 s2 hl2=>?_
  ·exact⟨_,_,hc _ s2,by rw[List.getElem?_map,List.getElem?_eq_getElem hi];rfl⟩
  ·exact⟨_,hc _ s2,by rw[List.length_map];exact Nat.le_refl _⟩
  ·obtain⟨rfl,y⟩:=y
   have e:=y _ (hc _ s2)
   rw[List.getElem?_map,List.getElem?_eq_getElem hi]at e
   cases e
   have hm:=List.getElem_mem hi
   have hn':n<rs[i].cps.toList.length:=by rw[Array.length_toList];exact hn _ hm
   refine⟨Kp.mG,?_⟩
   refine⟨_,rfl,_,rfl,_,_,rs[i].cps.toList[n],rfl,rfl,Nat.le_trans (hS.row _ hm) (by decide),aT (List.getElem?_eq_getElem hn'),?_⟩
   have e2:rs[i].cps.toList[n]=(rs.getD i ⟨#[]⟩).cps.toList.getD n 0:=by
    have e3:rs.getD i ⟨#[]⟩=rs[i]:=by rw[List.getD_eq_getElem?_getD,List.getElem?_eq_getElem hi,Option.getD_some]
    rw[e3,List.getD_eq_getElem?_getD,List.getElem?_eq_getElem hn',Option.getD_some]
   rw[e2]
   exact hR _ (ai.refl _)
  ·refine⟨l,f6 rs n,rfl,rfl,?_,?_,k H2 s2⟩
   ·have e:(List.range rs.length).map (λi=>sg ((rs.getD i ⟨#[]⟩).cps.toList.getD n 0))=(f6 rs n).map sg:=by
     unfold f6
     rw[List.map_map]
     refine List.ext_getElem (by simp) λi h1 h2=>?_
     have hi:i<rs.length:=by simpa using h1
     simp[List.getD_eq_getElem?_getD,List.getElem?_eq_getElem hi]
    rw[e]at hl2
    exact bf.of hl2
   ·unfold f6
    rw[List.length_map]
    exact Nat.le_trans hS.len (by decide)
theorem Sq {mq lD:Addr} {jJ jK:FuncData} {p:Pm} (T:Txt K mg p w) (iA:Dn K mg "turned" rL ["texts","many"] mq jJ) (iB:Dn K mg "things_at" pq ["texts","place"] lD jK) (Pe:aH P w K mg base cO 1 lD jK ["texts","place"] (yt K)):aH P w K mg base cO 2 mq jJ ["texts","many"] (yr K):=by
 refine iA.fn.ok Se (λvs H Q E h=>?_) (λcdv A outer s H vs Q E hr h=>?_)
 ·obtain⟨v,rs,n,rfl,_⟩:=h
  rfl
 ·obtain⟨v,rs,n,rfl,hR,hS,hn,hw,k⟩:=h
  refine⟨_,(ao (aS (dw (N:=["place","texts"]) rfl (bI.jx (nt:=1) (ix:=[0]) rfl (by decide +kernel) (by decide +kernel) (by kernel_rfl) rfl (by kernel_rfl)) (eV rfl T.gT (aa (pv 1) af)) (λ_ _ _ _ _ _ _=>(aM (i:=0) (show(["place","texts"]:List Str).Nodup by decide +kernel) rfl (Or.inl rfl))) (λ_ _ _ _ _ _ _=>(az Pe (hr.mono (by decide)) rfl iB.m iB.fn.kp iB.b .nil aQ (aa (pv 1) (aa (pv 0) af))))))),?_⟩
  refine⟨_,rfl,n,rfl,by omega,by omega,λl hl=>?_⟩
  refine gb n (λi=>V.str (eE rs i)) hl (Nat.lt_of_le_of_lt hn (by decide)) (λi H2 s2 hi=>?_) (λH2 s2=>?_) (λi x H2 H3 R s2 hi y MF=>?_) λH2 s2 hl2=>?_
  ·show i<((n:Nat):Int).toNat
   omega
  ·show((n:Nat):Int).toNat<=n
   omega
  ·obtain⟨rfl,rfl⟩:=y
   refine⟨Kp.mG,?_⟩
   refine⟨_,rfl,_,rfl,v,rs,i,?_,hR.same s2,hS,λr hr=>Nat.lt_of_lt_of_le hi (hw r hr),λH5 s5=>MF H5 s5⟩
   rw[Int.zero_add];rfl
  ·refine k l H2 s2 hl ?_
   rw[hl2]
   unfold cols
   rw[List.map_map]
   rfl
theorem Ag {fH mq:Addr} {d8 jJ:FuncData} {p:Pm} (T:Txt K mg p w) (bV:Dn K mg "columns_of" lX ["rows"] fH d8) (iA:Dn K mg "turned" rL ["texts","many"] mq jJ) (zQ:aH P w K mg base cO 2 mq jJ ["texts","many"] (yr K)):aH P w K mg base cO 3 fH d8 ["rows"] (vS K):=by
 refine bV.fn.ok z7 (λvs H Q E h=>?_) (λcdv A outer s H vs Q E hr h=>?_)
 ·obtain⟨v,rs,rfl,_⟩:=h
  rfl
 ·obtain⟨v,rs,rfl,hR,hS,hl,k⟩:=h
  obtain⟨hne,hw⟩:=cP.mp hl
  refine⟨_,(ao (aS (az zQ (hr.mono (by decide)) rfl iA.m iA.fn.kp iA.b .nil aQ (aa (pv 0) (aa (aC (aK) rfl T.bJ aW (aa (aV Ve (pv 0) ak (λ_ _=>rfl)) af)) af))))),?_⟩
  cases rs with
  |nil=>exact absurd rfl hne
  |cons r0 rs =>
   have h0:=hS.row r0 (List.mem_cons_self ..)
   refine⟨_,rfl,_,rfl,hR.ix (i:=0) rfl ?_⟩
   refine⟨_,_,rfl,⟨Nat.le_trans h0 (by decide),rfl⟩,v,_,r0.cps.size,rfl,hR,hS,h0,λr hr=>by rw[hw r hr];exact Nat.le_refl _,λl H' s' hn hl'=>k l H' s' hn hl'⟩
theorem Qe {oO:Addr} {mP:FuncData} {p:Pm} (T:Txt K mg p w) (lN:Dn K mg "is_gaps" sP ["column"] oO mP)  :aH P w K mg base cO 1 oO mP ["column"] NR:=by
 refine lN.fn.ok P0 (λvs H Q E h=>?_) (λcdv A outer s H vs Q E hr h=>?_)
 ·obtain⟨x,rfl,_⟩:=h
  rfl
 ·obtain⟨x,rfl,hx,k⟩:=h
  refine⟨_,(ao (aS (pK iP (pv 0) (aB sW (kM (v:=.str (Str.ofString "-")) rfl T.OB ⟨_,rfl⟩) (aC (aK) rfl T.bJ aW (aa (pv 0) af))) (bq _)))),?_⟩
  refine⟨_,rfl,_,rfl,_,_,rfl,⟨Nat.le_trans hx (by decide),rfl⟩,_,_,rfl,rfl,by show(-1000000:Int)<=((x.cps.size:Nat):Int);omega,by show((x.cps.size:Nat):Int)<=1000000;omega,by decide,?_,rfl,?_⟩
  ·show((x.cps.size:Nat):Int).toNat*1<=sizeLine
   exact Nat.le_trans (show _<=1000 by omega) (by decide)
  ·rw[Xi]
   exact k
theorem Oc {fj:Addr} {dM:FuncData} {p:Pm} (T:Txt K mg p w) (bP:Dn K mg "signs_of" mH ["things"] fj dM)  :aH P w K mg base cO 1 fj dM ["things"] sN:=by
 refine bP.fn.ok NU (λvs H Q E h=>?_) (λcdv A outer s H vs Q E hr h=>?_)
 ·obtain⟨x,rfl,_⟩:=h
  rfl
 ·obtain⟨x,rfl,hx,k⟩:=h
  refine⟨_,(ao (aS (So (pv 0) rfl T.OB))),?_⟩
  exact⟨_,rfl,x,rfl,by omega,k⟩
theorem Ah {j0 fj gE:Addr} {iZ dM fG:FuncData} {p:Pm} (T:Txt K mg p w) (gM:Dn K mg "are_things" oq ["row"] j0 iZ) (bP:Dn K mg "signs_of" mH ["things"] fj dM) (mY:aH P w K mg base cO 1 fj dM ["things"] sN) (dh:Dn K mg "are_signs" nL ["text"] gE fG) (sJ:aH P w K mg base cO 2 gE fG ["text"] uo):aH P w K mg base cO 3 j0 iZ ["row"] xg:=by
 refine gM.fn.ok z9 (λvs H Q E h=>?_) (λcdv A outer s H vs Q E hr h=>?_)
 ·obtain⟨x,rfl,_⟩:=h
  rfl
 ·obtain⟨x,rfl,hx,k⟩:=h
  refine⟨_,(ao (aS (az sJ (hr.mono (by decide)) rfl dh.m dh.fn.kp dh.b .nil aQ (aa (az mY (hr.mono (by decide)) rfl bP.m bP.fn.kp bP.b .nil aQ (aa (pv 0) af)) af)))),?_⟩
  refine⟨_,rfl,x,rfl,hx,_,rfl,?_,k⟩
  show(x.cps.toList.filter (· != 45)).length<=1000
  exact Nat.le_trans (List.length_filter_le _ _) (by rw[Array.length_toList];exact hx)
end
section
variable{P:Program}{w:World}{K:PySem.W.Frag}{mg:Str->Option Value}{base:Heap}
theorem qj {cM:Addr} {cE:FuncData} {p:Pm} (T:Txt K mg p w) (bN:Da K mg "check_lengths_blocks" "check_lengths" fD ["rows"] cM cE)  :aH P w K mg base (vN P w) 1 cM cE ["rows"] (AZ K p.dI (λ_=>true) oE):=by
 refine bN.fn.GZ lq (λvs H Q E h=>?_) (λcdv A outer s H vs Q E hr h=>?_)
 ·obtain⟨v,rs,rfl,_⟩:=h
  rfl
 ·obtain⟨v,rs,rfl,hR,hS,_,k,kX⟩:=h
  obtain⟨c,rfl,hc⟩:=hR.cp
  refine⟨_,(aj (cK (aU iP (aC (aK) rfl T.bJ aW (aa (pv 0) af)) ak (bq _)) (ao (vc l8 T.qD rfl rfl T.qQ (aa bH af))) bx)
   (ao (dR lZ rfl (xm (pv 0)) (aM (i:=1) lq.nd rfl (Or.inl rfl)) (ao (cK (aU rV (aC (aK) rfl T.bJ aW (aa (pv 1) af)) (aC (aK) rfl T.bJ aW (aa (aV Ve (pv 0) ak (λ_ _=>rfl)) af)) (bq _)) (ao (vc l8 T.qD rfl rfl T.qQ (aa bH af))) bx))))),?_⟩
  refine⟨_,rfl,_,_,rfl,hR.len,rfl,_,rfl,?_⟩
  cases rs with
  |nil=>exact kB ⟨by show 1<=sizeLine;decide,kX rfl H (ai.refl _)⟩
  |cons r0 rs =>
   refine iQ ?_
   have h0:=hS.row r0 (List.mem_cons_self ..)
   refine⟨_,rfl,c,_,rfl,hc _ (ai.refl _),Hi (K:=K) (xs:=(r0::rs).map V.str) (λi σ H2=>H2=H/\∃v1,σ=[some c.val,v1]/\∀r∈(r0::rs).take i,r.cps.size=r0.cps.size) ⟨rfl,_,rfl,λr hr=>(by cases hr)⟩ (λi σ H2 _ ⟨e,_⟩=>by rw[e];exact hc _ (ai.refl _)) ?_ ?_⟩
   ·rintro i x σ H2 hx ⟨rfl,v1,rfl,hw⟩
    rw[List.getElem?_map]at hx
    obtain⟨r,hr,rfl⟩:=Option.map_eq_some_iff.mp hx
    have hm:=List.mem_of_getElem? hr
    have h1:=hS.row r hm
    refine⟨_,rfl,_,_,rfl,⟨Nat.le_trans h1 (by decide),rfl⟩,_,rfl,hR.ix (i:=0) rfl ⟨_,_,rfl,⟨Nat.le_trans h0 (by decide),rfl⟩,rfl,_,rfl,?_⟩⟩
    by_cases z:r.cps.size=r0.cps.size
    ·rw[decide_eq_true (show V.int ((r.length:Nat):Int)=V.int ((r0.length:Nat):Int) by show V.int ((r.cps.size:Nat):Int)=_;rw[z];rfl)]
     refine iQ ⟨rfl,_,rfl,λr' hr'=>?_⟩
     rw[List.take_succ,hr]at hr'
     rcases List.mem_append.mp hr' with hr'|hr'
     ·exact hw r' hr'
     ·rw[List.mem_singleton.mp hr'];exact z
    ·rw[decide_eq_false (λe=>z (by injection e with e;have e':((r.cps.size:Nat):Int)=((r0.cps.size:Nat):Int):=e;omega))]
     refine kB ⟨by show 1<=sizeLine;decide,kX ?_ _ (ai.refl _)⟩
     rw[Bool.eq_false_iff]
     exact λe=>z ((cP.mp e).2 r hm)
   ·rintro σ H2 ⟨rfl,v1,rfl,hw⟩
    rw[List.length_map,List.take_length]at hw
    exact k (cP.mpr ⟨by simp,hw⟩) _ (ai.refl _)
theorem xU {iz j0:Addr} {gw iZ:FuncData} {p:Pm} (T:Txt K mg p w) (eS:Dn K mg "check_things" lY ["rows"] iz gw) (gM:Dn K mg "are_things" oq ["row"] j0 iZ) (HX:aH P w K mg base cO 3 j0 iZ ["row"] xg):aH P w K mg base (vN P w) 4 iz gw ["rows"] (AZ K p.dI (λ_=>true) (λrs=>rs.all kD)):=by
 refine eS.fn.GZ q9 (λvs H Q E h=>?_) (λcdv A outer s H vs Q E hr h=>?_)
 ·obtain⟨v,rs,rfl,_⟩:=h
  rfl
 ·obtain⟨v,rs,rfl,hR,hS,_,k,kX⟩:=h
  obtain⟨c,rfl,hc⟩:=hR.cp
  refine⟨_,(ao (dR lZ rfl (xm (pv 0)) (aM (i:=1) q9.nd rfl (Or.inl rfl)) (ao (cK (qO (kP (az HX (hr.mono (by decide)) rfl gM.m gM.fn.kp gM.b .nil aQ (aa (pv 1) af)))) (ao (vc l8 T.qD rfl rfl T.qQ (aa bH af))) bx)))),?_⟩
  refine⟨_,rfl,c,_,rfl,hc _ (ai.refl _),Hi (K:=K) (xs:=rs.map V.str) (λi σ H2=>ai H H2/\∃v1,σ=[some c.val,v1]/\∀r∈rs.take i,kD r=true) ⟨ai.refl _,_,rfl,λr hr=>(by cases hr)⟩ (λi σ H2 _ ⟨e,_⟩=>hc _ e) ?_ ?_⟩
  ·rintro i x σ H2 hx ⟨s2,v1,rfl,hw⟩
   rw[List.getElem?_map]at hx
   obtain⟨r,hr,rfl⟩:=Option.map_eq_some_iff.mp hx
   have hm:=List.mem_of_getElem? hr
   refine⟨_,rfl,r,rfl,hS.row r hm,λH3 s3=>⟨_,rfl,?_⟩⟩
   cases z:kD r with
   |true =>
    refine qu ⟨s2.trans s3,_,rfl,λr' hr'=>?_⟩
    rw[List.take_succ,hr]at hr'
    rcases List.mem_append.mp hr' with hr'|hr'
    ·exact hw r' hr'
    ·rw[List.mem_singleton.mp hr'];exact z
   |false =>
    refine RG ⟨by show 1<=sizeLine;decide,kX ?_ _ (s2.trans s3)⟩
    rw[Bool.eq_false_iff]
    exact λe=>by rw[List.all_eq_true]at e;rw[e r hm]at z;cases z
  ·rintro σ H2 ⟨s2,v1,rfl,hw⟩
   rw[List.length_map,List.take_length]at hw
   exact k (List.all_eq_true.mpr hw) _ s2
theorem we {gA fH oO:Addr} {fT d8 mP:FuncData} {p:Pm} (T:Txt K mg p w) (dQ:Dn K mg "check_columns" kI ["rows"] gA fT) (bV:Dn K mg "columns_of" lX ["rows"] fH d8) (oJ:aH P w K mg base cO 3 fH d8 ["rows"] (vS K)) (lN:Dn K mg "is_gaps" sP ["column"] oO mP) (Tr:aH P w K mg base cO 1 oO mP ["column"] NR):aH P w K mg base (vN P w) 4 gA fT ["rows"] (AZ K p.dI oE zC):=by
 refine dQ.fn.GZ qg (λvs H Q E h=>?_) (λcdv A outer s H vs Q E hr h=>?_)
 ·obtain⟨v,rs,rfl,_⟩:=h
  rfl
 ·obtain⟨v,rs,rfl,hR,hS,hl,k,kX⟩:=h
  refine⟨_,(ao (dR lZ rfl (eX (az oJ (hr.mono (by decide)) rfl bV.m bV.fn.kp bV.b .nil aQ (aa (pv 0) af))) (aM (i:=1) qg.nd rfl (Or.inl rfl)) (ao (cK (kP (az Tr (hr.mono (by decide)) rfl lN.m lN.fn.kp lN.b .nil aQ (aa (pv 1) af))) (ao (vc l8 T.qD rfl rfl T.qQ (aa bH af))) bx)))),?_⟩
  refine⟨_,rfl,v,rs,rfl,hR,hS,hl,λl H1 s1 hn hl1=>?_⟩
  refine⟨l,rfl,⟨_,bf.of hl1⟩,qv (K:=K) (xs:=(cols rs (br rs)).map V.str) (λi σ H2=>ai H1 H2/\∃v1,σ=[some v,v1]/\∀r∈(cols rs (br rs)).take i,(!cC r)=true) ⟨ai.refl _,_,rfl,λr hr=>(by cases hr)⟩ (λi σ H2 _ ⟨e,_⟩=>bf.of (e _ _ hl1)) ?_ ?_⟩
  ·rintro i x σ H2 hx ⟨s2,v1,rfl,hw⟩
   rw[List.getElem?_map]at hx
   obtain⟨r,hr,rfl⟩:=Option.map_eq_some_iff.mp hx
   have hm:=List.mem_of_getElem? hr
   have hr1:r.cps.size<=1000:=by
    unfold cols at hm
    obtain⟨j,_,rfl⟩:=List.mem_map.mp hm
    show(f6 rs j).length<=1000
    unfold f6
    rw[List.length_map]
    exact Nat.le_trans hS.len (by decide)
   refine⟨_,rfl,r,rfl,hr1,_,rfl,?_⟩
   cases z:cC r with
   |true =>
    refine kB ⟨by show 1<=sizeLine;decide,kX ?_ _ (s1.trans s2)⟩
    rw[Bool.eq_false_iff]
    exact λe=>by
     unfold zC at e
     rw[List.all_eq_true]at e
     have:=e r hm
     rw[z]at this
     cases this
   |false =>
    refine iQ ⟨s2,_,rfl,λr' hr'=>?_⟩
    rw[List.take_succ,hr]at hr'
    rcases List.mem_append.mp hr' with hr'|hr'
    ·exact hw r' hr'
    ·rw[List.mem_singleton.mp hr',z];rfl
  ·rintro σ H2 ⟨s2,v1,rfl,hw⟩
   rw[List.length_map,List.take_length]at hw
   exact k (List.all_eq_true.mpr hw) _ (s1.trans s2)
end
section
variable{P:Program}{w:World}{K:PySem.W.Frag}{mg:Str->Option Value}{base:Heap}
end
section
variable{P:Program}{w:World}{K:PySem.W.Frag}{mg:Str->Option Value}{base:Heap}
end
section
variable{P:Program}{w:World}{K:PySem.W.Frag}{mg:Str->Option Value}{base:Heap}
theorem xO {dB:Addr} {cV:FuncData} {p:Pm} (T:Txt K mg p w) (bW:Dn K mg "place_behind" jt ["place","move"] dB cV)  :aH P w K mg base cO 1 dB cV ["place","move"] (yx K):=by
 refine bW.fn.ok q8 (λvs H Q E h=>?_) (λcdv A outer s H vs Q E hr h=>?_)
 ·obtain⟨q,c,ij,rfl,_⟩:=h
  rfl
 ·obtain⟨q,c,ij,rfl,hq,hc,k⟩:=h
  refine⟨_,(aj (cK (aU Oa (pv 1) (kM (v:=.ref p.kh) rfl T.Hg rfl) (by with_unfolding_all rfl)) mJ bx)
   (aj (aD (i:=2) q8.nd rfl (Or.inl rfl) (Rv (kM (v:=.ref p.kh) rfl T.Hg rfl) (pv 1) (λ_ _=>rfl)))
   (ao (aS (oU (aa (aB cY (aV gS (pv 0) ak (λ_ _=>rfl)) (aV gS (pv 2) ak (λ_ _=>rfl))) (aa (aB cY (aV gS (pv 0) ak (λ_ _=>rfl)) (aV gS (pv 2) ak (λ_ _=>rfl))) af))))))),?_⟩
  obtain⟨v,f,hv,hf,e⟩:∃(v:Addr) (f:bY),jl [(Sum.inr (Str.ofString "p"),V.ref p.iM),(Sum.inr (Str.ofString "a"),V.ref p.iL),(Sum.inr (Str.ofString "b"),V.ref p.iK)] (Sum.inr ⟨#[c]⟩:Key)=some (.ref v)/\(∀H:Hp,iR K H v [.int f.1,.int f.2])/\stp ij c=(ij.1+f.1,ij.2+f.2):=by
   rcases hc with rfl|rfl|rfl
   ·exact⟨p.iM,(1,1),ee (show(Sum.inr (Str.ofString "p"):Key)=Sum.inr ⟨#[112]⟩ by decide +kernel),T.N5,rfl⟩
   ·exact⟨p.iL,(1,0),(ez (show ¬(Sum.inr (Str.ofString "p"):Key)=Sum.inr ⟨#[97]⟩ by decide +kernel)).trans (ee (show(Sum.inr (Str.ofString "a"):Key)=Sum.inr ⟨#[97]⟩ by decide +kernel)),T.N4,rfl⟩
   ·exact⟨p.iK,(0,1),(ez (show ¬(Sum.inr (Str.ofString "p"):Key)=Sum.inr ⟨#[98]⟩ by decide +kernel)).trans ((ez (show ¬(Sum.inr (Str.ofString "a"):Key)=Sum.inr ⟨#[98]⟩ by decide +kernel)).trans (ee (show(Sum.inr (Str.ofString "b"):Key)=Sum.inr ⟨#[98]⟩ by decide +kernel))),T.N3,rfl⟩
  refine⟨_,rfl,p.kh,_,.inr ⟨#[c]⟩,rfl,rfl,T.zj P,_,rfl,?_⟩
  rw[hv]
  refine qu ?_
  refine⟨_,rfl,p.kh,_,.inr ⟨#[c]⟩,_,rfl,rfl,T.zj P,hv,?_⟩
  refine⟨_,rfl,_,_,_,_,rfl,rfl,hq,rfl,_,rfl,_,_,_,_,rfl,rfl,hf _,rfl,_,_,rfl,rfl,_,rfl,_,_,_,_,rfl,rfl,hq,rfl,_,rfl,_,_,_,_,rfl,rfl,hf _,rfl,_,_,rfl,rfl,by show 2<=sizeLine;decide,λr hr=>?_⟩
  have z:=k r hr
  rw[e]at z
  exact z
end
section
variable{P:Program}{w:World}{K:PySem.W.Frag}{mg:Str->Option Value}{base:Heap}
theorem uy {bz:Addr} {fZ:FuncData} {p:Pm} (T:Txt K mg p w) (fh:Dm K "__init__" "NoSign.__init__" cS ["self","row","place"] bz fZ)  :aH P w K mg base (vN P w) 1 bz fZ ["self","row","place"] (NL p.aN):=by
 refine fh.fn.GZ ur (λvs H Q E h=>?_) (λcdv A outer s H vs Q E hr h=>?_)
 ·obtain⟨e,i,j,rfl,_⟩:=h
  rfl
 ·obtain⟨e,i,j,rfl,he,hi,hj,k⟩:=h
  obtain⟨fI,xc⟩:=T.R0
  refine⟨_,(aj (fE (WQ T.z0 rfl T.Ak (aa (pv 0) (aa (WM (ye bH (ye (UL (pv 1)) (ye bH (ye (UL (pv 2)) Z4))))) af))))
   (aj (Rr (pv 0) (pv 1) rfl)
   (ao (Rr (pv 0) (pv 2) rfl)))),?_⟩
  have li:=A5 hi
  have lj:=A5 hj
  have ti:=PyProof.Rows.int_text_len_1921 li
  have tj:=PyProof.Rows.int_text_len_1921 lj
  have l0:(Str.empty++Str.ofString "no sign that may stand there: row ").length<=50:=by decide
  have l1:=Ho l0 ti
  have l2:=Ho l1 (show(Str.ofString ", place ").length<=20 by decide)
  have l3:=Ho l2 tj
  refine⟨_,rfl,_,rfl,Nat.le_trans l0 (by decide),_,rfl,_,rfl,li,_,rfl,Nat.le_trans l1 (by decide),_,rfl,Nat.le_trans l2 (by decide),_,rfl,_,rfl,lj,_,rfl,Nat.le_trans l3 (by decide),Nat.le_trans l3 (by decide),?_⟩
  refine⟨e,p.aN,fI,none,_,rfl,he,xc,?_⟩
  refine⟨_,rfl,_,rfl,e,p.aN,rfl,T.AN,T.vm,.inl ⟨he,λdx hdx=>?_⟩⟩
  have ne:dx≠e:=λz=>by rw[z,he]at hdx;cases hdx
  refine⟨_,rfl,_,rfl,e,p.aN,rfl,T.AN,T.rX,.inr ⟨dx,_,by rw[aA (Ne.symm ne),ah],ah,IS,?_⟩⟩
  refine k dx _ (λb u hb Vx=>?_) hdx (by rw[aA (Ne.symm ne),aA (Ne.symm ne),ah]) ah
  have nb:b≠dx:=λz=>by rw[z,hdx]at hb;cases hb
  rw[aA nb,aA nb,aA Vx,aA nb]
  exact hb
theorem vh {aR cM iz gA:Addr} {bK cE gw fT:FuncData} {p:Pm} (T:Txt K mg p w) (aX:Dm K "__init__" "Block.__init__" cj ["self","rows"] aR bK) (bN:Da K mg "check_lengths_blocks" "check_lengths" fD ["rows"] cM cE) (qZ:aH P w K mg base (vN P w) 1 cM cE ["rows"] (AZ K p.dI (λ_=>true) oE)) (eS:Dn K mg "check_things" lY ["rows"] iz gw) (zX:aH P w K mg base (vN P w) 4 iz gw ["rows"] (AZ K p.dI (λ_=>true) (λrs=>rs.all kD))) (dQ:Dn K mg "check_columns" kI ["rows"] gA fT) (yb:aH P w K mg base (vN P w) 4 gA fT ["rows"] (AZ K p.dI oE zC)):aH P w K mg base (vN P w) 5 aR bK ["self","rows"] (yc K p.aJ p.dI):=by
 refine aX.fn.GZ uY (λvs H Q E h=>?_) (λcdv A outer s H vs Q E hr h=>?_)
 ·obtain⟨b,dx,v,rs,rfl,_⟩:=h
  rfl
 ·obtain⟨b,dx,v,rs,rfl,hb,hR,hS,k,kX⟩:=h
  refine⟨_,(aj (fE (az qZ (hr.mono (by decide)) rfl bN.m bN.fn.kp bN.b .nil (Lets.passes l8) (aa (pv 1) af)))
   (aj (fE (az zX (hr.mono (by decide)) rfl eS.m eS.fn.kp eS.b .nil (Lets.passes l8) (aa (pv 1) af)))
   (aj (fE (az yb (hr.mono (by decide)) rfl dQ.m dQ.fn.kp dQ.b .nil (Lets.passes l8) (aa (pv 1) af)))
   (ao (jg (pv 0) (oK (nG) rfl T.uQ sC (aa (pv 1) af)) rfl))))),?_⟩
  refine⟨_,rfl,v,rs,rfl,hR,hS,rfl,λe1 H1 s1=>?_,λe1 H1 s1=>kX (by unfold gf;rw[e1];rfl) H1 s1⟩
  refine⟨_,rfl,v,rs,rfl,hR.same s1,hS,rfl,λe2 H2 s2=>?_,λe2 H2 s2=>kX (by have Yi:rs.all kD=false:=e2;unfold gf;rw[Yi,Bool.false_and,Bool.and_false]) H2 (s1.trans s2)⟩
  refine⟨_,rfl,v,rs,rfl,(hR.same s1).same s2,hS,e1,λe3 H3 s3=>?_,λe3 H3 s3=>kX (by unfold gf;rw[e3,Bool.and_false,Bool.and_false]) H3 ((s1.trans s2).trans s3)⟩
  have WH:=(s1.trans s2).trans s3
  have BP:=WH _ _ hb
  have hall:gf rs=true:=by have Yi:rs.all kD=true:=e2;unfold gf;rw[e1,Yi,e3];rfl
  obtain⟨a,rfl,hq⟩:=hR.same WH
  refine⟨_,rfl,a,rs.map V.str,rfl,?_⟩
  rcases hq with hq|hq
  ·refine .inl ⟨hq,λq hqn=>⟨_,rfl,b,_,dx,[],rfl,?_,T.gF,T.cu,by show 0<1000;decide,?_⟩⟩
   ·exact ai.upd hqn _ _ BP
   ·have nb:q≠b:=λz=>by rw[z,BP]at hqn;cases hqn
    refine k hall _ (λa' u h1 h2=>?_) ⟨dx,q,ah,.inl (.inl (by rw[aA nb,ah]))⟩
    rw[aA h2]
    exact ai.upd hqn _ _ (WH _ _ h1)
  ·refine .inr ⟨hq,_,rfl,b,_,dx,_,rfl,BP,T.gF,T.cu,by show 0<1000;decide,?_⟩
   refine k hall _ (λa' u h1 h2=>?_) ⟨dx,a,ah,iR.agn BP hq⟩
   rw[aA h2]
   exact WH _ _ h1
theorem Od {mQ:Addr} {ly:FuncData} {p:Pm} (T:Txt K mg p w) (jy:Dn K mg "_law_with" qI ["_law_row","_law_k","_law_thing_here"] mQ ly)  :aH P w K mg base cO 1 mQ ly ["_law_row","_law_k","_law_thing_here"] Uk:=by
 refine jy.fn.ok NV (λvs H Q E h=>?_) (λcdv A outer s H vs Q E hr h=>?_)
 ·obtain⟨r,z,k,rfl,_⟩:=h
  rfl
 ·obtain⟨r,z,k,rfl,hk,hr,hz,kk⟩:=h
  have hz2:r.length<=sizeLine:=Nat.le_trans hr (by decide)
  have e1:=Uy (x:=r) (k:=(k:Int)) (by omega) (by omega)
  have e2:=Uz (x:=r) (k:=(k:Int)+1) (by omega) (by omega)
  rw[show((k:Int)+1).toNat=k+1 by omega]at e2
  rw[Int.toNat_natCast]at e1
  have l1:(Txt.slice r none (some (k:Int))).cps.size<=1000:=by rw[←Array.length_toList,e1,List.length_take,Array.length_toList];omega
  have l2:(Txt.slice r (some ((k:Int)+1)) none).cps.size<=1000:=by rw[←Array.length_toList,e2,List.length_drop,Array.length_toList];omega
  refine⟨_,(ao (aS (aB cH (aB cH (iO yC (pv 0) kL (kK (pv 1))) (pv 2)) (iO yC (pv 0) (kK (aB cY (pv 1) ak)) kL)))),?_⟩
  refine⟨_,rfl,_,rfl,_,rfl,r,rfl,hz2,_,rfl,_,_,rfl,rfl,Nat.le_trans (show _<=2000 from Nat.add_le_add l1 (show z.cps.size<=1000 by omega)) (by decide),?_⟩
  refine⟨_,rfl,_,rfl,_,_,rfl,rfl,_,rfl,r,rfl,hz2,_,_,rfl,rfl,?_,kk _ ?_⟩
  ·show(Txt.slice r none (some (k:Int))++z).cps.size+(Txt.slice r (some ((k:Int)+1)) none).cps.size<=sizeLine
   rw[qF]
   exact Nat.le_trans (show _<=3000 by omega) (by decide)
  ·rw[jm,jm,e1,e2]
theorem yS {jd bz:Addr} {ic fZ:FuncData} {p:Pm} (T:Txt K mg p w) (fP:Dn K mg "check_known" nD ["known","rows"] jd ic) (fh:Dm K "__init__" "NoSign.__init__" cS ["self","row","place"] bz fZ) (zO:Io K p.aN bz) (vM:aH P w K mg base (vN P w) 1 bz fZ ["self","row","place"] (NL p.aN)):aH P w K mg base (vN P w) 3 jd ic ["known","rows"] (NP K p.aN):=by
 refine fP.fn.GZ jr (λvs H Q E h=>?_) (λcdv A outer s H vs Q E hr h=>?_)
 ·obtain⟨sg,v,rs,rfl,_⟩:=h
  rfl
 ·obtain⟨sg,v,rs,rfl,hR,hS,kq,k⟩:=h
  obtain⟨c0,rfl,hc⟩:=hR.cp
  refine⟨_,(ao (dR lZ rfl (Rt rfl T.wW (aa (pv 1) af)) (GF (n:=2) rfl (nM (aM (i:=2) jr.nd rfl (Or.inl rfl)) (nM (aM (i:=3) jr.nd rfl (Or.inl rfl)) yf))) (ao (dR lZ rfl (Rt rfl T.wW (aa (pv 3) af)) (GF (n:=2) rfl (nM (aM (i:=4) jr.nd rfl (Or.inl rfl)) (nM (aM (i:=5) jr.nd rfl (Or.inl rfl)) yf))) (ao (cK (aU GI (pv 5) (pv 0) (by with_unfolding_all rfl)) (ao (Sj l8 zO vM (hr.mono (by decide)) fh.b rfl rfl T.A4 (aa (pv 2) (aa (pv 4) af)))) bx)))))),?_⟩
  refine⟨_,rfl,c0,_,rfl,hc _ (ai.refl _),OF (K:=K) (c:=c0) (xs:=rs.map V.str) (λi σ H2=>∃v2 v3 v4 v5,σ=[some (.str sg),some c0.val,v2,v3,v4,v5]/\ai H H2/\∀m r,m<i->rs[m]? =some r->Of sg r) ⟨_,_,_,_,rfl,ai.refl _,λm r z=>absurd z (Nat.not_lt_zero _)⟩ (λi σ H2 _ ⟨_,_,_,_,_,s2,_⟩=>hc _ s2) ?_ ?_⟩
  ·rintro i y p1 σ H2 hy hp1 ⟨v2,v3,v4,v5,rfl,s2,Dk⟩
   obtain⟨z,C7,rfl⟩:=qR hy
   have hz:=hS.row z (List.mem_of_getElem? C7)
   have hi:i<rs.length:=(List.getElem?_eq_some_iff.mp C7).1
   have hl:=hS.len
   refine⟨p1,_,rfl,iR.of ah,rfl,_,_,rfl,_,_,rfl,rfl,?_⟩
   refine⟨_,rfl,.txt z,_,rfl,rfl,OF (K:=K) (c:=.txt z) (xs:=gi z) (λj σ H3=>∃v4 v5,σ=[some (.str sg),some c0.val,some (.int (i:Int)),some (.str z),v4,v5]/\ai H H3/\∀k c,k<j->z.cps[k]? =some c->c∈sg.cps.toList) ⟨_,_,rfl,s2.trans (ai.upd hp1),λk c z=>absurd z (Nat.not_lt_zero _)⟩ (λj σ H3 _ _=>rfl) ?_ ?_⟩
   ·rintro j y p2 σ H3 hy hp2 ⟨v4,v5,rfl,s3,hp⟩
    obtain⟨c,hc,rfl⟩:=signs_get hy
    have hj:=VU hc
    have s4:=s3.trans (ai.upd (o:=.tup [.int (j:Int),.str ⟨#[c]⟩]) hp2)
    refine⟨p2,_,rfl,iR.of ah,rfl,_,_,rfl,_,_,rfl,rfl,?_⟩
    refine⟨_,rfl,_,rfl,_,_,rfl,rfl,_,rfl,?_⟩
    rw[StrLaws.found_one]
    by_cases hm:c∈sg.cps.toList
    ·rw[decide_eq_true hm]
     refine qu ⟨_,_,rfl,s4,λk d hk hd=>?_⟩
     by_cases z:k=j
     ·subst z
      rw[hc]at hd
      cases hd
      exact hm
     ·exact hp k d (by omega) hd
    ·rw[decide_eq_false hm]
     refine RG ⟨_,rfl,_,rfl,by show 2<=sizeLine;decide,λe hn=>?_⟩
     have hne:H e=none:=ai.free s4 hn
     refine⟨e,i,j,rfl,ah,by omega,by omega,λdx H' hk hdx hx hd=>⟨rfl,some dx,hx,k i j ⟨⟨z,c,C7,hc,hm,hp⟩,Dk⟩ dx _ (λb u hb=>?_) ?_⟩⟩
     ·have nb:b≠e:=λz=>by rw[z,hne]at hb;cases hb
      rw[sj nb]
      exact hk b u (by rw[aA nb];exact s4 b u hb) nb
     ·have ne:dx≠e:=λz=>by rw[z,ah]at hdx;cases hdx
      rw[sj ne]
      exact hd
   ·rintro σ H3 ⟨v4,v5,rfl,s3,hp⟩
    have oz:Of sg z:=λc hc=>by
     obtain⟨k,hk,e⟩:=List.getElem_of_mem hc
     have hk':k<z.cps.size:=by simpa using hk
     exact hp k c (by rw[signs_length];exact hk') (by rw[←Array.getElem?_toList,List.getElem?_eq_getElem hk,e])
    refine⟨_,_,_,_,rfl,s3,λm r hm hr=>?_⟩
    by_cases z:m=i
    ·subst z
     rw[C7]at hr
     cases hr
     exact oz
    ·exact Dk m r (by omega) hr
  ·rintro σ H2 ⟨v2,v3,v4,v5,rfl,s2,Dk⟩
   refine kq (λr hr=>?_) H2 s2
   obtain⟨m,hm,e⟩:=List.getElem_of_mem hr
   exact Dk m r (by rw[List.length_map];exact hm) (by rw[List.getElem?_eq_getElem hm,e])
theorem tM {dW jd:Addr} {dG ic:FuncData} {p:Pm} (T:Txt K mg p w) (cI:Dn K mg "check_block_rows" iI ["prices","rows"] dW dG) (fP:Dn K mg "check_known" nD ["known","rows"] jd ic) (AJ:aH P w K mg base (vN P w) 3 jd ic ["known","rows"] (NP K p.aN)):aH P w K mg base (vN P w) 4 dW dG ["prices","rows"] (w9 K p.aq p.aN):=by
 refine cI.fn.GZ tG (λvs H Q E h=>?_) (λcdv A outer s H vs Q E hr h=>?_)
 ·obtain⟨x,sg,rows,fo,fm,v,rs,rfl,_⟩:=h
  rfl
 ·obtain⟨x,sg,rows,fo,fm,v,rs,rfl,⟨sig,_,_,_,_,_,_,dx,Pp,o,m,d,kvs,h1,h2,h3,h4,h5,h6⟩,hR,hS,kq,k⟩:=h
  refine⟨_,(ao (fE (az AJ (hr.mono (by decide)) rfl fP.m fP.fn.kp fP.b .nil (Lets.passes l8) (aa (aB cH (bG (pv 0) rfl) (kM (v:=.str (Str.ofString "-")) rfl T.OB ⟨_,rfl⟩)) (aa (pv 1) af))))),?_⟩
  have hz:sg.cps.size+1<=sizeLine:=Nat.le_trans (Nat.add_le_add_right sig.2.1 1) (by decide)
  exact⟨_,rfl,x,_,_,_,_,rfl,h1,T.bQ,T.l6,zo,_,_,rfl,rfl,hz,_,rfl,tP sg,v,rs,rfl,hR,hS,kq,k⟩
end
section
variable{P:Program}{w:World}{K:PySem.W.Frag}{mg:Str->Option Value}{base:Heap}
theorem GQ {lE dN gD:Addr} {jL cW fF:FuncData} {p:Pm} (T:Txt K mg p w) (iC:Dn K mg "_law_thing" pA ["_law_prices_here","_law_one","_law_other"] lE jL) (bS:Dn K mg "more_cost" lu ["prices"] dN cW) (nR:aH P w K mg base cO 2 dN cW ["prices"] (Gk K p.aq)) (c8:Dn K mg "pair_cost" nK ["prices","one","other"] gD fF) (sH:aH P w K mg base cO 1 gD fF ["prices","one","other"] (ug K p.aq)):aH P w K mg base cO 3 lE jL ["_law_prices_here","_law_one","_law_other"] (Q6 K p.aq):=by
 refine iC.fn.ok Gw (λvs H Q E h=>?_) (λcdv A outer s H vs Q E hr h=>?_)
 ·obtain⟨x,sg,rows,fo,fm,a,b,rfl,_⟩:=h
  rfl
 ·obtain⟨x,sg,rows,fo,fm,a,b,rfl,hP,ha,hb,k⟩:=h
  refine⟨_,(aj (cK (PW.pt (uv (aU iP (pv 1) bH (bq _)) (sV (aU iP (pv 2) bH (bq _))))) (ao (aS ak)) bx)
   (aj (cK (PW.pt (yI (aU iP (pv 1) bH (bq _)) (uu (aU iP (pv 2) bH (bq _))))) (ao (aS (az nR (hr.mono (by decide)) rfl bS.m bS.fn.kp bS.b .nil aQ (aa (pv 0) af)))) bx)
   (ao (aS (az sH (hr.mono (by decide)) rfl c8.m c8.fn.kp c8.b .nil aQ (aa (pv 0) (aa (pv 1) (aa (pv 2) af)))))))),?_⟩
  refine⟨_,rfl,rfl,_,rfl,?_⟩
  rw[VF]
  by_cases ea:a=45
  ·rw[decide_eq_true ea]
   refine kB ⟨_,rfl,rfl,_,rfl,?_⟩
   rw[VF]
   by_cases eb:b=45
   ·rw[decide_eq_true eb]
    refine kB ?_
    have z:=k H (ai.refl _)
    rw[Ua ea eb]at z
    exact z
   ·rw[decide_eq_false eb]
    refine iQ ⟨_,rfl,rfl,_,rfl,?_⟩
    rw[VF,decide_eq_true ea]
    refine kB ⟨_,rfl,x,sg,rows,fo,fm,rfl,hP,?_⟩
    have z:=k H (ai.refl _)
    rw[Ub (λq=>eb q.2) (.inl ea)]at z
    exact z
  ·rw[decide_eq_false ea]
   refine iQ (iQ ⟨_,rfl,rfl,_,rfl,?_⟩)
   rw[VF,decide_eq_false ea]
   refine iQ ⟨_,rfl,rfl,_,rfl,?_⟩
   rw[VF]
   by_cases eb:b=45
   ·rw[decide_eq_true eb]
    refine kB ⟨_,rfl,x,sg,rows,fo,fm,rfl,hP,?_⟩
    have z:=k H (ai.refl _)
    rw[Ub (λq=>ea q.1) (.inr eb)]at z
    exact z
   ·rw[decide_eq_false eb]
    obtain⟨i,j,f,k1,k2,k3,k4⟩:=UT (u:=aY fo.2 fm.2 rows) hP.Fg ((oG.mp ha).resolve_left ea) ((oG.mp hb).resolve_left eb)
    refine iQ ⟨_,rfl,_,rfl,_,rfl,x,sg,rows,fo,fm,i,j,a,b,f,rfl,hP,k1,k2,k3,λH' s'=>?_⟩
    have z:=k H' s'
    rw[XI ea eb,k4]at z
    exact z
end
section
variable{P:Program}{w:World}{K:PySem.W.Frag}{mg:Str->Option Value}{base:Heap}
theorem GR {lF bO:Addr} {jM bD:FuncData} {p:Pm} (T:Txt K mg p w) (iD:Dn K mg "_law_signs" pB ["_law_script","_law_at","_law_many"] lF jM) (aP:Dn K mg "_law_next" iH ["_law_script","_law_at"] bO bD) (fk:aH P w K mg base cO 1 bO bD ["_law_script","_law_at"] (uh K)):aH P w K mg base cO 2 lF jM ["_law_script","_law_at","_law_many"] (NI K):=by
 refine iD.fn.ok lO (λvs H Q E h=>?_) (λcdv A outer s H vs Q E hr h=>?_)
 ·obtain⟨s,t,ns,k,n,rfl,_⟩:=h
  rfl
 ·obtain⟨s,t,ns,k,n,rfl,hC,hk,hn,kk⟩:=h
  refine⟨_,(aj (aD (i:=3) lO.nd rfl (Or.inr rfl) bH)
   (aj (aD (i:=3) lO.nd rfl (Or.inr rfl) (aB cH (pv 3) bH))
   (aj (aD (i:=4) lO.nd rfl (Or.inr rfl) (az fk (hr.mono (by decide)) rfl aP.m aP.fn.kp aP.b .nil aQ (aa (pv 0) (aa (pv 1) af))))
   (aj (aD (i:=5) lO.nd rfl (Or.inr rfl) (aV bh (gj (aa ak (aa ak (aa ak (aa ak (aa ak (aa ak af))))))) (aB cG (pv 4) ak) (λ_ _=>rfl)))
   (ao (aS (rR PySem.F.plainAttrs_str PySem.F.slot_str_join PySem.F.type_str_join RB bH (aa (dw (N:=["_law_k","_law_some","_law_m","_law_turn"]) rfl (bI.jx (nt:=1) (ix:=[3,4,5]) rfl (by decide +kernel) (by decide +kernel) (by kernel_rfl) rfl (by kernel_rfl)) (eV rfl T.gT (aa (pv 2) af)) (λ_ _ _ _ _ _ _=>(aM (i:=0) (show(["_law_k","_law_some","_law_m","_law_turn"]:List Str).Nodup by decide +kernel) rfl (Or.inl rfl))) (λ_ _ _ _ _ _ _=>(aV l9 (pv 1) (aB cG (aB cY (aB cT (pv 2) ak) (aB oW (pv 0) (pv 3))) ak) (λ_ _=>rfl)))) af)))))))),?_⟩
  refine⟨_,rfl,_,_,rfl,rfl,(by decide +kernel),?_⟩
  obtain⟨S,hS⟩:∃S:Str,S=Str.ofString " !#$&'()*+,./0123456789:;<=>?@ABCDEFGHIJKLMNOPQRSTUVWXYZ" ++Str.ofString "[\\]^_`abcdefghijklmnopqrstuvwxyz{|}~" :=⟨_,rfl⟩
  have rD:S.cps.size=92:=by rw[hS];kernel_rfl
  have qb:S.cps.all dZ=true:=by rw[hS];kernel_rfl
  have MD:S.cps.toList.Nodup:=zl (by rw[hS];kernel_rfl)
  rw[←hS]
  refine⟨_,rfl,_,rfl,s,t,ns,k,rfl,hC,hk,λm hm hm2=>?_⟩
  refine⟨by show 6<=sizeLine;decide,λq hq=>?_⟩
  have s1:ai (upd H t (.lst [.int (k+1)])) (upd (upd H t (.lst [.int (k+1)])) q (.lst [.int 1,.int 3,.int 5,.int 7,.int 9,.int 11])):=ai.upd hq
  have hq1:upd (upd H t (.lst [.int (k+1)])) q (.lst [.int 1,.int 3,.int 5,.int 7,.int 9,.int 11]) q=some (.lst [.int 1,.int 3,.int 5,.int 7,.int 9,.int 11]):=ah
  generalize upd (upd H t (.lst [.int (k+1)])) q (.lst [.int 1,.int 3,.int 5,.int 7,.int 9,.int 11])=H1 at s1 hq1 ⊢
  obtain⟨tv,htv,⟨ht1,yh⟩,hat⟩:∃tv:Int,(tv=1\/tv=3\/tv=5\/tv=7\/tv=9\/tv=11)/\(0<=tv/\tv<=11)/\Ti [V.int 1,.int 3,.int 5,.int 7,.int 9,.int 11] (m % 6)=some (.int tv):=by
   have h1:=Int.emod_nonneg m (show(6:Int)≠0 by decide)
   have h2:=Int.emod_lt_of_pos m (show(0:Int)<6 by decide)
   have e:m % 6=0\/m % 6=1\/m % 6=2\/m % 6=3\/m % 6=4\/m % 6=5:=by omega
   rcases e with e|e|e|e|e|e<;>rw[e]
   ·exact⟨1,by decide,by decide,rfl⟩
   ·exact⟨3,by decide,by decide,rfl⟩
   ·exact⟨5,by decide,by decide,rfl⟩
   ·exact⟨7,by decide,by decide,rfl⟩
   ·exact⟨9,by decide,by decide,rfl⟩
   ·exact⟨11,by decide,by decide,rfl⟩
  refine⟨_,rfl,_,_,rfl,rfl,(by show(0:Int)<6;decide),?_⟩
  refine⟨q,_,_,.int tv,rfl,rfl,bf.of hq1,hat,?_⟩
  refine⟨rfl,_,rfl,n,rfl,by omega,by omega,λl hl=>?_⟩
  refine gb n (λi=>sg (S.cps.toList.getD ((m / 6+(i:Int)*tv) % 92).toNat 0)) hl (Nat.lt_of_le_of_lt hn (by decide)) (λi H2 s2 hi=>?_) (λH2 s2=>?_) (λi x H2 H3 R s2 hi y hR=>?_) λH2 s2 hl2=>?_
  ·show i<((n:Nat):Int).toNat
   omega
  ·show((n:Nat):Int).toNat<=n
   omega
  ·obtain⟨rfl,rfl⟩:=y
   refine⟨Kp.mG,?_⟩
   have i1:=Int.emod_nonneg (m / 6+(i:Int)*tv) (show(92:Int)≠0 by decide)
   have i2:=Int.emod_lt_of_pos (m / 6+(i:Int)*tv) (show(0:Int)<92 by decide)
   obtain⟨j,hj⟩:∃j:Nat,(m / 6+(i:Int)*tv) % 92=(j:Int):=⟨_,(Int.toNat_of_nonneg i1).symm⟩
   have hjl:j<S.cps.toList.length:=by rw[Array.length_toList];omega
   refine⟨_,rfl,_,rfl,_,_,rfl,rfl,⟨by decide,by decide⟩,_,rfl,_,rfl,_,_,rfl,rfl,.inl ⟨by omega,by omega⟩,_,_,rfl,rfl,_,_,rfl,rfl,(by show(0:Int)<92;decide),?_⟩
   refine⟨S,_,S.cps.toList[j],rfl,rfl,(by show S.cps.size<=_;rw[rD];decide),(by rw[Int.zero_add,hj];exact aT (List.getElem?_eq_getElem hjl)),?_⟩
   have e:S.cps.toList[j]=S.cps.toList.getD ((m / 6+(i:Int)*tv) % 92).toNat 0:=by
    rw[hj,Int.toNat_natCast,aO (List.getElem?_eq_getElem hjl)]
   rw[e]
   exact hR _ (ai.refl _)
  ·refine⟨l,(List.range n).map (λi:Nat=>S.cps.toList.getD ((m / 6+(i:Int)*tv) % 92).toNat 0),rfl,rfl,?_,?_,kk _ H2 ?_ (λc hc=>?_) (Qi MD n (λi _=>?_) λi j hij hj=>Wx htv hij (by omega)) (s1.trans s2)⟩
   ·rw[List.map_map]
    exact bf.of hl2
   ·rw[List.length_map,List.length_range];omega
   ·show((List.range n).map _).length=n
    rw[List.length_map,List.length_range]
   ·obtain⟨i,hi,rfl⟩:=List.mem_map.mp (show c∈(List.range n).map _ from hc)
    have i1:=Int.emod_nonneg (m / 6+(i:Int)*tv) (show(92:Int)≠0 by decide)
    have i2:=Int.emod_lt_of_pos (m / 6+(i:Int)*tv) (show(0:Int)<92 by decide)
    obtain⟨j,hj⟩:∃j:Nat,(m / 6+(i:Int)*tv) % 92=(j:Int):=⟨_,(Int.toNat_of_nonneg i1).symm⟩
    have hjl:j<S.cps.toList.length:=by rw[Array.length_toList];omega
    rw[hj,Int.toNat_natCast,aO (List.getElem?_eq_getElem hjl)]
    exact Array.all_eq_true_iff_forall_mem.mp qb _ (Array.mem_toList_iff.mp (List.getElem_mem hjl))
   ·have i1:=Int.emod_nonneg (m / 6+(i:Int)*tv) (show(92:Int)≠0 by decide)
    have i2:=Int.emod_lt_of_pos (m / 6+(i:Int)*tv) (show(0:Int)<92 by decide)
    rw[Array.length_toList]
    omega
theorem GU {lH bO:Addr} {jO bD:FuncData} {p:Pm} (T:Txt K mg p w) (cU:Dn K mg "_law_price" pD ["_law_script","_law_at"] lH jO) (aP:Dn K mg "_law_next" iH ["_law_script","_law_at"] bO bD) (fk:aH P w K mg base cO 1 bO bD ["_law_script","_law_at"] (uh K)):aH P w K mg base cO 2 lH jO ["_law_script","_law_at"] (Ut K):=by
 refine cU.fn.ok lQ (λvs H Q E h=>?_) (λcdv A outer s H vs Q E hr h=>?_)
 ·obtain⟨s,t,ns,k,rfl,_⟩:=h
  rfl
 ·obtain⟨s,t,ns,k,rfl,hC,hk2,kk⟩:=h
  have qb:=hC.K3
  have hk:=hC.k0
  refine⟨_,(aj (aD (i:=2) lQ.nd rfl (Or.inl rfl) (az fk (hr.mono (by decide)) rfl aP.m aP.fn.kp aP.b .nil aQ (aa (pv 0) (aa (pv 1) af))))
   (aj (aD (i:=3) lQ.nd rfl (Or.inl rfl) ak)
   (bX (cK (aU xr (aC (aK) rfl T.bJ aW (aa (pv 0) af)) ak (bq _)) (ao (aD (i:=3) lQ.nd rfl (Or.inl rfl) (aV bh (pv 0) (aB cG (aV bh (pv 1) ak (λ_ _=>rfl)) (aC (aK) rfl T.bJ aW (aa (pv 0) af))) (λ_ _=>rfl)))) bx)
   (aj (aD (i:=4) lQ.nd rfl (Or.inl rfl) (aV bh (gj (aa ak (aa ak (aa ak (aa ak (aa ak (aa (aB cY ak (aB cG (aB cT (pv 2) ak) ak)) af))))))) (aB cG (pv 2) ak) (λ_ _=>rfl)))
   (aj (cK (aU iP (aB cG (aB cT (pv 2) ak) ak) ak (bq _)) (ao (aS (oU (aa (aB nU (aB cG (pv 3) (aB UU ak ak)) (aB oW ak (aB UU ak ak))) (aa (pv 4) af))))) bx)
   (ao (aS (oU (aa (aB nU (aB cG (aB cT (pv 2) ak) ak) ak) (aa (pv 4) af)))))))))),?_⟩
  refine⟨_,rfl,_,rfl,s,t,ns,k,rfl,hC,hk2,λm hm hm2=>?_⟩
  have hq:=qb (.lst [.int (k+1)])
  have By:bf K (upd H t (.lst [.int (k+1)])) t [.int (k+1)]:=bf.of ah
  refine⟨λσ H2=>H2=upd H t (.lst [.int (k+1)])/\∃c:Int,σ=[some (.ref s),some (.ref t),some (.int m),some (.int c),none],?_,?_⟩
  ·refine⟨_,rfl,_,_,rfl,.inl ⟨_,hq,rfl⟩,_,_,rfl,rfl,_,rfl,?_⟩
   refine eY (λh0=>?_) (λh0=>?_)
   ·have hn:0<ns.length:=by rw[List.length_map]at h0;omega
    have i1:=Int.emod_nonneg (k+1) (show((ns.length:Nat):Int)≠0 by omega)
    have i2:=Int.emod_lt_of_pos (k+1) (show(0:Int)<((ns.length:Nat):Int) by omega)
    obtain⟨j,hj⟩:∃j:Nat,(k+1) % ((ns.length:Nat):Int)=(j:Int):=⟨_,(Int.toNat_of_nonneg i1).symm⟩
    have hjl:j<ns.length:=by omega
    refine⟨_,rfl,_,rfl,t,_,_,_,rfl,rfl,By,rfl,_,rfl,_,_,rfl,.inl ⟨_,hq,rfl⟩,_,_,rfl,rfl,(by show(0:Int)<(((ns.map V.int).length:Nat):Int);rw[List.length_map];omega),?_⟩
    refine⟨s,_,_,.int ns[j],rfl,rfl,hq,?_,?_⟩
    ·rw[List.length_map,hj]
     exact aT (by rw[List.getElem?_map,List.getElem?_eq_getElem hjl];rfl)
    ·exact⟨rfl,_,rfl⟩
   ·exact⟨rfl,_,rfl⟩
  ·rintro σ H2 ⟨rfl,c,rfl⟩
   obtain⟨v,hv,hv1,hv2⟩:∃v:Int,Ti [V.int 1,V.int 1,V.int 2,V.int 3,V.int 4,V.int (1+m / 6 % 999)] (m % 6)=some (V.int v)/\1<=v/\v<=999:=by
    have h6:m % 6=0\/m % 6=1\/m % 6=2\/m % 6=3\/m % 6=4\/m % 6=5:=by omega
    rcases h6 with h|h|h|h|h|h
    ·rw[h];exact⟨1,rfl,by omega,by omega⟩
    ·rw[h];exact⟨1,rfl,by omega,by omega⟩
    ·rw[h];exact⟨2,rfl,by omega,by omega⟩
    ·rw[h];exact⟨3,rfl,by omega,by omega⟩
    ·rw[h];exact⟨4,rfl,by omega,by omega⟩
    ·rw[h];exact⟨1+m / 6 % 999,rfl,by omega,by omega⟩
   refine⟨_,rfl,_,_,rfl,rfl,⟨by decide,by decide⟩,_,_,rfl,rfl,(by show(0:Int)<_;decide),_,_,rfl,rfl,(by show 6<=sizeLine;decide),λl hl'=>?_⟩
   have s1:ai (upd H t (.lst [.int (k+1)])) (upd (upd H t (.lst [.int (k+1)])) l (.lst [.int 1,.int 1,.int 2,.int 3,.int 4,.int (1+m / 6 % 999)])):=ai.upd hl'
   have M8:∀r,upd (upd H t (.lst [.int (k+1)])) l (.lst [.int 1,.int 1,.int 2,.int 3,.int 4,.int (1+m / 6 % 999)]) r=none->H r=none:=λr hr=>TY (ai.free s1 hr)
   have last:∀c:Int,Sm c->∀r,upd (upd H t (.lst [.int (k+1)])) l (.lst [.int 1,.int 1,.int 2,.int 3,.int 4,.int (1+m / 6 % 999)]) r=none →
     Q (.ref r) (upd (upd (upd H t (.lst [.int (k+1)])) l (.lst [.int 1,.int 1,.int 2,.int 3,.int 4,.int (1+m / 6 % 999)])) r (.tup [.int c,.int v])):=λc hc r hr =>
    kk (c,v) r _ ⟨hv1,hv2,hc⟩ (s1.trans (ai.upd hr)) (M8 r hr) ah
   refine⟨_,rfl,_,_,rfl,rfl,(by show(0:Int)<_;decide),l,_,_,_,rfl,rfl,bf.of ah,hv,?_⟩
   refine⟨_,rfl,_,_,rfl,rfl,⟨by decide,by decide⟩,_,_,rfl,rfl,(by show(0:Int)<_;decide),rfl,_,rfl,?_⟩
   refine Vg (λh4=>?_) (λh4=>?_)
   ·refine⟨_,rfl,_,_,rfl,rfl,⟨by decide,by decide,by decide⟩,_,_,rfl,rfl,(by show(0:Int)<_;decide),_,_,rfl,rfl,⟨by decide,by decide,by decide⟩,_,_,rfl,rfl,.inl ⟨by decide,by decide⟩,_,_,rfl,rfl,_,rfl,?_⟩
    exact⟨by show 2<=sizeLine;decide,λr hr=>last _ (Tg _) r hr⟩
   ·refine⟨_,rfl,_,_,rfl,rfl,⟨by decide,by decide⟩,_,_,rfl,rfl,(by show(0:Int)<_;decide),_,_,rfl,rfl,_,rfl,?_⟩
    exact⟨by show 2<=sizeLine;decide,λr hr=>last _ (OW (by omega) (by omega)) r hr⟩
end
section
variable{P:Program}{w:World}{K:PySem.W.Frag}{mg:Str->Option Value}{base:Heap}
theorem Ab {jU lH bF:Addr} {iU jO fY:FuncData} {p:Pm} (T:Txt K mg p w) (gH:Dn K mg "_law_prices" n9 ["_law_script","_law_at","_law_signs_here","_law_same"] jU iU) (cU:Dn K mg "_law_price" pD ["_law_script","_law_at"] lH jO) (sI:aH P w K mg base cO 2 lH jO ["_law_script","_law_at"] (Ut K)) (ff:Dm K "__init__" "Prices.__init__" cR ["self","signs","pairs","opening","more"] bF fY) (zN:Mk K p.aq bF) (vL:aH P w K mg base cO 5 bF fY ["self","signs","pairs","opening","more"] (Up K p.aq)):aH P w K mg base cO 7 jU iU ["_law_script","_law_at","_law_signs_here","_law_same"] (AW K p.aq):=by
 refine gH.fn.ok m7 (λvs H Q E h=>?_) (λcdv A outer s H vs Q E hr h=>?_)
 ·obtain⟨s,t,ns,k,sg,b,rfl,_⟩:=h
  rfl
 ·obtain⟨s,t,ns,k,sg,b,rfl,hC,hk,hsg,h12,kk⟩:=h
  obtain⟨N,hNe⟩:∃N,N=sg.cps.size:=⟨_,rfl⟩
  have k0:=hC.k0
  have FG:N<=12:=by omega
  have hz:sg.length<=sizeLine:=Nat.le_trans (show sg.cps.size<=100 by omega) (by decide)
  refine⟨_,(aj (kQ (i:=4) (N:=["_law_one","_law_script","_law_at","_law_signs_here"]) m7.nd rfl (Or.inl rfl) rfl (bI.jx (nt:=1) (ix:=[0,1,2]) rfl (by decide +kernel) (by decide +kernel) (by kernel_rfl) rfl (by kernel_rfl)) (rQ (pv 2)) (λ_ _ _ _ _ _ _=>(aM (i:=0) (show(["_law_one","_law_script","_law_at","_law_signs_here"]:List Str).Nodup by decide +kernel) rfl (Or.inl rfl))) (λ_ _ _ _ _ _ _=>(dw (N:=["_law_other","_law_script","_law_at"]) rfl (bI.jx (nt:=1) (ix:=[1,2]) rfl (by decide +kernel) (by decide +kernel) (by kernel_rfl) rfl (by kernel_rfl)) (rQ (pv 3)) (λ_ _ _ _ _ _ _=>(aM (i:=0) (show(["_law_other","_law_script","_law_at"]:List Str).Nodup by decide +kernel) rfl (Or.inl rfl))) (λ_ _ _ _ _ _ _=>(az sI (hr.mono (by decide)) rfl cU.m cU.fn.kp cU.b .nil aQ (aa (pv 1) (aa (pv 2) af)))))))
   (aj (dR PassesOwn.never rfl (eV rfl T.gT (aa (aC (aK) rfl T.bJ aW (aa (pv 2) af)) af)) (aM (i:=5) m7.nd rfl (Or.inl rfl)) (ao (dR PassesOwn.never rfl (eV rfl T.gT (aa (pv 5) af)) (aM (i:=6) m7.nd rfl (Or.inl rfl)) (ao (cK (kP (pv 3)) (ao (GA (aV bh (aV bh (pv 4) (pv 6) (λ_ _=>rfl)) (pv 5) (λ_ _=>rfl)) (GG (aV bh (pv 4) (pv 5) (λ_ _=>rfl)) (pv 6) set_list))) bx)))))
   (ao (aS (oB zN vL (hr.mono (by decide)) rfl T.SE ff.b .nil aQ (aa (pv 2) (aa (pv 4) (aa (az sI (hr.mono (by decide)) rfl cU.m cU.fn.kp cU.b .nil aQ (aa (pv 0) (aa (pv 1) af))) (aa (az sI (hr.mono (by decide)) rfl cU.m cU.fn.kp cU.b .nil aQ (aa (pv 0) (aa (pv 1) af))) af))))))))),?_⟩
  refine⟨_,rfl,sg,rfl,λl hl=>?_⟩
  have xu:l≠t:=λz=>by rw[z,hC.at_]at hl;cases hl
  refine⟨λi m ys H2=>m=N-i/\i<=N/\∃rs rows,ys=rs.map V.ref/\rs.length=i/\vI K (Wo t H2) l rs rows/\(∀r∈rows,r.length=N)/\(∀r∈rows,∀f∈r,BS f)/\(∀r∈rs,H r=none)/\ai (Wo t H) (Wo t H2)/\H2 t=some (.lst [.int (k+((i*N:Nat):Int))]),⟨N,rfl,Nat.zero_le _,[],[],rfl,rfl,?_,?_,?_,?_,?_,?_⟩,?_⟩
  ·rw[Wo.aA xu]
   exact⟨rfl,ah,List.nodup_nil,(by simp),λi r row h1=>by simp at h1⟩
  ·intro r hr;cases hr
  ·intro r hr;cases hr
  ·intro r hr;cases hr
  ·rw[Wo.aA xu];exact ai.upd (Wo.free hl)
  ·rw[aA xu.symm,hC.at_,Nat.zero_mul];simp
  rintro i m' ys H2 ⟨rfl,hi,rs,rows,rfl,hrs,DF,r1,r2,r3,s2,yh⟩
  by_cases hlt:i<N
  ·refine .inr ⟨(by show i<sg.cps.size;omega),?_⟩
   rintro x H3 ⟨rfl,cx,hcx,rfl⟩
   refine⟨Kp.mG,?_⟩
   refine⟨_,rfl,sg,rfl,λl2 hl2=>?_⟩
   have Qj:l2≠t:=λz=>by rw[z,yh]at hl2;cases hl2
   have ahf:H l2=none:=Wo.back s2 yh hl2
   refine⟨λj m ys H4=>m=N-j/\j<=N/\H4 l2=some (.lst ys)/\∃ps row,ys=ps.map V.ref/\ps.length=j/\Paired (mD K (Wo t H4)) ps row/\(∀f∈row,BS f)/\ai (Wo t H3) (Wo t H4)/\H4 t=some (.lst [.int (k+((i*N:Nat):Int)+(j:Int))]),
    ⟨N,rfl,Nat.zero_le _,ah,[],[],rfl,rfl,.nil,λf hf=>(by cases hf),?_,?_⟩,?_⟩
   ·rw[Wo.aA Qj];exact ai.upd (Wo.free hl2)
   ·rw[aA Qj.symm,yh];simp
   rintro j m' ys H4 ⟨rfl,hj,vP,ps,row,rfl,hps,hP,ok,s4,tX⟩
   have Wf:ai (Wo t H) (Wo t H4):=s2.trans s4
   by_cases Dh:j<N
   ·refine .inr ⟨(by show j<sg.cps.size;omega),?_⟩
    rintro x H5 ⟨rfl,cy,hcy,rfl⟩
    refine⟨Kp.mG,?_⟩
    have hiN:i*N<=144:=Nat.le_trans (Nat.mul_le_mul (show i<=12 by omega) FG) (by decide)
    refine⟨_,rfl,_,rfl,s,t,ns,_,rfl,hC.off Wf tX (by omega),by omega,λf q H6 LI s6 hqn Jl=>?_⟩
    have w6:=Wo.step s6
    have sL:=s6 _ _ ah
    have nq:q≠t:=pL Jl sL (by intro z;cases z)
    have Vs:Wo t H6 l2=some (.lst (ps.map V.ref)):=w6 _ _ (Wo.in Qj vP)
    refine⟨Wo.sub _ _ Vs,?_,N-(j+1),by omega,rfl,Dh,ah,ps++[q],row++[f],by rw[List.map_append];rfl,by rw[List.length_append,hps];rfl,?_,?_,?_,?_⟩
    ·rw[List.length_map,hps]
     exact Nat.lt_of_lt_of_le (show j<100 by omega) (by decide)
    ·rw[Wo.aA Qj]
     refine GP.Paired.snoc (Paired.qm hP λa b z=>iR.off Vs (z.same w6)) ?_
     exact iR.off Vs (iR.of (Wo.in nq Jl))
    ·intro g hg
     rcases List.mem_append.mp hg with hg|hg
     ·exact ok g hg
     ·rw[List.mem_singleton.mp hg];exact LI
    ·rw[Wo.aA Qj]
     exact ai.at (s4.trans w6) (Wo.free hl2)
    ·rw[aA Qj.symm,sL]
     simp only[Int.natCast_add,Int.natCast_one,Int.add_assoc]
   ·have ej:j=N:=by omega
    refine .inl ⟨(by show sg.cps.size<=j;omega),?_⟩
    have hlo:Wo t H4 l=some (.lst (rs.map V.ref)):=s4 _ _ DF.at_
    refine⟨Wo.sub _ _ hlo,?_,N-(i+1),by omega,rfl,hlt,rs++[l2],rows++[row],by rw[List.map_append];rfl,by rw[List.length_append,hrs];rfl,?_,?_,?_,?_,?_,?_⟩
    ·rw[List.length_map,hrs]
     exact Nat.lt_of_lt_of_le (show i<100 by omega) (by decide)
    ·rw[Wo.aA xu]
     exact DF.snoc s4 (Wo.free hl2) (Wo.in Qj vP) hP
    ·intro r hr
     rcases List.mem_append.mp hr with hr|hr
     ·exact r1 r hr
     ·rw[List.mem_singleton.mp hr,←Paired.len hP,hps,ej]
    ·intro r hr
     rcases List.mem_append.mp hr with hr|hr
     ·exact r2 r hr
     ·rw[List.mem_singleton.mp hr];exact ok
    ·intro r hr
     rcases List.mem_append.mp hr with hr|hr
     ·exact r3 r hr
     ·rw[List.mem_singleton.mp hr];exact ahf
    ·rw[Wo.aA xu]
     exact ai.at Wf (Wo.free hl)
    ·rw[aA xu.symm,tX,Nat.succ_mul,ej]
     simp only[Int.natCast_add,Int.add_assoc]
  ·have ei:i=N:=by omega
   subst ei
   refine .inl ⟨(by show sg.cps.size<=i;omega),?_⟩
   have hii:i*i<=144:=Nat.le_trans (Nat.mul_le_mul FG FG) (by decide)
   have P2:HN K H t l i (k+((i*i:Nat):Int)) H2:=⟨rs,rows,DF,⟨by rw[←DF.len,hrs],r1⟩,r2,r3,s2,yh⟩
   refine⟨_,rfl,_,_,rfl,⟨hz,rfl⟩,((i:Nat):Int),(by rw[hNe];rfl),by omega,by omega,?_⟩
   refine jI (lo:=0) (n:=((i:Int)).toNat) (λa σ H3=>∃v5 v6,σ=[some (.ref s),some (.ref t),some (.str sg),some (.bl b),some (.ref l),v5,v6]/\HN K H t l i (k+((i*i:Nat):Int)) H3) ⟨_,_,rfl,P2⟩ ?_ ?_
   ·rintro a σ H3 ha ⟨v5,v6,rfl,P3⟩
    refine⟨_,rfl,_,rfl,by omega,by omega,?_⟩
    refine jI (lo:=0) (n:=(0+(a:Int)).toNat) (λc σ H4=>∃v6,σ=[some (.ref s),some (.ref t),some (.str sg),some (.bl b),some (.ref l),some (.int (0+(a:Int))),v6]/\HN K H t l i (k+((i*i:Nat):Int)) H4) ⟨_,rfl,P3⟩ ?_ ?_
    ·rintro c σ H4 hc ⟨v6,rfl,rs,rows,LM,sq,ok,nw,s4,tX⟩
     refine⟨_,rfl,_,rfl,?_⟩
     cases b with
     |false=>exact iQ ⟨_,rfl,rs,rows,LM,sq,ok,nw,s4,tX⟩
     |true =>
      refine kB ?_
      have ha':a<rows.length:=by rw[sq.1];omega
      have hc':c<rows.length:=by rw[sq.1];omega
      have ha2:a<rs.length:=by rw[LM.len];exact ha'
      have hc2:c<rs.length:=by rw[LM.len];exact hc'
      obtain⟨Lu,Fw,hPa⟩:=LM.row a _ _ (List.getElem?_eq_getElem ha2) (List.getElem?_eq_getElem ha')
      obtain⟨IQ,Mg,JH⟩:=LM.row c _ _ (List.getElem?_eq_getElem hc2) (List.getElem?_eq_getElem hc')
      have la:=sq.2 rows[a] (List.getElem_mem ha')
      have lc:=sq.2 rows[c] (List.getElem_mem hc')
      have hac:a<IQ.length:=by rw[Paired.len JH,lc];omega
      have hca:c<Lu.length:=by rw[Paired.len hPa,la];omega
      obtain⟨f,ef,hf⟩:=Paired.at JH (List.getElem?_eq_getElem hac)
      have BN:=Wo.sub _ _ LM.at_
      have agU:=Wo.sub _ _ Mg
      have agV:=Wo.sub _ _ Fw
      refine⟨_,rfl,_,rfl,l,_,_,.ref rs[c],rfl,rfl,bf.of BN,(by rw[Int.zero_add];exact aT (by rw[List.getElem?_map,List.getElem?_eq_getElem hc2];rfl)),?_⟩
      refine⟨_,rfl,rs[c],_,_,.ref IQ[a],rfl,rfl,bf.of agU,(by rw[Int.zero_add];exact aT (by rw[List.getElem?_map,List.getElem?_eq_getElem hac];rfl)),?_⟩
      refine⟨_,rfl,_,rfl,l,_,_,.ref rs[a],rfl,rfl,bf.of BN,(by rw[Int.zero_add];exact aT (by rw[List.getElem?_map,List.getElem?_eq_getElem ha2];rfl)),?_⟩
      refine⟨_,rfl,rs[a],_,_,c,rfl,rfl,agV,?_,?_⟩
      ·rw[Int.zero_add]
       unfold Vf
       rw[if_pos (by omega),if_pos (by rw[List.length_map];omega)]
       simp
      have Ft:rs[a]≠t:=Wo.ne Fw
      refine⟨_,rfl,rs,rows.set a (rows[a].set c f),?_,⟨by rw[List.length_set];exact sq.1,λr hr=>?_⟩,λr hr g hg=>?_,nw,?_,?_⟩
      ·rw[Wo.aA Ft]
       exact LM.put (List.getElem?_eq_getElem ha2) (List.getElem?_eq_getElem ha') Fw hPa hf
      ·rcases List.mem_or_eq_of_mem_set hr with hr|hr
       ·exact sq.2 r hr
       ·rw[hr,List.length_set];exact la
      ·rcases List.mem_or_eq_of_mem_set hr with hr|hr
       ·exact ok r hr g hg
       ·rw[hr]at hg
        rcases List.mem_or_eq_of_mem_set hg with hg|hg
        ·exact ok _ (List.getElem_mem ha') g hg
        ·rw[hg];exact ok _ (List.getElem_mem hc') f (List.mem_of_getElem? ef)
      ·rw[Wo.aA Ft]
       exact ai.at s4 (Wo.free (nw _ (List.getElem_mem ha2)))
      ·rw[aA Ft.symm];exact tX
    ·rintro σ H4 ⟨v6,rfl,P4⟩
     exact⟨_,_,rfl,P4⟩
   ·rintro σ H3 ⟨v5,v6,rfl,rs,rows,LM,sq,B0,nw,s2,yh⟩
    have C2:uO K H3 s t ns (k+((i*i:Nat):Int)):=hC.off s2 yh (by omega)
    refine⟨_,rfl,_,rfl,_,rfl,_,rfl,s,t,ns,_,rfl,C2,by omega,λfo o H4 WT s3 hon Js=>?_⟩
    have w3:=Wo.step s3
    have Vm:=s3 _ _ ah
    have C3:uO K H4 s t ns (k+((i*i:Nat):Int)+1):=C2.off w3 Vm (by omega)
    refine⟨_,rfl,_,rfl,s,t,ns,_,rfl,C3,by omega,λfm m H5 WU s4 hmn Mp=>?_⟩
    have w4:=Wo.step s4
    have tX:=s4 _ _ ah
    have Mm:mD K H5 o fo:=iR.of (Wo.sub _ _ (w4 _ _ (Wo.in (pL Js Vm (by intro z;cases z)) Js)))
    have ag6:mD K H5 m fm:=iR.of Mp
    have L4:vI K H5 l rs rows:=((LM.same w3).same w4).same Wo.sub
    have La:ai (Wo t H) (Wo t H5):=(s2.trans w3).trans w4
    intro x dx hx hdx XT
    generalize Co:upd (upd H5 dx (.own x)) x (.ins p.aq dx [])=H6
    have s6:ai H5 H6:=by
     rw[←Co]
     exact(ai.upd hdx).trans (ai.upd (by rw[aA XT.symm];exact hx))
    have C9:H6 x=some (.ins p.aq dx []):=by rw[←Co];exact ah
    refine⟨x,dx,o,m,sg,.lst l,rows,fo,fm,rfl,C9,hsg,h12,(L4.same s6).agB,(by rw[←hNe];exact sq),λr hr f hf=>(B0 r hr f hf).h,Mm.same s6,WT.h,ag6.same s6,WU.h,λH7 P7 f7 LO=>⟨rfl,?_⟩⟩
    have s7:ai H5 H7:=λb u e=>f7 b u (s6 b u e) λz=>by rw[z,hx]at e;cases e
    exact kk x H7 _ (Al rows) (nF fo) (nF fm) (P7.wo (s7 _ _ tX) (LO t (by rw[s6 _ _ tX];exact λz=>nomatch z))) (Wo.back La tX hx) (La.trans (Wo.same s7)) (s7 _ _ tX) (by omega) (by omega)
end
section
variable{P:Program}{w:World}{K:PySem.W.Frag}{mg:Str->Option Value}{base:Heap}
theorem Oi {mT lE:Addr} {lC jL:FuncData} {p:Pm} (T:Txt K mg p w) (gh:Dn K mg "_law_cost" qL ["_law_prices_here","_law_rows_here"] mT lC) (iC:Dn K mg "_law_thing" pA ["_law_prices_here","_law_one","_law_other"] lE jL) (Pf:aH P w K mg base cO 3 lE jL ["_law_prices_here","_law_one","_law_other"] (Q6 K p.aq)):aH P w K mg base cO 4 mT lC ["_law_prices_here","_law_rows_here"] (Rj K p.aq):=by
 refine gh.fn.ok k8 (λvs H Q E h=>?_) (λcdv A outer s H vs Q E hr h=>?_)
 ·obtain⟨x,a,sg,rows,fo,fm,rs,rfl,_⟩:=h
  rfl
 ·obtain⟨x,a,sg,rows,fo,fm,rs,rfl,hP,ha,hS,hl,hO,k⟩:=h
  obtain⟨hne,hw⟩:=cP.mp hl
  have hn:=hS.len
  have hr0:rs[0]? =some (rs.headD ⟨#[]⟩):=by
   cases rs with
   |nil=>exact absurd rfl hne
   |cons r0 t=>rfl
  have Cb:br rs<=1000:=hS.row _ (List.mem_of_getElem? hr0)
  have hat:∀i k,i<rs.length->k<br rs->∃r,rs[i]? =some r/\r.cps.size<=1000/\r.cps.toList[k]? =some (uU rs i k)/\uU rs i k∈(tP sg).cps.toList:=λi k hi hk=>by
   have hm:=List.getElem_mem hi
   have hk':k<rs[i].cps.toList.length:=by rw[Array.length_toList,hw _ hm];exact hk
   have e:uU rs i k=rs[i].cps.toList[k]:=by
    unfold uU
    rw[aO (List.getElem?_eq_getElem hi),aO (List.getElem?_eq_getElem hk')]
   exact⟨rs[i],List.getElem?_eq_getElem hi,hS.row _ hm,by rw[e];exact List.getElem?_eq_getElem hk',by rw[e];exact hO _ hm _ (List.getElem_mem hk')⟩
  obtain⟨g,hg⟩:∃g:Nat->Nat->Nat->Int,g=λk i r=>MY sg rows fo fm (uU rs i k) (uU rs r k):=⟨_,rfl⟩
  obtain⟨R,hR⟩:∃R:Nat->Nat->Int,R=λi j=>if i<j then sm (λk=>g k i j) (br rs)else 0:=⟨_,rfl⟩
  refine⟨_,(aj (aD (i:=2) k8.nd rfl (Or.inl rfl) ak)
   (aj (dR PassesOwn.never rfl (eV rfl T.gT (aa (aC (aK) rfl T.bJ aW (aa (pv 1) af)) af)) (aM (i:=3) k8.nd rfl (Or.inl rfl)) (ao (dR PassesOwn.never rfl (Sn rfl T.gT (aa (aB cY (pv 3) ak) (aa (aC (aK) rfl T.bJ aW (aa (pv 1) af)) af))) (aM (i:=4) k8.nd rfl (Or.inl rfl)) (ao (dR PassesOwn.never rfl (eV rfl T.gT (aa (aC (aK) rfl T.bJ aW (aa (aV bh (pv 1) ak (λ_ _=>rfl)) af)) af)) (aM (i:=5) k8.nd rfl (Or.inl rfl)) (ao (aD (i:=2) k8.nd rfl (Or.inl rfl) (aB cY (pv 2) (az Pf (hr.mono (by decide)) rfl iC.m iC.fn.kp iC.b .nil aQ (aa (pv 0) (aa (aV l9 (aV bh (pv 1) (pv 3) (λ_ _=>rfl)) (pv 5) (λ_ _=>rfl)) (aa (aV l9 (aV bh (pv 1) (pv 4) (λ_ _=>rfl)) (pv 5) (λ_ _=>rfl)) af))))))))))))
   (ao (aS (pv 2))))),?_⟩
  refine⟨_,rfl,_,_,rfl,.inl ⟨_,ha,rfl⟩,((rs.length:Nat):Int),(by rw[List.length_map]),by omega,by omega,?_⟩
  refine jI (lo:=0) (n:=((rs.length:Nat):Int).toNat) (λi σ H2=>∃v3 v4 v5,σ=[some (.ref x),some (.ref a),some (.int (sm (λi=>sm (R i) rs.length) i)),v3,v4,v5]/\ai H H2) ⟨_,_,_,rfl,ai.refl _⟩ ?_ ?_
  ·rintro i σ H2 hi ⟨v3,v4,v5,rfl,s2⟩
   have hi':i<rs.length:=by omega
   refine⟨_,rfl,_,_,rfl,rfl,_,rfl,_,_,rfl,.inl ⟨_,ai.seq s2 ha,rfl⟩,0+(i:Int)+1,((rs.length:Nat):Int),(by rw[List.length_map]),⟨by omega,by omega,by omega,by omega⟩,?_⟩
   refine jI (lo:=0+(i:Int)+1) (n:=(((rs.length:Nat):Int)-(0+(i:Int)+1)).toNat) (λd σ H3=>∃v4 v5,σ=[some (.ref x),some (.ref a),some (.int (sm (λi=>sm (R i) rs.length) i+sm (R i) (i+1+d))),some (.int (0+(i:Int))),v4,v5]/\ai H H3) ⟨v4,v5,?_,s2⟩ ?_ ?_
   ·have e:sm (R i) (i+1+0)=0:=by rw[hR];exact Rm _ _ (Nat.le_refl _)
    rw[e,Int.add_zero]
    rfl
   ·rintro d σ H3 hd ⟨v4,v5,rfl,s3⟩
    have hj:i+1+d<rs.length:=by omega
    refine⟨_,rfl,a,_,_,.str (rs.headD ⟨#[]⟩),rfl,rfl,ai.seq s3 ha,aT (j:=0) (by rw[List.getElem?_map,hr0];rfl),_,_,rfl,⟨Nat.le_trans Cb (by decide),rfl⟩,((br rs:Nat):Int),rfl,by omega,by omega,?_⟩
    refine jI (lo:=0) (n:=((br rs:Nat):Int).toNat) (λq σ H4=>∃v5,σ=[some (.ref x),some (.ref a),some (.int (sm (λi=>sm (R i) rs.length) i+sm (R i) (i+1+d)+sm (λk=>g k i (i+1+d)) q)),some (.int (0+(i:Int))),some (.int (0+(i:Int)+1+(d:Int))),v5]/\ai H H4) ⟨v5,?_,s3⟩ ?_ ?_
    ·show _=[_,_,some (V.int (_+0)),_,_,_]
     rw[Int.add_zero]
     rfl
    ·rintro q σ H4 hq ⟨v5,rfl,s4⟩
     obtain⟨r1,e1,z1,c1,o1⟩:=hat i q hi' (by omega)
     obtain⟨r2,e2,z2,c2,o2⟩:=hat (i+1+d) q hj (by omega)
     have a4:=ai.seq s4 ha
     refine⟨_,rfl,_,rfl,_,rfl,_,rfl,a,_,_,.str r1,rfl,rfl,a4,(by rw[Int.zero_add];exact aT (by rw[List.getElem?_map,e1];rfl)),?_⟩
     refine⟨_,rfl,r1,_,_,rfl,rfl,Nat.le_trans z1 (by decide),(by rw[Int.zero_add];exact aT c1),?_⟩
     refine⟨_,rfl,_,rfl,a,_,_,.str r2,rfl,rfl,a4,(by rw[show 0+(i:Int)+1+(d:Int)=((i+1+d:Nat):Int) by omega];exact aT (by rw[List.getElem?_map,e2];rfl)),?_⟩
     refine⟨_,rfl,r2,_,_,rfl,rfl,Nat.le_trans z2 (by decide),(by rw[Int.zero_add];exact aT c2),?_⟩
     refine⟨x,sg,rows,fo,fm,_,_,rfl,hP.same s4,o1,o2,λH5 s5=>?_⟩
     refine⟨_,_,rfl,rfl,some (.int (0+(q:Int))),?_,s4.trans s5⟩
     have e3:sm (λk=>g k i (i+1+d)) (q+1)=sm (λk=>g k i (i+1+d)) q+MY sg rows fo fm (uU rs i q) (uU rs (i+1+d) q):=by
      show sm (λk=>g k i (i+1+d)) q+g q i (i+1+d)=_
      rw[hg]
     rw[e3,←Int.add_assoc]
     rfl
    ·rintro σ H4 ⟨v5,rfl,s4⟩
     refine⟨some (.int (0+(i:Int)+1+(d:Int))),v5,?_,s4⟩
     have e4:sm (R i) (i+1+d+1)=sm (R i) (i+1+d)+sm (λk=>g k i (i+1+d)) (br rs):=by
      show sm (R i) (i+1+d)+R i (i+1+d)=_
      rw[hR]
      show _+(if i<i+1+d then _ else _)=_
      rw[if_pos (by omega)]
     rw[show i+1+(d+1)=i+1+d+1 by omega,e4,Int.toNat_natCast,←Int.add_assoc]
   ·rintro σ H3 ⟨v4,v5,rfl,s3⟩
    refine⟨some (.int (0+(i:Int))),v4,v5,?_,s3⟩
    rw[show i+1+(((rs.length:Nat):Int)-(0+(i:Int)+1)).toNat=rs.length by omega]
    rfl
  ·rintro σ H2 ⟨v3,v4,v5,rfl,s2⟩
   refine⟨_,rfl,?_⟩
   have z:=k H2 s2
   rw[←V3]at z
   rw[Int.toNat_natCast,hR,hg]
   exact z
end
section
variable{P:Program}{w:World}{K:PySem.W.Frag}{mg:Str->Option Value}{base:Heap}
end
section
variable{P:Program}{w:World}{K:PySem.W.Frag}{mg:Str->Option Value}{base:Heap}
theorem Ad {jW bO:Addr} {iW bD:FuncData} {p:Pm} (T:Txt K mg p w) (gI:Dn K mg "_law_column" oi ["_law_script","_law_at","_law_signs_here","_law_many"] jW iW) (aP:Dn K mg "_law_next" iH ["_law_script","_law_at"] bO bD) (fk:aH P w K mg base cO 1 bO bD ["_law_script","_law_at"] (uh K)):aH P w K mg base cO 2 jW iW ["_law_script","_law_at","_law_signs_here","_law_many"] (Uu K):=by
 refine gI.fn.ok ku (λvs H Q E h=>?_) (λcdv A outer s H vs Q E hr h=>?_)
 ·obtain⟨s,t,ns,k,x,n,rfl,_⟩:=h
  rfl
 ·obtain⟨s,t,ns,k,x,n,rfl,hC,hk,hn0,hn,Jh,hx,hxs,kk⟩:=h
  have k0:=hC.k0
  have hz:x.length<=sizeLine:=Nat.le_trans hx (by decide)
  have pick:∀i:Int,0<=i->∃c,Ti x.cps.toList (i % ((x.cps.size:Nat):Int))=some c/\(dZ c=true/\c∈x.cps.toList):=λi hi=>by
   have i1:=Int.emod_nonneg i (show((x.cps.size:Nat):Int)≠0 by omega)
   have i2:=Int.emod_lt_of_pos i (show(0:Int)<((x.cps.size:Nat):Int) by omega)
   obtain⟨j,hj⟩:∃j:Nat,i % ((x.cps.size:Nat):Int)=(j:Int):=⟨_,(Int.toNat_of_nonneg i1).symm⟩
   have hjl:j<x.cps.toList.length:=by rw[Array.length_toList];omega
   exact⟨x.cps.toList[j],by rw[hj];exact aT (List.getElem?_eq_getElem hjl),⟨hxs _ (List.getElem_mem hjl),List.getElem_mem hjl⟩⟩
  refine⟨_,(aj (aD (i:=4) ku.nd rfl (Or.inl rfl) (gj af))
   (aj (dR PassesOwn.never rfl (eV rfl T.gT (aa (pv 3) af)) (aM (i:=5) ku.nd rfl (Or.inl rfl)) (aj (aD (i:=6) ku.nd rfl (Or.inl rfl) (az fk (hr.mono (by decide)) rfl aP.m aP.fn.kp aP.b .nil aQ (aa (pv 0) (aa (pv 1) af))))
   (ao (cK (aU iP (aB cG (pv 6) ak) ak (bq _)) (ao (fE (rR PySem.F.plainAttrs_list PySem.F.slot_list_append PySem.F.type_list_append jG (pv 4) (aa bH af)))) (ao (fE (rR PySem.F.plainAttrs_list PySem.F.slot_list_append PySem.F.type_list_append jG (pv 4) (aa (aV l9 (pv 2) (aB cG (aB cT (pv 6) ak) (aC (aK) rfl T.bJ aW (aa (pv 2) af))) (λ_ _=>rfl)) af))))))))
   (aj (cK (aU (aab (Nat.lt_of_succ_lt (pM hr))) (pv 4) (aB vX (gj (aa bH af)) (pv 3)) (bq _)) (aj (aD (i:=6) ku.nd rfl (Or.inl rfl) (az fk (hr.mono (by decide)) rfl aP.m aP.fn.kp aP.b .nil aQ (aa (pv 0) (aa (pv 1) af))))
   (ao (GA (aV l9 (pv 2) (aB cG (aB cT (pv 6) (pv 3)) (aC (aK) rfl T.bJ aW (aa (pv 2) af))) (λ_ _=>rfl)) (GG (pv 4) (aB cG (pv 6) (pv 3)) set_list)))) bx)
   (ao (aS (pv 4)))))),?_⟩
  refine⟨by show 0<=sizeLine;decide,λl hl=>?_⟩
  have xu:l≠t:=λz=>by rw[z,hC.at_]at hl;cases hl
  refine⟨_,rfl,n,rfl,by omega,by omega,?_⟩
  rw[show((n:Nat):Int).toNat=n by omega]
  refine jI (lo:=0) (n:=n) (λi σ H2=>∃(cs:List Nat) (v5 v6:Option V),σ=[some (.ref s),some (.ref t),some (.str x),some (.int n),some (.ref l),v5,v6]/\cs.length=i/\(∀c∈cs,GZ x c)/\H2 l=some (.lst (cs.map sg))/\ai (Wo t H) (Wo t H2)/\H2 t=some (.lst [.int (k+(i:Int))])) ⟨[],_,_,rfl,rfl,λc hc=>(by cases hc),ah,by rw[Wo.aA xu];exact ai.upd (Wo.free hl),by rw[aA xu.symm,hC.at_];simp⟩ ?_ ?_
  ·rintro i σ H2 hi ⟨cs,v5,v6,rfl,hcl,hok,hl2,w2,yh⟩
   have C2:uO K H2 s t ns (k+(i:Int)):=hC.off w2 yh (by omega)
   refine⟨_,rfl,_,rfl,s,t,ns,_,rfl,C2,by omega,λm hm hm2=>?_⟩
   have hl3:upd H2 t (.lst [.int (k+(i:Int)+1)]) l=some (.lst (cs.map sg)):=by rw[aA xu];exact hl2
   have w3:ai (Wo t H) (Wo t (upd H2 t (.lst [.int (k+(i:Int)+1)]))):=by rw[Wo.set];exact w2
   have Vm:upd H2 t (.lst [.int (k+(i:Int)+1)]) t=some (.lst [.int (k+(i:Int)+1)]):=ah
   generalize upd H2 t (.lst [.int (k+(i:Int)+1)])=H3 at hl3 w3 Vm ⊢
   have fin:∀c:Nat,GZ x c->∃(cs':List Nat) (v5 v6:Option V),[some (V.ref s),some (.ref t),some (.str x),some (.int n),some (.ref l),some (.int (0+(i:Int))),some (.int m)]=[some (.ref s),some (.ref t),some (.str x),some (.int n),some (.ref l),v5,v6]/\cs'.length=i+1/\(∀c∈cs',GZ x c)/\upd H3 l (.lst (cs.map sg++[sg c])) l=some (.lst (cs'.map sg))/\ai (Wo t H) (Wo t (upd H3 l (.lst (cs.map sg++[sg c]))))/\upd H3 l (.lst (cs.map sg++[sg c])) t=some (.lst [.int (k+((i+1:Nat):Int))]):=λc hc=>by
    refine⟨cs++[c],_,_,rfl,by rw[List.length_append,hcl];rfl,λd hd=>?_,by rw[ah,List.map_append];rfl,?_,?_⟩
    ·rcases List.mem_append.mp hd with hd|hd
     ·exact hok d hd
     ·rw[List.mem_singleton.mp hd];exact hc
    ·rw[Wo.aA xu]
     exact ai.at w3 (Wo.free hl)
    ·rw[aA xu.symm,Vm]
     simp only[Int.natCast_add,Int.natCast_one,Int.add_assoc]
   have hlen:(cs.map sg).length<sizeLine:=by rw[List.length_map,hcl];exact Nat.lt_of_lt_of_le (show i<100 by omega) (by decide)
   refine⟨_,rfl,_,_,rfl,rfl,(by show(0:Int)<3;decide),rfl,_,rfl,?_⟩
   by_cases z:V.int (m % 3)=V.int 0
   ·rw[decide_eq_true z]
    exact kB ⟨_,rfl,.inl ⟨rfl,_,bf.of hl3⟩,l,_,_,rfl,rfl,hl3,hlen,fin 45 GZ.gap⟩
   ·rw[decide_eq_false z]
    obtain⟨c,hc,hs⟩:=pick (m / 3) (Int.ediv_nonneg hm (by decide))
    exact iQ ⟨_,rfl,.inl ⟨rfl,_,bf.of hl3⟩,_,rfl,_,rfl,_,_,rfl,rfl,⟨by decide,by decide⟩,_,rfl,_,_,rfl,⟨hz,rfl⟩,_,_,rfl,rfl,(by show(0:Int)<((x.cps.size:Nat):Int);omega),x,_,c,rfl,rfl,hz,hc,l,_,_,rfl,rfl,hl3,hlen,fin c (.of hs)⟩
  ·rintro σ H2 ⟨cs,v5,v6,rfl,hcl,hok,hl2,w2,yh⟩
   refine⟨_,rfl,by show 1<=sizeLine;decide,λq hq=>?_⟩
   have s3:ai H2 (upd H2 q (.lst [sg 45])):=ai.upd hq
   have Cf:upd H2 q (.lst [sg 45]) q=some (.lst [sg 45]):=ah
   generalize MO:upd H2 q (.lst [sg 45])=H3 at s3 Cf
   have Np:upd H2 q (.lst [V.str (Str.ofString "-")])=H3:=MO
   rw[Np]
   refine⟨_,rfl,q,_,_,rfl,rfl,Cf,by show(-(2 ^ 63):Int)<=(n:Int);omega,by show(n:Int)<2 ^ 63;omega,?_,λq2 hq2=>?_⟩
   ·show 1*((n:Nat):Int).toNat<=sizeLine
    exact Nat.le_trans (show _<=100 by omega) (by decide)
   rw[rN,show((n:Nat):Int).toNat=n by omega]
   have s4:ai H3 (upd H3 q2 (.lst (List.replicate n (sg 45)))):=ai.upd hq2
   have Jm:upd H3 q2 (.lst (List.replicate n (sg 45))) q2=some (.lst (List.replicate n (sg 45))):=ah
   generalize upd H3 q2 (.lst (List.replicate n (sg 45)))=H4 at s4 Jm ⊢
   have Fl:=s3.trans s4
   have vP:=Fl _ _ hl2
   have tX:=Fl _ _ yh
   have w4:ai (Wo t H) (Wo t H4):=w2.trans (Wo.same Fl)
   have fr:(List.replicate n (sg 45)).all nX=true:=List.all_eq_true.mpr λy hy=>by rw[List.eq_of_mem_replicate hy];rfl
   refine⟨l,q2,_,_,rfl,rfl,bf.of vP,bf.of Jm,by rw[List.length_map,List.length_replicate,hcl],by rw[Rn];exact wz,fr,_,rfl,?_⟩
   cases z:kZ (cs.map sg) (List.replicate n (sg 45))with
   |false =>
    refine iQ ⟨_,rfl,kk l cs (k+(n:Int)) H4 hcl hok (WX hcl z) vP hl w4 tX (by omega) (by omega)⟩
   |true =>
    have C4:uO K H4 s t ns (k+(n:Int)):=hC.off w4 tX (by omega)
    refine kB ⟨_,rfl,_,rfl,s,t,ns,_,rfl,C4,by omega,λm hm hm2=>?_⟩
    have Qw:upd H4 t (.lst [.int (k+(n:Int)+1)]) l=some (.lst (cs.map sg)):=by rw[aA xu];exact vP
    have w5:ai (Wo t H) (Wo t (upd H4 t (.lst [.int (k+(n:Int)+1)]))):=by rw[Wo.set];exact w4
    have Vl:upd H4 t (.lst [.int (k+(n:Int)+1)]) t=some (.lst [.int (k+(n:Int)+1)]):=ah
    generalize upd H4 t (.lst [.int (k+(n:Int)+1)])=H5 at Qw w5 Vl ⊢
    obtain⟨c,hc,hs⟩:=pick (m / (n:Int)) (Int.ediv_nonneg hm (by omega))
    have i1:=Int.emod_nonneg m (show(n:Int)≠0 by omega)
    have i2:=Int.emod_lt_of_pos m (show(0:Int)<(n:Int) by omega)
    obtain⟨j,hj⟩:∃j:Nat,m % (n:Int)=(j:Int):=⟨_,(Int.toNat_of_nonneg i1).symm⟩
    have hjl:j<cs.length:=by omega
    refine⟨_,rfl,_,rfl,_,rfl,_,_,rfl,rfl,?_,_,rfl,_,_,rfl,⟨hz,rfl⟩,_,_,rfl,rfl,(by show(0:Int)<((x.cps.size:Nat):Int);omega),x,_,c,rfl,rfl,hz,hc,_,rfl,_,rfl,_,rfl,_,_,rfl,rfl,(by show(0:Int)<(n:Int);omega),l,_,_,j,rfl,rfl,Qw,?_,?_⟩
    ·exact⟨by omega,by omega⟩
    ·rw[hj,List.length_map]
     show(if(0:Int)<=(j:Int)then(if(j:Int)<(cs.length:Int)then some (j:Int).toNat else none)else _)=some j
     rw[if_pos (by omega),if_pos (by omega),Int.toNat_natCast]
    ·have e:(cs.map sg).set j (sg c)=(cs.set j c).map sg:=by rw[List.map_set]
     rw[e]
     refine⟨_,rfl,kk l (cs.set j c) (k+(n:Int)+1) _ (by rw[List.length_set];exact hcl) (λd hd=>?_) ⟨c,List.mem_set hjl c,Gq hs.1⟩ ah hl ?_ ?_ (by omega) (by omega)⟩
     ·rcases List.mem_or_eq_of_mem_set hd with hd|hd
      ·exact hok d hd
      ·rw[hd];exact .of hs
     ·rw[Wo.aA xu]
      exact ai.at w5 (Wo.free hl)
     ·rw[aA xu.symm]
      exact Vl
theorem Oe {mR jW:Addr} {lz iW:FuncData} {p:Pm} (T:Txt K mg p w) (gg:Dn K mg "_law_rows" qJ ["_law_script","_law_at","_law_signs_here","_law_many","_law_columns"] mR lz) (gI:Dn K mg "_law_column" oi ["_law_script","_law_at","_law_signs_here","_law_many"] jW iW) (HU:aH P w K mg base cO 2 jW iW ["_law_script","_law_at","_law_signs_here","_law_many"] (Uu K)):aH P w K mg base cO 3 mR lz ["_law_script","_law_at","_law_signs_here","_law_many","_law_columns"] (Q7 K):=by
 refine gg.fn.ok nJ (λvs H Q E h=>?_) (λcdv A outer s H vs Q E hr h=>?_)
 ·obtain⟨s,t,ns,k,x,n,m,rfl,_⟩:=h
  rfl
 ·obtain⟨s,t,ns,k,x,n,m,rfl,hC,hk,hn0,hn,hm,Jh,hx,hxs,kk⟩:=h
  have k0:=hC.k0
  refine⟨_,(aj (aD (i:=5) nJ.nd rfl (Or.inr rfl) (aB vX (gj (aa bH af)) (pv 3)))
   (aj (dR PassesOwn.never rfl (eV rfl T.gT (aa (pv 4) af)) (aM (i:=6) nJ.nd rfl (Or.inl rfl)) (aj (aD (i:=7) nJ.nd rfl (Or.inr rfl) (az HU (hr.mono (by decide)) rfl gI.m gI.fn.kp gI.b .nil aQ (aa (pv 0) (aa (pv 1) (aa (pv 2) (aa (pv 3) af))))))
   (ao (aD (i:=5) nJ.nd rfl (Or.inr rfl) (dw (N:=["_law_r","_law_rows_here","_law_column_here"]) rfl (bI.jx (nt:=1) (ix:=[5,7]) rfl (by decide +kernel) (by decide +kernel) (by kernel_rfl) rfl (by kernel_rfl)) (eV rfl T.gT (aa (pv 3) af)) (λ_ _ _ _ _ _ _=>(aM (i:=0) (show(["_law_r","_law_rows_here","_law_column_here"]:List Str).Nodup by decide +kernel) rfl (Or.inl rfl))) (λ_ _ _ _ _ _ _=>(aB cH (aV (qp (K':=K) rfl) (pv 1) (pv 0) (λ_ _=>rfl)) (aV (qp (K':=K) rfl) (pv 2) (pv 0) (λ_ _=>rfl)))))))))
   (ao (aS (pv 5))))),?_⟩
  refine⟨by show 1<=sizeLine;decide,λq hq=>?_⟩
  have s1:ai H (upd H q (.lst [.str ⟨#[]⟩])):=ai.upd hq
  have hq1:upd H q (.lst [.str ⟨#[]⟩]) q=some (.lst [.str ⟨#[]⟩]):=ah
  generalize MP:upd H q (.lst [.str ⟨#[]⟩])=H1 at s1 hq1
  have Nn:upd H q (.lst [V.str (Str.ofString "")])=H1:=MP
  rw[Nn]
  refine⟨_,rfl,q,_,_,rfl,rfl,hq1,by show(-(2 ^ 63):Int)<=(n:Int);omega,by show(n:Int)<2 ^ 63;omega,?_,λl0 S0=>?_⟩
  ·show 1*((n:Nat):Int).toNat<=sizeLine
   exact Nat.le_trans (show _<=100 by omega) (by decide)
  rw[rN,show((n:Nat):Int).toNat=n by omega]
  have s2:ai H1 (upd H1 l0 (.lst (List.replicate n (.str ⟨#[]⟩)))):=ai.upd S0
  have hl2:upd H1 l0 (.lst (List.replicate n (.str ⟨#[]⟩))) l0=some (.lst (List.replicate n (.str ⟨#[]⟩))):=ah
  generalize upd H1 l0 (.lst (List.replicate n (.str ⟨#[]⟩)))=H2 at s2 hl2 ⊢
  have BJ:=s1.trans s2
  refine⟨_,rfl,m,rfl,by omega,by omega,?_⟩
  rw[show((m:Nat):Int).toNat=m by omega]
  have r0:mU (List.replicate n (⟨#[]⟩:Str)) n 0:=⟨List.length_replicate,λr hr=>(by rw[List.eq_of_mem_replicate hr];rfl),λr hr c hc=>(by rw[List.eq_of_mem_replicate hr]at hc;cases hc),λj hj=>(by omega)⟩
  refine jI (lo:=0) (n:=m) (λi σ H3=>∃(l:Addr) (rs:List Str) (k':Int) (v6 v7:Option V),σ=[some (.ref s),some (.ref t),some (.str x),some (.int n),some (.int m),some (.ref l),v6,v7]/\mU rs n i/\(∀r∈rs,Of (tP x) r)/\H3 l=some (.lst (rs.map V.str))/\H l=none/\ai (Wo t H) (Wo t H3)/\H3 t=some (.lst [.int k'])/\k<=k'/\k'<=k+20*(i:Int)) ⟨l0,_,k,_,_,rfl,r0,(λr hr c hc=>(by rw[List.eq_of_mem_replicate hr]at hc;cases hc)),by rw[hl2,List.map_replicate],s1.free S0,Wo.same BJ,BJ _ _ hC.at_,by omega,by omega⟩ ?_ ?_
  ·rintro i σ H3 hi ⟨l,rs,k',v6,v7,rfl,hR,hO,hl3,Wk,w3,Vm,kb1,kb2⟩
   have C3:uO K H3 s t ns k':=hC.off w3 Vm (by omega)
   refine⟨_,rfl,_,rfl,_,rfl,_,rfl,s,t,ns,k',x,n,rfl,C3,by omega,hn0,hn,Jh,hx,hxs,λlc cs k2 H4 hcl hok hg FA akC w4 tX kb3 kb4=>?_⟩
   have xu:l≠t:=λz=>by rw[z,hC.at_]at Wk;cases Wk
   have vP:H4 l=some (.lst (rs.map V.str)):=Wo.sub _ _ (w4 _ _ (Wo.in xu hl3))
   refine⟨_,rfl,n,rfl,by omega,by omega,λl2 KH=>?_⟩
   refine gb n (λr=>V.str (rs.getD r ⟨#[]⟩++⟨#[cs.getD r 0]⟩)) KH (Nat.lt_of_le_of_lt hn (by decide)) (λr H5 s5 hr=>?_) (λH5 s5=>?_) (λr y H5 H6 R s5 hr hy hRR=>?_) λH5 s5 Qw=>?_
   ·show r<((n:Nat):Int).toNat
    omega
   ·show((n:Nat):Int).toNat<=n
    omega
   ·obtain⟨rfl,rfl⟩:=hy
    have h1:r<rs.length:=by rw[hR.len];exact hr
    have h2:r<cs.length:=by rw[hcl];exact hr
    have e1:=List.getElem?_eq_getElem h1
    have e2:=List.getElem?_eq_getElem h2
    refine⟨Kp.mG,?_⟩
    refine⟨_,rfl,_,rfl,l,_,_,.str rs[r],rfl,rfl,bf.of (s5 _ _ vP),?_,_,rfl,_,rfl,lc,_,_,sg cs[r],rfl,rfl,bf.of (s5 _ _ FA),?_,_,_,rfl,rfl,?_,?_⟩
    ·rw[Int.zero_add];exact aT (by rw[List.getElem?_map,e1];rfl)
    ·rw[Int.zero_add];exact aT (by rw[List.getElem?_map,e2];rfl)
    ·show rs[r].cps.size+1<=sizeLine
     rw[hR.br _ (List.getElem_mem h1)]
     exact Nat.le_trans (show i+1<=100 by omega) (by decide)
    ·rw[aO e1,aO e2]at hRR
     exact hRR _ (ai.refl _)
   ·refine⟨l2,grown rs cs n,k2,_,_,rfl,hR.next hcl (λc hc=>(hok c hc).1) hg,Vz hR.len hcl hO (λc hc=>(hok c hc).2),?_,?_,(w3.trans w4).trans (Wo.same s5),s5 _ _ tX,by omega,by omega⟩
    ·rw[Qw]
     unfold grown
     rw[List.map_map]
     rfl
    ·exact Wo.back (w3.trans w4) tX KH
  ·rintro σ H3 ⟨l,rs,k',v6,v7,rfl,hR,hO,hl3,Wk,w3,Vm,kb1,kb2⟩
   exact⟨_,rfl,kk l rs k' H3 hR hO hl3 Wk w3 Vm kb1 (by omega)⟩
end
section
variable{P:Program}{w:World}{K:PySem.W.Frag}{mg:Str->Option Value}{base:Heap}
theorem xT {iy fj dN:Addr} {gv dM cW:FuncData} {p:Pm} (T:Txt K mg p w) (eO:Dn K mg "cost_by_gaps" lW ["prices","column","many"] iy gv) (bP:Dn K mg "signs_of" mH ["things"] fj dM) (mY:aH P w K mg base cO 1 fj dM ["things"] sN) (bS:Dn K mg "more_cost" lu ["prices"] dN cW) (nR:aH P w K mg base cO 2 dN cW ["prices"] (Gk K p.aq)):aH P w K mg base cO 3 iy gv ["prices","column","many"] (Ur K p.aq):=by
 refine eO.fn.ok xM (λvs H Q E h=>?_) (λcdv A outer s H vs Q E hr h=>?_)
 ·obtain⟨x,sg,rows,fo,fm,c,n,rfl,_⟩:=h
  rfl
 ·obtain⟨x,sg,rows,fo,fm,c,n,rfl,hP,hc,hn,k⟩:=h
  have hl:(tF c.cps.toList).length<=1000:=Nat.le_trans (List.length_filter_le _ _) (by rw[Array.length_toList];exact hc)
  have e:(gR 45 c).length=(tF c.cps.toList).length:=rfl
  refine⟨_,(ao (aS (aB oW (aB oW (aC (aK) rfl T.bJ aW (aa (az mY (hr.mono (by decide)) rfl bP.m bP.fn.kp bP.b .nil aQ (aa (pv 1) af)) af)) (pv 2)) (az nR (hr.mono (by decide)) rfl bS.m bS.fn.kp bS.b .nil aQ (aa (pv 0) af))))),?_⟩
  refine⟨_,rfl,c,rfl,hc,_,_,rfl,⟨Nat.le_trans (show(gR 45 c).length<=1000 from hl) (by decide),rfl⟩,_,rfl,_,_,rfl,rfl,.inl (by rw[e];omega),_,rfl,x,sg,rows,fo,fm,rfl,hP,_,_,rfl,rfl,.inl ?_,k⟩
  have h1:(0:Int)<=(((gR 45 c).length:Nat):Int)*(n:Int):=Int.mul_nonneg (by omega) (by omega)
  have h2:(((gR 45 c).length:Nat):Int)*(n:Int)<=1000*1000:=Int.mul_le_mul (by rw[e];omega) (by omega) (by omega) (by omega)
  omega
theorem wc {gz iy:Addr} {fS gv:FuncData} {p:Pm} (T:Txt K mg p w) (cg:Dn K mg "costs_by_gaps" kH ["prices","columns","many"] gz fS) (eO:Dn K mg "cost_by_gaps" lW ["prices","column","many"] iy gv) (zW:aH P w K mg base cO 3 iy gv ["prices","column","many"] (Ur K p.aq)):aH P w K mg base cO 4 gz fS ["prices","columns","many"] (Rg K p.aq):=by
 refine cg.fn.ok vV (λvs H Q E h=>?_) (λcdv A outer s H vs Q E hr h=>?_)
 ·obtain⟨x,l,sg,rows,fo,fm,cs,n,rfl,_⟩:=h
  rfl
 ·obtain⟨x,l,sg,rows,fo,fm,cs,n,rfl,hP,hl,hc,hs,hn,k⟩:=h
  refine⟨_,(ao (aS (dw (N:=["column","prices","many"]) rfl (bI.jx (nt:=1) (ix:=[0,2]) rfl (by decide +kernel) (by decide +kernel) (by kernel_rfl) rfl (by kernel_rfl)) (eX (pv 1)) (λ_ _ _ _ _ _ _=>(aM (i:=0) (show(["column","prices","many"]:List Str).Nodup by decide +kernel) rfl (Or.inl rfl))) (λ_ _ _ _ _ _ _=>(az zW (hr.mono (by decide)) rfl eO.m eO.fn.kp eO.b .nil aQ (aa (pv 1) (aa (pv 0) (aa (pv 2) af)))))))),?_⟩
  refine⟨_,rfl,l,rfl,⟨_,bf.of hl⟩,λl' hl'=>?_⟩
  refine gb cs.length (λj=>V.int (VA (qa rows fo fm) (cs.getD j ⟨#[]⟩) n)) hl' (Nat.lt_of_le_of_lt hc (by decide)) (λj H4 s4 hj=>?_) (λH4 s4=>?_) (λj y H4 H5 R s4 hj hy hR=>?_) λH4 s4 vP=>?_
  ·exact⟨_,_,bf.of (s4 _ _ hl),by rw[List.getElem?_map,List.getElem?_eq_getElem hj];rfl⟩
  ·exact⟨_,bf.of (s4 _ _ hl),by rw[List.length_map];exact Nat.le_refl _⟩
  ·obtain⟨rfl,hy⟩:=hy
   have ey:=hy _ (bf.of (s4 _ _ hl))
   rw[List.getElem?_map,List.getElem?_eq_getElem hj]at ey
   cases ey
   refine⟨Kp.mG,?_⟩
   refine⟨_,rfl,_,rfl,_,rfl,x,sg,rows,fo,fm,cs[j],n,rfl,hP.same s4,hs _ (List.getElem_mem hj),hn,?_⟩
   have z:=hR _ (ai.refl _)
   rw[aO (List.getElem?_eq_getElem hj)]at z
   exact z
  ·exact k l' H4 s4 hl' (by rw[vP,b9 cs (λc=>V.int (VA (qa rows fo fm) c n))])
theorem yM {i7 gD dN:Addr} {gZ fF cW:FuncData} {p:Pm} (T:Txt K mg p w) (fJ:Dn K mg "sign_extras" m8 ["prices","signs"] i7 gZ) (c8:Dn K mg "pair_cost" nK ["prices","one","other"] gD fF) (sH:aH P w K mg base cO 1 gD fF ["prices","one","other"] (ug K p.aq)) (bS:Dn K mg "more_cost" lu ["prices"] dN cW) (nR:aH P w K mg base cO 2 dN cW ["prices"] (Gk K p.aq)):aH P w K mg base cO 3 i7 gZ ["prices","signs"] (Ul K p.aq):=by
 refine fJ.fn.ok oR (λvs H Q E h=>?_) (λcdv A outer s H vs Q E hr h=>?_)
 ·obtain⟨x,sg,rows,fo,fm,S,rfl,_⟩:=h
  rfl
 ·obtain⟨x,sg,rows,fo,fm,S,rfl,hP,hO,hS,k⟩:=h
  obtain⟨sig,Fg,_,_,_,_,_,dx,Pp,o,m,d,kvs,h1,h2,h3,h4,h5,h6⟩:=id hP
  refine⟨_,(aj (aD (i:=2) oR.nd rfl (Or.inl rfl) N8)
   (aj (dR PassesOwn.never rfl (rQ (bG (pv 0) rfl)) (aM (i:=3) oR.nd rfl (Or.inr rfl)) (ao (Gz (pM hr) (pv 2) (pv 3) (aC (Bj (K':=K) rfl rfl) rfl T.XF V1 (aa (dw (N:=["one","prices","other"]) rfl (bI.jx (nt:=1) (ix:=[0,3]) rfl (by decide +kernel) (by decide +kernel) (by kernel_rfl) rfl (by kernel_rfl)) (rQ (pv 1)) (λ_ _ _ _ _ _ _=>(aM (i:=0) (show(["one","prices","other"]:List Str).Nodup by decide +kernel) rfl (Or.inl rfl))) (λ_ _ _ _ _ _ _=>(aB nU (az sH (hr.mono (by decide)) rfl c8.m c8.fn.kp c8.b .nil aQ (aa (pv 1) (aa (pv 0) (aa (pv 2) af)))) (aB oW ak (az nR (hr.mono (by decide)) rfl bS.m bS.fn.kp bS.b .nil aQ (aa (pv 1) af)))))) af)) rfl)))
   (ao (aS (pv 2))))),?_⟩
  refine λq hq=>?_
  have s0:ai H (upd H q (.dK [])):=ai.upd hq
  refine⟨_,rfl,x,_,_,_,_,rfl,s0 _ _ h1,T.bQ,T.l6,zo,_,rfl,?_⟩
  refine RK (x:=sg) (λi σ H2=>∃(v3:Option V) (kv:List (Key×V)),σ=[some (.ref x),some (.str S),some (.ref q),v3]/\ai H H2/\H2 q=some (.dK kv)/\kv.length<=i/\∀j o,j<i->sg.cps.toList[j]? =some o->jl kv (.inr ⟨#[o]⟩)=some (.int (jB (λs=>rT sg rows (aY fo.2 fm.2 rows) s o-2*qa rows fo fm) S.cps.toList))) ⟨_,[],rfl,s0,ah,Nat.le_refl _,λj o hj=>absurd hj (Nat.not_lt_zero _)⟩ ?_ ?_
  ·rintro i c σ H2 hc ⟨v3,kv,rfl,s2,hd,Vv,hkv⟩
   have Mx:=Hq hc
   have hi:=VU hc
   refine⟨_,rfl,_,rfl,λl hl=>?_⟩
   refine gb S.cps.size (λj=>V.int (rT sg rows (aY fo.2 fm.2 rows) (S.cps.toList.getD j 0) c-2*qa rows fo fm)) hl (Nat.lt_of_le_of_lt hS (by decide)) (λj H4 s4 hj=>hj) (λH4 s4=>Nat.le_refl _) (λj y H4 H5 R s4 hj hy hR=>?_) λH4 s4 vP=>?_
   ·obtain⟨rfl,e,he,rfl⟩:=hy
    obtain⟨i',j',f,k1,k2,k3,k4⟩:=UT (u:=aY fo.2 fm.2 rows) Fg (hO _ (Hq he)) Mx
    refine⟨Kp.mG,?_⟩
    refine⟨_,rfl,_,rfl,_,rfl,x,sg,rows,fo,fm,i',j',e,c,f,rfl,hP.same (s2.trans s4),k1,k2,k3,λH6 s6=>?_⟩
    refine⟨_,rfl,x,sg,rows,fo,fm,rfl,hP.same ((s2.trans s4).trans s6),_,_,rfl,rfl,.inl (by omega),_,_,rfl,rfl,?_⟩
    have z:=hR H6 s6
    rw[aO (sr he),k4]at z
    exact z
   ·have e1:(List.range S.cps.size).map (λj=>V.int (rT sg rows (aY fo.2 fm.2 rows) (S.cps.toList.getD j 0) c-2*qa rows fo fm))=(S.cps.toList.map λs=>rT sg rows (aY fo.2 fm.2 rows) s c-2*qa rows fo fm).map V.int:=by
     rw[List.map_map,←Array.length_toList]
     exact b9 (d:=0) S.cps.toList λs=>V.int (rT sg rows (aY fo.2 fm.2 rows) s c-2*qa rows fo fm)
    refine⟨l,_,rfl,bf.of (by rw[vP,e1]),_,rfl,_,rfl,q,_,rfl,Ia.k (k:=.inr ⟨#[c]⟩) (s4 _ _ hd) ?_,?_⟩
    ·exact Nat.lt_of_le_of_lt (show kv.length<=1000 by have:=sig.2.1;omega) (by decide)
    ·refine⟨_,_,rfl,ai.at (s2.trans s4) hq,ah,?_,λj o hj ho=>?_⟩
     ·have:=nN kv (.inr ⟨#[c]⟩:Key) (V.int (jB (λs=>rT sg rows (aY fo.2 fm.2 rows) s c-2*qa rows fo fm) S.cps.toList))
      exact Nat.le_trans this (Nat.succ_le_succ Vv)
     ·rw[uS]
      by_cases z:o=c
      ·rw[if_pos (by rw[z]),z];rfl
      ·rw[if_neg (λy=>z (by injection y with y;injection y with y;simpa using y))]
       refine hkv j o ?_ ho
       have:j≠i:=λy=>by
        rw[y,sr hc]at ho
        exact z (Option.some.inj ho).symm
       omega
  ·rintro σ H2 ⟨v3,kv,rfl,s2,hd,Vv,hkv⟩
   refine⟨_,rfl,k q H2 kv s2 hq hd λo ho=>?_⟩
   obtain⟨j,hj,e⟩:=List.getElem_of_mem ho
   exact hkv j o (by simpa using hj) (by rw[List.getElem?_eq_getElem hj,e])
end
section
variable{P:Program}{w:World}{K:PySem.W.Frag}{mg:Str->Option Value}{base:Heap}
theorem vZ {gy i7:Addr} {fR gZ:FuncData} {p:Pm} (T:Txt K mg p w) (dP:Dn K mg "extras_beside" kG ["prices","signs","others"] gy fR) (fJ:Dn K mg "sign_extras" m8 ["prices","signs"] i7 gZ) (AD:aH P w K mg base cO 3 i7 gZ ["prices","signs"] (Ul K p.aq)):aH P w K mg base cO 4 gy fR ["prices","signs","others"] (XO K p.aq):=by
 refine dP.fn.ok qf (λvs H Q E h=>?_) (λcdv A outer s H vs Q E hr h=>?_)
 ·obtain⟨x,l,sg,rows,fo,fm,S,os,rfl,_⟩:=h
  rfl
 ·obtain⟨x,l,sg,rows,fo,fm,S,os,rfl,hP,hO,hS,hl,hn,hos,k⟩:=h
  refine⟨_,(aj (aD (i:=3) qf.nd rfl (Or.inr rfl) (az AD (hr.mono (by decide)) rfl fJ.m fJ.fn.kp fJ.b .nil aQ (aa (pv 0) (aa (pv 1) af))))
   (ao (aS (dw (N:=["other","extras"]) rfl (bI.jx (nt:=1) (ix:=[3]) rfl (by decide +kernel) (by decide +kernel) (by kernel_rfl) rfl (by kernel_rfl)) (eX (pv 2)) (λ_ _ _ _ _ _ _=>(aM (i:=0) (show(["other","extras"]:List Str).Nodup by decide +kernel) rfl (Or.inl rfl))) (λ_ _ _ _ _ _ _=>(aC (Bj (K':=K) rfl rfl) rfl T.XF V1 (aa (dw (N:=["sign","extras"]) rfl (bI.jx (nt:=1) (ix:=[1]) rfl (by decide +kernel) (by decide +kernel) (by kernel_rfl) rfl (by kernel_rfl)) (rQ (pv 0)) (λ_ _ _ _ _ _ _=>(aM (i:=0) (show(["sign","extras"]:List Str).Nodup by decide +kernel) rfl (Or.inl rfl))) (λ_ _ _ _ _ _ _=>(GH (pM hr) (pv 1) (pv 0) (λ_ _=>rfl)))) af))))))),?_⟩
  refine⟨_,rfl,_,rfl,x,sg,rows,fo,fm,S,rfl,hP,hO,hS,λd H1 kvs s1 hd FE hkv=>?_⟩
  have hl1:=s1 _ _ hl
  refine⟨_,rfl,l,rfl,⟨_,bf.of hl1⟩,λl' hl'=>?_⟩
  refine gb os.length (λj=>V.int (RM (rT sg rows (aY fo.2 fm.2 rows)) (qa rows fo fm) S.cps.toList (os.getD j ⟨#[]⟩).cps.toList)) hl' (Nat.lt_of_le_of_lt hn (by decide)) (λj H4 s4 hj=>?_) (λH4 s4=>?_) (λj y H4 H5 R s4 hj hy hR=>?_) λH4 s4 vP=>?_
  ·exact⟨_,_,bf.of (s4 _ _ hl1),by rw[List.getElem?_map,List.getElem?_eq_getElem hj];rfl⟩
  ·exact⟨_,bf.of (s4 _ _ hl1),by rw[List.length_map];exact Nat.le_refl _⟩
  ·obtain⟨rfl,hy⟩:=hy
   have ey:=hy _ (bf.of (s4 _ _ hl1))
   rw[List.getElem?_map,List.getElem?_eq_getElem hj]at ey
   cases ey
   rw[aO (List.getElem?_eq_getElem hj)]at hR
   obtain⟨ho,Jr⟩:=hos _ (List.getElem_mem hj)
   generalize os[j]=o at ho Jr hR
   refine⟨Kp.mG,?_⟩
   refine⟨_,rfl,_,rfl,λl2 hl2=>?_⟩
   refine gb o.cps.size (λi=>V.int (jB (λs=>rT sg rows (aY fo.2 fm.2 rows) s (o.cps.toList.getD i 0)-2*qa rows fo fm) S.cps.toList)) hl2 (Nat.lt_of_le_of_lt Jr (by decide)) (λi H6 s6 hi=>hi) (λH6 s6=>Nat.le_refl _) (λi y H6 H7 R2 s6 hi hy tY=>?_) λH6 s6 Vs=>?_
   ·obtain⟨rfl,c,hc,rfl⟩:=hy
    refine⟨Kp.mG,?_⟩
    refine⟨_,rfl,_,rfl,d,_,rfl,?_,tY _ (ai.refl _)⟩
    rw[aO (sr hc),←hkv c (ho c (Hq hc))]
    exact wU.k (k:=.inr ⟨#[c]⟩) ((s4.trans s6) _ _ FE)
   ·have e1:(List.range o.cps.size).map (λi=>V.int (jB (λs=>rT sg rows (aY fo.2 fm.2 rows) s (o.cps.toList.getD i 0)-2*qa rows fo fm) S.cps.toList))=(o.cps.toList.map λc=>jB (λs=>rT sg rows (aY fo.2 fm.2 rows) s c-2*qa rows fo fm) S.cps.toList).map V.int:=by
     rw[List.map_map,←Array.length_toList]
     exact b9 (d:=0) o.cps.toList λc=>V.int (jB (λs=>rT sg rows (aY fo.2 fm.2 rows) s c-2*qa rows fo fm) S.cps.toList)
    exact⟨l2,_,rfl,bf.of (by rw[Vs,e1]),hR _ s6⟩
  ·exact k l' H4 (s1.trans s4) (ai.free s1 hl') (by rw[vP,b9 os (λo=>V.int (RM (rT sg rows (aY fo.2 fm.2 rows)) (qa rows fo fm) S.cps.toList o.cps.toList))])
theorem Aj {kc gy:Addr} {i6 fR:FuncData} {p:Pm} (T:Txt K mg p w) (gP:Dn K mg "all_extras" oA ["prices","ones","others"] kc i6) (dP:Dn K mg "extras_beside" kG ["prices","signs","others"] gy fR) (ya:aH P w K mg base cO 4 gy fR ["prices","signs","others"] (XO K p.aq)):aH P w K mg base cO 5 kc i6 ["prices","ones","others"] (XQ K p.aq):=by
 refine gP.fn.ok pW (λvs H Q E h=>?_) (λcdv A outer s H vs Q E hr h=>?_)
 ·obtain⟨x,l1,l2,sg,rows,fo,fm,ss,os,rfl,_⟩:=h
  rfl
 ·obtain⟨x,l1,l2,sg,rows,fo,fm,ss,os,rfl,hP,h1,hn1,hss,h2,hn2,hos,k⟩:=h
  refine⟨_,(aj (aD (i:=3) pW.nd rfl (Or.inr rfl) N8)
   (aj (dR PassesOwn.never rfl (eX (pv 1)) (aM (i:=4) pW.nd rfl (Or.inl rfl)) (ao (cK (aU (Qc (pM hr)) (pv 4) (pv 3) (by with_unfolding_all rfl)) (ao (Gz (pM hr) (pv 3) (pv 4) (az ya (hr.mono (by decide)) rfl dP.m dP.fn.kp dP.b .nil aQ (aa (pv 0) (aa (pv 4) (aa (pv 2) af)))) rfl)) bx)))
   (ao (aS (dw (N:=["signs","known"]) rfl (bI.jx (nt:=1) (ix:=[3]) rfl (by decide +kernel) (by decide +kernel) (by kernel_rfl) rfl (by kernel_rfl)) (eX (pv 1)) (λ_ _ _ _ _ _ _=>(aM (i:=0) (show(["signs","known"]:List Str).Nodup by decide +kernel) rfl (Or.inl rfl))) (λ_ _ _ _ _ _ _=>(GH (pM hr) (pv 1) (pv 0) (λ_ _=>rfl)))))))),?_⟩
  refine λq hq=>?_
  have s0:ai H (upd H q (.dK [])):=ai.upd hq
  refine⟨_,rfl,l1,rfl,⟨_,bf.of (s0 _ _ h1)⟩,?_⟩
  refine qv (K:=K) (a:=l1) (xs:=ss.map V.str) (λi σ H2=>∃(v4:Option V) (kv:List (Key×V)),σ=[some (.ref x),some (.ref l1),some (.ref l2),some (.ref q),v4]/\ai H H2/\H2 q=some (.dK kv)/\kv.length<=i/\(∀j s,j<i->ss[j]? =some s->(jl kv (.inr s)).isSome=true) ∧
   ∀s v,jl kv (.inr s)=some v->∃r,v= .ref r/\H2 r=some (.lst (os.map λo=>V.int (RM (rT sg rows (aY fo.2 fm.2 rows)) (qa rows fo fm) s.cps.toList o.cps.toList)))) ⟨_,[],rfl,s0,ah,Nat.le_refl _,λj s hj=>absurd hj (Nat.not_lt_zero _),λs v z=>by cases z⟩ (λi σ H2 _ hh=>?_) ?_ ?_
  ·obtain⟨_,_,_,s2,_⟩:=hh
   exact bf.of (s2 _ _ h1)
  ·rintro i y σ H2 hy ⟨v4,kv,rfl,s2,hd,Vv,hks,hkv⟩
   obtain⟨z,hz,rfl⟩:=qR hy
   have hi:i<ss.length:=(List.getElem?_eq_some_iff.mp hz).1
   refine⟨_,rfl,_,rfl,q,_,rfl,wU.k (k:=.inr z) hd,_,rfl,?_⟩
   cases hv:jl kv (.inr z)with
   |some v =>
    refine iQ ⟨_,_,rfl,s2,hd,by omega,λj s hj hs=>?_,hkv⟩
    by_cases e:j=i
    ·subst e
     rw[hz]at hs
     cases hs
     rw[hv];rfl
    ·exact hks j s (by omega) hs
   |none =>
    refine kB ⟨_,rfl,_,rfl,_,rfl,x,l2,sg,rows,fo,fm,z,os,rfl,hP.same s2,(hss z (List.mem_of_getElem? hz)).1,(hss z (List.mem_of_getElem? hz)).2,s2 _ _ h2,hn2,hos,λr H3 s3 hr Jk=>?_⟩
    have Wl:=s3 _ _ hd
    refine⟨_,rfl,_,rfl,q,_,rfl,Ia.k (k:=.inr z) Wl (Nat.lt_of_le_of_lt (show kv.length<=1000 by omega) (by decide)),?_⟩
    have nq:∀{r:Addr} {xs:List V},H3 r=some (.lst xs)->r≠q:=λ{r xs} h e=>by rw[e,Wl]at h;cases h
    refine⟨_,_,rfl,ai.at (s2.trans s3) hq,ah,?_,λj s hj hs=>?_,λs v hsv=>?_⟩
    ·exact Nat.le_trans (nN _ _ _) (Nat.succ_le_succ Vv)
    ·rw[uS]
     by_cases e:s=z
     ·rw[if_pos (by rw[e])];rfl
     ·rw[if_neg (λy=>e (by injection y))]
      refine hks j s ?_ hs
      have:j≠i:=λy=>by
       rw[y,hz]at hs
       exact e (Option.some.inj hs).symm
      omega
    ·rw[uS]at hsv
     by_cases e:s=z
     ·rw[if_pos (by rw[e])]at hsv
      cases hsv
      subst e
      exact⟨r,rfl,by rw[aA (nq Jk)];exact Jk⟩
     ·rw[if_neg (λy=>e (by injection y))]at hsv
      obtain⟨r',e1,e2⟩:=hkv s v hsv
      have e3:=s3 _ _ e2
      exact⟨r',e1,by rw[aA (nq e3)];exact e3⟩
  ·rintro σ H2 ⟨v4,kv,rfl,s2,hd,Vv,hks,hkv⟩
   rw[List.length_map]at hks
   have h12:=s2 _ _ h1
   refine⟨_,rfl,l1,rfl,⟨_,bf.of h12⟩,λl' hl'=>?_⟩
   have at_:∀j,j<ss.length->∃r,((jl kv (.inr (ss.getD j ⟨#[]⟩))).getD .ko)= .ref r/\jl kv (.inr (ss.getD j ⟨#[]⟩))=some (.ref r)/\H2 r=some (.lst (os.map λo=>V.int (RM (rT sg rows (aY fo.2 fm.2 rows)) (qa rows fo fm) (ss.getD j ⟨#[]⟩).cps.toList o.cps.toList))):=λj hj=>by
    have e:=hks j _ hj (List.getElem?_eq_getElem hj)
    rw[←aO (d:=(⟨#[]⟩:Str)) (List.getElem?_eq_getElem hj)]at e
    obtain⟨v,hv⟩:=Option.isSome_iff_exists.mp e
    obtain⟨r,rfl,hr⟩:=hkv _ v hv
    exact⟨r,by rw[hv];rfl,hv,hr⟩
   refine gb ss.length (λj=>(jl kv (.inr (ss.getD j ⟨#[]⟩))).getD .ko) hl' (Nat.lt_of_le_of_lt hn1 (by decide)) (λj H4 s4 hj=>?_) (λH4 s4=>?_) (λj y H4 H5 R s4 hj hy hR=>?_) λH4 s4 vP=>?_
   ·exact⟨_,_,bf.of (s4 _ _ h12),by rw[List.getElem?_map,List.getElem?_eq_getElem hj];rfl⟩
   ·exact⟨_,bf.of (s4 _ _ h12),by rw[List.length_map];exact Nat.le_refl _⟩
   ·obtain⟨rfl,hy⟩:=hy
    have ey:=hy _ (bf.of (s4 _ _ h12))
    rw[List.getElem?_map,List.getElem?_eq_getElem hj]at ey
    cases ey
    obtain⟨r,e1,e2,e3⟩:=at_ j hj
    rw[e1]at hR
    rw[aO (List.getElem?_eq_getElem hj)]at e2
    refine⟨Kp.mG,?_⟩
    refine⟨_,rfl,_,rfl,q,.ref r,rfl,?_,hR _ (ai.refl _)⟩
    rw[←e2]
    exact wU.k (k:=.inr ss[j]) (s4 _ _ hd)
   ·obtain⟨rs,g1,g2,g3⟩:=Rq (P:=λj r=>H2 r=some (.lst (os.map λo=>V.int (RM (rT sg rows (aY fo.2 fm.2 rows)) (qa rows fo fm) (ss.getD j ⟨#[]⟩).cps.toList o.cps.toList)))) λj hj=>by
     obtain⟨r,e1,_,e3⟩:=at_ j hj
     exact⟨r,e1,e3⟩
    refine k l' H4 (s2.trans s4) (ai.free s2 hl') ⟨rs,g1,by rw[vP,g2],λi r hr=>?_⟩
    rw[s4 _ _ (g3 i r hr),←b9 (d:=⟨#[]⟩) os]
theorem yN {i8:Addr} {g6:FuncData} {p:Pm} (T:Txt K mg p w) (fK:Dn K mg "rests_ahead" nh ["extras","below"] i8 g6)  :aH P w K mg base cO 1 i8 g6 ["extras","below"] Rl:=by
 refine fK.fn.ok jo (λvs H Q E h=>?_) (λcdv A outer s H vs Q E hr h=>?_)
 ·obtain⟨l,b,n,f,g,rfl,_⟩:=h
  rfl
 ·obtain⟨l,b,n,f,g,rfl,hl,hb,hn,k⟩:=h
  refine⟨_,(aj (aD (i:=2) jo.nd rfl (Or.inl rfl) (gj (aa ak af)))
   (aj (dR PassesOwn.never rfl (Sl rfl T.gT (aa (aB nU (aC (aK) rfl T.bJ aW (aa (pv 0) af)) ak) (aa (Ru Bs ak) (aa (Ru Bs ak) af)))) (aM (i:=3) jo.nd rfl (Or.inl rfl)) (aj (aD (i:=4) jo.nd rfl (Or.inl rfl) (aC (Bk rfl) rfl T.XG V2 (aa (aV bh (pv 1) (pv 3) (λ_ _=>rfl)) (aa (aV bh (pv 2) (Ru Bs ak) (λ_ _=>rfl)) af))))
   (aj (cK (aU UX (aV bh (pv 0) (pv 3) (λ_ _=>rfl)) ak (bq _)) (ao (aD (i:=4) jo.nd rfl (Or.inl rfl) (aC (Bk rfl) rfl T.XG V2 (aa (aB cY (aV bh (pv 0) (pv 3) (λ_ _=>rfl)) (aV bh (pv 1) (aB cY (pv 3) ak) (λ_ _=>rfl))) (aa (pv 4) af))))) bx)
   (ao (fE (rR PySem.F.plainAttrs_list PySem.F.slot_list_append PySem.F.type_list_append jG (pv 2) (aa (pv 4) af)))))))
   (aj (fE (UR PySem.F.plainAttrs_list PySem.F.slot_list_reverse PySem.F.type_list_reverse yW (pv 2)))
   (ao (aS (pv 2)))))),?_⟩
  refine⟨by show 1<=sizeLine;decide,λq hq=>?_⟩
  have s0:ai H (upd H q (.lst [.int 0])):=ai.upd hq
  have e0:((List.range n).map λj=>V.int (f j)).length=n:=by rw[List.length_map,List.length_range]
  refine⟨_,rfl,_,_,rfl,.inl ⟨_,bf.of (s0 _ _ hl),rfl⟩,_,_,rfl,rfl,_,rfl,_,rfl,_,_,rfl,⟨by omega,by omega,by omega,by omega⟩,?_⟩
  rw[e0,show((n:Int)-1- -1).toNat=n by omega]
  refine VH (lo:=(n:Int)-1) (n:=n) (λi σ H2=>∃(v3 v4:Option V),σ=[some (.ref l),some (.ref b),some (.ref q),v3,v4]/\ai H H2/\H2 q=some (.lst ((List.range (i+1)).map λj=>V.int (tH f g n j)))) ⟨_,_,rfl,s0,ah⟩ ?_ ?_
  ·rintro i σ H2 hi ⟨v3,v4,rfl,s2,h2⟩
   have hl2:=bf.of (K:=K) (s2 _ _ hl)
   have hb2:=bf.of (K:=K) (s2 _ _ hb)
   have e1:(n:Int)-1-(i:Int)=((n-1-i:Nat):Int):=by omega
   rw[e1]
   have la:Ti ((List.range (i+1)).map λj=>V.int (tH f g n j)) (-1)=some (.int (tH f g n i)):=by rw[qN];exact OX _ _
   have fin:∀{σ':St} {BW:Int},BW=tH f g n (i+1)->σ'=[some (.ref l),some (.ref b),some (.ref q),some (.int ((n-1-i:Nat):Int)),some (.int BW)]->∃(v3 v4:Option V),σ'=[some (.ref l),some (.ref b),some (.ref q),v3,v4]/\ai H (upd H2 q (.lst ((List.range (i+1)).map (λj=>V.int (tH f g n j))++[V.int BW])))/\upd H2 q (.lst ((List.range (i+1)).map (λj=>V.int (tH f g n j))++[V.int BW])) q=some (.lst ((List.range (i+1+1)).map λj=>V.int (tH f g n j))):=λ{σ' BW} e1 e2=>by
    refine⟨_,_,e2,ai.at s2 hq,?_⟩
    rw[ah,e1,qN (n:=i+1)]
   have lt:((List.range (i+1)).map λj=>V.int (tH f g n j)).length<sizeLine:=by
    rw[List.length_map,List.length_range]
    exact Nat.lt_of_le_of_lt (show i+1<=1000 by omega) (by decide)
   have er:tH f g n (i+1)=qe (f (n-1-i)) (g (n-1-i)) (g (n-i)) (tH f g n i):=rfl
   refine⟨_,rfl,_,rfl,b,_,_,.int (g (n-1-i)),rfl,rfl,hb2,aT (fX (by omega)),_,rfl,_,rfl,q,_,_,.int (tH f g n i),rfl,rfl,bf.of h2,la,_,_,rfl,?_⟩
   refine⟨_,rfl,_,rfl,l,_,_,.int (f (n-1-i)),rfl,rfl,hl2,aT (fX (by omega)),_,_,rfl,rfl,_,rfl,?_⟩
   refine eY (λh0=>?_) (λh0=>?_)
   ·refine⟨_,rfl,_,rfl,l,_,_,.int (f (n-1-i)),rfl,rfl,hl2,aT (fX (by omega)),_,rfl,_,rfl,_,_,rfl,rfl,b,_,_,.int (g (n-i)),rfl,rfl,hb2,(by rw[show((n-1-i:Nat):Int)+1=((n-i:Nat):Int) by omega];exact aT (fX (by omega))),_,_,rfl,rfl,_,rfl,_,_,rfl,?_⟩
    refine⟨_,rfl,.inl ⟨rfl,_,bf.of h2⟩,_,rfl,q,_,_,rfl,rfl,h2,lt,fin ?_ rfl⟩
    rw[er]
    unfold qe
    rw[if_pos h0]
    omega
   ·refine⟨_,rfl,.inl ⟨rfl,_,bf.of h2⟩,_,rfl,q,_,_,rfl,rfl,h2,lt,fin ?_ rfl⟩
    rw[er]
    unfold qe
    rw[if_neg h0]
    omega
  ·rintro σ H2 ⟨v3,v4,rfl,s2,h2⟩
   refine⟨_,rfl,.inl ⟨rfl,_,bf.of h2⟩,q,_,rfl,rfl,h2,?_⟩
   refine⟨_,rfl,k q _ (ai.at s2 hq) hq ?_⟩
   rw[ah,Sg]
theorem Ae {jX i8:Addr} {iX g6:FuncData} {p:Pm} (T:Txt K mg p w) (gJ:Dn K mg "join_rests" oj ["extras","many"] jX iX) (fK:Dn K mg "rests_ahead" nh ["extras","below"] i8 g6) (AE:aH P w K mg base cO 1 i8 g6 ["extras","below"] Rl):aH P w K mg base cO 2 jX iX ["extras","many"] Ra:=by
 refine gJ.fn.ok pS (λvs H Q E h=>?_) (λcdv A outer s H vs Q E hr h=>?_)
 ·obtain⟨l,m,n,E,rfl,_⟩:=h
  rfl
 ·obtain⟨l,m,n,E,rfl,⟨rs,hrs,hl,Vp⟩,hm,hn,k⟩:=h
  refine⟨_,(aj (aD (i:=2) pS.nd rfl (Or.inl rfl) (gj (aa (aB vX (gj (aa ak af)) (aB cY (pv 1) ak)) af)))
   (aj (dR PassesOwn.never rfl (Z5 rfl T.Py (aa (pv 0) af)) (aM (i:=3) pS.nd rfl (Or.inl rfl)) (ao (fE (rR PySem.F.plainAttrs_list PySem.F.slot_list_append PySem.F.type_list_append jG (pv 2) (aa (az AE (hr.mono (by decide)) rfl fK.m fK.fn.kp fK.b .nil aQ (aa (pv 3) (aa (aV bh (pv 2) (Ru Bs ak) (λ_ _=>rfl)) af))) af)))))
   (aj (fE (UR PySem.F.plainAttrs_list PySem.F.slot_list_reverse PySem.F.type_list_reverse yW (pv 2)))
   (ao (aS (pv 2)))))),?_⟩
  refine⟨by show 1<=sizeLine;decide,λq0 Wj=>?_⟩
  have s0:ai H (upd H q0 (.lst [.int 0])):=ai.upd Wj
  refine⟨_,rfl,_,_,rfl,rfl,q0,_,_,rfl,rfl,ah,by omega,by omega,(by show 1*_<=sizeLine;rw[Nat.one_mul];exact Nat.le_trans (show _<=1001 by omega) (by decide)),λp1 hp1=>⟨by show 1<=sizeLine;decide,λq hq=>?_⟩⟩
  rw[show((n:Int)+1).toNat=n+1 by omega,rN]at hq ⊢
  have s1:ai H (upd (upd H q0 (.lst [.int 0])) p1 (.lst (List.replicate (n+1) (V.int 0)))):=s0.trans (ai.upd hp1)
  have hp2:upd (upd H q0 (.lst [.int 0])) p1 (.lst (List.replicate (n+1) (V.int 0))) p1=some (.lst ((List.range (n+1)).map λj=>V.int (Sh E m n 0 j))):=by
   rw[ah]
   congr 2
   exact(List.eq_replicate_iff.mpr ⟨by simp,λb hb=>by obtain⟨j,_,rfl⟩:=List.mem_map.mp hb;rfl⟩).symm
  generalize upd (upd H q0 (.lst [.int 0])) p1 (.lst (List.replicate (n+1) (V.int 0)))=H1 at s1 hp2 hq ⊢
  have IX:p1≠q:=λz=>by rw[z,hq]at hp2;cases hp2
  have s2:=s1.trans (ai.upd (o:=.lst [V.ref p1]) hq)
  refine⟨_,rfl,l,_,rfl,bf.of (s2 _ _ hl),?_⟩
  refine Xk (K:=K) (a:=l) (xs:=rs.map V.ref) (λi σ H2=>∃(v3:Option V) (qs:List Addr),σ=[some (.ref l),some (.int (n:Int)),some (.ref q),v3]/\ai H H2/\H2 q=some (.lst (qs.map V.ref))/\qs.length=i+1/\q∉qs/\∀j r,qs[j]? =some r->H2 r=some (.lst ((List.range (n+1)).map λa=>V.int (Sh E m n j a)))) ⟨_,[p1],rfl,s2,ah,rfl,λz=>IX (List.mem_singleton.mp z).symm,λj r hr=>?_⟩ (λi σ H2 _ hh=>?_) ?_ ?_
  ·have ej:j=0:=by
    have:=(List.getElem?_eq_some_iff.mp hr).1
    have:j<1:=this
    omega
   subst ej
   cases hr
   rw[aA IX]
   exact hp2
  ·obtain⟨_,_,_,s3,_⟩:=hh
   exact bf.of (s3 _ _ hl)
  ·rintro i y σ H2 hi hy ⟨v3,qs,rfl,s3,h3,Wi,De,Bt⟩
   rw[List.length_map,hrs]at hi hy
   rw[List.getElem?_map]at hy
   obtain⟨r,hr,rfl⟩:=Option.map_eq_some_iff.mp hy
   obtain⟨Z2,ql,rfl⟩:∃Z2 ql,qs=Z2++[ql]:=by
    rcases List.eq_nil_or_concat qs with h|⟨a,b,h⟩
    ·rw[h]at Wi;cases Wi
    ·exact⟨a,b,by rw[h,List.concat_eq_append]⟩
   have hq':Z2.length=i:=by rw[List.length_append]at Wi;exact Nat.succ.inj Wi
   have agZ:=Bt i ql (by rw[List.getElem?_append_right (by omega),hq',Nat.sub_self];rfl)
   refine⟨_,rfl,.inl ⟨rfl,_,bf.of h3⟩,_,rfl,_,rfl,_,rfl,q,_,_,.ref ql,rfl,rfl,bf.of h3,(by rw[List.map_append];exact OX _ _),r,ql,n,E (m-1-i),Sh E m n i,rfl,s3 _ _ (Vp _ _ hr),agZ,hn,λl' H3 s4 hl' hl3=>?_⟩
   have h4:=s4 _ _ h3
   refine⟨q,_,_,rfl,rfl,h4,?_,?_⟩
   ·rw[List.length_map,Wi]
    exact Nat.lt_of_le_of_lt (show i+1<=1000 by omega) (by decide)
   ·have nl:l'≠q:=λz=>by rw[z,h3]at hl';cases hl'
    refine⟨_,(Z2++[ql])++[l'],rfl,ai.at (s3.trans s4) (ai.free s1 hq),?_,by rw[List.length_append,Wi];rfl,λz=>?_,λj r' hr'=>?_⟩
    ·rw[ah,List.map_append (l₁:=Z2++[ql])];rfl
    ·rcases List.mem_append.mp z with z|z
     ·exact De z
     ·exact nl (List.mem_singleton.mp z).symm
    ·by_cases hj:j<(Z2++[ql]).length
     ·rw[List.getElem?_append_left hj]at hr'
      have nr:r'≠q:=λz=>De (z▸List.mem_of_getElem? hr')
      rw[aA nr]
      exact s4 _ _ (Bt j r' hr')
     ·rw[List.getElem?_append_right (by omega)]at hr'
      have ej:j=i+1:=by
       have:=(List.getElem?_eq_some_iff.mp hr').1
       have:j-(Z2++[ql]).length<1:=this
       omega
      subst ej
      rw[Wi,Nat.sub_self]at hr'
      cases hr'
      rw[aA nl]
      exact hl3
  ·rintro σ H2 ⟨v3,qs,rfl,s3,h3,Wi,De,Bt⟩
   rw[List.length_map,hrs]at Wi
   refine⟨_,rfl,.inl ⟨rfl,_,bf.of h3⟩,q,_,rfl,rfl,h3,?_⟩
   refine⟨_,rfl,k q _ (ai.at s3 (ai.free s1 hq)) (ai.free s1 hq) ⟨qs.reverse,by rw[List.length_reverse,Wi],by rw[ah,List.map_reverse],λi r hr=>?_⟩⟩
   have hi:i<qs.length:=by have:=(List.getElem?_eq_some_iff.mp hr).1;rwa [List.length_reverse]at this
   rw[List.getElem?_reverse hi,show qs.length-1-i=m-i by omega]at hr
   have nr:r≠q:=λz=>De (z▸List.mem_of_getElem? hr)
   rw[aA nr]
   exact Bt _ r hr
end
section
variable{P:Program}{w:World}{K:PySem.W.Frag}{mg:Str->Option Value}{base:Heap}
theorem tN {bA dW fH gz fj kc jX:Addr} {fz dG d8 fS dM i6 iX:FuncData} {p:Pm} (T:Txt K mg p w) (dX:Dm K "__init__" "Joining.__init__" cF ["self","prices","one","other"] bA fz) (cI:Dn K mg "check_block_rows" iI ["prices","rows"] dW dG) (uM:aH P w K mg base (vN P w) 4 dW dG ["prices","rows"] (w9 K p.aq p.aN)) (bV:Dn K mg "columns_of" lX ["rows"] fH d8) (oJ:aH P w K mg base cO 3 fH d8 ["rows"] (vS K)) (cg:Dn K mg "costs_by_gaps" kH ["prices","columns","many"] gz fS) (rz:aH P w K mg base cO 4 gz fS ["prices","columns","many"] (Rg K p.aq)) (bP:Dn K mg "signs_of" mH ["things"] fj dM) (mY:aH P w K mg base cO 1 fj dM ["things"] sN) (gP:Dn K mg "all_extras" oA ["prices","ones","others"] kc i6) (HZ:aH P w K mg base cO 5 kc i6 ["prices","ones","others"] (XQ K p.aq)) (gJ:Dn K mg "join_rests" oj ["extras","many"] jX iX) (HV:aH P w K mg base cO 2 jX iX ["extras","many"] Ra):aH P w K mg base (vN P w) 6 bA fz ["self","prices","one","other"] (Rc K p.aq p.aJ p.au p.aN):=by
 refine dX.fn.GZ kj (λvs H Q E h=>?_) (λcdv A outer s H vs Q E hr h=>?_)
 ·obtain⟨jn,dx,x,o1,o2,sg,rows,fo,fm,r1,r2,rfl,_⟩:=h
  rfl
 ·obtain⟨jn,dx,x,o1,o2,sg,rows,fo,fm,r1,r2,rfl,hj,JI,Bx,hB2,rD,qb,hb1,hb2,kq,ke⟩:=h
  have hP:=JI.Yq hj
  have Gb:=Bx.Yq hj
  have ahB:=hB2.Yq hj
  obtain⟨d1,q1,Dd,hq1⟩:=Gb
  obtain⟨d2,q2,ho2,hq2⟩:=ahB
  have hl1:=eF hb1
  have hl2:=eF hb2
  obtain⟨ag5,hw1⟩:=cP.mp hl1
  obtain⟨ag4,Cc⟩:=cP.mp hl2
  have Pq:TL (r1++r2):=⟨by rw[List.length_append];have:=rD.1;have:=qb.1;omega,λy hy=>(List.mem_append.mp hy).elim (λz=>rD.sm.row y z) λz=>qb.sm.row y z⟩
  refine⟨_,(aj (fE (az uM (hr.mono (by decide)) rfl cI.m cI.fn.kp cI.b .nil (Lets.passes l8) (aa (pv 1) (aa (aB WS (bG (pv 2) rfl) (bG (pv 3) rfl)) af))))
   (aj (jg (pv 0) (az oJ (hr.mono (by decide)) rfl bV.m bV.fn.kp bV.b .nil aQ (aa (bG (pv 2) rfl) af)) rfl)
   (aj (jg (pv 0) (az oJ (hr.mono (by decide)) rfl bV.m bV.fn.kp bV.b .nil aQ (aa (bG (pv 3) rfl) af)) rfl)
   (aj (jg (pv 0) (aB sW (kM (v:=.str (Str.ofString "-")) rfl T.OB ⟨_,rfl⟩) (aC (aK) rfl T.bJ aW (aa (bG (pv 2) rfl) af))) rfl)
   (aj (jg (pv 0) (aB sW (kM (v:=.str (Str.ofString "-")) rfl T.OB ⟨_,rfl⟩) (aC (aK) rfl T.bJ aW (aa (bG (pv 3) rfl) af))) rfl)
   (aj (jg (pv 0) (az rz (hr.mono (by decide)) rfl cg.m cg.fn.kp cg.b .nil aQ (aa (pv 1) (aa (bG (pv 0) rfl) (aa (aC (aK) rfl T.bJ aW (aa (bG (pv 3) rfl) af)) af)))) rfl)
   (aj (jg (pv 0) (az rz (hr.mono (by decide)) rfl cg.m cg.fn.kp cg.b .nil aQ (aa (pv 1) (aa (bG (pv 0) rfl) (aa (aC (aK) rfl T.bJ aW (aa (bG (pv 2) rfl) af)) af)))) rfl)
   (aj (kQ (i:=4) (N:=["column"]) kj.nd rfl (Or.inl rfl) rfl (λ_=>⟨[],bI.plain (by decide +kernel) rfl (by decide +kernel) (by decide +kernel)⟩) (eX (bG (pv 0) rfl)) (λ_ _ _ _ _ _ _=>(aM (i:=0) (show(["column"]:List Str).Nodup by decide +kernel) rfl (Or.inl rfl))) (λ_ _ _ _ _ _ _=>(az mY (hr.mono (by decide)) rfl bP.m bP.fn.kp bP.b .nil aQ (aa (pv 0) af))))
   (aj (kQ (i:=5) (N:=["column"]) kj.nd rfl (Or.inl rfl) rfl (λ_=>⟨[],bI.plain (by decide +kernel) rfl (by decide +kernel) (by decide +kernel)⟩) (eX (bG (pv 0) rfl)) (λ_ _ _ _ _ _ _=>(aM (i:=0) (show(["column"]:List Str).Nodup by decide +kernel) rfl (Or.inl rfl))) (λ_ _ _ _ _ _ _=>(az mY (hr.mono (by decide)) rfl bP.m bP.fn.kp bP.b .nil aQ (aa (pv 0) af))))
   (aj (jg (pv 0) (az HZ (hr.mono (by decide)) rfl gP.m gP.fn.kp gP.b .nil aQ (aa (pv 1) (aa (pv 4) (aa (pv 5) af)))) rfl)
   (ao (jg (pv 0) (az HV (hr.mono (by decide)) rfl gJ.m gJ.fn.kp gJ.b .nil aQ (aa (bG (pv 0) rfl) (aa (aC (aK) rfl T.bJ aW (aa (bG (pv 0) rfl) af)) af))) rfl)))))))))))),?_⟩
  refine⟨_,rfl,_,rfl,o1,_,d1,_,_,rfl,Wo.sub _ _ Dd,T.gF,T.cu,kJ,_,rfl,o2,_,d2,_,_,rfl,Wo.sub _ _ ho2,T.gF,T.cu,kJ,q1,q2,_,_,rfl,rfl,ai.tup Wo.sub hq1,ai.tup Wo.sub hq2,λz=>ag5 (List.map_eq_nil_iff.mp z),?_,λz=>absurd (List.map_eq_nil_iff.mp z) ag4,λ_ pt Mh=>?_⟩
  ·rw[List.length_map,List.length_map]
   exact Nat.le_trans (show _<=100 by have:=rD.1;have:=qb.1;omega) (by decide)
  have s0:ai H (upd H pt (.tup (r1.map V.str++r2.map V.str))):=ai.upd Mh
  refine⟨x,sg,rows,fo,fm,.ref pt,r1++r2,rfl,JI.same s0,⟨pt,rfl,.inr (iR.of (by rw[ah,List.map_append]))⟩,Pq,λhO H1 s1=>?_,λi j hB TF H1 s1 hd=>ke i j hB TF H1 (λa u ha _=>s1 _ _ (s0 _ _ ha)) hd⟩
  have w1:ai (Wo jn H) (Wo jn H1):=Wo.same (s0.trans s1)
  have j1:=s1 _ _ (s0 _ _ hj)
  refine⟨_,rfl,o1,_,d1,_,_,rfl,Wo.sub _ _ (w1 _ _ Dd),T.gF,T.cu,kJ,.ref q1,r1,rfl,⟨q1,rfl,.inr (ai.tup (w1.trans Wo.sub) hq1)⟩,rD.sm,hl1,λl1 H2 s2 _ Vu=>⟨_,rfl,jn,_,dx,_,rfl,s2 _ _ j1,T.bu,T.gY,by show 0<1000;decide,?_⟩⟩
  have ni:∀{H:Hp} {C d:Addr} {fs:List (Str×V)} {l:Addr} {xs:List V},H jn=some (.ins C d fs)->H l=some (.lst xs)->l≠jn:=λh1 h2 z=>by rw[z,h1]at h2;cases h2
  have eW:Wo jn (upd H2 jn (.ins p.au dx (y1 l1)))=Wo jn H2:=Wo.set
  have j2:(upd H2 jn (.ins p.au dx (y1 l1))) jn=some (.ins p.au dx (y1 l1)):=ah
  generalize upd H2 jn (.ins p.au dx (y1 l1))=H3 at eW j2 ⊢
  have w2:ai (Wo jn H) (Wo jn H3):=by rw[eW];exact w1.trans (Wo.same s2)
  have a1:Wo jn H3 l1=some (.lst ((cols r1 (br r1)).map V.str)):=by rw[eW];exact Wo.in (ni (s2 _ _ j1) Vu) Vu
  clear eW
  refine⟨_,rfl,o2,_,d2,_,_,rfl,Wo.sub _ _ (w2 _ _ ho2),T.gF,T.cu,kJ,.ref q2,r2,rfl,⟨q2,rfl,.inr (ai.tup (w2.trans Wo.sub) hq2)⟩,qb.sm,hl2,λl2 H4 s4 _ SY=>⟨_,rfl,jn,_,dx,_,rfl,s4 _ _ j2,T.bu,T.dU,Nat.lt_of_le_of_lt (aE (Nat.zero_le 0)) (by decide),?_⟩⟩
  have w3:ai (Wo jn H) (Wo jn (upd H4 jn (.ins p.au dx (y2 l1 l2)))):=by rw[Wo.set];exact w2.trans (Wo.same s4)
  have j3:(upd H4 jn (.ins p.au dx (y2 l1 l2))) jn=some (.ins p.au dx (y2 l1 l2)):=ah
  have b1:Wo jn (upd H4 jn (.ins p.au dx (y2 l1 l2))) l2=some (.lst ((cols r2 (br r2)).map V.str)):=by rw[Wo.set];exact Wo.in (ni (s4 _ _ j2) SY) SY
  have a1':Wo jn (upd H4 jn (.ins p.au dx (y2 l1 l2))) l1=some (.lst ((cols r1 (br r1)).map V.str)):=by rw[Wo.set];exact Wo.same s4 _ _ a1
  generalize upd H4 jn (.ins p.au dx (y2 l1 l2))=H5 at w3 j3 b1 a1' ⊢
  refine⟨_,rfl,o1,_,d1,_,_,rfl,Wo.sub _ _ (w3 _ _ Dd),T.gF,T.cu,kJ,_,_,rfl,.inr ⟨_,ai.tup (w3.trans Wo.sub) hq1,rfl⟩,_,_,rfl,rfl,?_,?_,by decide,?_,_,rfl,jn,_,dx,_,rfl,j3,T.bu,T.kR,Nat.lt_of_le_of_lt (aE (aE (Nat.zero_le 0))) (by decide),?_⟩
  ·rw[List.length_map];have:=rD.1;omega
  ·rw[List.length_map];have:=rD.1;omega
  ·rw[List.length_map]
   show((r1.length:Nat):Int).toNat*1<=sizeLine
   exact Nat.le_trans (show _<=1000 by have:=rD.1;omega) (by decide)
  rw[List.length_map,NY]
  have w4:ai (Wo jn H) (Wo jn (upd H5 jn (.ins p.au dx (y3 l1 l2 (aF r1.length))))):=by rw[Wo.set];exact w3
  have j4:(upd H5 jn (.ins p.au dx (y3 l1 l2 (aF r1.length)))) jn=some (.ins p.au dx (y3 l1 l2 (aF r1.length))):=ah
  have Ka:Wo jn (upd H5 jn (.ins p.au dx (y3 l1 l2 (aF r1.length)))) l1=some (.lst ((cols r1 (br r1)).map V.str)):=by rw[Wo.set];exact a1'
  have JY:Wo jn (upd H5 jn (.ins p.au dx (y3 l1 l2 (aF r1.length)))) l2=some (.lst ((cols r2 (br r2)).map V.str)):=by rw[Wo.set];exact b1
  generalize upd H5 jn (.ins p.au dx (y3 l1 l2 (aF r1.length)))=H6 at w4 j4 Ka JY ⊢
  refine⟨_,rfl,o2,_,d2,_,_,rfl,Wo.sub _ _ (w4 _ _ ho2),T.gF,T.cu,kJ,_,_,rfl,.inr ⟨_,ai.tup (w4.trans Wo.sub) hq2,rfl⟩,_,_,rfl,rfl,?_,?_,by decide,?_,_,rfl,jn,_,dx,_,rfl,j4,T.bu,T.jv,Nat.lt_of_le_of_lt (aE (aE (aE (Nat.zero_le 0)))) (by decide),?_⟩
  ·rw[List.length_map];have:=qb.1;omega
  ·rw[List.length_map];have:=qb.1;omega
  ·rw[List.length_map]
   show((r2.length:Nat):Int).toNat*1<=sizeLine
   exact Nat.le_trans (show _<=1000 by have:=qb.1;omega) (by decide)
  rw[List.length_map,NY]
  have w5:ai (Wo jn H) (Wo jn (upd H6 jn (.ins p.au dx (y4 l1 l2 (aF r1.length) (aF r2.length))))):=by rw[Wo.set];exact w4
  have j5:(upd H6 jn (.ins p.au dx (y4 l1 l2 (aF r1.length) (aF r2.length)))) jn=some (.ins p.au dx (y4 l1 l2 (aF r1.length) (aF r2.length))):=ah
  have Yk:Wo jn (upd H6 jn (.ins p.au dx (y4 l1 l2 (aF r1.length) (aF r2.length)))) l1=some (.lst ((cols r1 (br r1)).map V.str)):=by rw[Wo.set];exact Ka
  have Ke:Wo jn (upd H6 jn (.ins p.au dx (y4 l1 l2 (aF r1.length) (aF r2.length)))) l2=some (.lst ((cols r2 (br r2)).map V.str)):=by rw[Wo.set];exact JY
  generalize upd H6 jn (.ins p.au dx (y4 l1 l2 (aF r1.length) (aF r2.length)))=H7 at w5 j5 Yk Ke ⊢
  have cA:=pO hb1 λr hr=>hO r (List.mem_append_left _ hr)
  have cB:=pO hb2 λr hr=>hO r (List.mem_append_right _ hr)
  have zA:∀c∈(cols r1 (br r1)),c.cps.size<=1000:=λc hc=>by rw[cA.size c hc];have:=rD.1;omega
  have zB:∀c∈(cols r2 (br r2)),c.cps.size<=1000:=λc hc=>by rw[cB.size c hc];have:=qb.1;omega
  have nA:(cols r1 (br r1)).length<=1000:=by rw[aZ];have:=rD.br hl1;omega
  have nB:(cols r2 (br r2)).length<=1000:=by rw[aZ];have:=qb.br hl2;omega
  have a5:=Yk
  have b5:=Ke
  refine⟨_,rfl,_,rfl,jn,_,dx,_,_,rfl,j5,T.bu,T.gY,(p5 (p5 (p5 SJ (by decide +kernel)) (by decide +kernel)) (by decide +kernel)),_,rfl,o2,_,d2,_,_,rfl,Wo.sub _ _ (w5 _ _ ho2),T.gF,T.cu,kJ,_,_,rfl,.inr ⟨_,ai.tup (w5.trans Wo.sub) hq2,rfl⟩,x,l1,sg,rows,fo,fm,(cols r1 (br r1)),r2.length,(by rw[List.length_map];rfl),(hP.same w5).same Wo.sub,Wo.sub _ _ a5,nA,zA,(by have:=qb.1;omega),λla H8 s8 _ hla=>⟨_,rfl,jn,_,dx,_,rfl,s8 _ _ j5,T.bu,T.yV,Nat.lt_of_le_of_lt (aE (aE (aE (aE (Nat.zero_le 0))))) (by decide),?_⟩⟩
  have eW:Wo jn (upd H8 jn (.ins p.au dx (y5 l1 l2 (aF r1.length) (aF r2.length) la)))=Wo jn H8:=Wo.set
  have j6:(upd H8 jn (.ins p.au dx (y5 l1 l2 (aF r1.length) (aF r2.length) la))) jn=some (.ins p.au dx (y5 l1 l2 (aF r1.length) (aF r2.length) la)):=ah
  generalize upd H8 jn (.ins p.au dx (y5 l1 l2 (aF r1.length) (aF r2.length) la))=H9 at eW j6 ⊢
  have w6:ai (Wo jn H) (Wo jn H9):=by rw[eW];exact w5.trans (Wo.same s8)
  have a6:Wo jn H9 l1=some (.lst ((cols r1 (br r1)).map V.str)):=by rw[eW];exact Wo.same s8 _ _ a5
  have b6:Wo jn H9 l2=some (.lst ((cols r2 (br r2)).map V.str)):=by rw[eW];exact Wo.same s8 _ _ b5
  have M5:Wo jn H9 la=some (.lst ((cols r1 (br r1)).map λc=>V.int (VA (qa rows fo fm) c r2.length))):=by rw[eW];exact Wo.in (ni (s8 _ _ j5) hla) hla
  clear eW
  refine⟨_,rfl,_,rfl,jn,_,dx,_,_,rfl,j6,T.bu,T.dU,(p5 (p5 (p5 SJ (by decide +kernel)) (by decide +kernel)) (by decide +kernel)),_,rfl,o1,_,d1,_,_,rfl,Wo.sub _ _ (w6 _ _ Dd),T.gF,T.cu,kJ,_,_,rfl,.inr ⟨_,ai.tup (w6.trans Wo.sub) hq1,rfl⟩,x,l2,sg,rows,fo,fm,(cols r2 (br r2)),r1.length,(by rw[List.length_map];rfl),(hP.same w6).same Wo.sub,Wo.sub _ _ b6,nB,zB,(by have:=rD.1;omega),λlb Pd WG _ hlb=>⟨_,rfl,jn,_,dx,_,rfl,WG _ _ j6,T.bu,T.yU,Nat.lt_of_le_of_lt (aE (aE (aE (aE (aE (Nat.zero_le 0)))))) (by decide),?_⟩⟩
  have eW:Wo jn (upd Pd jn (.ins p.au dx (y6 l1 l2 (aF r1.length) (aF r2.length) la lb)))=Wo jn Pd:=Wo.set
  have j7:(upd Pd jn (.ins p.au dx (y6 l1 l2 (aF r1.length) (aF r2.length) la lb))) jn=some (.ins p.au dx (y6 l1 l2 (aF r1.length) (aF r2.length) la lb)):=ah
  generalize upd Pd jn (.ins p.au dx (y6 l1 l2 (aF r1.length) (aF r2.length) la lb))=HQ at eW j7 ⊢
  have w7:ai (Wo jn H) (Wo jn HQ):=by rw[eW];exact w6.trans (Wo.same WG)
  have a7:Wo jn HQ l1=some (.lst ((cols r1 (br r1)).map V.str)):=by rw[eW];exact Wo.same WG _ _ a6
  have b7:Wo jn HQ l2=some (.lst ((cols r2 (br r2)).map V.str)):=by rw[eW];exact Wo.same WG _ _ b6
  have M4:Wo jn HQ la=some (.lst ((cols r1 (br r1)).map λc=>V.int (VA (qa rows fo fm) c r2.length))):=by rw[eW];exact Wo.same WG _ _ M5
  have MX:Wo jn HQ lb=some (.lst ((cols r2 (br r2)).map λc=>V.int (VA (qa rows fo fm) c r1.length))):=by rw[eW];exact Wo.in (ni (WG _ _ j6) hlb) hlb
  clear eW
  refine⟨_,rfl,jn,_,dx,_,_,rfl,j7,T.bu,T.gY,(p5 (p5 (p5 (p5 (p5 SJ (by decide +kernel)) (by decide +kernel)) (by decide +kernel)) (by decide +kernel)) (by decide +kernel)),l1,rfl,⟨_,bf.of (Wo.sub _ _ a7)⟩,λlo hlo=>?_⟩
  refine gb (cols r1 (br r1)).length (λj=>V.str (gR 45 ((cols r1 (br r1)).getD j ⟨#[]⟩))) hlo (Nat.lt_of_le_of_lt nA (by decide)) (λj CF UA hj=>?_) (λCF UA=>?_) (λj y CF H5' R UA hj hy hR=>?_) λBr s12 KN=>?_
  ·exact⟨_,_,bf.of (UA _ _ (Wo.sub _ _ a7)),by rw[List.getElem?_map,List.getElem?_eq_getElem hj];rfl⟩
  ·exact⟨_,bf.of (UA _ _ (Wo.sub _ _ a7)),by rw[List.length_map];exact Nat.le_refl _⟩
  ·obtain⟨rfl,hy⟩:=hy
   have ey:=hy _ (bf.of (UA _ _ (Wo.sub _ _ a7)))
   rw[List.getElem?_map,List.getElem?_eq_getElem hj]at ey
   cases ey
   refine⟨Kp.mG,_,rfl,_,rfl,zA _ (List.getElem_mem hj),?_⟩
   have z:=hR _ (ai.refl _)
   rw[aO (List.getElem?_eq_getElem hj)]at z
   exact z
  rw[b9 (cols r1 (br r1)) λc=>V.str (gR 45 c)]at KN
  refine⟨_,rfl,jn,_,dx,_,_,rfl,(s12 _ _ j7),T.bu,T.dU,(p5 (p5 (p5 (p5 SJ (by decide +kernel)) (by decide +kernel)) (by decide +kernel)) (by decide +kernel)),l2,rfl,⟨_,bf.of (Wo.sub _ _ (Wo.same s12 _ _ b7))⟩,λlp Mq=>?_⟩
  refine gb (cols r2 (br r2)).length (λj=>V.str (gR 45 ((cols r2 (br r2)).getD j ⟨#[]⟩))) Mq (Nat.lt_of_le_of_lt nB (by decide)) (λj CF UA hj=>?_) (λCF UA=>?_) (λj y CF H5' R UA hj hy hR=>?_) λPc Tv KO=>?_
  ·exact⟨_,_,bf.of (UA _ _ (Wo.sub _ _ (Wo.same s12 _ _ b7))),by rw[List.getElem?_map,List.getElem?_eq_getElem hj];rfl⟩
  ·exact⟨_,bf.of (UA _ _ (Wo.sub _ _ (Wo.same s12 _ _ b7))),by rw[List.length_map];exact Nat.le_refl _⟩
  ·obtain⟨rfl,hy⟩:=hy
   have ey:=hy _ (bf.of (UA _ _ (Wo.sub _ _ (Wo.same s12 _ _ b7))))
   rw[List.getElem?_map,List.getElem?_eq_getElem hj]at ey
   cases ey
   refine⟨Kp.mG,_,rfl,_,rfl,zB _ (List.getElem_mem hj),?_⟩
   have z:=hR _ (ai.refl _)
   rw[aO (List.getElem?_eq_getElem hj)]at z
   exact z
  rw[b9 (cols r2 (br r2)) λc=>V.str (gR 45 c)]at KO
  have UB:=s12.trans Tv
  refine⟨_,rfl,_,rfl,_,rfl,x,lo,lp,sg,rows,fo,fm,(cols r1 (br r1)).map (gR 45),(cols r2 (br r2)).map (gR 45),rfl,(hP.same (w7.trans (Wo.same UB))).same Wo.sub,(by rw[Tv _ _ KN,List.map_map];rfl),by rw[List.length_map];exact nA,λc hc=>?_,(by rw[KO,List.map_map];rfl),by rw[List.length_map];exact nB,λc hc=>?_,λle TN CU _ hle=>?_⟩
  ·obtain⟨c',hc',rfl⟩:=List.mem_map.mp hc
   exact⟨AU (cA.of c' hc'),yp (zA c' hc')⟩
  ·obtain⟨c',hc',rfl⟩:=List.mem_map.mp hc
   exact⟨AU (cB.of c' hc'),yp (zB c' hc')⟩
  have Rp:=UB.trans CU
  rw[List.length_map,List.length_map]at hle
  have hE:=hle.congr (g:=uP (rT sg rows (aY fo.2 fm.2 rows)) (qa rows fo fm) (cols r1 (br r1)) (cols r2 (br r2))) λi j hi hj=>by
   unfold uP
   rw[wY hi,wY hj]
   rfl
  refine⟨_,rfl,jn,_,dx,_,rfl,Rp _ _ j7,T.bu,T.mL,Nat.lt_of_le_of_lt (aE (aE (aE (aE (aE (aE (Nat.zero_le 0))))))) (by decide),?_⟩
  have eW:Wo jn (upd TN jn (.ins p.au dx (y7 l1 l2 (aF r1.length) (aF r2.length) la lb le)))=Wo jn TN:=Wo.set
  have j8:(upd TN jn (.ins p.au dx (y7 l1 l2 (aF r1.length) (aF r2.length) la lb le))) jn=some (.ins p.au dx (y7 l1 l2 (aF r1.length) (aF r2.length) la lb le)):=ah
  generalize upd TN jn (.ins p.au dx (y7 l1 l2 (aF r1.length) (aF r2.length) la lb le))=Wq at eW j8 ⊢
  have w8:ai (Wo jn H) (Wo jn Wq):=by rw[eW];exact w7.trans (Wo.same Rp)
  have a8:Wo jn Wq l1=some (.lst ((cols r1 (br r1)).map V.str)):=by rw[eW];exact Wo.same Rp _ _ a7
  have b8:Wo jn Wq l2=some (.lst ((cols r2 (br r2)).map V.str)):=by rw[eW];exact Wo.same Rp _ _ b7
  have M3:Wo jn Wq la=some (.lst ((cols r1 (br r1)).map λc=>V.int (VA (qa rows fo fm) c r2.length))):=by rw[eW];exact Wo.same Rp _ _ M4
  have MW:Wo jn Wq lb=some (.lst ((cols r2 (br r2)).map λc=>V.int (VA (qa rows fo fm) c r1.length))):=by rw[eW];exact Wo.same Rp _ _ MX
  have e8:sG (Wo jn Wq) le (cols r1 (br r1)).length (cols r2 (br r2)).length (uP (rT sg rows (aY fo.2 fm.2 rows)) (qa rows fo fm) (cols r1 (br r1)) (cols r2 (br r2))):=by rw[eW];exact hE.Yq (Rp _ _ j7)
  clear eW
  refine⟨_,rfl,jn,_,dx,_,_,rfl,j8,T.bu,T.mL,SJ,_,rfl,jn,_,dx,_,_,rfl,j8,T.bu,T.dU,(p5 (p5 (p5 (p5 (p5 SJ (by decide +kernel)) (by decide +kernel)) (by decide +kernel)) (by decide +kernel)) (by decide +kernel)),_,_,rfl,.inl ⟨_,bf.of (Wo.sub _ _ b8),rfl⟩,le,(cols r1 (br r1)).length,(cols r2 (br r2)).length,uP (rT sg rows (aY fo.2 fm.2 rows)) (qa rows fo fm) (cols r1 (br r1)) (cols r2 (br r2)),(by rw[List.length_map];rfl),e8.same Wo.sub,nA,nB,λlr H18 Fo _ hlr=>⟨_,rfl,jn,_,dx,_,rfl,Fo _ _ j8,T.bu,T.nV,Nat.lt_of_le_of_lt (aE (aE (aE (aE (aE (aE (aE (Nat.zero_le 0)))))))) (by decide),?_⟩⟩
  have BH:=Wo.same (t:=jn) Fo
  refine kq hO _ (λa u ha hne=>?_) ⟨dx,l1,l2,la,lb,le,lr,ah,(BH.trans Wo.upd) _ _ a8,(BH.trans Wo.upd) _ _ b8,(BH.trans Wo.upd) _ _ M3,(BH.trans Wo.upd) _ _ MW,e8.same (BH.trans Wo.upd),(hlr.Yq (Fo _ _ j8)).same Wo.upd⟩
  rw[aA hne]
  exact Wo.sub _ _ (BH _ _ (w8 _ _ (Wo.in hne ha)))
end
section
variable{P:Program}{w:World}{K:PySem.W.Frag}{mg:Str->Option Value}{base:Heap}
theorem Af {jY:Addr} {iY:FuncData} {p:Pm} (T:Txt K mg p w) (gK:Dn K mg "first_move" om ["joining","i","j"] jY iY)  :aH P w K mg base cO 1 jY iY ["joining","i","j"] (Us K p.au):=by
 refine gK.fn.ok pU (λvs H Q E h=>?_) (λcdv A outer s H vs Q E hr h=>?_)
 ·obtain⟨jn,A,B,n1,n2,pc,mo,i,j,rfl,_⟩:=h
  rfl
 ·obtain⟨jn,A,B,n1,n2,pc,mo,i,j,rfl,⟨dx,l1,l2,la,lb,le,lr,h1,h2,h3,_,_,h6,h7⟩,nA,nB,hi,hj,k⟩:=h
  obtain⟨L,g1,g2,g3⟩:=h7.at_
  obtain⟨M,f1,f2,f3⟩:=h6.at_
  have eA:(A.map V.str).length=A.length:=List.length_map ..
  have eB:(B.map V.str).length=B.length:=List.length_map ..
  unfold zY at k
  refine⟨_,(aj (cK (aU iP (pv 1) (aC (aK) rfl T.bJ aW (aa (bG (pv 0) rfl) af)) (bq _)) (ao (aS bH)) bx)
   (aj (aD (i:=3) pU.nd rfl (Or.inl rfl) (aV bh (aV bh (bG (pv 0) rfl) (pv 1) (λ_ _=>rfl)) (pv 2) (λ_ _=>rfl)))
   (aj (aD (i:=4) pU.nd rfl (Or.inl rfl) (aV bh (bG (pv 0) rfl) (aB cY (pv 1) ak) (λ_ _=>rfl)))
   (aj (cK (PW.pt (uv (aU Rz (pv 2) (aC (aK) rfl T.bJ aW (aa (bG (pv 0) rfl) af)) (bq _)) (sV (aU iP (aB cY (aV bh (aV bh (bG (pv 0) rfl) (pv 1) (λ_ _=>rfl)) (pv 2) (λ_ _=>rfl)) (aV bh (pv 4) (aB cY (pv 2) ak) (λ_ _=>rfl))) (pv 3) (bq _))))) (ao (aS bH)) bx)
   (ao (aS (yL (aU iP (aV bh (pv 4) (pv 2) (λ_ _=>rfl)) (pv 3) (bq _)) bH bH))))))),?_⟩
  refine⟨_,rfl,_,rfl,jn,_,dx,_,_,rfl,h1,T.bu,T.gY,G6,_,_,rfl,.inl ⟨_,bf.of h2,rfl⟩,rfl,_,rfl,?_⟩
  rw[vp,eA]
  refine eY (λe=>?_) (λe=>?_)
  ·rw[if_pos (by omega)]at k
   exact k
  rw[if_neg (by omega)]at k
  have hi':i<A.length:=by omega
  obtain⟨r,a1,a2⟩:=g3 i (by omega)
  obtain⟨r',b1,b2⟩:=g3 (i+1) (by omega)
  refine⟨_,rfl,jn,_,dx,_,_,rfl,h1,T.bu,T.nV,Ov,_,rfl,lr,_,_,.ref r,rfl,rfl,bf.of g1,aT a1,_,rfl,r,_,_,.int (c6 (uP pc mo A B) A.length B.length i j),rfl,rfl,bf.of a2,aT (fX (by omega)),?_⟩
  refine⟨_,rfl,jn,_,dx,_,_,rfl,h1,T.bu,T.nV,Ov,_,rfl,_,_,rfl,rfl,lr,_,_,.ref r',rfl,rfl,bf.of g1,aT b1,?_⟩
  refine⟨_,rfl,_,rfl,jn,_,dx,_,_,rfl,h1,T.bu,T.dU,wu,_,_,rfl,.inl ⟨_,bf.of h3,rfl⟩,_,_,rfl,rfl,_,rfl,?_⟩
  rw[eB]
  by_cases hjl:j<B.length
  ·rw[decide_eq_true (show(j:Int)<(B.length:Int) by omega)]
   obtain⟨q,c1,c2⟩:=f3 i hi'
   refine kB ⟨_,rfl,jn,_,dx,_,_,rfl,h1,T.bu,T.mL,SO,_,rfl,le,_,_,.ref q,rfl,rfl,bf.of f1,aT c1,_,rfl,q,_,_,.int (uP pc mo A B i j),rfl,rfl,bf.of c2,aT (fX hjl),_,rfl,_,rfl,_,_,rfl,rfl,r',_,_,.int (c6 (uP pc mo A B) A.length B.length (i+1) (j+1)),rfl,rfl,bf.of b2,aT (j:=j+1) (fX (by omega)),_,_,rfl,rfl,_,rfl,rfl,_,rfl,?_⟩
   rw[vp]
   refine eY (λe2=>?_) (λe2=>?_)
   ·rw[if_pos ⟨hjl,e2⟩]at k
    exact k
   ·rw[if_neg λz=>e2 z.2]at k
    refine⟨_,rfl,_,rfl,r',_,_,.int (c6 (uP pc mo A B) A.length B.length (i+1) j),rfl,rfl,bf.of b2,aT (fX (by omega)),_,rfl,rfl,_,rfl,?_⟩
    rw[vp]
    refine eY (λe3=>?_) (λe3=>?_)
    ·rw[if_pos e3]at k
     exact k
    ·rw[if_neg e3]at k
     exact k
  ·rw[decide_eq_false (show ¬(j:Int)<(B.length:Int) by omega)]
   rw[if_neg λz=>hjl z.1]at k
   refine iQ (iQ ⟨_,rfl,_,rfl,r',_,_,.int (c6 (uP pc mo A B) A.length B.length (i+1) j),rfl,rfl,bf.of b2,aT (fX (by omega)),_,rfl,rfl,_,rfl,?_⟩)
   rw[vp]
   refine eY (λe3=>?_) (λe3=>?_)
   ·rw[if_pos e3]at k
    exact k
   ·rw[if_neg e3]at k
    exact k
theorem yQ {jb jY dB:Addr} {g9 iY cV:FuncData} {p:Pm} (T:Txt K mg p w) (fN:Dn K mg "first_moves" nu ["joining"] jb g9) (gK:Dn K mg "first_move" om ["joining","i","j"] jY iY) (HW:aH P w K mg base cO 1 jY iY ["joining","i","j"] (Us K p.au)) (bW:Dn K mg "place_behind" jt ["place","move"] dB cV) (o5:aH P w K mg base cO 1 dB cV ["place","move"] (yx K)):aH P w K mg base cO 2 jb g9 ["joining"] (Rh K p.au):=by
 refine fN.fn.ok jq (λvs H Q E h=>?_) (λcdv A outer s H vs Q E hr h=>?_)
 ·obtain⟨jn,A,B,n1,n2,pc,mo,rfl,_⟩:=h
  rfl
 ·obtain⟨jn,A,B,n1,n2,pc,mo,rfl,hJ,nA,nB,k⟩:=h
  have eA:(A.map V.str).length=A.length:=List.length_map ..
  have eB:(B.map V.str).length=B.length:=List.length_map ..
  refine⟨_,(aj (aD (i:=1) jq.nd rfl (Or.inl rfl) (oU (aa ak (aa ak af))))
   (aj (aD (i:=2) jq.nd rfl (Or.inl rfl) (gj af))
   (aj (yJ PassesOwn.never (aU (Z9 (Nat.lt_of_succ_lt (pM hr))) (pv 1) (oU (aa (aC (aK) rfl T.bJ aW (aa (bG (pv 0) rfl) af)) (aa (aC (aK) rfl T.bJ aW (aa (bG (pv 0) rfl) af)) af))) (bq _)) (aj (aD (i:=3) jq.nd rfl (Or.inl rfl) (az HW (hr.mono (by decide)) rfl gK.m gK.fn.kp gK.b .nil aQ (aa (pv 0) (aa (aV gS (pv 1) ak (λ_ _=>rfl)) (aa (aV gS (pv 1) ak (λ_ _=>rfl)) af)))))
   (aj (fE (rR PySem.F.plainAttrs_list PySem.F.slot_list_append PySem.F.type_list_append jG (pv 2) (aa (pv 3) af)))
   (ao (aD (i:=1) jq.nd rfl (Or.inl rfl) (az o5 (hr.mono (by decide)) rfl bW.m bW.fn.kp bW.b .nil aQ (aa (pv 1) (aa (pv 3) af))))))))
   (ao (aS (pv 2)))))),?_⟩
  refine⟨by show 2<=sizeLine;decide,λq0 Wj=>⟨by show 0<=sizeLine;decide,λl hl=>?_⟩⟩
  have s0:=(ai.upd (o:=.tup [.int 0,.int 0]) Wj).trans (ai.upd (o:=.lst []) hl)
  have nq:q0≠l:=λz=>by rw[←z,ah]at hl;cases hl
  have S0:H l=none:=ai.free (ai.upd Wj) hl
  refine⟨λm σ H2=>∃(q:Addr) (v3:Option V) (cs:List Nat) (i j:Nat),σ=[some (.ref jn),some (.ref q),some (.ref l),v3]/\ai H H2/\H2 l=some (.lst (cs.map sg))/\TupAt H2 q ((i:Int),(j:Int))/\rB (uP pc mo A B) A.length B.length cs i j/\m=A.length+B.length-(i+j),⟨_,q0,_,[],0,0,rfl,s0,ah,?_,.nil,rfl⟩,?_⟩
  ·show upd _ _ _ q0=_
   rw[aA nq]
   exact ah
  rintro m σ H2 ⟨q,v3,cs,i,j,rfl,s2,h2,hq,hF,hm⟩
  obtain⟨hi,hj,hc⟩:=hF.path.in
  obtain⟨dx,l1,l2,la,lb,le,lr,h1,h3,h4,_⟩:=hJ.same s2
  refine⟨_,rfl,_,rfl,jn,_,dx,_,_,rfl,h1,T.bu,T.gY,G6,_,_,rfl,.inl ⟨_,bf.of h3,rfl⟩,_,rfl,jn,_,dx,_,_,rfl,h1,T.bu,T.dU,wu,_,_,rfl,.inl ⟨_,bf.of h4,rfl⟩,by show 2<=sizeLine;decide,λqt Fx=>?_⟩
  have s3:=s2.trans (ai.upd (o:=.tup [.int (((A.map V.str).length:Nat):Int),.int (((B.map V.str).length:Nat):Int)]) Fx)
  have h2':=ai.upd (o:=.tup [.int (((A.map V.str).length:Nat):Int),.int (((B.map V.str).length:Nat):Int)]) Fx _ _ h2
  have hq':TupAt (upd H2 qt (.tup [.int (((A.map V.str).length:Nat):Int),.int (((B.map V.str).length:Nat):Int)])) q ((i:Int),(j:Int)):=ai.upd Fx _ _ hq
  refine⟨q,qt,_,_,rfl,rfl,hq'.fr,iR.of ah,rfl,rfl,_,rfl,?_⟩
  generalize upd H2 qt (.tup [.int (((A.map V.str).length:Nat):Int),.int (((B.map V.str).length:Nat):Int)])=H3 at s3 h2' hq' ⊢
  rw[T7,eA,eB]
  by_cases he:i=A.length/\j=B.length
  ·rw[decide_eq_true (show(i:Int)=(A.length:Int)/\(j:Int)=(B.length:Int) by omega)]
   obtain⟨rfl,rfl⟩:=he
   exact qu ⟨_,rfl,k l H3 cs s3 S0 h2' hF⟩
  ·rw[decide_eq_false (show ¬((i:Int)=(A.length:Int)/\(j:Int)=(B.length:Int)) by omega)]
   obtain⟨i',j',hm',hres⟩:=aag (E:=uP pc mo A B) hi hj he
   obtain⟨e1,e2,e3⟩:=hm'.in hi hj
   refine RG ⟨λσ' H'=>∃(q:Addr) (v3:Option V) (cs:List Nat),σ'=[some (.ref jn),some (.ref q),some (.ref l),v3]/\ai H H'/\H' l=some (.lst (cs.map sg))/\TupAt H' q ((i':Int),(j':Int))/\rB (uP pc mo A B) A.length B.length cs i' j',λσ' H' h=>?_,?_⟩
   ·obtain⟨q,v3,cs,rfl,a,b,c,d⟩:=h
    exact⟨A.length+B.length-(i'+j'),by omega,q,v3,cs,i',j',rfl,a,b,c,d,rfl⟩
   refine⟨_,rfl,_,rfl,q,_,_,_,rfl,rfl,hq'.fr,rfl,_,rfl,q,_,_,_,rfl,rfl,hq'.fr,rfl,jn,A,B,n1,n2,pc,mo,i,j,rfl,hJ.same s3,nA,nB,hi,hj,?_⟩
   refine⟨_,rfl,.inl ⟨rfl,_,bf.of h2'⟩,_,rfl,l,_,_,rfl,rfl,h2',?_,?_⟩
   ·rw[List.length_map]
    exact Nat.lt_of_le_of_lt (show cs.length<=1000 by omega) (by decide)
   have hq2:=hq'.off (o:=.lst (cs.map sg++[V.str ⟨#[zY (uP pc mo A B) A.length B.length i j]⟩])) h2'
   have vP:upd H3 l (.lst (cs.map sg++[V.str ⟨#[zY (uP pc mo A B) A.length B.length i j]⟩])) l=some (.lst ((cs++[zY (uP pc mo A B) A.length B.length i j]).map sg)):=by
    rw[ah,List.map_append]
    rfl
   have s4:ai H (upd H3 l (.lst (cs.map sg++[V.str ⟨#[zY (uP pc mo A B) A.length B.length i j]⟩]))):=ai.at s3 S0
   generalize upd H3 l (.lst (cs.map sg++[V.str ⟨#[zY (uP pc mo A B) A.length B.length i j]⟩]))=H4 at hq2 vP s4 ⊢
   refine⟨_,rfl,_,rfl,q,_,_,rfl,hq2.fr,aaf,λr hr=>?_⟩
   rw[hm'.stp]
   exact⟨r,_,_,rfl,s4.trans (ai.upd hr),ai.upd hr _ _ vP,ah,hF.snoc hm' hres⟩
end
section
variable{P:Program}{w:World}{K:PySem.W.Frag}{mg:Str->Option Value}{base:Heap}
theorem xR {iu dB:Addr} {gr cV:FuncData} {p:Pm} (T:Txt K mg p w) (eL:Dn K mg "laid_columns" lU ["ones","others","one_gaps","other_gaps","moves"] iu gr) (bW:Dn K mg "place_behind" jt ["place","move"] dB cV) (o5:aH P w K mg base cO 1 dB cV ["place","move"] (yx K)):aH P w K mg base cO 2 iu gr ["ones","others","one_gaps","other_gaps","moves"] (Q9 K):=by
 refine eL.fn.ok dJ (λvs H Q E h=>?_) (λcdv A outer s H vs Q E hr h=>?_)
 ·obtain⟨l1,l2,lm,A,B,g1,g2,cs,i,j,rfl,_⟩:=h
  rfl
 ·obtain⟨l1,l2,lm,A,B,g1,g2,cs,ie,je,rfl,h1,h2,hm,nA,nB,zA,zB,z1,z2,hp,k⟩:=h
  obtain⟨pi1,pj1,hpat⟩:=hp.at_
  have hcl:=hp.in.2.2
  obtain⟨pi2,pj2,_⟩:=hp.in
  refine⟨_,(aj (aD (i:=5) dJ.nd rfl (Or.inl rfl) (gj af))
   (aj (aD (i:=6) dJ.nd rfl (Or.inl rfl) (oU (aa ak (aa ak af))))
   (aj (dR PassesOwn.never rfl (eX (pv 4)) (aM (i:=7) dJ.nd rfl (Or.inl rfl)) (aj (aD (i:=8) dJ.nd rfl (Or.inl rfl) (Rv (kM (v:=.ref p.kh) rfl T.Hg rfl) (pv 7) (λ_ _=>rfl)))
   (bX (aD (i:=9) dJ.nd rfl (Or.inl rfl) (yL (aU iP (aV gS (pv 8) ak (λ_ _=>rfl)) ak (bq _)) (aV bh (pv 0) (aV gS (pv 6) ak (λ_ _=>rfl)) (λ_ _=>rfl)) (pv 2)))
   (bX (aD (i:=10) dJ.nd rfl (Or.inl rfl) (yL (aU iP (aV gS (pv 8) ak (λ_ _=>rfl)) ak (bq _)) (aV bh (pv 1) (aV gS (pv 6) ak (λ_ _=>rfl)) (λ_ _=>rfl)) (pv 3)))
   (aj (fE (rR PySem.F.plainAttrs_list PySem.F.slot_list_append PySem.F.type_list_append jG (pv 5) (aa (aB cH (pv 9) (pv 10)) af)))
   (ao (aD (i:=6) dJ.nd rfl (Or.inl rfl) (az o5 (hr.mono (by decide)) rfl bW.m bW.fn.kp bW.b .nil aQ (aa (pv 6) (aa (pv 7) af))))))))))
   (ao (aS (pv 5)))))),?_⟩
  refine⟨by show 0<=sizeLine;decide,λl hl=>?_⟩
  refine⟨by show 2<=sizeLine;decide,λq0 Wj=>?_⟩
  have s1:ai H (upd (upd H l (.lst [])) q0 (.tup [.int 0,.int 0])):=(ai.upd hl).trans (ai.upd Wj)
  have nq:l≠q0:=λz=>by rw[←z,ah]at Wj;cases Wj
  refine⟨_,rfl,lm,rfl,⟨_,bf.of (s1 _ _ hm)⟩,qv (K:=K) (a:=lm) (xs:=cs.map sg) (λi σ H2=>∃(q:Addr) (v7 v8 v9 v10:Option V),σ=[some (.ref l1),some (.ref l2),some (.str g1),some (.str g2),some (.ref lm),some (.ref l),some (.ref q),v7,v8,v9,v10]/\H2 l=some (.lst ((oV A B g1 g2 cs i).map V.str))/\TupAt H2 q ((pI cs i:Int),(pJ cs i:Int))/\ai H H2)
   ⟨q0,_,_,_,_,rfl,by rw[aA nq];exact ah,ah,s1⟩ (λi σ H2 _ hh=>?_) ?_ ?_⟩
  ·obtain⟨_,_,_,_,_,_,_,_,s2⟩:=hh
   exact bf.of (s2 _ _ hm)
  ·rintro i y σ H2 hy ⟨q,v7,v8,v9,v10,rfl,hl2,tq,s2⟩
   obtain⟨c,hc,rfl⟩:=qR hy
   have hi:i<cs.length:=(List.getElem?_eq_some_iff.mp hc).1
   obtain⟨c',hc',Tz⟩:=hpat i hi
   rw[hc]at hc'
   cases hc'
   have agR:=Tz.stp
   have hmo:=Tz.ok
   obtain⟨v,st,hv,hst,ha,hb⟩:∃(v:Addr) (st:bY),jl [(Sum.inr (Str.ofString "p"),V.ref p.iM),(Sum.inr (Str.ofString "a"),V.ref p.iL),(Sum.inr (Str.ofString "b"),V.ref p.iK)] (Sum.inr ⟨#[c]⟩:Key)=some (.ref v)/\(∀H:Hp,iR K H v [.int st.1,.int st.2]) ∧
     ((st.1=1/\pI cs i<A.length/\c≠98)\/(st.1=0/\c=98))/\((st.2=1/\pJ cs i<B.length/\c≠97)\/(st.2=0/\c=97)):=by
    generalize pI cs (i+1)=i1 at Tz
    generalize pJ cs (i+1)=j1 at Tz
    cases Tz with
    |p hi hj=>exact⟨p.iM,(1,1),ee (show(Sum.inr (Str.ofString "p"):Key)=Sum.inr ⟨#[112]⟩ by decide +kernel),T.N5,.inl ⟨rfl,hi,by decide⟩,.inl ⟨rfl,hj,by decide⟩⟩
    |a hi=>exact⟨p.iL,(1,0),(ez (show ¬(Sum.inr (Str.ofString "p"):Key)=Sum.inr ⟨#[97]⟩ by decide +kernel)).trans (ee (show(Sum.inr (Str.ofString "a"):Key)=Sum.inr ⟨#[97]⟩ by decide +kernel)),T.N4,.inl ⟨rfl,hi,by decide⟩,.inr ⟨rfl,rfl⟩⟩
    |b hj=>exact⟨p.iK,(0,1),(ez (show ¬(Sum.inr (Str.ofString "p"):Key)=Sum.inr ⟨#[98]⟩ by decide +kernel)).trans ((ez (show ¬(Sum.inr (Str.ofString "a"):Key)=Sum.inr ⟨#[98]⟩ by decide +kernel)).trans (ee (show(Sum.inr (Str.ofString "b"):Key)=Sum.inr ⟨#[98]⟩ by decide +kernel))),T.N3,.inr ⟨rfl,rfl⟩,.inl ⟨rfl,hj,by decide⟩⟩
   refine⟨_,rfl,p.kh,_,.inr ⟨#[c]⟩,_,rfl,rfl,T.zj P,hv,?_⟩
   obtain⟨L,hL⟩:∃L:Str,L=(if c=98 then g1 else A.getD (pI cs i) ⟨#[]⟩):=⟨_,rfl⟩
   obtain⟨R,hR⟩:∃R:Str,R=(if c=97 then g2 else B.getD (pJ cs i) ⟨#[]⟩):=⟨_,rfl⟩
   have zL:L.cps.size<=1000:=by
    rcases ha with⟨_,e2,e3⟩|⟨_,e3⟩
    ·rw[hL,if_neg e3];exact zA _ (getD_mem e2)
    ·rw[hL,if_pos e3];exact z1
   have zR:R.cps.size<=1000:=by
    rcases hb with⟨_,e2,e3⟩|⟨_,e3⟩
    ·rw[hR,if_neg e3];exact zB _ (getD_mem e2)
    ·rw[hR,if_pos e3];exact z2
   refine⟨λσ' H'=>H'=H2/\σ'=[some (.ref l1),some (.ref l2),some (.str g1),some (.str g2),some (.ref lm),some (.ref l),some (.ref q),some (.str ⟨#[c]⟩),some (.ref v),some (.str L),v10],?_,?_⟩
   ·refine⟨_,rfl,v,_,_,_,rfl,rfl,hst _,rfl,rfl,_,rfl,?_⟩
    rcases ha with⟨e1,e2,e3⟩|⟨e1,e3⟩
    ·rw[e1,decide_eq_true rfl]
     refine kB ⟨_,rfl,_,rfl,q,_,_,_,rfl,rfl,tq.fr,rfl,l1,_,_,.str L,rfl,rfl,bf.of (s2 _ _ h1),aT ?_,rfl,rfl⟩
     rw[hL,if_neg e3,List.getElem?_map,List.getElem?_eq_getElem e2,aO (List.getElem?_eq_getElem e2)];rfl
    ·rw[e1,decide_eq_false (show ¬V.int 0=V.int 1 by decide)]
     refine iQ ⟨_,rfl,rfl,?_⟩
     rw[hL,if_pos e3];rfl
   rintro σ' H3 ⟨rfl,rfl⟩
   refine⟨λσ' H'=>H'=H3/\σ'=[some (.ref l1),some (.ref l2),some (.str g1),some (.str g2),some (.ref lm),some (.ref l),some (.ref q),some (.str ⟨#[c]⟩),some (.ref v),some (.str L),some (.str R)],?_,?_⟩
   ·refine⟨_,rfl,v,_,_,_,rfl,rfl,hst _,rfl,rfl,_,rfl,?_⟩
    rcases hb with⟨e1,e2,e3⟩|⟨e1,e3⟩
    ·rw[e1,decide_eq_true rfl]
     refine kB ⟨_,rfl,_,rfl,q,_,_,_,rfl,rfl,tq.fr,rfl,l2,_,_,.str R,rfl,rfl,bf.of (s2 _ _ h2),aT ?_,rfl,rfl⟩
     rw[hR,if_neg e3,List.getElem?_map,List.getElem?_eq_getElem e2,aO (List.getElem?_eq_getElem e2)];rfl
    ·rw[e1,decide_eq_false (show ¬V.int 0=V.int 1 by decide)]
     refine iQ ⟨_,rfl,rfl,?_⟩
     rw[hR,if_pos e3];rfl
   rintro σ' H4 ⟨rfl,rfl⟩
   refine⟨_,rfl,.inl ⟨rfl,_,bf.of hl2⟩,_,rfl,_,rfl,_,_,rfl,rfl,Nat.le_trans (Nat.add_le_add zL zR) (by decide),l,_,_,rfl,rfl,hl2,?_,?_⟩
   ·unfold oV
    rw[List.length_map,List.length_map,List.length_range]
    exact Nat.lt_of_lt_of_le (show i<1000 by omega) (by decide)
   have IF:=tq.off (o:=.lst ((oV A B g1 g2 cs i).map V.str++[V.str (L++R)])) hl2
   have hl3:upd H4 l (.lst ((oV A B g1 g2 cs i).map V.str++[V.str (L++R)])) l=some (.lst ((oV A B g1 g2 cs (i+1)).map V.str)):=by
    rw[ah]
    unfold oV
    rw[qN,List.map_append,List.map_singleton,aO hc,hL,hR]
    rfl
   have s3:ai H (upd H4 l (.lst ((oV A B g1 g2 cs i).map V.str++[V.str (L++R)]))):=ai.at s2 hl
   generalize upd H4 l (.lst ((oV A B g1 g2 cs i).map V.str++[V.str (L++R)]))=H5 at IF hl3 s3 ⊢
   refine⟨_,rfl,_,rfl,q,c,_,rfl,IF.fr,hmo,λr hr=>?_⟩
   rw[agR]
   exact⟨r,_,_,_,_,rfl,ai.upd hr _ _ hl3,ah,s3.trans (ai.upd hr)⟩
  ·rintro σ H2 ⟨q,v7,v8,v9,v10,rfl,hl2,tq,s2⟩
   rw[List.length_map]at hl2
   exact⟨_,rfl,k l H2 s2 hl hl2⟩
theorem xS {iw jb iu mq aR:Addr} {gu g9 gr jJ bK:FuncData} {p:Pm} (T:Txt K mg p w) (eN:Dn K mg "joined_block" lV ["joining"] iw gu) (fN:Dn K mg "first_moves" nu ["joining"] jb g9) (AH:aH P w K mg base cO 2 jb g9 ["joining"] (Rh K p.au)) (eL:Dn K mg "laid_columns" lU ["ones","others","one_gaps","other_gaps","moves"] iu gr) (zU:aH P w K mg base cO 2 iu gr ["ones","others","one_gaps","other_gaps","moves"] (Q9 K)) (iA:Dn K mg "turned" rL ["texts","many"] mq jJ) (zQ:aH P w K mg base cO 2 mq jJ ["texts","many"] (yr K)) (aX:Dm K "__init__" "Block.__init__" cj ["self","rows"] aR bK) (ki:Mk K p.aJ aR) (cN:aH P w K mg base cO 5 aR bK ["self","rows"] (nv (yc K p.aJ p.dI))):aH P w K mg base cO 7 iw gu ["joining"] (Rf K p.aJ p.au):=by
 refine eN.fn.ok nT (λvs H Q E h=>?_) (λcdv A outer s H vs Q E hr h=>?_)
 ·obtain⟨jn,A,B,n1,n2,pc,mo,kn,rfl,_⟩:=h
  rfl
 ·obtain⟨jn,A,B,n1,n2,pc,mo,kn,rfl,hJ,ok,k⟩:=h
  refine⟨_,(aj (aD (i:=1) nT.nd rfl (Or.inl rfl) (az AH (hr.mono (by decide)) rfl fN.m fN.fn.kp fN.b .nil aQ (aa (pv 0) af)))
   (aj (aD (i:=2) nT.nd rfl (Or.inl rfl) (az zU (hr.mono (by decide)) rfl eL.m eL.fn.kp eL.b .nil aQ (aa (bG (pv 0) rfl) (aa (bG (pv 0) rfl) (aa (bG (pv 0) rfl) (aa (bG (pv 0) rfl) (aa (pv 1) af)))))))
   (ao (aS (oB ki cN (hr.mono (by decide)) rfl T.l7 aX.b .nil aQ (aa (az zQ (hr.mono (by decide)) rfl iA.m iA.fn.kp iA.b .nil aQ (aa (pv 2) (aa (aC (aK) rfl T.bJ aW (aa (aB cH (bG (pv 0) rfl) (bG (pv 0) rfl)) af)) af))) af)))))),?_⟩
  have nA:=ok.la
  have nB:=ok.lb
  refine⟨_,rfl,jn,A,B,n1,n2,pc,mo,rfl,hJ,by omega,by omega,λlm H1 cs s1 _ hm hF=>?_⟩
  obtain⟨dx,l1,l2,la,lb,le,lr,h1,h2,h3,_⟩:=hJ.same s1
  have hin:=hF.path.in
  have m1:=ok.s1
  have m2:=ok.s2
  refine⟨_,rfl,jn,_,dx,_,_,rfl,h1,T.bu,T.gY,G6,_,rfl,jn,_,dx,_,_,rfl,h1,T.bu,T.dU,wu,_,rfl,jn,_,dx,_,_,rfl,h1,T.bu,T.kR,xw,_,rfl,jn,_,dx,_,_,rfl,h1,T.bu,T.jv,tW,_,rfl,l1,l2,lm,A,B,aF n1,aF n2,cs,A.length,B.length,rfl,h2,h3,hm,by omega,by omega,λc hc=>by rw[ok.a.size c hc];omega,λc hc=>by rw[ok.b.size c hc];omega,by rw[gm];omega,by rw[gm];omega,hF.path,λlc H2 s2 _ hc=>?_⟩
  have s12:=s1.trans s2
  have Bb:=s2 _ _ h1
  have hC:=hF.path.cols ok.a ok.b ok.kn
  have hz:(oV A B (aF n1) (aF n2) cs cs.length).length=cs.length:=by unfold oV;rw[List.length_map,List.length_range]
  have hp1:=ok.p1
  obtain⟨Mz,_⟩:=t9 (by omega) hC
  refine⟨_,rfl,_,rfl,jn,_,dx,_,_,rfl,Bb,T.bu,T.kR,xw,_,rfl,jn,_,dx,_,_,rfl,Bb,T.bu,T.jv,tW,_,_,rfl,rfl,?_,_,_,rfl,⟨?_,rfl⟩,.ref lc,oV A B (aF n1) (aF n2) cs cs.length,n1+n2,?_,⟨lc,rfl,.inl (bf.of hc)⟩,⟨by rw[hz];omega,λr hr=>by rw[hC.size r hr];omega⟩,by omega,λr hr=>Nat.le_of_eq (hC.size r hr).symm,λlt H3 s3 _ ht=>?_⟩
  ·show(aF n1).cps.size+(aF n2).cps.size<=sizeLine
   rw[gm,gm]
   exact Nat.le_trans (show _<=1000 by omega) (by decide)
  ·show(aF n1++aF n2).cps.size<=sizeLine
   rw[qF,gm,gm]
   exact Nat.le_trans (show _<=1000 by omega) (by decide)
  ·show [V.ref lc,V.int (((aF n1++aF n2).cps.size:Nat):Int)]=_
   rw[qF,gm,gm]
  refine λo TF ho hdx XT=>?_
  have s7:ai H3 (upd (upd H3 TF (.own o)) o (.ins p.aJ TF [])):=ai.at (ai.upd hdx) ho
  refine⟨o,TF,_,_,rfl,ah,⟨lt,rfl,.inl (bf.of (s7 _ _ ht))⟩,⟨by rw[aZ];omega,λr hr=>?_⟩,λ_ H8 q1 q2=>?_,λz=>(by rw[Mz]at z;cases z)⟩
  ·rw[←hz]at hin
   obtain⟨j,_,rfl⟩:=List.mem_map.mp (show r∈(List.range (n1+n2)).map (eE (oV A B (aF n1) (aF n2) cs cs.length)) from hr)
   rw[show(eE (oV A B (aF n1) (aF n2) cs cs.length) j).cps.size=(oV A B (aF n1) (aF n2) cs cs.length).length from List.length_map ..]
   omega
  ·have g2:ai H3 H8:=λc u hc=>q1 _ _ (s7 _ _ hc) (λz=>by rw[z,ho]at hc;cases hc)
   exact⟨rfl,k o H8 cs ((s12.trans s3).trans g2) (ai.free (s12.trans s3) ho) hF q2⟩
end
section
variable{P:Program}{w:World}{K:PySem.W.Frag}{mg:Str->Option Value}{base:Heap}
theorem Su {mw iw bA:Addr} {jS gu fz:FuncData} {p:Pm} (T:Txt K mg p w) (fB:Dn K mg "joined" rM ["prices","one","other"] mw jS) (eN:Dn K mg "joined_block" lV ["joining"] iw gu) (zV:aH P w K mg base cO 7 iw gu ["joining"] (Rf K p.aJ p.au)) (dX:Dm K "__init__" "Joining.__init__" cF ["self","prices","one","other"] bA fz) (wO:Mk K p.au bA) (uN:aH P w K mg base (vN P w) 6 bA fz ["self","prices","one","other"] (Rc K p.aq p.aJ p.au p.aN)):aH P w K mg base (vN P w) 8 mw jS ["prices","one","other"] (vR K p.aq p.aJ p.aN):=by
 refine fB.fn.GZ Sf (λvs H Q E h=>?_) (λcdv A outer s H vs Q E hr h=>?_)
 ·obtain⟨x,o1,o2,sg,rows,fo,fm,r1,r2,rfl,_⟩:=h
  rfl
 ·obtain⟨x,o1,o2,sg,rows,fo,fm,r1,r2,rfl,hP,Bx,hB2,rD,qb,hb1,hb2,k,ke⟩:=h
  refine⟨_,(ao (aS (az zV (hr.mono (by decide)) rfl eN.m eN.fn.kp eN.b .nil aQ (aa (oB wO uN (hr.mono (by decide)) rfl T.Qn dX.b .nil (Lets.passes l8) (aa (pv 0) (aa (pv 1) (aa (pv 2) af)))) af)))),?_⟩
  refine⟨_,rfl,_,rfl,_,rfl,λjn dx hj hdx XT=>?_⟩
  have s1:ai H (upd (upd H dx (.own jn)) jn (.ins p.au dx [])):=ai.at (ai.upd hdx) hj
  refine⟨jn,dx,x,o1,o2,sg,rows,fo,fm,r1,r2,rfl,ah,hP.same s1,Bx.same s1,hB2.same s1,rD,qb,hb1,hb2,λhO H2 q1 q2=>?_,λi j hB TF H2 q1 hd=>ke i j hB TF H2 (λc u hc=>q1 _ _ (s1 _ _ hc) (λz=>by rw[z,hj]at hc;cases hc)) hd⟩
  have s2:ai H H2:=λc u hc=>q1 _ _ (s1 _ _ hc) (λz=>by rw[z,hj]at hc;cases hc)
  have cA:=pO hb1 λr hr=>hO r (List.mem_append_left _ hr)
  have cB:=pO hb2 λr hr=>hO r (List.mem_append_right _ hr)
  have hp:0<r1.length:=List.length_pos_iff.mpr (cP.mp (eF hb1)).1
  refine⟨rfl,jn,cols r1 (br r1),cols r2 (br r2),r1.length,r2.length,_,_,(tP sg).cps.toList,rfl,q2,⟨cA,cB,by rw[aZ];exact rD.br (eF hb1),by rw[aZ];exact qb.br (eF hb2),rD.1,qb.1,hp,oG.mpr (.inl rfl)⟩,λb H3 cs s3 BP hF Pr=>?_⟩
  rw[aZ,aZ]at hF
  exact k hO b H3 cs (s2.trans s3) (s2.free BP) hF Pr
theorem yP {ja mw:Addr} {g8 jS:FuncData} {p:Pm} (T:Txt K mg p w) (fM:Dn K mg "_law_refused" nk ["_law_prices_here","_law_one","_law_other"] ja g8) (fB:Dn K mg "joined" rM ["prices","one","other"] mw jS) (vK:aH P w K mg base (vN P w) 8 mw jS ["prices","one","other"] (vR K p.aq p.aJ p.aN)):aH P w K mg base cO 10 ja g8 ["_law_prices_here","_law_one","_law_other"] (Um K p.aq p.aJ):=by
 refine fM.fn.ok lP (λvs H Q E h=>?_) (λcdv A outer s H vs Q E hr h=>?_)
 ·obtain⟨x,o1,o2,sg,rows,fo,fm,r1,r2,i,j,rfl,_⟩:=h
  rfl
 ·obtain⟨x,o1,o2,sg,rows,fo,fm,r1,r2,i,j,rfl,hP,Bx,hB2,rD,qb,hb1,hb2,hB,kk⟩:=h
  refine⟨_,(aj (aD (i:=3) lP.nd rfl (Or.inl rfl) Z8)
   (bX (Z3 aaL (λ_ _ _ LT PO=>(ao (fE (UP vK (hr.mono (by decide)) rfl fB.m fB.fn.kp fB.b .nil LT (aa (pv 0) (aa (pv 1) (aa (pv 2) af))))))) (abY (i:=4) lP.nd rfl rfl rfl T.A4 T.R1 (λea=>(ao (aD (i:=3) lP.nd rfl (Or.inl rfl) (oU (aa (N7 (K':=K) rfl (pv 4) rfl) (aa (N7 (K':=K) rfl (pv 4) rfl) af)))))) Z6))
   (ao (aS (pv 3))))),?_⟩
  refine⟨λσ' H'=>ai H H'/\∃q v4,σ'=[some (.ref x),some (.ref o1),some (.ref o2),some (.ref q),v4]/\H' q=some (.tup [.int (i:Int),.int (j:Int)]),?_,?_⟩
  ·refine⟨_,rfl,_,rfl,_,rfl,x,o1,o2,sg,rows,fo,fm,r1,r2,rfl,hP,Bx,hB2,rD,qb,hb1,hb2,λz=>absurd z hB.no,λi' j' MR dx H2 s2 hd=>?_⟩
   obtain⟨rfl,rfl⟩:=hB.uniq MR
   refine⟨_,_,rfl,T.wm,kB λea JA=>?_⟩
   have JB:upd H2 ea (Xm ea (.ref p.aN) (some dx)) ea=some (Xm ea (.ref p.aN) (some dx)):=ah
   have Wl:upd H2 ea (Xm ea (.ref p.aN) (some dx)) dx=some (Ic dx (Hj i j)):=ai.upd JA _ _ hd
   have s3:ai H2 (upd H2 ea (Xm ea (.ref p.aN) (some dx))):=ai.upd JA
   refine⟨_,rfl,ea,_,dx,_,_,rfl,JB,Wl,T.AM,T.vm,VI,_,rfl,ea,_,dx,_,_,rfl,JB,Wl,T.AM,T.rX,QC,by show 2<=sizeLine;decide,λt1 ht1=>?_⟩
   exact⟨(s2.trans s3).trans (ai.upd ht1),t1,_,rfl,ah⟩
  rintro σ' H1 ⟨s1,q,v4,rfl,hq⟩
  exact⟨_,rfl,kk q H1 s1 hq⟩
theorem GV {lI:Addr} {jP:FuncData} {p:Pm} (T:Txt K mg p w) (eK:Dn K mg "_law_order" pF ["_law_moves_here"] lI jP)  :aH P w K mg base cO 1 lI jP ["_law_moves_here"] NK:=by
 refine eK.fn.ok Gx (λvs H Q E h=>?_) (λcdv A outer s H vs Q E hr h=>?_)
 ·obtain⟨ms,rfl,_⟩:=h
  rfl
 ·obtain⟨ms,rfl,hn,hok,k⟩:=h
  refine⟨_,(ao (aS (dw (N:=["_law_move"]) rfl (λ_=>⟨[],bI.plain (by decide +kernel) rfl (by decide +kernel) (by decide +kernel)⟩) (rQ (pv 0)) (λ_ _ _ _ _ _ _=>(aM (i:=0) (show(["_law_move"]:List Str).Nodup by decide +kernel) rfl (Or.inl rfl))) (λ_ _ _ _ _ _ _=>(UQ (K':=K) rfl PySem.F.plainAttrs_str PySem.F.slot_str_find PySem.F.type_str_find WY bH (aa (pv 0) af)))))),?_⟩
  refine⟨_,rfl,_,rfl,λl hl=>?_⟩
  refine gb ms.length (λi=>V.int (vW (ms.getD i 0))) hl (Nat.lt_of_le_of_lt hn (by decide)) (λi H2 s2 hi=>by show i<(mE ms).cps.size;rw[nI];exact hi) (λH2 s2=>by show(mE ms).cps.size<=ms.length;rw[nI];exact Nat.le_refl _) (λi y H2 H3 R s2 hi hy hR=>?_) λH2 s2 hl2=>?_
  ·obtain⟨rfl,c,hc,rfl⟩:=hy
   refine⟨Kp.mG,?_⟩
   have hc':ms[i]? =some c:=sr hc
   rw[aO hc']at hR
   refine⟨rfl,_,rfl,_,_,rfl,.inl ⟨rfl,?_⟩⟩
   have e:BA (Str.ofString "pab") ⟨#[c]⟩ 0 (Str.ofString "pab").cps.size=vW c:=by
    rcases hok c (List.mem_of_getElem? hc')with rfl|rfl|rfl<;>decide +kernel
   rw[e]
   exact hR _ (ai.refl _)
  ·refine k l H2 s2 hl ?_
   rw[hl2,List.map_map]
   congr 2
   exact b9 (d:=0) ms λc=>V.int (vW c)
theorem GW {lJ bO:Addr} {jQ bD:FuncData} {p:Pm} (T:Txt K mg p w) (iF:Dn K mg "_law_moves" pG ["_law_script","_law_at","_law_i","_law_j"] lJ jQ) (aP:Dn K mg "_law_next" iH ["_law_script","_law_at"] bO bD) (fk:aH P w K mg base cO 1 bO bD ["_law_script","_law_at"] (uh K)):aH P w K mg base cO 2 lJ jQ ["_law_script","_law_at","_law_i","_law_j"] (NN K):=by
 refine iF.fn.ok dY (λvs H Q E h=>?_) (λcdv A outer s H vs Q E hr h=>?_)
 ·obtain⟨s,t,ns,k,i,j,rfl,_⟩:=h
  rfl
 ·obtain⟨s,t,ns,k,i,j,rfl,hC,hk,hi,hj,kk⟩:=h
  have k0:=hC.k0
  refine⟨_,(aj (aD (i:=4) dY.nd rfl (Or.inl rfl) bH)
   (aj (yJ PassesOwn.never (PW.pt (yI (aU xr (pv 2) ak (bq _)) (uu (aU xr (pv 3) ak (bq _))))) (aj (aD (i:=5) dY.nd rfl (Or.inl rfl) (az fk (hr.mono (by decide)) rfl aP.m aP.fn.kp aP.b .nil aQ (aa (pv 0) (aa (pv 1) af))))
   (ao (cK (PW.pt (uv (aU xr (pv 2) ak (bq _)) (uv (aU xr (pv 3) ak (bq _)) (sV (aU iP (aB cG (pv 5) ak) ak (bq _)))))) (aj (aD (i:=4) dY.nd rfl (Or.inl rfl) (aB cH (pv 4) bH))
   (aj (aD (i:=2) dY.nd rfl (Or.inl rfl) (aB nU (pv 2) ak))
   (ao (aD (i:=3) dY.nd rfl (Or.inl rfl) (aB nU (pv 3) ak))))) (ao (cK (PW.pt (uv (aU xr (pv 2) ak (bq _)) (sV (PW.pt (yI (aU iP (pv 3) ak (bq _)) (uu (aU iP (aB cG (aB cT (pv 5) ak) ak) ak (bq _)))))))) (aj (aD (i:=4) dY.nd rfl (Or.inl rfl) (aB cH (pv 4) bH))
   (ao (aD (i:=2) dY.nd rfl (Or.inl rfl) (aB nU (pv 2) ak)))) (aj (aD (i:=4) dY.nd rfl (Or.inl rfl) (aB cH (pv 4) bH))
   (ao (aD (i:=3) dY.nd rfl (Or.inl rfl) (aB nU (pv 3) ak))))))))))
   (ao (aS (pv 4))))),?_⟩
  have ep:(Str.ofString "p").cps.toList=[112]:=by decide +kernel
  have ea:(Str.ofString "a").cps.toList=[97]:=by decide +kernel
  have eb:(Str.ofString "b").cps.toList=[98]:=by decide +kernel
  refine⟨λm σ H2=>∃i' j',m=i'+j'/\DE H s t k i j i' j' σ H2,⟨_,i,j,rfl,[],k,_,rfl,ai.refl _,hC.at_,by omega,by omega,by rw[List.length_nil];omega,by rw[List.length_nil];omega,λds h=>h⟩,?_⟩
  rintro m σ H2 ⟨i',j',rfl,ms,k',v5,rfl,w2,yh,b1,b2,b3,b4,hrw⟩
  have C2:uO K H2 s t ns k':=hC.off w2 yh (by omega)
  have size:∀S:Str,S.cps.size=1->(mE ms).cps.size+S.cps.size<=sizeLine:=λS hS=>by
   rw[nI,hS]
   exact Nat.le_trans (show _<=1000 by omega) (by decide)
  have mk:∀{c i2 j2:Nat} {v:Option V} {S:Str} {x y:Int},S.cps.toList=[c]->x=(i2:Int)->y=(j2:Int)->i2+j2<i'+j'->(∀ds,xF i2 j2 ds->xF i' j' (c::ds)) →
    ∃i3 j3,i3+j3<i'+j'/\DE H s t k i j i3 j3 [some (.ref s),some (.ref t),some (.int x),some (.int y),some (.str (mE ms++S)),v] (upd H2 t (.lst [.int (k'+1)])):=λ{c i2 j2 v S x y} hS hx hy hlt hr=>by
   refine⟨i2,j2,hlt,ms++[c],k'+1,v,by rw[Q4 ms c S hS,hx,hy],by rw[Wo.set];exact w2,ah,by omega,by omega,by rw[List.length_append,List.length_singleton];omega,by rw[List.length_append,List.length_singleton];omega,λds h=>?_⟩
   rw[List.append_assoc]
   exact hrw _ (hr ds h)
  refine⟨_,rfl,_,_,rfl,rfl,_,rfl,?_⟩
  by_cases hi0:i'=0
  ·subst hi0
   rw[decide_eq_false (show ¬(0:Int)<((0:Nat):Int) by omega)]
   refine iQ ⟨_,rfl,_,_,rfl,rfl,_,rfl,?_⟩
   by_cases hj0:j'=0
   ·subst hj0
    rw[decide_eq_false (show ¬(0:Int)<((0:Nat):Int) by omega)]
    refine iQ ⟨_,rfl,kk ms k' H2 ?_ w2 yh b1 (by omega)⟩
    have:=hrw [] .nil
    rw[List.append_nil]at this
    exact this
   ·obtain⟨b,rfl⟩:∃b,j'=b+1:=⟨j'- 1,by omega⟩
    rw[decide_eq_true (show(0:Int)<((b+1:Nat):Int) by omega)]
    refine kB ⟨λσ' H'=>∃i3 j3,i3+j3<0+(b+1)/\DE H s t k i j i3 j3 σ' H',λσ' H' ⟨i3,j3,hlt,h⟩=>⟨_,hlt,i3,j3,rfl,h⟩,?_⟩
    refine⟨_,rfl,_,rfl,s,t,ns,k',rfl,C2,by omega,λm h1 h2=>?_⟩
    refine⟨_,rfl,_,_,rfl,rfl,_,rfl,?_⟩
    rw[decide_eq_false (show ¬(0:Int)<((0:Nat):Int) by omega)]
    refine iQ (iQ ⟨_,rfl,_,_,rfl,rfl,_,rfl,?_⟩)
    rw[decide_eq_false (show ¬(0:Int)<((0:Nat):Int) by omega)]
    refine iQ (iQ ⟨_,rfl,_,_,rfl,rfl,size _ rfl,_,rfl,_,_,rfl,rfl,?_⟩)
    exact mk eb rfl (by omega) (by omega) λds h=>.b h
  ·obtain⟨a,rfl⟩:∃a,i'=a+1:=⟨i'- 1,by omega⟩
   rw[decide_eq_true (show(0:Int)<((a+1:Nat):Int) by omega)]
   refine kB (kB ⟨λσ' H'=>∃i3 j3,i3+j3<a+1+j'/\DE H s t k i j i3 j3 σ' H',λσ' H' ⟨i3,j3,hlt,h⟩=>⟨_,hlt,i3,j3,rfl,h⟩,?_⟩)
   refine⟨_,rfl,_,rfl,s,t,ns,k',rfl,C2,by omega,λm h1 h2=>?_⟩
   refine⟨_,rfl,_,_,rfl,rfl,_,rfl,?_⟩
   rw[decide_eq_true (show(0:Int)<((a+1:Nat):Int) by omega)]
   refine kB ⟨_,rfl,_,_,rfl,rfl,_,rfl,?_⟩
   by_cases hj0:j'=0
   ·subst hj0
    rw[decide_eq_false (show ¬(0:Int)<((0:Nat):Int) by omega)]
    refine iQ (iQ ⟨_,rfl,_,_,rfl,rfl,_,rfl,?_⟩)
    rw[decide_eq_true (show(0:Int)<((a+1:Nat):Int) by omega)]
    refine kB ⟨_,rfl,rfl,_,rfl,?_⟩
    rw[decide_eq_true (show V.int ((0:Nat):Int)=V.int 0 from rfl)]
    refine kB (kB ⟨_,rfl,_,_,rfl,rfl,size _ rfl,_,rfl,_,_,rfl,rfl,?_⟩)
    exact mk ea (by omega) rfl (by omega) λds h=>.a h
   ·obtain⟨b,rfl⟩:∃b,j'=b+1:=⟨j'- 1,by omega⟩
    rw[decide_eq_true (show(0:Int)<((b+1:Nat):Int) by omega)]
    refine kB ⟨_,rfl,_,_,rfl,rfl,(by show(0:Int)<2;decide),rfl,_,rfl,?_⟩
    rw[vp]
    refine eY (λhm=>?_) (λhm=>?_)
    ·refine⟨_,rfl,_,_,rfl,rfl,size _ rfl,_,rfl,_,_,rfl,rfl,_,rfl,_,_,rfl,rfl,?_⟩
     exact mk ep (by omega) (by omega) (by omega) λds h=>.p h
    ·refine⟨_,rfl,_,_,rfl,rfl,_,rfl,?_⟩
     rw[decide_eq_true (show(0:Int)<((a+1:Nat):Int) by omega)]
     refine kB ⟨_,rfl,rfl,_,rfl,?_⟩
     rw[vp,decide_eq_false (show ¬((b+1:Nat):Int)=0 by omega)]
     refine iQ ⟨_,rfl,_,_,rfl,rfl,⟨by decide,by decide⟩,_,_,rfl,rfl,(by show(0:Int)<2;decide),rfl,_,rfl,?_⟩
     rw[vp]
     refine eY (λhm=>?_) (λhm=>?_)
     ·refine⟨_,rfl,_,_,rfl,rfl,size _ rfl,_,rfl,_,_,rfl,rfl,?_⟩
      exact mk ea (by omega) rfl (by omega) λds h=>.a h
     ·refine⟨_,rfl,_,_,rfl,rfl,size _ rfl,_,rfl,_,_,rfl,rfl,?_⟩
      exact mk eb rfl (by omega) (by omega) λds h=>.b h
end
section
variable{P:Program}{w:World}{K:PySem.W.Frag}{mg:Str->Option Value}{base:Heap}
theorem Ac {jV:Addr} {iV:FuncData} {p:Pm} (T:Txt K mg p w) (dF:Dn K mg "_law_packed" oh ["_law_rows_here"] jV iV)  :aH P w K mg base cO 2 jV iV ["_law_rows_here"] (AX K):=by
 refine dF.fn.ok tS (λvs H Q E h=>?_) (λcdv A outer s H vs Q E hr h=>?_)
 ·obtain⟨a,rs,rfl,_⟩:=h
  rfl
 ·obtain⟨a,rs,rfl,ha,hS,Mt,Cb,kk⟩:=h
  obtain⟨hne,hw⟩:=cP.mp Mt
  obtain⟨r0,hr0⟩:∃r0,rs[0]? =some r0:=⟨_,List.getElem?_eq_getElem (List.length_pos_iff.mpr hne)⟩
  have h0:=hw r0 (List.mem_of_getElem? hr0)
  have hz0:rs.length<sizeLine:=Nat.lt_of_le_of_lt hS.len (by decide)
  refine⟨_,(aj (aD (i:=1) tS.nd rfl (Or.inr rfl) (UN (N:=["_law_k","_law_rows_here"]) rfl (bI.jx (nt:=1) (ix:=[0]) rfl (by decide +kernel) (by decide +kernel) (by kernel_rfl) rfl (by kernel_rfl)) (eV rfl T.gT (aa (aC (aK) rfl T.bJ aW (aa (aV bh (pv 0) ak (λ_ _=>rfl)) af)) af)) (λ_ _ _ _ _ _ _=>(aM (i:=0) (show(["_law_k","_law_rows_here"]:List Str).Nodup by decide +kernel) rfl (Or.inr rfl))) (λ_ _ _ _ _ _ _=>(pv 0)) (λ_ _ _ _ _ _ _=>(kP (aC (Hx (K':=K) rfl rfl) rfl T.TR QK (aa (dw (N:=["_law_row","_law_k"]) rfl (bI.jx (nt:=1) (ix:=[0]) rfl (by decide +kernel) (by decide +kernel) (by kernel_rfl) rfl (by kernel_rfl)) (N6 (K':=K) rfl (pv 1)) (λ_ _ _ _ _ _ _=>(aM (i:=0) (show(["_law_row","_law_k"]:List Str).Nodup by decide +kernel) rfl (Or.inl rfl))) (λ_ _ _ _ _ _ _=>(pK rV (aV l9 (pv 0) (pv 1) (λ_ _=>rfl)) bH (bq _)))) af))))))
   (ao (aS (dw (N:=["_law_row","_law_kept"]) rfl (bI.jx (nt:=1) (ix:=[1]) rfl (by decide +kernel) (by decide +kernel) (by kernel_rfl) rfl (by kernel_rfl)) (eX (pv 0)) (λ_ _ _ _ _ _ _=>(aM (i:=0) (show(["_law_row","_law_kept"]:List Str).Nodup by decide +kernel) rfl (Or.inr rfl))) (λ_ _ _ _ _ _ _=>(UQ (K':=K) rfl PySem.F.plainAttrs_str PySem.F.slot_str_join PySem.F.type_str_join (Oo (K':=K) rfl) bH (aa (dw (N:=["_law_k","_law_row"]) rfl (bI.jx (nt:=1) (ix:=[0]) rfl (by decide +kernel) (by decide +kernel) (by kernel_rfl) rfl (by kernel_rfl)) (N6 (K':=K) rfl (pv 1)) (λ_ _ _ _ _ _ _=>(aM (i:=0) (show(["_law_k","_law_row"]:List Str).Nodup by decide +kernel) rfl (Or.inl rfl))) (λ_ _ _ _ _ _ _=>(aV l9 (pv 1) (pv 0) (λ_ _=>rfl)))) af))))))),?_⟩
  refine⟨_,rfl,a,_,_,.str r0,rfl,rfl,ha,aT (j:=0) (by rw[List.getElem?_map,hr0];rfl),_,_,rfl,⟨Nat.le_trans (hS.row _ (List.mem_of_getElem? hr0)) (by decide),rfl⟩,((br rs:Nat):Int),(by rw[←h0];rfl),by omega,by omega,λl hl=>?_⟩
  refine Xu (br rs) (λi=>!cC (eE rs i)) (λi=>V.int (i:Int)) hl (Nat.lt_of_le_of_lt Cb (by decide)) (λi H2 s2 hi=>?_) (λH2 s2=>?_) (λi y H2 H3 R S s2 hi hy hR hF=>?_) λH2 s2 hl2=>?_
  ·show i<((br rs:Nat):Int).toNat
   omega
  ·show((br rs:Nat):Int).toNat<=br rs
   omega
  ·obtain⟨rfl,rfl⟩:=hy
   refine⟨Kp.mG,?_⟩
   have hat:∀r,r<rs.length->∃c,rs[r]? =some (rs.getD r ⟨#[]⟩)/\(rs.getD r ⟨#[]⟩).cps.toList[i]? =some c/\(rs.getD r ⟨#[]⟩).cps.toList.getD i 0=c/\(rs.getD r ⟨#[]⟩).cps.size<=1000:=λr hr=>by
    have e1:=List.getElem?_eq_getElem hr
    have hm:=List.getElem_mem hr
    rw[aO e1]
    have hi2:i<rs[r].cps.toList.length:=by rw[Array.length_toList,hw _ hm];exact hi
    exact⟨_,e1,List.getElem?_eq_getElem hi2,aO (List.getElem?_eq_getElem hi2),hS.row _ hm⟩
   refine⟨_,rfl,a,rfl,⟨_,ai.seq s2 ha⟩,λl2 hl2=>?_⟩
   refine gb rs.length (λr=>V.bl (!decide (sg ((rs.getD r ⟨#[]⟩).cps.toList.getD i 0)=V.str (Str.ofString "-")))) hl2 hz0 (λr H4 s4 hr=>?_) (λH4 s4=>?_) (λr y H4 H5 R2 s4 hr hy tY=>?_) λH4 s4 vP=>?_
   ·obtain⟨c,e1,_⟩:=hat r hr
    exact⟨_,_,ai.seq (s2.trans s4) ha,by rw[List.getElem?_map,e1];rfl⟩
   ·exact⟨_,ai.seq (s2.trans s4) ha,by rw[List.length_map];exact Nat.le_refl _⟩
   ·obtain⟨rfl,hy⟩:=hy
    have ey:=hy _ (ai.seq (s2.trans s4) ha)
    obtain⟨c,e1,e2,e3,e4⟩:=hat r hr
    rw[List.getElem?_map,e1]at ey
    cases ey
    refine⟨Kp.mG,?_⟩
    refine⟨_,rfl,_,rfl,_,_,c,rfl,rfl,Nat.le_trans e4 (by decide),(by rw[Int.zero_add];exact aT e2),rfl,?_⟩
    rw[e3]at tY
    exact tY _ (ai.refl _)
   ·have eb:(List.range rs.length).map (λr=>V.bl (!decide (sg ((rs.getD r ⟨#[]⟩).cps.toList.getD i 0)=V.str (Str.ofString "-"))))=(rs.map λr=>!decide (sg (r.cps.toList.getD i 0)=V.str (Str.ofString "-"))).map V.bl:=by
     rw[List.map_map]
     refine List.ext_getElem (by simp) λr h1 h2=>?_
     have hr:r<rs.length:=by simpa using h1
     simp[List.getD_eq_getElem?_getD,List.getElem?_eq_getElem hr]
    rw[eb]at vP
    refine⟨l2,_,rfl,bf.of vP,_,rfl,?_⟩
    rw[zD]
    cases z:cC (eE rs i)with
    |true=>exact qu (hF (by rw[z];rfl) _ s4)
    |false =>
     refine RG ⟨_,rfl,?_⟩
     rw[Int.zero_add]
     exact hR (by rw[z];rfl) _ s4
  ·obtain⟨ks,hks⟩:∃ks,ks=(List.range (br rs)).filter λi=>!cC (eE rs i):=⟨_,rfl⟩
   have Vv:ks.length<sizeLine:=Nat.lt_of_le_of_lt (by rw[hks];exact Nat.le_trans (List.length_filter_le _ _) (by rw[List.length_range];exact Cb)) (show 100<sizeLine by decide)
   have hkm:∀i∈ks,i<br rs:=λi hi=>by rw[hks]at hi;exact List.mem_range.mp (List.mem_filter.mp hi).1
   rw[←hks]at hl2
   refine⟨_,rfl,a,rfl,⟨_,ai.seq s2 ha⟩,λl3 hl3=>?_⟩
   refine gb rs.length (λr=>V.str ⟨(ks.map λi=>(rs.getD r ⟨#[]⟩).cps.toList.getD i 0).toArray⟩) hl3 hz0 (λr H4 s4 hr=>?_) (λH4 s4=>?_) (λr y H4 H5 R2 s4 hr hy tY=>?_) λH4 s4 vP=>?_
   ·exact⟨_,_,ai.seq (s2.trans s4) ha,by rw[List.getElem?_map,List.getElem?_eq_getElem hr];rfl⟩
   ·exact⟨_,ai.seq (s2.trans s4) ha,by rw[List.length_map];exact Nat.le_refl _⟩
   ·obtain⟨rfl,hy⟩:=hy
    have ey:=hy _ (ai.seq (s2.trans s4) ha)
    have e1:=List.getElem?_eq_getElem hr
    have hm:=List.getElem_mem hr
    rw[List.getElem?_map,e1]at ey
    cases ey
    rw[aO e1]at tY
    refine⟨Kp.mG,?_⟩
    have Dg:=s4 _ _ hl2
    refine⟨rfl,_,rfl,_,rfl,⟨_,bf.of Dg⟩,λl5 Qw=>?_⟩
    refine gb ks.length (λj=>sg (rs[r].cps.toList.getD (ks.getD j 0) 0)) Qw Vv (λj H6 s6 hj=>?_) (λH6 s6=>?_) (λj y H6 H7 R3 s6 hj hy Dq=>?_) λH6 s6 Vs=>?_
    ·exact⟨_,_,bf.of (s6 _ _ Dg),by rw[List.getElem?_map,List.getElem?_eq_getElem hj];rfl⟩
    ·exact⟨_,bf.of (s6 _ _ Dg),by rw[List.length_map];exact Nat.le_refl _⟩
    ·obtain⟨rfl,hy⟩:=hy
     have ej:=hy _ (bf.of (s6 _ _ Dg))
     rw[List.getElem?_map,List.getElem?_eq_getElem hj]at ej
     cases ej
     refine⟨Kp.mG,?_⟩
     have hi2:ks[j]<rs[r].cps.toList.length:=by rw[Array.length_toList,hw _ hm];exact hkm _ (List.getElem_mem hj)
     refine⟨_,rfl,_,rfl,_,_,rs[r].cps.toList[ks[j]],rfl,rfl,Nat.le_trans (hS.row _ hm) (by decide),aT (List.getElem?_eq_getElem hi2),?_⟩
     have e5:rs[r].cps.toList[ks[j]]=rs[r].cps.toList.getD (ks.getD j 0) 0:=by
      rw[aO (List.getElem?_eq_getElem hj),aO (List.getElem?_eq_getElem hi2)]
     rw[e5]
     exact Dq _ (ai.refl _)
    ·refine⟨l5,ks.map λi=>rs[r].cps.toList.getD i 0,rfl,rfl,?_,by rw[List.length_map];exact Nat.le_of_lt (Nat.lt_of_lt_of_le (Nat.lt_of_le_of_lt (by rw[hks];exact Nat.le_trans (List.length_filter_le _ _) (by rw[List.length_range];exact Cb)) (show 100<101 by decide)) (by decide)),tY _ s6⟩
     have e6:(List.range ks.length).map (λj=>sg (rs[r].cps.toList.getD (ks.getD j 0) 0))=(ks.map λi=>rs[r].cps.toList.getD i 0).map sg:=by
      rw[List.map_map]
      refine List.ext_getElem (by simp) λj h1 h2=>?_
      have hj:j<ks.length:=by simpa using h1
      simp[List.getD_eq_getElem?_getD,List.getElem?_eq_getElem hj]
     rw[e6]at Vs
     exact bf.of Vs
   ·rw[hks,N9]at vP
    exact kk l3 H4 (s2.trans s4) (s2.free hl3) vP
theorem xQ {ir:Addr} {gq:FuncData} {p:Pm} (T:Txt K mg p w) (bL:Dn K mg "_law_block_is" lT ["_law_block","_law_rows_here"] ir gq)  :aH P w K mg base cO 1 ir gq ["_law_block","_law_rows_here"] (Rk K p.aJ):=by
 refine bL.fn.ok xK (λvs H Q E h=>?_) (λcdv A outer s H vs Q E hr h=>?_)
 ·obtain⟨b,a,rs,rfl,_⟩:=h
  rfl
 ·obtain⟨b,a,rs,rfl,⟨dx,q,hb,hq⟩,ha,hl,kk⟩:=h
  refine⟨_,(aj (cK (PW.pt (yI (qO (kP (aC (vv) rfl T.qC p7 (aa (pv 0) (aa (kM (v:=.ref p.aJ) rfl T.l7 rfl) af))))) (uu (qO (kP (aC (Hw) rfl T.qC p7 (aa (bG (pv 0) rfl) (aa (WO (v:=.ty "tuple") rfl T.uQ sC rfl) af)))))))) (ao (aS rS)) bx)
   (ao (aS (pK (UY (Nat.lt_of_succ_lt (pM hr))) (bG (pv 0) rfl) (oK (nG) rfl T.uQ sC (aa (pv 1) af)) (bq _))))),?_⟩
  refine⟨_,rfl,b,_,dx,_,rfl,hb,T.Ox,_,rfl,qu ?_⟩
  refine⟨_,rfl,b,_,dx,_,_,rfl,hb,T.gF,T.cu,kJ,_,"tuple",.type "tuple",true,rfl,.inr ⟨q,_,rfl,hq,rfl⟩,(by kernel_rfl),_,rfl,qu ?_⟩
  refine⟨_,rfl,b,_,dx,_,_,rfl,hb,T.gF,T.cu,kJ,_,rfl,a,_,rfl,.inl ⟨ha,λq2 hq2=>⟨q,q2,_,_,rfl,rfl,ai.tup (ai.upd hq2) hq,iR.of ah,wz,wz,?_⟩⟩⟩
  show Q (.bl (kZ (rs.map V.str) (rs.map V.str))) _
  rw[ym]
  exact kk _ (ai.upd hq2)
theorem Oh {mS:Addr} {lA:FuncData} {p:Pm} (T:Txt K mg p w) (jz:Dn K mg "_law_join" qK ["_law_ones","_law_others","_law_moves_here"] mS lA)  :aH P w K mg base cO 1 mS lA ["_law_ones","_law_others","_law_moves_here"] (Rb K):=by
 refine jz.fn.ok c5 (λvs H Q E h=>?_) (λcdv A outer s H vs Q E hr h=>?_)
 ·obtain⟨a1,a2,r1,r2,ms,rfl,_⟩:=h
  rfl
 ·obtain⟨a1,a2,r1,r2,ms,rfl,h1,h2,rD,qb,hl1,hl2,hJ,k⟩:=h
  have hw1:=rD.br hl1
  have Cc:=qb.br hl2
  have z1:=rD.1
  have z2:=qb.1
  have akv:=hJ.len
  have hJ':Jw (cols r1 (br r1)).length (cols r2 (br r2)).length 0 0 ms:=by rw[aZ,aZ];exact hJ
  have MG:Path (cols r1 (br r1)).length (cols r2 (br r2)).length ms _ _:=Jw.path (cs:=[]) .nil hJ'
  obtain⟨_,_,hpat⟩:=MG.at_
  have e1:(r1.map V.str).length=r1.length:=List.length_map ..
  have e2:(r2.map V.str).length=r2.length:=List.length_map ..
  have eg:∀n:Nat,(List.replicate n [V.str (Str.ofString "-")]).flatten=(List.replicate n 45).map L2.sg:=λn=>by
   rw[rN,List.map_replicate,show L2.sg 45=V.str (Str.ofString "-") by decide +kernel]
  have cat:∀{rs:List Str} {r:Str} {k c:Nat},oE rs=true->Au rs->rs[k]? =some r->c<br rs->∃d,r.cps.toList[c]? =some d/\(f6 rs c)[k]? =some d/\r.cps.size<=1000:=λ{rs r k c} hl hS hr hc=>by
   have hw:=(cP.mp hl).2 r (List.mem_of_getElem? hr)
   have hc':c<r.cps.toList.length:=by rw[Array.length_toList,hw];exact hc
   refine⟨_,List.getElem?_eq_getElem hc',?_,Nat.le_trans (hS.2 r (List.mem_of_getElem? hr)) (by decide)⟩
   show(rs.map λr=>r.cps.toList.getD c 0)[k]? =_
   rw[List.getElem?_map,hr]
   show some (r.cps.toList.getD c 0)=_
   rw[aO (List.getElem?_eq_getElem hc')]
  obtain⟨A,hA⟩:∃A,A=cols r1 (br r1):=⟨_,rfl⟩
  obtain⟨B,hB⟩:∃B,B=cols r2 (br r2):=⟨_,rfl⟩
  refine⟨_,(aj (aD (i:=3) c5.nd rfl (Or.inr rfl) (aB vX (gj (aa bH af)) (aB cY (aC (aK) rfl T.bJ aW (aa (pv 0) af)) (aC (aK) rfl T.bJ aW (aa (pv 1) af)))))
   (aj (aD (i:=4) c5.nd rfl (Or.inr rfl) ak)
   (aj (aD (i:=5) c5.nd rfl (Or.inr rfl) ak)
   (aj (dR PassesOwn.never rfl (rQ (pv 2)) (aM (i:=6) c5.nd rfl (Or.inl rfl)) (aj (aD (i:=7) c5.nd rfl (Or.inl rfl) (aB vX (gj (aa bH af)) (aC (aK) rfl T.bJ aW (aa (pv 0) af))))
   (aj (aD (i:=8) c5.nd rfl (Or.inl rfl) (aB vX (gj (aa bH af)) (aC (aK) rfl T.bJ aW (aa (pv 1) af))))
   (bX (cK (aU rV (pv 6) bH (bq _)) (aj (kQ (i:=7) (N:=["_law_row","_law_i"]) c5.nd rfl (Or.inl rfl) rfl (bI.jx (nt:=1) (ix:=[4]) rfl (by decide +kernel) (by decide +kernel) (by kernel_rfl) rfl (by kernel_rfl)) (eX (pv 0)) (λ_ _ _ _ _ _ _=>(aM (i:=0) (show(["_law_row","_law_i"]:List Str).Nodup by decide +kernel) rfl (Or.inl rfl))) (λ_ _ _ _ _ _ _=>(aV l9 (pv 0) (pv 1) (λ_ _=>rfl))))
   (ao (aD (i:=4) c5.nd rfl (Or.inr rfl) (aB cY (pv 4) ak)))) bx)
   (bX (cK (aU rV (pv 6) bH (bq _)) (aj (kQ (i:=8) (N:=["_law_row","_law_j"]) c5.nd rfl (Or.inl rfl) rfl (bI.jx (nt:=1) (ix:=[5]) rfl (by decide +kernel) (by decide +kernel) (by kernel_rfl) rfl (by kernel_rfl)) (eX (pv 1)) (λ_ _ _ _ _ _ _=>(aM (i:=0) (show(["_law_row","_law_j"]:List Str).Nodup by decide +kernel) rfl (Or.inl rfl))) (λ_ _ _ _ _ _ _=>(aV l9 (pv 0) (pv 1) (λ_ _=>rfl))))
   (ao (aD (i:=5) c5.nd rfl (Or.inr rfl) (aB cY (pv 5) ak)))) bx)
   (aj (aD (i:=9) c5.nd rfl (Or.inr rfl) (aB GK (pv 7) (pv 8)))
   (ao (aD (i:=3) c5.nd rfl (Or.inr rfl) (dw (N:=["_law_r","_law_rows_here","_law_column_here"]) rfl (bI.jx (nt:=1) (ix:=[3,9]) rfl (by decide +kernel) (by decide +kernel) (by kernel_rfl) rfl (by kernel_rfl)) (eV rfl T.gT (aa (aC (aK) rfl T.bJ aW (aa (pv 3) af)) af)) (λ_ _ _ _ _ _ _=>(aM (i:=0) (show(["_law_r","_law_rows_here","_law_column_here"]:List Str).Nodup by decide +kernel) rfl (Or.inl rfl))) (λ_ _ _ _ _ _ _=>(aB cH (aV (qp (K':=K) rfl) (pv 1) (pv 0) (λ_ _=>rfl)) (aV (qp (K':=K) rfl) (pv 2) (pv 0) (λ_ _=>rfl)))))))))))))
   (ao (aS (pv 3))))))),?_⟩
  refine⟨by show 1<=sizeLine;decide,λq hq=>?_⟩
  have s0:ai H (upd H q (.lst [.str (Str.ofString "")])):=ai.upd hq
  refine⟨_,rfl,_,_,rfl,.inl ⟨_,bf.of (s0 _ _ h1),rfl⟩,_,rfl,_,_,rfl,.inl ⟨_,bf.of (s0 _ _ h2),rfl⟩,_,_,rfl,rfl,q,_,_,rfl,rfl,ah,?_,?_,?_,λl0 S0=>?_⟩
  ·rw[e1,e2];omega
  ·rw[e1,e2];omega
  ·rw[e1,e2]
   show 1*(((r1.length:Nat):Int)+((r2.length:Nat):Int)).toNat<=sizeLine
   exact Nat.le_trans (show _<=1000 by omega) (by decide)
  rw[e1,e2,show(((r1.length:Nat):Int)+((r2.length:Nat):Int)).toNat=r1.length+r2.length by omega,rN]
  have s1:ai H (upd (upd H q (.lst [.str (Str.ofString "")])) l0 (.lst (List.replicate (r1.length+r2.length) (.str (Str.ofString ""))))):=s0.trans (ai.upd S0)
  have Vu:upd (upd H q (.lst [.str (Str.ofString "")])) l0 (.lst (List.replicate (r1.length+r2.length) (.str (Str.ofString "")))) l0=some (.lst ((cols (oV A B (aF r1.length) (aF r2.length) ms 0) (r1.length+r2.length)).map V.str)):=by
   rw[ah]
   congr 2
   exact(List.eq_replicate_iff.mpr ⟨by rw[List.length_map,aZ],λb hb=>by obtain⟨c,hc,rfl⟩:=List.mem_map.mp hb;obtain⟨j,_,rfl⟩:=List.mem_map.mp (show c∈(List.range (r1.length+r2.length)).map (eE []) from hc);rfl⟩).symm
  generalize upd (upd H q (.lst [.str (Str.ofString "")])) l0 (.lst (List.replicate (r1.length+r2.length) (.str (Str.ofString ""))))=H1 at s1 Vu ⊢
  refine⟨_,rfl,_,rfl,RK (x:=mE ms) (λk σ H2=>∃(l:Addr) (v6 v7 v8 v9:Option V),σ=[some (.ref a1),some (.ref a2),some (.str (mE ms)),some (.ref l),some (.int (pI ms k:Int)),some (.int (pJ ms k:Int)),v6,v7,v8,v9]/\H2 l=some (.lst ((cols (oV A B (aF r1.length) (aF r2.length) ms k) (r1.length+r2.length)).map V.str))/\ai H H2) ⟨l0,_,_,_,_,rfl,Vu,s1⟩ ?_ ?_⟩
  ·rintro k c σ H2 hc ⟨l,v6,v7,v8,v9,rfl,hl,s2⟩
   have hc':ms[k]? =some c:=sr hc
   have hk:k<ms.length:=(List.getElem?_eq_some_iff.mp hc').1
   obtain⟨c',Ky,Tz⟩:=hpat k hk
   rw[hc']at Ky
   cases Ky
   have hst:=Rx hc'
   have h12:=s2 _ _ h1
   have h22:=s2 _ _ h2
   refine⟨by show 1<=sizeLine;decide,λg0 Jy=>?_⟩
   refine⟨_,rfl,_,_,rfl,.inl ⟨_,bf.of (ai.upd Jy _ _ h12),rfl⟩,g0,_,_,rfl,rfl,ah,?_,?_,?_,λlg Ms=>?_⟩
   ·rw[e1];omega
   ·rw[e1];omega
   ·rw[e1]
    show 1*((r1.length:Nat):Int).toNat<=sizeLine
    exact Nat.le_trans (show _<=1000 by omega) (by decide)
   rw[e1,show((r1.length:Nat):Int).toNat=r1.length by omega,eg]
   have s4:ai H2 (upd (upd H2 g0 (.lst [.str (Str.ofString "-")])) lg (.lst ((List.replicate r1.length 45).map L2.sg))):=(ai.upd Jy).trans (ai.upd Ms)
   have KL:upd (upd H2 g0 (.lst [.str (Str.ofString "-")])) lg (.lst ((List.replicate r1.length 45).map L2.sg)) lg=some (.lst ((List.replicate r1.length 45).map L2.sg)):=ah
   generalize upd (upd H2 g0 (.lst [.str (Str.ofString "-")])) lg (.lst ((List.replicate r1.length 45).map L2.sg))=H4 at s4 KL ⊢
   refine⟨by show 1<=sizeLine;decide,λg1 Jx=>?_⟩
   refine⟨_,rfl,_,_,rfl,.inl ⟨_,bf.of (ai.upd Jx _ _ (s4 _ _ h22)),rfl⟩,g1,_,_,rfl,rfl,ah,?_,?_,?_,λlb hlb=>?_⟩
   ·rw[e2];omega
   ·rw[e2];omega
   ·rw[e2]
    show 1*((r2.length:Nat):Int).toNat<=sizeLine
    exact Nat.le_trans (show _<=1000 by omega) (by decide)
   rw[e2,show((r2.length:Nat):Int).toNat=r2.length by omega,eg]
   have s5:ai H4 (upd (upd H4 g1 (.lst [.str (Str.ofString "-")])) lb (.lst ((List.replicate r2.length 45).map L2.sg))):=(ai.upd Jx).trans (ai.upd hlb)
   have KI:upd (upd H4 g1 (.lst [.str (Str.ofString "-")])) lb (.lst ((List.replicate r2.length 45).map L2.sg)) lb=some (.lst ((List.replicate r2.length 45).map L2.sg)):=ah
   generalize upd (upd H4 g1 (.lst [.str (Str.ofString "-")])) lb (.lst ((List.replicate r2.length 45).map L2.sg))=H5 at s5 KI ⊢
   have ahd:=s5 _ _ KL
   have CT:=s4.trans s5
   have Dt:=CT _ _ h12
   have MV:=CT _ _ h22
   have Qw:=CT _ _ hl
   obtain⟨L,hL⟩:∃L:Str,L=(if c=98 then aF r1.length else A.getD (pI ms k) ⟨#[]⟩):=⟨_,rfl⟩
   obtain⟨R,hR⟩:∃R:Str,R=(if c=97 then aF r2.length else B.getD (pJ ms k) ⟨#[]⟩):=⟨_,rfl⟩
   have zL:L.cps.toList.length=r1.length:=by
    rw[hL]
    by_cases z:c=98
    ·rw[if_pos z,jH,List.length_replicate]
    ·have hi:pI ms k<br r1:=by have:=U6 Tz z;rw[aZ]at this;exact this
     rw[if_neg z,hA,(qA hi).1,(qA hi).2]
   have zR:R.cps.toList.length=r2.length:=by
    rw[hR]
    by_cases z:c=97
    ·rw[if_pos z,jH,List.length_replicate]
    ·have hi:pJ ms k<br r2:=by have:=U5 Tz z;rw[aZ]at this;exact this
     rw[if_neg z,hB,(qA hi).1,(qA hi).2]
   refine⟨λσ' H'=>∃ll,ai H5 H'/\H' ll=some (.lst (L.cps.toList.map L2.sg))/\σ'=[some (.ref a1),some (.ref a2),some (.str (mE ms)),some (.ref l),some (.int (pI ms (k+1):Int)),some (.int (pJ ms k:Int)),some (.str ⟨#[c]⟩),some (.ref ll),some (.ref lb),v9],?_,?_⟩
   ·refine⟨_,rfl,rfl,_,rfl,?_⟩
    by_cases z:c=98
    ·rw[if_pos z]at hL
     rw[show(!decide (V.str ⟨#[c]⟩=V.str (Str.ofString "b")))=false by rw[z];decide +kernel]
     refine iQ ⟨lg,ai.refl _,by rw[hL,jH];exact ahd,?_⟩
     rw[hst.1,if_pos z]
     rfl
    ·rw[if_neg z]at hL
     have hi:pI ms k<br r1:=by have:=U6 Tz z;rw[aZ]at this;exact this
     rw[hA,]at hL
     have ML:L.cps.toList=f6 r1 (pI ms k):=by rw[hL];exact(qA hi).1
     have nb:(!decide (V.str ⟨#[c]⟩=V.str (Str.ofString "b")))=true:=by
      rcases Tz.ok with rfl|rfl|rfl
      ·decide +kernel
      ·decide +kernel
      ·exact absurd rfl z
     rw[nb]
     refine kB ⟨_,rfl,a1,rfl,⟨_,bf.of Dt⟩,λll BN=>?_⟩
     refine gb r1.length (λi=>L2.sg ((f6 r1 (pI ms k)).getD i 0)) BN (Nat.lt_of_le_of_lt (show r1.length<=1000 by omega) (by decide)) (λj H6 s6 hj=>?_) (λH6 s6=>?_) (λj y H6 H7 R2 s6 hj hy tY=>?_) λH6 s6 Vs=>?_
     ·exact⟨_,_,bf.of (s6 _ _ Dt),by rw[List.getElem?_map,List.getElem?_eq_getElem hj];rfl⟩
     ·exact⟨_,bf.of (s6 _ _ Dt),by rw[List.length_map];exact Nat.le_refl _⟩
     ·obtain⟨rfl,hy⟩:=hy
      have ey:=hy _ (bf.of (s6 _ _ Dt))
      rw[List.getElem?_map,List.getElem?_eq_getElem hj]at ey
      cases ey
      obtain⟨d,f1,f2,f3⟩:=cat hl1 rD (List.getElem?_eq_getElem hj) hi
      rw[aO f2]at tY
      exact⟨Kp.mG,_,rfl,_,rfl,_,_,d,rfl,rfl,Nat.le_trans f3 (by decide),aT f1,tY _ (ai.refl _)⟩
     ·have e:=b9 (d:=0) (f6 r1 (pI ms k)) L2.sg
      rw[show(f6 r1 (pI ms k)).length=r1.length from List.length_map ..]at e
      rw[e]at Vs
      refine⟨_,rfl,_,_,rfl,rfl,ll,s6,by rw[ML];exact Vs,?_⟩
      rw[hst.1,if_neg z]
      rfl
   rintro σ' H6 ⟨ll,s6,BN,rfl⟩
   refine⟨λσ' H'=>∃lr,ai H6 H'/\H' lr=some (.lst (R.cps.toList.map L2.sg))/\σ'=[some (.ref a1),some (.ref a2),some (.str (mE ms)),some (.ref l),some (.int (pI ms (k+1):Int)),some (.int (pJ ms (k+1):Int)),some (.str ⟨#[c]⟩),some (.ref ll),some (.ref lr),v9],?_,?_⟩
   ·have Ds:=s6 _ _ MV
    refine⟨_,rfl,rfl,_,rfl,?_⟩
    by_cases z:c=97
    ·rw[if_pos z]at hR
     rw[show(!decide (V.str ⟨#[c]⟩=V.str (Str.ofString "a")))=false by rw[z];decide +kernel]
     refine iQ ⟨lb,ai.refl _,by rw[hR,jH];exact s6 _ _ KI,?_⟩
     rw[hst.2,if_pos z]
     rfl
    ·rw[if_neg z]at hR
     have hi:pJ ms k<br r2:=by have:=U5 Tz z;rw[aZ]at this;exact this
     rw[hB]at hR
     have ME:R.cps.toList=f6 r2 (pJ ms k):=by rw[hR];exact(qA hi).1
     have nb:(!decide (V.str ⟨#[c]⟩=V.str (Str.ofString "a")))=true:=by
      rcases Tz.ok with rfl|rfl|rfl
      ·decide +kernel
      ·exact absurd rfl z
      ·decide +kernel
     rw[nb]
     refine kB ⟨_,rfl,a2,rfl,⟨_,bf.of Ds⟩,λlr hlr=>?_⟩
     refine gb r2.length (λi=>L2.sg ((f6 r2 (pJ ms k)).getD i 0)) hlr (Nat.lt_of_le_of_lt (show r2.length<=1000 by omega) (by decide)) (λj H7 s7 hj=>?_) (λH7 s7=>?_) (λj y H7 H8 R2 s7 hj hy tY=>?_) λH7 s7 Df=>?_
     ·exact⟨_,_,bf.of (s7 _ _ Ds),by rw[List.getElem?_map,List.getElem?_eq_getElem hj];rfl⟩
     ·exact⟨_,bf.of (s7 _ _ Ds),by rw[List.length_map];exact Nat.le_refl _⟩
     ·obtain⟨rfl,hy⟩:=hy
      have ey:=hy _ (bf.of (s7 _ _ Ds))
      rw[List.getElem?_map,List.getElem?_eq_getElem hj]at ey
      cases ey
      obtain⟨d,f1,f2,f3⟩:=cat hl2 qb (List.getElem?_eq_getElem hj) hi
      rw[aO f2]at tY
      exact⟨Kp.mG,_,rfl,_,rfl,_,_,d,rfl,rfl,Nat.le_trans f3 (by decide),aT f1,tY _ (ai.refl _)⟩
     ·have e:=b9 (d:=0) (f6 r2 (pJ ms k)) L2.sg
      rw[show(f6 r2 (pJ ms k)).length=r2.length from List.length_map ..]at e
      rw[e]at Df
      refine⟨_,rfl,_,_,rfl,rfl,lr,s7,by rw[ME];exact Df,?_⟩
      rw[hst.2,if_neg z]
      rfl
   rintro σ' H7 ⟨lr,s7,hlr,rfl⟩
   have ahc:=s7 _ _ BN
   have Df:=(s6.trans s7) _ _ Qw
   refine⟨_,rfl,_,rfl,ll,lr,_,_,rfl,rfl,ahc,hlr,?_,λlc FA=>?_⟩
   ·rw[List.length_map,List.length_map,zL,zR]
    exact Nat.le_trans (show _<=1000 by omega) (by decide)
   have s8:ai H7 (upd H7 lc (.lst (L.cps.toList.map L2.sg++R.cps.toList.map L2.sg))):=ai.upd FA
   have KJ:upd H7 lc (.lst (L.cps.toList.map L2.sg++R.cps.toList.map L2.sg)) lc=some (.lst ((L++R).cps.toList.map L2.sg)):=by rw[ah,jm,List.map_append]
   generalize upd H7 lc (.lst (L.cps.toList.map L2.sg++R.cps.toList.map L2.sg))=H8 at s8 KJ ⊢
   have Ju:=s8 _ _ Df
   have hN:((cols (oV A B (aF r1.length) (aF r2.length) ms k) (r1.length+r2.length)).map V.str).length=r1.length+r2.length:=by rw[List.length_map,aZ]
   have hLR:(L++R).cps.toList.length=r1.length+r2.length:=by rw[jm,List.length_append,zL,zR]
   refine⟨_,rfl,_,_,rfl,.inl ⟨_,bf.of Ju,rfl⟩,((r1.length+r2.length:Nat):Int),(by rw[hN]),by omega,by omega,λl' hl'=>?_⟩
   have hos:oV A B (aF r1.length) (aF r2.length) ms (k+1)=oV A B (aF r1.length) (aF r2.length) ms k++[L++R]:=by
    unfold oV
    rw[qN,aO hc',hL,hR]
    rfl
   refine gb (r1.length+r2.length) (λr=>V.str (eE (oV A B (aF r1.length) (aF r2.length) ms (k+1)) r)) hl' (Nat.lt_of_le_of_lt (show r1.length+r2.length<=1000 by omega) (by decide)) (λr H9 s9 hr=>?_) (λH9 s9=>?_) (λr y H9 Pd R2 s9 hr hy tY=>?_) λH9 s9 Mu=>?_
   ·show r<((r1.length+r2.length:Nat):Int).toNat
    omega
   ·show((r1.length+r2.length:Nat):Int).toNat<=r1.length+r2.length
    omega
   ·obtain⟨rfl,rfl⟩:=hy
    have hr2:r<(L++R).cps.toList.length:=by omega
    refine⟨Kp.mG,?_⟩
    refine⟨_,rfl,_,rfl,l,_,_,.str (eE (oV A B (aF r1.length) (aF r2.length) ms k) r),rfl,rfl,bf.of (s9 _ _ Ju),?_,_,rfl,_,rfl,lc,_,_,L2.sg (L++R).cps.toList[r],rfl,rfl,bf.of (s9 _ _ KJ),?_,_,_,rfl,rfl,?_,?_⟩
    ·rw[Int.zero_add];exact aT (by rw[List.getElem?_map,show(cols (oV A B (aF r1.length) (aF r2.length) ms k) (r1.length+r2.length))[r]? =some _ from fX hr];rfl)
    ·rw[Int.zero_add];exact aT (by rw[List.getElem?_map,List.getElem?_eq_getElem hr2];rfl)
    ·show(eE (oV A B (aF r1.length) (aF r2.length) ms k) r).cps.size+1<=sizeLine
     rw[show(eE (oV A B (aF r1.length) (aF r2.length) ms k) r).cps.size=(oV A B (aF r1.length) (aF r2.length) ms k).length from List.length_map ..]
     unfold oV
     rw[List.length_map,List.length_range]
     exact Nat.le_trans (show k+1<=1000 by omega) (by decide)
    ·have eR:eE (oV A B (aF r1.length) (aF r2.length) ms k) r++(⟨#[(L++R).cps.toList[r]]⟩:Str)=eE (oV A B (aF r1.length) (aF r2.length) ms (k+1)) r:=by
      have e:(eE (oV A B (aF r1.length) (aF r2.length) ms k) r++(⟨#[(L++R).cps.toList[r]]⟩:Str)).cps.toList=(eE (oV A B (aF r1.length) (aF r2.length) ms (k+1)) r).cps.toList:=by
       rw[jm,hos]
       show f6 _ r++[_]=f6 (_++[_]) r
       unfold f6
       rw[List.map_append,List.map_singleton,aO (List.getElem?_eq_getElem hr2)]
      have e':=Array.toList_inj.mp e
      rcases h3:eE (oV A B (aF r1.length) (aF r2.length) ms k) r++(⟨#[(L++R).cps.toList[r]]⟩:Str)with⟨X⟩
      rw[h3]at e'
      exact congrArg Str.mk e'
     have Dq:=tY _ (ai.refl _)
     rw[←eR]at Dq
     exact Dq
   ·refine⟨l',_,_,_,_,rfl,?_,((s2.trans CT).trans (s6.trans s7)).trans (s8.trans s9)⟩
    rw[Mu,show(cols (oV A B (aF r1.length) (aF r2.length) ms (k+1)) (r1.length+r2.length)).map V.str=(List.range (r1.length+r2.length)).map (λr=>V.str (eE (oV A B (aF r1.length) (aF r2.length) ms (k+1)) r)) from List.map_map ..]
  ·rintro σ H2 ⟨l,v6,v7,v8,v9,rfl,hl,s2⟩
   refine⟨_,rfl,k l H2 s2 ?_⟩
   rw[hl,nI,hA,hB]
end
section
variable{P:Program}{w:World}{K:PySem.W.Frag}{mg:Str->Option Value}{base:Heap}
theorem vf {fU:Addr} {eZ:FuncData} {p:Pm} (T:Txt K mg p w) (c9:Dn K mg "_law_told_moves" jD ["_law_rows_here","_law_many"] fU eZ)  :aH P w K mg base cO 1 fU eZ ["_law_rows_here","_law_many"] (Q5 K):=by
 refine c9.fn.ok cQ (λvs H Q E h=>?_) (λcdv A outer s H vs Q E hr h=>?_)
 ·obtain⟨l,r1,r2,cs,kn,rfl,_⟩:=h
  rfl
 ·obtain⟨l,r1,r2,cs,kn,rfl,hl,rD,qb,hl1,hl2,cA,cB,hJ,k⟩:=h
  have hp1:0<r1.length:=List.length_pos_iff.mpr (cP.mp hl1).1
  have hp2:0<r2.length:=List.length_pos_iff.mpr (cP.mp hl2).1
  have hw1:=rD.br hl1
  have Cc:=qb.br hl2
  have z1:=rD.1
  have z2:=qb.1
  have hcl:=hJ.len
  have hJ':Jw (cols r1 (br r1)).length (cols r2 (br r2)).length 0 0 cs:=by rw[aZ,aZ];exact hJ
  have hN:(oY r1 r2 cs).length=r1.length+r2.length:=aZ
  have e0:((oY r1 r2 cs).map V.str).length=r1.length+r2.length:=by rw[List.length_map,hN]
  obtain⟨T1,hT1⟩:∃T1,T1=xH (cols r1 (br r1)) (aF r1.length) 0 cs:=⟨_,rfl⟩
  obtain⟨T2,hT2⟩:∃T2,T2=wI (cols r2 (br r2)) (aF r2.length) 0 cs:=⟨_,rfl⟩
  have IL:∀o∈T1,o.cps.size=r1.length:=by rw[hT1];exact qd cA.size hJ'
  have IK:∀o∈T2,o.cps.size=r2.length:=by rw[hT2];exact wH cB.size hJ'
  have Jd:T1.length=cs.length:=by rw[hT1,Nv]
  have Jc:T2.length=cs.length:=by rw[hT2,OU]
  have ht:(oY r1 r2 cs).take r1.length=cols T1 r1.length:=by
   rw[hT1,←OO (n2:=r2.length) cA.size hJ',←ve]
  have hb:(oY r1 r2 cs).drop r1.length=cols T2 r2.length:=by
   rw[hT2,←OP (n2:=r2.length) cA.size hJ',←ve]
  have M7:∀{k c:Nat},cs[k]? =some c->cC (eE (cols T1 r1.length) k)=(c==98):=λ{k c} hc=>by
   have hk:k<T1.length:=by rw[Jd];exact(List.getElem?_eq_some_iff.mp hc).1
   have e:=Nx (n1:=r1.length) cA.full hJ' hc
   rw[←hT1,aO (List.getElem?_eq_getElem hk)]at e
   rw[←e]
   unfold cC eE
   rw[sM IL (List.getElem?_eq_getElem hk)]
  have M6:∀{k c:Nat},cs[k]? =some c->cC (eE (cols T2 r2.length) k)=(c==97):=λ{k c} hc=>by
   have hk:k<T2.length:=by rw[Jc];exact(List.getElem?_eq_some_iff.mp hc).1
   have e:=OV (n2:=r2.length) cB.full hJ' hc
   rw[←hT2,aO (List.getElem?_eq_getElem hk)]at e
   rw[←e]
   unfold cC eE
   rw[sM IK (List.getElem?_eq_getElem hk)]
  have rows:∀{T:List Str} {n r i:Nat},(∀o∈T,o.cps.size=n)->T.length=cs.length->r<n->i<cs.length->∃c,(cols T n)[r]? =some ((cols T n).getD r ⟨#[]⟩)/\((cols T n).getD r ⟨#[]⟩).cps.toList[i]? =some c/\((cols T n).getD r ⟨#[]⟩).cps.toList.getD i 0=c/\((cols T n).getD r ⟨#[]⟩).cps.size<=1000:=λ{T n r i} hs hT hr hi=>by
   have e1:(cols T n)[r]? =some (eE T r):=fX hr
   rw[aO e1]
   have hi2:i<(eE T r).cps.toList.length:=by
    show i<(f6 T r).length
    rw[show(f6 T r).length=T.length from List.length_map ..,hT];exact hi
   refine⟨_,e1,List.getElem?_eq_getElem hi2,aO (List.getElem?_eq_getElem hi2),?_⟩
   rw[show(eE T r).cps.size=T.length from List.length_map ..,hT]
   omega
  have WI:∃q,(oY r1 r2 cs)[0]? =some q/\q.cps.size=cs.length:=by
   refine⟨_,fX (by omega),?_⟩
   rw[show(eE (Xa r1 r2 cs) 0).cps.size=(Xa r1 r2 cs).length from List.length_map ..]
   unfold Xa oV
   rw[List.length_map,List.length_range]
  obtain⟨q0,Wj,agY⟩:=WI
  have Kd:∀{rs:List Str} {i:Nat},(List.range rs.length).map (λr=>V.bl (!decide (L2.sg ((rs.getD r ⟨#[]⟩).cps.toList.getD i 0)=V.str (Str.ofString "-"))))=(rs.map λr=>!decide (L2.sg (r.cps.toList.getD i 0)=V.str (Str.ofString "-"))).map V.bl:=λ{rs i}=>by
   rw[List.map_map]
   exact b9 (d:=⟨#[]⟩) rs λr=>V.bl (!decide (L2.sg (r.cps.toList.getD i 0)=V.str (Str.ofString "-")))
  refine⟨_,(aj (aD (i:=2) cQ.nd rfl (Or.inl rfl) bH)
   (aj (dR PassesOwn.never rfl (eV rfl T.gT (aa (aC (aK) rfl T.bJ aW (aa (aV bh (pv 0) ak (λ_ _=>rfl)) af)) af)) (aM (i:=3) cQ.nd rfl (Or.inr rfl)) (bX (aD (i:=4) cQ.nd rfl (Or.inl rfl) (aC (sy rfl) rfl T.TR QK (aa (dw (N:=["_law_row","_law_k"]) rfl (bI.jx (nt:=1) (ix:=[3]) rfl (by decide +kernel) (by decide +kernel) (by kernel_rfl) rfl (by kernel_rfl)) (eX (iO qH (pv 0) kL (kK (pv 1)))) (λ_ _ _ _ _ _ _=>(aM (i:=0) (show(["_law_row","_law_k"]:List Str).Nodup by decide +kernel) rfl (Or.inl rfl))) (λ_ _ _ _ _ _ _=>(pK rV (aV l9 (pv 0) (pv 1) (λ_ _=>rfl)) bH (bq _)))) af)))
   (bX (aD (i:=5) cQ.nd rfl (Or.inl rfl) (aC (sy rfl) rfl T.TR QK (aa (dw (N:=["_law_row","_law_k"]) rfl (bI.jx (nt:=1) (ix:=[3]) rfl (by decide +kernel) (by decide +kernel) (by kernel_rfl) rfl (by kernel_rfl)) (eX (iO qH (pv 0) (kK (pv 1)) kL)) (λ_ _ _ _ _ _ _=>(aM (i:=0) (show(["_law_row","_law_k"]:List Str).Nodup by decide +kernel) rfl (Or.inl rfl))) (λ_ _ _ _ _ _ _=>(pK rV (aV l9 (pv 0) (pv 1) (λ_ _=>rfl)) bH (bq _)))) af)))
   (ao (cK (PW.pt (uv (kP (pv 4)) (sV (kP (pv 5))))) (ao (aD (i:=2) cQ.nd rfl (Or.inl rfl) (aB cH (pv 2) bH))) (ao (cK (kP (pv 4)) (ao (aD (i:=2) cQ.nd rfl (Or.inl rfl) (aB cH (pv 2) bH))) (ao (aD (i:=2) cQ.nd rfl (Or.inl rfl) (aB cH (pv 2) bH))))))))))
   (ao (aS (pv 2))))),?_⟩
  refine⟨_,rfl,l,_,_,.str q0,rfl,rfl,bf.of hl,aT (j:=0) (by rw[List.getElem?_map,Wj];rfl),_,_,rfl,⟨Nat.le_trans (show q0.cps.size<=1000 by omega) (by decide),rfl⟩,((cs.length:Nat):Int),(by rw[←agY];rfl),by omega,by omega,?_⟩
  refine jI (lo:=0) (n:=((cs.length:Nat):Int).toNat) (λi σ H2=>∃v3 v4 v5,σ=[some (.ref l),some (.int r1.length),some (.str (mE (cs.take i))),v3,v4,v5]/\ai H H2) ⟨_,_,_,rfl,ai.refl _⟩ ?_ ?_
  ·rintro i σ H2 hi ⟨v3,v4,v5,rfl,s2⟩
   have hi':i<cs.length:=by omega
   have hc:=List.getElem?_eq_getElem hi'
   have hok:=hJ.ok _ (List.getElem_mem hi')
   generalize cs[i]=c at hc hok
   have hl2:=s2 _ _ hl
   refine⟨λσ' H'=>ai H H'/\σ'=[some (.ref l),some (.int r1.length),some (.str (mE (cs.take i))),some (.int (0+(i:Int))),some (.bl (!(c==98))),v5],?_,?_⟩
   ·refine⟨_,rfl,_,rfl,_,rfl,l,_,rfl,bf.of hl2,λp1 F2=>?_⟩
    rw[QF (by rw[e0];omega),←List.map_take,ht]
    have s3:ai H2 (upd H2 p1 (.lst ((cols T1 r1.length).map V.str))):=ai.upd F2
    have h3:upd H2 p1 (.lst ((cols T1 r1.length).map V.str)) p1=some (.lst ((cols T1 r1.length).map V.str)):=ah
    generalize upd H2 p1 (.lst ((cols T1 r1.length).map V.str))=H3 at s3 h3 ⊢
    refine⟨p1,rfl,⟨_,bf.of h3⟩,λl2 SY=>?_⟩
    refine gb (cols T1 r1.length).length (λr=>V.bl (!decide (L2.sg (((cols T1 r1.length).getD r ⟨#[]⟩).cps.toList.getD i 0)=V.str (Str.ofString "-")))) SY (by rw[aZ];exact Nat.lt_of_le_of_lt (show r1.length<=1000 by omega) (by decide)) (λr H4 s4 hr=>?_) (λH4 s4=>?_) (λr y H4 H5 R2 s4 hr hy tY=>?_) λH4 s4 vP=>?_
    ·exact⟨_,_,bf.of (s4 _ _ h3),by rw[List.getElem?_map,List.getElem?_eq_getElem hr];rfl⟩
    ·exact⟨_,bf.of (s4 _ _ h3),by rw[List.length_map];exact Nat.le_refl _⟩
    ·obtain⟨rfl,hy⟩:=hy
     have ey:=hy _ (bf.of (s4 _ _ h3))
     rw[aZ]at hr
     obtain⟨c',f1,f2,f3,f4⟩:=rows IL Jd hr hi'
     rw[List.getElem?_map,f1]at ey
     cases ey
     refine⟨Kp.mG,?_⟩
     refine⟨_,rfl,_,rfl,_,_,c',rfl,rfl,Nat.le_trans f4 (by decide),(by rw[Int.zero_add];exact aT f2),rfl,?_⟩
     rw[f3]at tY
     exact tY _ (ai.refl _)
    ·rw[Kd]at vP
     refine⟨l2,_,rfl,bf.of vP,(s2.trans s3).trans s4,?_⟩
     rw[zD,M7 hc]
     rfl
   rintro σ' H3 ⟨s3,rfl⟩
   have hl3:=s3 _ _ hl
   refine⟨λσ' H'=>ai H H'/\σ'=[some (.ref l),some (.int r1.length),some (.str (mE (cs.take i))),some (.int (0+(i:Int))),some (.bl (!(c==98))),some (.bl (!(c==97)))],?_,?_⟩
   ·refine⟨_,rfl,_,rfl,_,rfl,l,_,rfl,bf.of hl3,λp1 F2=>?_⟩
    rw[zw (by rw[e0];omega),←List.map_drop,hb]
    have s4:ai H3 (upd H3 p1 (.lst ((cols T2 r2.length).map V.str))):=ai.upd F2
    have h4:upd H3 p1 (.lst ((cols T2 r2.length).map V.str)) p1=some (.lst ((cols T2 r2.length).map V.str)):=ah
    generalize upd H3 p1 (.lst ((cols T2 r2.length).map V.str))=H4 at s4 h4 ⊢
    refine⟨p1,rfl,⟨_,bf.of h4⟩,λl2 SY=>?_⟩
    refine gb (cols T2 r2.length).length (λr=>V.bl (!decide (L2.sg (((cols T2 r2.length).getD r ⟨#[]⟩).cps.toList.getD i 0)=V.str (Str.ofString "-")))) SY (by rw[aZ];exact Nat.lt_of_le_of_lt (show r2.length<=1000 by omega) (by decide)) (λr H5 s5 hr=>?_) (λH5 s5=>?_) (λr y H5 H6 R2 s5 hr hy tY=>?_) λH5 s5 Qw=>?_
    ·exact⟨_,_,bf.of (s5 _ _ h4),by rw[List.getElem?_map,List.getElem?_eq_getElem hr];rfl⟩
    ·exact⟨_,bf.of (s5 _ _ h4),by rw[List.length_map];exact Nat.le_refl _⟩
    ·obtain⟨rfl,hy⟩:=hy
     have ey:=hy _ (bf.of (s5 _ _ h4))
     rw[aZ]at hr
     obtain⟨c',f1,f2,f3,f4⟩:=rows IK Jc hr hi'
     rw[List.getElem?_map,f1]at ey
     cases ey
     refine⟨Kp.mG,?_⟩
     refine⟨_,rfl,_,rfl,_,_,c',rfl,rfl,Nat.le_trans f4 (by decide),(by rw[Int.zero_add];exact aT f2),rfl,?_⟩
     rw[f3]at tY
     exact tY _ (ai.refl _)
    ·rw[Kd]at Qw
     refine⟨l2,_,rfl,bf.of Qw,(s3.trans s4).trans s5,?_⟩
     rw[zD,M6 hc]
     rfl
   rintro σ' H4 ⟨s4,rfl⟩
   have size:∀S:Str,S.cps.size=1->(mE (cs.take i)).cps.size+S.cps.size<=sizeLine:=λS hS=>by
    rw[nI,hS,List.length_take]
    exact Nat.le_trans (show _<=1000 by omega) (by decide)
   have fin:∀{S:Str},S.cps.toList=[c]->mE (cs.take i)++S=mE (cs.take (i+1)):=λ{S} hS=>by
    rw[Q4 _ c S hS,List.take_add_one,hc]
    rfl
   rcases hok with rfl|rfl|rfl
   ·refine⟨_,rfl,_,rfl,kB ⟨_,rfl,_,rfl,kB ⟨_,rfl,_,_,rfl,rfl,size _ rfl,some (.int (0+(i:Int))),some (.bl (!((112:Nat)==98))),some (.bl (!((112:Nat)==97))),?_,s4⟩⟩⟩
    rw[←fin (S:=Str.ofString "p") (by decide +kernel)]
    rfl
   ·refine⟨_,rfl,_,rfl,kB ⟨_,rfl,_,rfl,iQ ⟨_,rfl,_,rfl,kB ⟨_,rfl,_,_,rfl,rfl,size _ rfl,some (.int (0+(i:Int))),some (.bl (!((97:Nat)==98))),some (.bl (!((97:Nat)==97))),?_,s4⟩⟩⟩⟩
    rw[←fin (S:=Str.ofString "a") (by decide +kernel)]
    rfl
   ·refine⟨_,rfl,_,rfl,iQ (iQ ⟨_,rfl,_,rfl,iQ ⟨_,rfl,_,_,rfl,rfl,size _ rfl,some (.int (0+(i:Int))),some (.bl (!((98:Nat)==98))),some (.bl (!((98:Nat)==97))),?_,s4⟩⟩)⟩
    rw[←fin (S:=Str.ofString "b") (by decide +kernel)]
    rfl
  ·rintro σ H2 ⟨v3,v4,v5,rfl,s2⟩
   refine⟨_,rfl,?_⟩
   rw[show((cs.length:Nat):Int).toNat=cs.length by omega,List.take_length]
   exact k H2 s2
theorem tK {cJ:Addr} {ck:FuncData} {p:Pm} (T:Txt K mg p w) (aI:Dn K mg "_law_all_moves" iN ["_law_i","_law_j"] cJ ck)  :aH P w K mg base cO 1 cJ ck ["_law_i","_law_j"] (Gm 0):=by
 refine aI.fn.ok jC (λvs H Q E h=>?_) (λcdv A outer s H vs Q E hr h=>?_)
 ·obtain⟨i,j,rfl,_⟩:=h
  rfl
 ·obtain⟨i,j,rfl,hi,hj,hd,k⟩:=h
  refine⟨_,(aj (cK (aU iP (pv 0) ak (bq _)) (ao (aS (gj (aa (aB sW bH (pv 1)) af)))) bx)
   (aj vd
   (aj vd
   (aj vd
   (ao vd))))),?_⟩
  refine⟨_,rfl,rfl,_,rfl,?_⟩
  rw[vp]
  refine eY (λe=>?_) (λe=>absurd (show(i:Int)=0 by omega) e)
  have ei:i=0:=by omega
  subst ei
  refine⟨_,rfl,_,_,rfl,rfl,by omega,by omega,by decide,?_,by show 1<=sizeLine;decide,λl hl=>?_⟩
  ·show((j:Nat):Int).toNat*1<=sizeLine
   exact Nat.le_trans (show _<=1000 by omega) (by decide)
  rw[yH (show(Str.ofString "b").cps.toList=[98] by decide +kernel)]
  exact k l _ [List.replicate j 98] (ai.upd hl) hl ah (λms hm=>by rw[List.mem_singleton.mp hm];exact xF.bs j) (Nat.pow_pos (by decide))
theorem dS {d:Nat} {cJ:Addr} {ck:FuncData} {p:Pm} (T:Txt K mg p w) (aI:Dn K mg "_law_all_moves" iN ["_law_i","_law_j"] cJ ck) (iS:aH P w K mg base cO (d+1) cJ ck ["_law_i","_law_j"] (Gm d)):aH P w K mg base cO (d+2) cJ ck ["_law_i","_law_j"] (Gm (d+1)):=by
 refine aI.fn.ok jC (λvs H Q E h=>?_) (λcdv A outer s H vs Q E hr h=>?_)
 ·obtain⟨i,j,rfl,_⟩:=h
  rfl
 ·obtain⟨i,j,rfl,hi,hj,hd,k⟩:=h
  have ep:(Str.ofString "p").cps.toList=[112]:=by decide +kernel
  have ea:(Str.ofString "a").cps.toList=[97]:=by decide +kernel
  have eb:(Str.ofString "b").cps.toList=[98]:=by decide +kernel
  have pw:∀n:Nat,n<=6->3 ^ n<=729:=λn hn=>Nat.le_trans (Nat.pow_le_pow_right (by decide) hn) (by decide)
  refine⟨_,(aj (cK (aU iP (pv 0) ak (bq _)) (ao (aS (gj (aa (aB sW bH (pv 1)) af)))) bx)
   (aj (cK (aU iP (pv 1) ak (bq _)) (ao (aS (gj (aa (aB sW bH (pv 0)) af)))) bx)
   (aj (kQ (i:=2) (N:=["_law_moves_here"]) jC.nd rfl (Or.inl rfl) rfl (λ_=>⟨[],bI.plain (by decide +kernel) rfl (by decide +kernel) (by decide +kernel)⟩) (eX (az iS (hr.mono (by omega)) rfl aI.m aI.fn.kp aI.b .nil aQ (aa (aB nU (pv 0) ak) (aa (aB nU (pv 1) ak) af)))) (λ_ _ _ _ _ _ _=>(aM (i:=0) (show(["_law_moves_here"]:List Str).Nodup by decide +kernel) rfl (Or.inl rfl))) (λ_ _ _ _ _ _ _=>(aB cH bH (pv 0))))
   (aj (aD (i:=2) jC.nd rfl (Or.inl rfl) (aB GK (pv 2) (dw (N:=["_law_moves_here"]) rfl (λ_=>⟨[],bI.plain (by decide +kernel) rfl (by decide +kernel) (by decide +kernel)⟩) (eX (az iS (hr.mono (by omega)) rfl aI.m aI.fn.kp aI.b .nil aQ (aa (aB nU (pv 0) ak) (aa (pv 1) af)))) (λ_ _ _ _ _ _ _=>(aM (i:=0) (show(["_law_moves_here"]:List Str).Nodup by decide +kernel) rfl (Or.inl rfl))) (λ_ _ _ _ _ _ _=>(aB cH bH (pv 0))))))
   (ao (aS (aB GK (pv 2) (dw (N:=["_law_moves_here"]) rfl (λ_=>⟨[],bI.plain (by decide +kernel) rfl (by decide +kernel) (by decide +kernel)⟩) (eX (az iS (hr.mono (by omega)) rfl aI.m aI.fn.kp aI.b .nil aQ (aa (pv 0) (aa (aB nU (pv 1) ak) af)))) (λ_ _ _ _ _ _ _=>(aM (i:=0) (show(["_law_moves_here"]:List Str).Nodup by decide +kernel) rfl (Or.inl rfl))) (λ_ _ _ _ _ _ _=>(aB cH bH (pv 0))))))))))),?_⟩
  refine⟨_,rfl,rfl,_,rfl,?_⟩
  rw[vp]
  refine eY (λe=>?_) (λe=>?_)
  ·have ei:i=0:=by omega
   subst ei
   refine⟨_,rfl,_,_,rfl,rfl,by omega,by omega,by decide,?_,by show 1<=sizeLine;decide,λl hl=>?_⟩
   ·show((j:Nat):Int).toNat*1<=sizeLine
    exact Nat.le_trans (show _<=1000 by omega) (by decide)
   rw[yH eb]
   exact k l _ [List.replicate j 98] (ai.upd hl) hl ah (λms hm=>by rw[List.mem_singleton.mp hm];exact xF.bs j) (Nat.pow_pos (by decide))
  refine⟨_,rfl,rfl,_,rfl,?_⟩
  rw[vp]
  refine eY (λe'=>?_) (λe'=>?_)
  ·have ej:j=0:=by omega
   subst ej
   refine⟨_,rfl,_,_,rfl,rfl,by omega,by omega,by decide,?_,by show 1<=sizeLine;decide,λl hl=>?_⟩
   ·show((i:Nat):Int).toNat*1<=sizeLine
    exact Nat.le_trans (show _<=1000 by omega) (by decide)
   rw[yH ea]
   exact k l _ [List.replicate i 97] (ai.upd hl) hl ah (λms hm=>by rw[List.mem_singleton.mp hm];exact xF.as i) (Nat.pow_pos (by decide))
  obtain⟨a,rfl⟩:∃a,i=a+1:=⟨i-1,by omega⟩
  obtain⟨b,rfl⟩:∃b,j=b+1:=⟨j-1,by omega⟩
  have JT:((a+1:Nat):Int)-1=(a:Int):=by omega
  have JS:((b+1:Nat):Int)-1=(b:Int):=by omega
  have p1:=pw (a+b) (by omega)
  have p2:=pw (a+(b+1)) (by omega)
  have p3:=pw (a+1+b) (by omega)
  refine⟨_,rfl,_,_,rfl,rfl,_,rfl,_,_,rfl,rfl,a,b,(by rw[←JT,←JS];rfl),by omega,by omega,by omega,λl1 H1 m1 s1 _ hl1 hm1 hz1=>?_⟩
  refine⟨l1,rfl,⟨_,bf.of hl1⟩,λc1 hc1=>?_⟩
  refine gb m1.length (λk=>V.str (mE (112::m1.getD k []))) hc1 (Nat.lt_of_le_of_lt (show m1.length<=1000 by omega) (by decide)) (λk HA sA hk=>?_) (λHA sA=>?_) (λk y HA HB R sA hk hy hR=>?_) λH2 s2 hq1=>?_
  ·exact⟨_,_,bf.of (sA _ _ hl1),by rw[List.getElem?_map,List.getElem?_eq_getElem hk];rfl⟩
  ·exact⟨_,bf.of (sA _ _ hl1),by rw[List.length_map];exact Nat.le_refl _⟩
  ·obtain⟨rfl,hy⟩:=hy
   have ey:=hy _ (bf.of (sA _ _ hl1))
   rw[List.getElem?_map,List.getElem?_eq_getElem hk]at ey
   cases ey
   rw[aO (List.getElem?_eq_getElem hk)]at hR
   have hz:=(hm1 _ (List.getElem_mem hk)).len
   refine⟨Kp.mG,_,rfl,_,_,rfl,rfl,?_,?_⟩
   ·show 1+(mE m1[k]).cps.size<=sizeLine
    rw[nI]
    exact Nat.le_trans (show _<=1000 by omega) (by decide)
   ·rw[Gj _ 112 _ ep]
    exact hR _ (ai.refl _)
  rw[GB]at hq1
  refine⟨_,rfl,_,rfl,_,_,rfl,rfl,_,rfl,a,b+1,(by rw[←JT];rfl),by omega,by omega,by omega,λl2 H3 m2 s3 _ hl2 hm2 hz2=>?_⟩
  refine⟨l2,rfl,⟨_,bf.of hl2⟩,λc2 hc2=>?_⟩
  refine gb m2.length (λk=>V.str (mE (97::m2.getD k []))) hc2 (Nat.lt_of_le_of_lt (show m2.length<=1000 by omega) (by decide)) (λk HA sA hk=>?_) (λHA sA=>?_) (λk y HA HB R sA hk hy hR=>?_) λH4 s4 hq2=>?_
  ·exact⟨_,_,bf.of (sA _ _ hl2),by rw[List.getElem?_map,List.getElem?_eq_getElem hk];rfl⟩
  ·exact⟨_,bf.of (sA _ _ hl2),by rw[List.length_map];exact Nat.le_refl _⟩
  ·obtain⟨rfl,hy⟩:=hy
   have ey:=hy _ (bf.of (sA _ _ hl2))
   rw[List.getElem?_map,List.getElem?_eq_getElem hk]at ey
   cases ey
   rw[aO (List.getElem?_eq_getElem hk)]at hR
   have hz:=(hm2 _ (List.getElem_mem hk)).len
   refine⟨Kp.mG,_,rfl,_,_,rfl,rfl,?_,?_⟩
   ·show 1+(mE m2[k]).cps.size<=sizeLine
    rw[nI]
    exact Nat.le_trans (show _<=1000 by omega) (by decide)
   ·rw[Gj _ 97 _ ea]
    exact hR _ (ai.refl _)
  rw[GB]at hq2
  have g1:=(s3.trans s4) _ _ hq1
  refine⟨c1,c2,_,_,rfl,rfl,g1,hq2,?_,λf hf=>?_⟩
  ·rw[List.length_map,List.length_map,List.length_map,List.length_map]
   exact Nat.le_trans (show _<=2000 by omega) (by decide)
  have s5:ai H4 (upd H4 f (.lst ((m1.map (112::·)).map (λms=>V.str (mE ms))++(m2.map (97::·)).map λms=>V.str (mE ms)))):=ai.upd hf
  have Jz:upd H4 f (.lst ((m1.map (112::·)).map (λms=>V.str (mE ms))++(m2.map (97::·)).map λms=>V.str (mE ms))) f=some (.lst ((m1.map (112::·)++m2.map (97::·)).map λms=>V.str (mE ms))):=by rw[ah,List.map_append]
  generalize upd H4 f (.lst ((m1.map (112::·)).map (λms=>V.str (mE ms))++(m2.map (97::·)).map λms=>V.str (mE ms)))=H5 at s5 Jz ⊢
  refine⟨_,rfl,_,rfl,_,rfl,_,_,rfl,rfl,a+1,b,(by rw[←JS];rfl),by omega,by omega,by omega,λl3 H6 m3 s6 _ hl3 Fz hz3=>?_⟩
  refine⟨l3,rfl,⟨_,bf.of hl3⟩,λc3 hc3=>?_⟩
  refine gb m3.length (λk=>V.str (mE (98::m3.getD k []))) hc3 (Nat.lt_of_le_of_lt (show m3.length<=1000 by omega) (by decide)) (λk HA sA hk=>?_) (λHA sA=>?_) (λk y HA HB R sA hk hy hR=>?_) λH7 s7 Cf=>?_
  ·exact⟨_,_,bf.of (sA _ _ hl3),by rw[List.getElem?_map,List.getElem?_eq_getElem hk];rfl⟩
  ·exact⟨_,bf.of (sA _ _ hl3),by rw[List.length_map];exact Nat.le_refl _⟩
  ·obtain⟨rfl,hy⟩:=hy
   have ey:=hy _ (bf.of (sA _ _ hl3))
   rw[List.getElem?_map,List.getElem?_eq_getElem hk]at ey
   cases ey
   rw[aO (List.getElem?_eq_getElem hk)]at hR
   have hz:=(Fz _ (List.getElem_mem hk)).len
   refine⟨Kp.mG,_,rfl,_,_,rfl,rfl,?_,?_⟩
   ·show 1+(mE m3[k]).cps.size<=sizeLine
    rw[nI]
    exact Nat.le_trans (show _<=1000 by omega) (by decide)
   ·rw[Gj _ 98 _ eb]
    exact hR _ (ai.refl _)
  rw[GB]at Cf
  refine⟨f,c3,_,_,rfl,rfl,(s6.trans s7) _ _ Jz,Cf,?_,λg hg=>?_⟩
  ·rw[List.length_map,List.length_map,List.length_map,List.length_append,List.length_map,List.length_map]
   exact Nat.le_trans (show _<=3000 by omega) (by decide)
  have sA:=(((s1.trans s2).trans (s3.trans s4)).trans s5).trans (s6.trans s7)
  refine k g _ (m1.map (112::·)++m2.map (97::·)++m3.map (98::·)) (sA.trans (ai.upd hg)) (ai.free sA hg) (by rw[ah,←List.map_append]) (λms hm=>?_) ?_
  ·rcases List.mem_append.mp hm with hm|hm
   ·rcases List.mem_append.mp hm with hm|hm
    ·obtain⟨z,hz,rfl⟩:=List.mem_map.mp hm
     exact .p (hm1 z hz)
    ·obtain⟨z,hz,rfl⟩:=List.mem_map.mp hm
     exact .a (hm2 z hz)
   ·obtain⟨z,hz,rfl⟩:=List.mem_map.mp hm
    exact .b (Fz z hz)
  ·rw[List.length_append,List.length_append,List.length_map,List.length_map,List.length_map]
   have q1:3 ^ (a+b)*9=3 ^ (a+1+(b+1)):=by rw[show a+1+(b+1)=a+b+2 by omega];exact(Nat.pow_add 3 (a+b) 2).symm
   have q2:3 ^ (a+(b+1))*3=3 ^ (a+1+(b+1)):=by rw[show a+1+(b+1)=a+(b+1)+1 by omega];exact(Nat.pow_add 3 (a+(b+1)) 1).symm
   have q3:3 ^ (a+1+b)*3=3 ^ (a+1+(b+1)):=by rw[show a+1+(b+1)=a+1+b+1 by omega];exact(Nat.pow_add 3 (a+1+b) 1).symm
   omega
end
section
variable{P:Program}{w:World}{K:PySem.W.Frag}{mg:Str->Option Value}{base:Heap}
theorem GX {lK mT lI fU mS:Addr} {jR lC jP eZ lA:FuncData} {p:Pm} (T:Txt K mg p w) (iG:Dn K mg "_law_least" pH ["_law_prices_here","_law_ones","_law_others","_law_found","_law_some"] lK jR) (gh:Dn K mg "_law_cost" qL ["_law_prices_here","_law_rows_here"] mT lC) (zT:aH P w K mg base cO 4 mT lC ["_law_prices_here","_law_rows_here"] (Rj K p.aq)) (eK:Dn K mg "_law_order" pF ["_law_moves_here"] lI jP) (xG:aH P w K mg base cO 1 lI jP ["_law_moves_here"] NK) (c9:Dn K mg "_law_told_moves" jD ["_law_rows_here","_law_many"] fU eZ) (wQ:aH P w K mg base cO 1 fU eZ ["_law_rows_here","_law_many"] (Q5 K)) (jz:Dn K mg "_law_join" qK ["_law_ones","_law_others","_law_moves_here"] mS lA) (QW:aH P w K mg base cO 1 mS lA ["_law_ones","_law_others","_law_moves_here"] (Rb K)):aH P w K mg base cO 5 lK jR ["_law_prices_here","_law_ones","_law_others","_law_found","_law_some"] (NO K p.aq):=by
 refine iG.fn.ok lR (λvs H Q E h=>?_) (λcdv A outer s H vs Q E hr h=>?_)
 ·obtain⟨x,a1,a2,lf,ls,sg,rows,fo,fm,r1,r2,cs,tO,rfl,_⟩:=h
  rfl
 ·obtain⟨x,a1,a2,lf,ls,sg,rows,fo,fm,r1,r2,cs,tO,rfl,hP,h1,h2,hf,hs,rD,qb,hb1,hb2,hO,hF,hM,k⟩:=h
  have hl1:=eF hb1
  have hl2:=eF hb2
  have hw1:=rD.br hl1
  have Cc:=qb.br hl2
  have z1:=rD.1
  have z2:=qb.1
  have hp1:0<r1.length:=List.length_pos_iff.mpr (cP.mp hl1).1
  have cA:=pO hb1 λr hr=>hO r (List.mem_append_left _ hr)
  have cB:=pO hb2 λr hr=>hO r (List.mem_append_right _ hr)
  have kg:45∈(tP sg).cps.toList:=oG.mpr (.inl rfl)
  have hJ:Jw (br r1) (br r2) 0 0 cs:=by
   have:=hF.path.wk (ds:=[]) ⟨rfl,rfl⟩
   rw[List.append_nil]at this
   exact this
  have ok:∀{ms:List Nat},Jw (br r1) (br r2) 0 0 ms->TL (oY r1 r2 ms)/\oE (oY r1 r2 ms)=true/\∀r∈oY r1 r2 ms,Of (tP sg) r:=λ{ms} h=>by
   have h':Jw (cols r1 (br r1)).length (cols r2 (br r2)).length 0 0 ms:=by rw[aZ,aZ];exact h
   have hC:=(show Path (cols r1 (br r1)).length (cols r2 (br r2)).length ms _ _ from Jw.path (cs:=[]) .nil h').cols cA cB kg
   obtain⟨t1,t2⟩:=t9 (by omega) hC
   have hl:=h.len
   refine⟨⟨by rw[aZ];omega,λr hr=>?_⟩,eF t1,t2⟩
   obtain⟨j,_,rfl⟩:=List.mem_map.mp (show r∈(List.range (r1.length+r2.length)).map (eE (Xa r1 r2 ms)) from hr)
   rw[show(eE (Xa r1 r2 ms) j).cps.size=(Xa r1 r2 ms).length from List.length_map ..]
   unfold Xa oV
   rw[List.length_map,List.length_range]
   omega
  obtain⟨o1,o2,o3⟩:=ok hJ
  refine⟨_,(aj (aD (i:=5) lR.nd rfl (Or.inl rfl) (az zT (hr.mono (by decide)) rfl gh.m gh.fn.kp gh.b .nil aQ (aa (pv 0) (aa (pv 3) af))))
   (aj (aD (i:=6) lR.nd rfl (Or.inl rfl) (az xG (hr.mono (by decide)) rfl eK.m eK.fn.kp eK.b .nil aQ (aa (az wQ (hr.mono (by decide)) rfl c9.m c9.fn.kp c9.b .nil aQ (aa (pv 3) (aa (aC (aK) rfl T.bJ aW (aa (pv 1) af)) af))) af)))
   (aj (dR PassesOwn.never rfl (eX (pv 4)) (aM (i:=7) lR.nd rfl (Or.inl rfl)) (aj (aD (i:=8) lR.nd rfl (Or.inl rfl) (az zT (hr.mono (by decide)) rfl gh.m gh.fn.kp gh.b .nil aQ (aa (pv 0) (aa (az QW (hr.mono (by decide)) rfl jz.m jz.fn.kp jz.b .nil aQ (aa (pv 1) (aa (pv 2) (aa (pv 7) af)))) af))))
   (ao (cK (PW.pt (yI (aU Rz (pv 8) (pv 5) (bq _)) (uu (PW.pt (uv (aU iP (pv 8) (pv 5) (bq _)) (sV (aU (aaa (Nat.lt_of_succ_lt (pM hr))) (az xG (hr.mono (by decide)) rfl eK.m eK.fn.kp eK.b .nil aQ (aa (pv 7) af)) (pv 6) (bq _)))))))) (ao (aS rS)) bx))))
   (ao (aS rS))))),?_⟩
  refine⟨_,rfl,_,rfl,x,lf,sg,rows,fo,fm,oY r1 r2 cs,rfl,hP,bf.of hf,o1,o2,o3,λH1 s1=>?_⟩
  refine⟨_,rfl,_,rfl,_,_,rfl,.inl ⟨_,bf.of (s1 _ _ h1),rfl⟩,lf,r1,r2,cs,(tP sg).cps.toList,(by rw[List.length_map];rfl),s1 _ _ hf,rD,qb,hl1,hl2,cA,cB,hJ,λH2 s2=>?_⟩
  have hcl:=hJ.len
  refine⟨cs,rfl,by omega,hJ.ok,λlo H3 s3 _ hlo=>?_⟩
  have WH:=(s1.trans s2).trans s3
  refine⟨_,rfl,ls,rfl,⟨_,bf.of (WH _ _ hs)⟩,qv (K:=K) (a:=ls) (xs:=tO.map λms=>V.str (mE ms)) (λi σ H4=>∃v7 v8:Option V,σ=[some (.ref x),some (.ref a1),some (.ref a2),some (.ref lf),some (.ref ls),some (.int (wK (MY sg rows fo fm) (oY r1 r2 cs))),some (.ref lo),v7,v8]/\ai H3 H4) ⟨_,_,rfl,ai.refl _⟩ (λi σ H4 _ hh=>?_) ?_ ?_⟩
  ·obtain⟨_,_,_,s4⟩:=hh
   exact bf.of ((WH.trans s4) _ _ hs)
  ·rintro i y σ H4 hy ⟨v7,v8,rfl,s4⟩
   obtain⟨ms,hms,rfl⟩:=qR hy
   have Cn:=hM ms (List.mem_of_getElem? hms)
   have Wf:=WH.trans s4
   obtain⟨m1,m2,m3⟩:=ok Cn
   obtain⟨le,lx⟩:=Vd (sg:=sg) (rows:=rows) (fo:=fo) (fm:=fm) cA cB kg hp1 hF Cn
   have hml:=Cn.len
   refine⟨_,rfl,_,rfl,_,rfl,_,rfl,a1,a2,r1,r2,ms,rfl,Wf _ _ h1,Wf _ _ h2,rD,qb,hl1,hl2,Cn,λlj H5 s5 Mr=>?_⟩
   refine⟨x,lj,sg,rows,fo,fm,oY r1 r2 ms,rfl,hP.same (Wf.trans s5),bf.of Mr,m1,m2,m3,λH6 s6=>?_⟩
   have BI:=s4.trans (s5.trans s6)
   generalize wK (MY sg rows fo fm) (oY r1 r2 ms)=cm at le lx ⊢
   generalize wK (MY sg rows fo fm) (oY r1 r2 cs)=cc at le lx ⊢
   refine⟨_,rfl,_,rfl,_,_,rfl,rfl,_,rfl,?_⟩
   rw[decide_eq_false (show ¬cm<cc by omega)]
   refine iQ ⟨_,rfl,_,rfl,rfl,_,rfl,?_⟩
   rw[vp]
   by_cases he:cm=cc
   ·rw[decide_eq_true he]
    refine kB ⟨_,rfl,ms,rfl,by omega,Cn.ok,λlo2 H7 s7 _ aha=>?_⟩
    refine⟨_,rfl,lo2,lo,_,_,rfl,rfl,bf.of aha,bf.of ((BI.trans s7) _ _ hlo),_,rfl,?_⟩
    rw[lx he]
    exact iQ ⟨_,_,rfl,BI.trans s7⟩
   ·rw[decide_eq_false he]
    exact iQ (iQ ⟨_,_,rfl,BI⟩)
  ·rintro σ H4 ⟨v7,v8,rfl,s4⟩
   exact k H4 (WH.trans s4)
end
section
variable{P:Program}{w:World}{K:PySem.W.Frag}{mg:Str->Option Value}{base:Heap}
theorem yO {i9 bO mQ aR ja:Addr} {g7 bD ly bK g8:FuncData} {p:Pm} (T:Txt K mg p w) (fL:Dn K mg "_law_strange" nj ["_law_script","_law_at","_law_prices_here","_law_ones","_law_others","_law_sign"] i9 g7) (aP:Dn K mg "_law_next" iH ["_law_script","_law_at"] bO bD) (fk:aH P w K mg base cO 1 bO bD ["_law_script","_law_at"] (uh K)) (jy:Dn K mg "_law_with" qI ["_law_row","_law_k","_law_thing_here"] mQ ly) (QV:aH P w K mg base cO 1 mQ ly ["_law_row","_law_k","_law_thing_here"] Uk) (aX:Dm K "__init__" "Block.__init__" cj ["self","rows"] aR bK) (ki:Mk K p.aJ aR) (cN:aH P w K mg base cO 5 aR bK ["self","rows"] (nv (yc K p.aJ p.dI))) (fM:Dn K mg "_law_refused" nk ["_law_prices_here","_law_one","_law_other"] ja g8) (AG:aH P w K mg base cO 10 ja g8 ["_law_prices_here","_law_one","_law_other"] (Um K p.aq p.aJ)):aH P w K mg base cO 11 i9 g7 ["_law_script","_law_at","_law_prices_here","_law_ones","_law_others","_law_sign"] (yu K p.aq):=by
 refine fL.fn.ok gX (λvs H Q E h=>?_) (λcdv A outer s H vs Q E hr h=>?_)
 ·obtain⟨s,t,x,a1,a2,ns,k,sg,rows,fo,fm,r1,r2,n1,w1,n2,w2,c,rfl,_⟩:=h
  rfl
 ·obtain⟨s,t,x,a1,a2,ns,k,sg,rows,fo,fm,r1,r2,n1,w1,n2,w2,c,rfl,hC,hk,hP,hl1,hl2,Wm,tY,SW,hn1,SV,hn2,hw1,Cc,hO,hcs,hck,kk⟩:=h
  have k0:=hC.k0
  have Ii:=Wm.len
  have ahb:=tY.len
  refine⟨_,(bX (aD (i:=6) gX.nd rfl (Or.inl rfl) (az fk (hr.mono (by decide)) rfl aP.m aP.fn.kp aP.b .nil aQ (aa (pv 0) (aa (pv 1) af))))
   (aj (aD (i:=7) gX.nd rfl (Or.inl rfl) (aB GK (pv 3) (pv 4)))
   (bX (aD (i:=8) gX.nd rfl (Or.inl rfl) (aB cG (pv 6) (aC (aK) rfl T.bJ aW (aa (pv 7) af))))
   (aj (cK (aU iP (aC (aK) rfl T.bJ aW (aa (aV bh (pv 7) (pv 8) (λ_ _=>rfl)) af)) ak (bq _)) (ao (aS rS)) bx)
   (bX (aD (i:=9) gX.nd rfl (Or.inl rfl) (aB cG (aB cT (pv 6) ak) (aC (aK) rfl T.bJ aW (aa (aV bh (pv 7) (pv 8) (λ_ _=>rfl)) af))))
   (aj (GA (az QV (hr.mono (by decide)) rfl jy.m jy.fn.kp jy.b .nil aQ (aa (aV bh (pv 7) (pv 8) (λ_ _=>rfl)) (aa (pv 9) (aa (pv 5) af)))) (GG (pv 7) (pv 8) set_list))
   (bX (aD (i:=10) gX.nd rfl (Or.inl rfl) (oB ki cN (hr.mono (by decide)) rfl T.l7 aX.b .nil aQ (aa (iO qH (pv 7) kL (kK (aC (aK) rfl T.bJ aW (aa (pv 3) af)))) af)))
   (ao (aS (pK (UY (Nat.lt_of_succ_lt (pM hr))) (az AG (hr.mono (by decide)) rfl fM.m fM.fn.kp fM.b .nil aQ (aa (pv 2) (aa (pv 10) (aa (oB ki cN (hr.mono (by decide)) rfl T.l7 aX.b .nil aQ (aa (iO qH (pv 7) (kK (aC (aK) rfl T.bJ aW (aa (pv 3) af))) kL) af)) af)))) (oU (aa (pv 8) (aa (pv 9) af))) (bq _))))))))))),?_⟩
  refine⟨λσ' H'=>∃nn:Int,0<=nn/\ai (Wo t H) (Wo t H')/\H' t=some (.lst [.int (k+1)])/\σ'=[some (.ref s),some (.ref t),some (.ref x),some (.ref a1),some (.ref a2),some (.str ⟨#[c]⟩),some (.int nn),none,none,none,none],?_,?_⟩
  ·exact⟨_,rfl,_,rfl,s,t,ns,k,rfl,hC,by omega,λnn h1 h2=>⟨nn,h1,by rw[Wo.set];exact ai.refl _,ah,rfl⟩⟩
  rintro σ' HQ ⟨nn,hnn,We,SS,rfl⟩
  have g1:HQ a1=some (.lst (r1.map V.str)):=Wo.sub _ _ (We _ _ hl1)
  have g2:HQ a2=some (.lst (r2.map V.str)):=Wo.sub _ _ (We _ _ hl2)
  have Nq:jk K p.aq HQ x sg rows fo fm:=(hP.same We).same Wo.sub
  have agM:(r1.map V.str).length+(r2.map V.str).length<=sizeLine:=by
   rw[List.length_map,List.length_map]
   exact Nat.le_trans (show _<=1000 by omega) (by decide)
  refine⟨_,rfl,_,rfl,a1,a2,_,_,rfl,rfl,g1,g2,agM,λlw Jt=>?_⟩
  have s12:ai HQ (upd HQ lw (.lst (r1.map V.str++r2.map V.str))):=ai.upd Jt
  have Ba:upd HQ lw (.lst (r1.map V.str++r2.map V.str)) lw=some (.lst ((r1++r2).map V.str)):=by rw[ah,List.map_append]
  generalize upd HQ lw (.lst (r1.map V.str++r2.map V.str))=Br at s12 Ba ⊢
  have hrl:(r1++r2).length=n1+n2:=by rw[List.length_append];omega
  have agT:((r1++r2).map V.str).length=n1+n2:=by rw[List.length_map,hrl]
  have e1:=Int.emod_nonneg nn (show((n1+n2:Nat):Int)≠0 by omega)
  have e2:=Int.emod_lt_of_pos nn (show(0:Int)<((n1+n2:Nat):Int) by omega)
  obtain⟨r,hr⟩:∃r:Nat,nn % ((n1+n2:Nat):Int)=(r:Int):=⟨_,(Int.toNat_of_nonneg e1).symm⟩
  have Ko:r<(r1++r2).length:=by omega
  have hrr:=List.getElem?_eq_getElem Ko
  have Me:((r1++r2)[r]).cps.size<=50:=by
   rcases List.mem_append.mp (List.getElem_mem Ko)with z|z
   ·rw[Wm.br _ z];exact hw1
   ·rw[tY.br _ z];exact Cc
  generalize (r1++r2)[r]=row at hrr Me
  refine⟨λσ' H'=>H'=Br/\σ'=[some (.ref s),some (.ref t),some (.ref x),some (.ref a1),some (.ref a2),some (.str ⟨#[c]⟩),some (.int nn),some (.ref lw),some (.int (r:Int)),none,none],?_,?_⟩
  ·refine⟨_,rfl,_,rfl,_,_,rfl,.inl ⟨_,bf.of Ba,rfl⟩,_,_,rfl,rfl,(by show(0:Int)<((((r1++r2).map V.str).length:Nat):Int);omega),rfl,?_⟩
   rw[←hr,←agT]
   rfl
  rintro σ' Br ⟨rfl,rfl⟩
  refine⟨_,rfl,_,rfl,lw,_,_,.str row,rfl,rfl,bf.of Ba,aT (by rw[List.getElem?_map,hrr];rfl),_,_,rfl,⟨Nat.le_trans (show row.cps.size<=100 by omega) (by decide),rfl⟩,rfl,_,rfl,?_⟩
  rw[vp]
  have fin:∀{H':Hp},ai HQ H'->Q (.bl true) H':=λ{H'} s'=>kk H' (We.trans (Wo.same s')) (s' _ _ SS)
  refine eY (λh0=>?_) (λh0=>?_)
  ·exact fin s12
  ·have h0':(0:Int)<((row.cps.size:Nat):Int):=by
    have:¬((row.cps.size:Nat):Int)=0:=h0
    omega
   have e3:=Int.emod_nonneg (nn / 9) (show((row.cps.size:Nat):Int)≠0 by omega)
   have e4:=Int.emod_lt_of_pos (nn / 9) h0'
   obtain⟨q,hq⟩:∃q:Nat,nn / 9 % ((row.cps.size:Nat):Int)=(q:Int):=⟨_,(Int.toNat_of_nonneg e3).symm⟩
   have F3:q<row.cps.size:=by omega
   refine⟨λσ' H'=>H'=Br/\σ'=[some (.ref s),some (.ref t),some (.ref x),some (.ref a1),some (.ref a2),some (.str ⟨#[c]⟩),some (.int nn),some (.ref lw),some (.int (r:Int)),some (.int (q:Int)),none],?_,?_⟩
   ·refine⟨_,rfl,_,_,rfl,rfl,⟨by decide,by decide⟩,_,rfl,_,rfl,lw,_,_,.str row,rfl,rfl,bf.of Ba,aT (by rw[List.getElem?_map,hrr];rfl),_,_,rfl,⟨Nat.le_trans (show row.cps.size<=100 by omega) (by decide),rfl⟩,_,_,rfl,rfl,h0',rfl,?_⟩
    rw[←hq]
    rfl
   rintro σ' Br ⟨rfl,rfl⟩
   refine⟨_,rfl,_,rfl,lw,_,_,.str row,rfl,rfl,bf.of Ba,aT (by rw[List.getElem?_map,hrr];rfl),_,rfl,_,rfl,row,⟨#[c]⟩,q,rfl,F3,by omega,by show 1<=100;decide,λo' ho'=>?_⟩
   have ho2:o'.cps.toList=row.cps.toList.set q c:=by
    rw[ho']
    exact Xq _ _ _ (by rw[Array.length_toList];omega)
   refine⟨_,rfl,_,rfl,lw,_,_,r,rfl,rfl,Ba,?_,?_⟩
   ·unfold Vf
    rw[if_pos (by omega),if_pos (by rw[List.length_map];omega)]
    simp
   have e5:((r1++r2).map V.str).set r (V.str o')=((r1++r2).set r o').map V.str:=by rw[List.map_set]
   rw[e5]
   have Tv:ai HQ (upd Br lw (.lst (((r1++r2).set r o').map V.str))):=ai.at s12 Jt
   have RI:upd Br lw (.lst (((r1++r2).set r o').map V.str)) lw=some (.lst (((r1++r2).set r o').map V.str)):=ah
   generalize upd Br lw (.lst (((r1++r2).set r o').map V.str))=Pc at Tv RI ⊢
   obtain⟨p1,p2⟩:=Wm.put2 tY hrr F3 ho2 hcs
   have hB:vO (tP sg) (((r1++r2).set r o').take n1++((r1++r2).set r o').drop n1) r q:=by
    rw[List.take_append_drop]
    exact vO.mk1 hO hrr F3 ho2 hck
   have hsl:((r1++r2).set r o').length=n1+n2:=by rw[List.length_set,hrl]
   have ct:wD (((r1++r2).set r o').map V.str) none (some (((r1.map V.str).length:Nat):Int))=(((r1++r2).set r o').take n1).map V.str:=by
    rw[List.length_map,Ii,QF (by rw[List.length_map,hsl];omega),List.map_take]
   have cf:wD (((r1++r2).set r o').map V.str) (some (((r1.map V.str).length:Nat):Int)) none=(((r1++r2).set r o').drop n1).map V.str:=by
    rw[List.length_map,Ii,zw (by rw[List.length_map,hsl];omega),List.map_drop]
   have l1':=p1.len
   have l2':=p2.len
   have Fj:Au (((r1++r2).set r o').take n1):=⟨by omega,λr hr=>by rw[p1.br r hr];omega⟩
   have Fi:Au (((r1++r2).set r o').drop n1):=⟨by omega,λr hr=>by rw[p2.br r hr];omega⟩
   have FZ:=p1.block SW
   have FY:=p2.block SV
   generalize ((r1++r2).set r o').take n1=u1 at ct Fj FZ hB
   generalize ((r1++r2).set r o').drop n1=u2 at cf Fi FY hB
   generalize (r1++r2).set r o'=rs' at RI ct cf ⊢
   have JP:=Tv _ _ g1
   refine⟨λσ' H'=>∃CW,ai Pc H'/\t7 K p.aJ H' CW u1/\σ'=[some (.ref s),some (.ref t),some (.ref x),some (.ref a1),some (.ref a2),some (.str ⟨#[c]⟩),some (.int nn),some (.ref lw),some (.int (r:Int)),some (.int (q:Int)),some (.ref CW)],?_,?_⟩
   ·refine⟨_,rfl,_,rfl,_,_,rfl,.inl ⟨_,bf.of JP,rfl⟩,_,rfl,lw,_,rfl,bf.of RI,λpa hpa=>?_⟩
    rw[ct]
    have UB:ai Pc (upd Pc pa (.lst (u1.map V.str))):=ai.upd hpa
    have X8:upd Pc pa (.lst (u1.map V.str)) pa=some (.lst (u1.map V.str)):=ah
    generalize upd Pc pa (.lst (u1.map V.str))=QU at UB X8 ⊢
    intro o dx ho hdx XT
    have s7:ai QU (upd (upd QU dx (.own o)) o (.ins p.aJ dx [])):=ai.at (ai.upd hdx) ho
    refine⟨o,dx,_,u1,rfl,ah,⟨pa,rfl,.inl (bf.of (s7 _ _ X8))⟩,Fj.sm,λ_ H8 q1 q2=>⟨rfl,?_⟩,λz=>(by rw[FZ]at z;cases z)⟩
    have g2:ai QU H8:=λc u hc=>q1 _ _ (s7 _ _ hc) (λz=>by rw[z,ho]at hc;cases hc)
    exact⟨o,UB.trans g2,q2,rfl⟩
   rintro σ' QU ⟨CW,UB,Gb,rfl⟩
   refine⟨_,rfl,_,rfl,_,rfl,_,rfl,_,_,rfl,.inl ⟨_,bf.of (UB _ _ JP),rfl⟩,_,rfl,lw,_,rfl,bf.of (UB _ _ RI),λpa hpa=>?_⟩
   rw[cf]
   have CU:ai QU (upd QU pa (.lst (u2.map V.str))):=ai.upd hpa
   have X7:upd QU pa (.lst (u2.map V.str)) pa=some (.lst (u2.map V.str)):=ah
   generalize upd QU pa (.lst (u2.map V.str))=TN at CU X7 ⊢
   intro o dx ho hdx XT
   have s7:ai TN (upd (upd TN dx (.own o)) o (.ins p.aJ dx [])):=ai.at (ai.upd hdx) ho
   refine⟨o,dx,_,u2,rfl,ah,⟨pa,rfl,.inl (bf.of (s7 _ _ X7))⟩,Fi.sm,λ_ IC q1 q2=>⟨rfl,?_⟩,λz=>(by rw[FY]at z;cases z)⟩
   have g2:ai TN IC:=λc u hc=>q1 _ _ (s7 _ _ hc) (λz=>by rw[z,ho]at hc;cases hc)
   have BI:=CU.trans g2
   have Rp:=Tv.trans (UB.trans BI)
   refine⟨x,CW,o,sg,rows,fo,fm,u1,u2,r,q,rfl,Nq.same Rp,Gb.same BI,q2,Fj,Fi,FZ,FY,hB,λtq Wq BX Mb=>?_⟩
   refine⟨_,rfl,_,rfl,by show 2<=sizeLine;decide,λt2 yh=>?_⟩
   refine⟨tq,t2,_,_,rfl,rfl,iR.of (ai.upd yh _ _ Mb),iR.of ah,rfl,rfl,?_⟩
   show Q (.bl (kZ _ _)) _
   rw[Q0]
   exact fin (Rp.trans (BX.trans (ai.upd yh)))
end
section
variable{P:Program}{w:World}{K:PySem.W.Frag}{mg:Str->Option Value}{base:Heap}
theorem GS {lG bO lF jU mR aR mw jV lJ cJ lK ir i9:Addr} {jN bD jM iU lz bK jS iV jQ ck jR gq g7:FuncData} {p:Pm} (T:Txt K mg p w) (iE:Dn K mg "_law_round" pC ["_law_script","_law_at"] lG jN) (aP:Dn K mg "_law_next" iH ["_law_script","_law_at"] bO bD) (fk:aH P w K mg base cO 1 bO bD ["_law_script","_law_at"] (uh K)) (iD:Dn K mg "_law_signs" pB ["_law_script","_law_at","_law_many"] lF jM) (Pg:aH P w K mg base cO 2 lF jM ["_law_script","_law_at","_law_many"] (NI K)) (gH:Dn K mg "_law_prices" n9 ["_law_script","_law_at","_law_signs_here","_law_same"] jU iU) (HS:aH P w K mg base cO 7 jU iU ["_law_script","_law_at","_law_signs_here","_law_same"] (AW K p.aq)) (gg:Dn K mg "_law_rows" qJ ["_law_script","_law_at","_law_signs_here","_law_many","_law_columns"] mR lz) (zS:aH P w K mg base cO 3 mR lz ["_law_script","_law_at","_law_signs_here","_law_many","_law_columns"] (Q7 K)) (aX:Dm K "__init__" "Block.__init__" cj ["self","rows"] aR bK) (ki:Mk K p.aJ aR) (cN:aH P w K mg base cO 5 aR bK ["self","rows"] (nv (yc K p.aJ p.dI))) (fB:Dn K mg "joined" rM ["prices","one","other"] mw jS) (vK:aH P w K mg base cO 8 mw jS ["prices","one","other"] (nv (vR K p.aq p.aJ p.aN))) (dF:Dn K mg "_law_packed" oh ["_law_rows_here"] jV iV) (vJ:aH P w K mg base cO 2 jV iV ["_law_rows_here"] (AX K)) (iF:Dn K mg "_law_moves" pG ["_law_script","_law_at","_law_i","_law_j"] lJ jQ) (Pj:aH P w K mg base cO 2 lJ jQ ["_law_script","_law_at","_law_i","_law_j"] (NN K)) (aI:Dn K mg "_law_all_moves" iN ["_law_i","_law_j"] cJ ck) (iS:aH P w K mg base cO 7 cJ ck ["_law_i","_law_j"] (Gm 6)) (iG:Dn K mg "_law_least" pH ["_law_prices_here","_law_ones","_law_others","_law_found","_law_some"] lK jR) (Pk:aH P w K mg base cO 5 lK jR ["_law_prices_here","_law_ones","_law_others","_law_found","_law_some"] (NO K p.aq)) (bL:Dn K mg "_law_block_is" lT ["_law_block","_law_rows_here"] ir gq) (o6:aH P w K mg base cO 1 ir gq ["_law_block","_law_rows_here"] (Rk K p.aJ)) (fL:Dn K mg "_law_strange" nj ["_law_script","_law_at","_law_prices_here","_law_ones","_law_others","_law_sign"] i9 g7) (AF:aH P w K mg base cO 11 i9 g7 ["_law_script","_law_at","_law_prices_here","_law_ones","_law_others","_law_sign"] (yu K p.aq)):aH P w K mg base cO 12 lG jN ["_law_script","_law_at"] (NJ K):=by
 refine iE.fn.ok bT (λvs H Q E h=>?_) (λcdv A outer s H vs Q E hr h=>?_)
 ·obtain⟨s,t,ns,k,rfl,_⟩:=h
  rfl
 ·obtain⟨s,t,ns,k,rfl,hC,hk,kk⟩:=h
  have k0:=hC.k0
  refine⟨_,(bX (aD (i:=2) bT.nd rfl (Or.inl rfl) (az fk (hr.mono (by decide)) rfl aP.m aP.fn.kp aP.b .nil aQ (aa (pv 0) (aa (pv 1) af))))
   (bX (aD (i:=3) bT.nd rfl (Or.inl rfl) (aB cY ak (aB cG (pv 2) ak)))
   (bX (aD (i:=4) bT.nd rfl (Or.inl rfl) (az Pg (hr.mono (by decide)) rfl iD.m iD.fn.kp iD.b .nil aQ (aa (pv 0) (aa (pv 1) (aa (aB cY (pv 3) ak) af)))))
   (bX (aD (i:=5) bT.nd rfl (Or.inl rfl) (az HS (hr.mono (by decide)) rfl gH.m gH.fn.kp gH.b .nil aQ (aa (pv 0) (aa (pv 1) (aa (iO yC (pv 4) kL (kK (pv 3))) (aa (pK iP (aB cG (aB cT (pv 2) ak) ak) ak (bq _)) af))))))
   (bX (aD (i:=6) bT.nd rfl (Or.inl rfl) (gj (aa (aB cY ak (aB cG (aB cT (pv 2) ak) ak)) (aa (aB cG (aB cT (pv 2) ak) ak) (aa (aB cY ak (aB cG (aB cT (pv 2) ak) ak)) (aa (aB cG (aB cT (pv 2) ak) ak) af))))))
   (bX (cK (aU iP (aB cG (aB cT (pv 2) ak) ak) ak (bq _)) (ao (aD (i:=6) bT.nd rfl (Or.inl rfl) (gj (aa (aB cY ak (aB cG (aB cT (pv 2) ak) ak)) (aa (aB cY ak (aB cG (aB cT (pv 2) ak) ak)) (aa (aB cY ak (aB cG (aB cT (pv 2) ak) ak)) (aa ak af))))))) bx)
   (bX (cK (aU iP (aB cG (aB cT (pv 2) ak) ak) ak (bq _)) (ao (aD (i:=6) bT.nd rfl (Or.inl rfl) (gj (aa (aB cY ak (aB cG (aB cT (pv 2) ak) ak)) (aa (aB cY ak (aB cG (aB cT (pv 2) ak) ak)) (aa ak (aa (aB cY ak (aB cG (aB cT (pv 2) ak) ak)) af))))))) bx)
   (bX (aD (i:=7) bT.nd rfl (Or.inr rfl) (az zS (hr.mono (by decide)) rfl gg.m gg.fn.kp gg.b .nil aQ (aa (pv 0) (aa (pv 1) (aa (iO yC (pv 4) kL (kK (pv 3))) (aa (aV bh (pv 6) ak (λ_ _=>rfl)) (aa (aV bh (pv 6) ak (λ_ _=>rfl)) af)))))))
   (bX (aD (i:=8) bT.nd rfl (Or.inr rfl) (az zS (hr.mono (by decide)) rfl gg.m gg.fn.kp gg.b .nil aQ (aa (pv 0) (aa (pv 1) (aa (iO yC (pv 4) kL (kK (pv 3))) (aa (aV bh (pv 6) ak (λ_ _=>rfl)) (aa (aV bh (pv 6) ak (λ_ _=>rfl)) af)))))))
   (bX (aD (i:=9) bT.nd rfl (Or.inl rfl) (oB ki cN (hr.mono (by decide)) rfl T.l7 aX.b .nil aQ (aa (pv 7) af)))
   (bX (aD (i:=10) bT.nd rfl (Or.inl rfl) (oB ki cN (hr.mono (by decide)) rfl T.l7 aX.b .nil aQ (aa (pv 8) af)))
   (bX (aD (i:=11) bT.nd rfl (Or.inl rfl) (az vK (hr.mono (by decide)) rfl fB.m fB.fn.kp fB.b .nil aQ (aa (pv 5) (aa (pv 9) (aa (pv 10) af)))))
   (bX (cK (PW.pt (yI (qO (kP (aC (vv) rfl T.qC p7 (aa (pv 11) (aa (kM (v:=.ref p.aJ) rfl T.l7 rfl) af))))) (uu (aU rV (aC (aK) rfl T.bJ aW (aa (bG (pv 11) rfl) af)) (aB cY (aC (aK) rfl T.bJ aW (aa (pv 7) af)) (aC (aK) rfl T.bJ aW (aa (pv 8) af))) (bq _))))) (ao (aS rS)) bx)
   (bX (aD (i:=12) bT.nd rfl (Or.inl rfl) (oK (Hv) rfl T.Yp Xx (aa (bG (pv 11) rfl) af)))
   (bX (cK (PW.pt (yI (aU (UW (Nat.lt_of_succ_lt (pM hr))) (az vJ (hr.mono (by decide)) rfl dF.m dF.fn.kp dF.b .nil aQ (aa (iO qH (pv 12) kL (kK (aC (aK) rfl T.bJ aW (aa (pv 7) af)))) af)) (pv 7) (bq _)) (uu (aU (UW (Nat.lt_of_succ_lt (pM hr))) (az vJ (hr.mono (by decide)) rfl dF.m dF.fn.kp dF.b .nil aQ (aa (iO qH (pv 12) (kK (aC (aK) rfl T.bJ aW (aa (pv 7) af))) kL) af)) (pv 8) (bq _))))) (ao (aS rS)) bx)
   (bX (kQ (i:=13) (N:=["_law_k","_law_script","_law_at","_law_ones","_law_others"]) bT.nd rfl (Or.inl rfl) rfl (bI.jx (nt:=1) (ix:=[0,1,7,8]) rfl (by decide +kernel) (by decide +kernel) (by kernel_rfl) rfl (by kernel_rfl)) (eV rfl T.gT (aa ak af)) (λ_ _ _ _ _ _ _=>(aM (i:=0) (show(["_law_k","_law_script","_law_at","_law_ones","_law_others"]:List Str).Nodup by decide +kernel) rfl (Or.inl rfl))) (λ_ _ _ _ _ _ _=>(az Pj (hr.mono (by decide)) rfl iF.m iF.fn.kp iF.b .nil aQ (aa (pv 1) (aa (pv 2) (aa (aC (oQ (K':=K) rfl) rfl T.bJ aW (aa (aV (qp (K':=K) rfl) (pv 3) ak (λ_ _=>rfl)) af)) (aa (aC (oQ (K':=K) rfl) rfl T.bJ aW (aa (aV (qp (K':=K) rfl) (pv 4) ak (λ_ _=>rfl)) af)) af)))))))
   (bX (cK (aU Rz (aC (Td rfl) rfl T.abq aaR (aa (aC (oQ (K':=K) rfl) rfl T.bJ aW (aa (aV bh (pv 7) ak (λ_ _=>rfl)) af)) (aa (aC (oQ (K':=K) rfl) rfl T.bJ aW (aa (aV bh (pv 8) ak (λ_ _=>rfl)) af)) af))) ak (bq _)) (ao (aD (i:=13) bT.nd rfl (Or.inl rfl) (az iS (hr.mono (by decide)) rfl aI.m aI.fn.kp aI.b .nil aQ (aa (aC (oQ (K':=K) rfl) rfl T.bJ aW (aa (aV bh (pv 7) ak (λ_ _=>rfl)) af)) (aa (aC (oQ (K':=K) rfl) rfl T.bJ aW (aa (aV bh (pv 8) ak (λ_ _=>rfl)) af)) af))))) bx)
   (bX (cK (qO (kP (az Pk (hr.mono (by decide)) rfl iG.m iG.fn.kp iG.b .nil aQ (aa (pv 5) (aa (pv 7) (aa (pv 8) (aa (pv 12) (aa (pv 13) af)))))))) (ao (aS rS)) bx)
   (bX (cK (qO (kP (az o6 (hr.mono (by decide)) rfl bL.m bL.fn.kp bL.b .nil aQ (aa (az vK (hr.mono (by decide)) rfl fB.m fB.fn.kp fB.b .nil aQ (aa (pv 5) (aa (oB ki cN (hr.mono (by decide)) rfl T.l7 aX.b .nil aQ (aa (pv 7) af)) (aa (oB ki cN (hr.mono (by decide)) rfl T.l7 aX.b .nil aQ (aa (pv 8) af)) af)))) (aa (pv 12) af))))) (ao (aS rS)) bx)
   (bX (cK (qO (kP (az AF (hr.mono (by decide)) rfl fL.m fL.fn.kp fL.b .nil aQ (aa (pv 0) (aa (pv 1) (aa (pv 5) (aa (pv 7) (aa (pv 8) (aa (aV l9 (pv 4) (pv 3) (λ_ _=>rfl)) af))))))))) (ao (aS rS)) bx)
   (ao (aS (US (az o6 (hr.mono (by decide)) rfl bL.m bL.fn.kp bL.b .nil aQ (aa (pv 9) (aa (pv 7) af))) (UK (az o6 (hr.mono (by decide)) rfl bL.m bL.fn.kp bL.b .nil aQ (aa (pv 10) (aa (pv 8) af))))))))))))))))))))))))))),?_⟩
  refine⟨λσ' H'=>∃m:Int,0<=m/\ai (Wo t H) (Wo t H')/\H' t=some (.lst [.int (k+1)])/\σ'=[some (.ref s),some (.ref t),some (.int m),none,none,none,none,none,none,none,none,none,none,none],?_,?_⟩
  ·exact⟨_,rfl,_,rfl,s,t,ns,k,rfl,hC,by omega,λm h1 h2=>⟨m,h1,by rw[Wo.set];exact ai.refl _,ah,rfl⟩⟩
  rintro σ' H1 ⟨m,hm,w1,ht1,rfl⟩
  have B1:Kb k (k+1) 1:=⟨by omega,by omega⟩
  have C1:uO K H1 s t ns (k+1):=hC.off w1 ht1 (B1.lo k0)
  have m1:=Int.emod_nonneg m (show(4:Int)≠0 by decide)
  have m2:=Int.emod_lt_of_pos m (show(0:Int)<4 by decide)
  obtain⟨ng,hng⟩:∃ng:Nat,1+m % 4=(ng:Int):=⟨(1+m % 4).toNat,by omega⟩
  refine⟨λσ' H'=>H'=H1/\σ'=[some (.ref s),some (.ref t),some (.int m),some (.int (ng:Int)),none,none,none,none,none,none,none,none,none,none],?_,?_⟩
  ·refine⟨_,rfl,_,_,rfl,rfl,(by show(0:Int)<4;decide),_,_,rfl,rfl,rfl,?_⟩
   rw[←hng]
   rfl
  rintro σ' H1 ⟨rfl,rfl⟩
  refine⟨λσ' H'=>∃S:Str,S.cps.size=ng+1/\(∀c∈S.cps.toList,dZ c=true)/\S.cps.toList.Nodup/\ai (Wo t H) (Wo t H')/\H' t=some (.lst [.int (k+2)])/\σ'=[some (.ref s),some (.ref t),some (.int m),some (.int (ng:Int)),some (.str S),none,none,none,none,none,none,none,none,none],?_,?_⟩
  ·refine⟨_,rfl,_,rfl,_,rfl,_,_,rfl,rfl,s,t,ns,k+1,ng+1,rfl,C1,by omega,by omega,λS H2 hS Dl Dp s2=>?_⟩
   have w2:=Wo.step s2
   have yh:=s2 _ _ ah
   exact⟨S,hS,Dl,Dp,w1.trans w2,by rw[yh,show k+1+1=k+2 by omega],rfl⟩
  rintro σ' H2 ⟨S,hS,Dl,Dp,w2,yh,rfl⟩
  have B2:Kb k (k+2) 2:=⟨by omega,by omega⟩
  have C2:uO K H2 s t ns (k+2):=hC.off w2 yh (B2.lo k0)
  have C8:S.length<=sizeLine:=Nat.le_trans (show S.cps.size<=100 by omega) (by decide)
  obtain⟨sg,Xf⟩:∃sg,Txt.slice S none (some (ng:Int))=sg:=⟨_,rfl⟩
  have hsg:sg.cps.toList=S.cps.toList.take ng:=by rw[←Xf];exact Ux S ng
  have hsz:sg.cps.size=ng:=by rw[←Array.length_toList,hsg,List.length_take,Array.length_toList];omega
  have F5:∀c∈sg.cps.toList,dZ c=true:=λc hc=>Dl c (by rw[hsg]at hc;exact List.mem_of_mem_take hc)
  have hjn:ng<S.cps.toList.length:=by rw[Array.length_toList];omega
  have Kq:0<sg.cps.size:=by omega
  have hsz1:sg.cps.size<=10:=by omega
  have MC:OZ sg:=⟨by omega,by omega,F5,by rw[hsg];exact List.Nodup.sublist (List.take_sublist _ _) Dp⟩
  refine⟨λσ' H'=>∃x k3 rows fo fm,jk K p.aq (Wo t H') x sg rows fo fm/\ai (Wo t H) (Wo t H')/\H' t=some (.lst [.int k3])/\Kb k k3 300/\σ'=[some (.ref s),some (.ref t),some (.int m),some (.int (ng:Int)),some (.str S),some (.ref x),none,none,none,none,none,none,none,none],?_,?_⟩
  ·refine⟨_,rfl,_,rfl,_,rfl,_,rfl,_,rfl,S,rfl,C8,_,rfl,_,_,rfl,rfl,⟨by decide,by decide⟩,_,_,rfl,rfl,(by show(0:Int)<2;decide),rfl,s,t,ns,k+2,sg,_,(by rw[←Xf];rfl),C2,by omega,MC,by omega,λx H' k' rows fo fm hP hxn w3 Vm b1 b2=>?_⟩
   exact⟨x,k',rows,fo,fm,hP,w2.trans w3,Vm,B2.up b1 b2 (by decide),rfl⟩
  rintro σ' H4 ⟨x,k3,rows,fo,fm,hP,w4,tX,B3,rfl⟩
  refine⟨λσ' H'=>∃(z:Addr) (s0 s1 s2 s3:Nat),(1<=s0/\s0<=8/\s1<=9/\1<=s2/\s2<=3/\s3<=9)/\Wo t H' z=some (.lst [.int s0,.int s1,.int s2,.int s3])/\jk K p.aq (Wo t H') x sg rows fo fm/\ai (Wo t H) (Wo t H')/\H' t=some (.lst [.int k3])/\σ'=[some (.ref s),some (.ref t),some (.int m),some (.int (ng:Int)),some (.str S),some (.ref x),some (.ref z),none,none,none,none,none,none,none],?_,?_⟩
  ·refine⟨_,rfl,_,_,rfl,rfl,⟨by decide,by decide⟩,_,_,rfl,rfl,(by show(0:Int)<3;decide),_,_,rfl,rfl,_,rfl,_,_,rfl,rfl,⟨by decide,by decide⟩,_,_,rfl,rfl,(by show(0:Int)<6;decide),_,rfl,_,_,rfl,rfl,⟨by decide,by decide⟩,_,_,rfl,rfl,(by show(0:Int)<3;decide),_,_,rfl,rfl,_,rfl,_,_,rfl,rfl,⟨by decide,by decide⟩,_,_,rfl,rfl,(by show(0:Int)<6;decide),by show 4<=sizeLine;decide,λz hz=>?_⟩
   have sz:ai H4 (upd H4 z (.lst [.int (1+m / 8 % 3),.int (m / 24 % 6),.int (1+m / 144 % 3),.int (m / 432 % 6)])):=ai.upd hz
   have nz:z≠t:=λe=>by rw[e,tX]at hz;cases hz
   obtain⟨s0,hs0⟩:∃n:Nat,1+m / 8 % 3=(n:Int):=⟨(1+m / 8 % 3).toNat,by omega⟩
   obtain⟨s1,hs1⟩:∃n:Nat,m / 24 % 6=(n:Int):=⟨(m / 24 % 6).toNat,by omega⟩
   obtain⟨s2,hs2⟩:∃n:Nat,1+m / 144 % 3=(n:Int):=⟨(1+m / 144 % 3).toNat,by omega⟩
   obtain⟨s3,Cd⟩:∃n:Nat,m / 432 % 6=(n:Int):=⟨(m / 432 % 6).toNat,by omega⟩
   exact⟨z,s0,s1,s2,s3,by omega,Wo.in nz (by rw[ah,←hs0,←hs1,←hs2,←Cd]),hP.same (Wo.same sz),w4.trans (Wo.same sz),sz _ _ tX,rfl⟩
  rintro σ' H4 ⟨z,s0,s1,s2,s3,hs,BL,hP,w4,tX,rfl⟩
  refine⟨λσ' H'=>∃(z:Addr) (s0 s1 s2 s3:Nat),(1<=s0/\s0<=8/\s1<=9/\1<=s2/\s2<=3/\s3<=9)/\Wo t H' z=some (.lst [.int s0,.int s1,.int s2,.int s3])/\jk K p.aq (Wo t H') x sg rows fo fm/\ai (Wo t H) (Wo t H')/\H' t=some (.lst [.int k3])/\σ'=[some (.ref s),some (.ref t),some (.int m),some (.int (ng:Int)),some (.str S),some (.ref x),some (.ref z),none,none,none,none,none,none,none],?_,?_⟩
  ·refine⟨_,rfl,_,_,rfl,rfl,⟨by decide,by decide⟩,_,_,rfl,rfl,(by show(0:Int)<8;decide),rfl,_,rfl,?_⟩
   rw[vp]
   refine eY (λ_=>?_) (λ_=>⟨z,s0,s1,s2,s3,hs,BL,hP,w4,tX,rfl⟩)
   refine⟨_,rfl,_,_,rfl,rfl,⟨by decide,by decide⟩,_,_,rfl,rfl,(by show(0:Int)<2;decide),_,_,rfl,rfl,_,rfl,_,_,rfl,rfl,⟨by decide,by decide⟩,_,_,rfl,rfl,(by show(0:Int)<2;decide),_,_,rfl,rfl,_,rfl,_,_,rfl,rfl,⟨by decide,by decide⟩,_,_,rfl,rfl,(by show(0:Int)<2;decide),_,_,rfl,rfl,by show 4<=sizeLine;decide,λz hz=>?_⟩
   have sz:ai H4 (upd H4 z (.lst [.int (7+m / 24000 % 2),.int (1+m / 48000 % 2),.int (1+m / 96000 % 2),.int ((3:Int))])):=ai.upd hz
   have nz:z≠t:=λe=>by rw[e,tX]at hz;cases hz
   obtain⟨s0,hs0⟩:∃n:Nat,7+m / 24000 % 2=(n:Int):=⟨(7+m / 24000 % 2).toNat,by omega⟩
   obtain⟨s1,hs1⟩:∃n:Nat,1+m / 48000 % 2=(n:Int):=⟨(1+m / 48000 % 2).toNat,by omega⟩
   obtain⟨s2,hs2⟩:∃n:Nat,1+m / 96000 % 2=(n:Int):=⟨(1+m / 96000 % 2).toNat,by omega⟩
   obtain⟨s3,Cd⟩:∃n:Nat,(3:Int)=(n:Int):=⟨((3:Int)).toNat,by omega⟩
   exact⟨z,s0,s1,s2,s3,by omega,Wo.in nz (by rw[ah,←hs0,←hs1,←hs2,←Cd]),hP.same (Wo.same sz),w4.trans (Wo.same sz),sz _ _ tX,rfl⟩
  rintro σ' H4 ⟨z,s0,s1,s2,s3,hs,BL,hP,w4,tX,rfl⟩
  refine⟨λσ' H'=>∃(z:Addr) (s0 s1 s2 s3:Nat),(1<=s0/\s0<=8/\s1<=9/\1<=s2/\s2<=3/\s3<=9)/\Wo t H' z=some (.lst [.int s0,.int s1,.int s2,.int s3])/\jk K p.aq (Wo t H') x sg rows fo fm/\ai (Wo t H) (Wo t H')/\H' t=some (.lst [.int k3])/\σ'=[some (.ref s),some (.ref t),some (.int m),some (.int (ng:Int)),some (.str S),some (.ref x),some (.ref z),none,none,none,none,none,none,none],?_,?_⟩
  ·refine⟨_,rfl,_,_,rfl,rfl,⟨by decide,by decide⟩,_,_,rfl,rfl,(by show(0:Int)<8;decide),rfl,_,rfl,?_⟩
   rw[vp]
   refine eY (λ_=>?_) (λ_=>⟨z,s0,s1,s2,s3,hs,BL,hP,w4,tX,rfl⟩)
   refine⟨_,rfl,_,_,rfl,rfl,⟨by decide,by decide⟩,_,_,rfl,rfl,(by show(0:Int)<2;decide),_,_,rfl,rfl,_,rfl,_,_,rfl,rfl,⟨by decide,by decide⟩,_,_,rfl,rfl,(by show(0:Int)<3;decide),_,_,rfl,rfl,_,rfl,_,_,rfl,rfl,⟨by decide,by decide⟩,_,_,rfl,rfl,(by show(0:Int)<3;decide),_,_,rfl,rfl,by show 4<=sizeLine;decide,λz hz=>?_⟩
   have sz:ai H4 (upd H4 z (.lst [.int (1+m / 24000 % 2),.int (7+m / 48000 % 3),.int ((1:Int)),.int (7+m / 144000 % 3)])):=ai.upd hz
   have nz:z≠t:=λe=>by rw[e,tX]at hz;cases hz
   obtain⟨s0,hs0⟩:∃n:Nat,1+m / 24000 % 2=(n:Int):=⟨(1+m / 24000 % 2).toNat,by omega⟩
   obtain⟨s1,hs1⟩:∃n:Nat,7+m / 48000 % 3=(n:Int):=⟨(7+m / 48000 % 3).toNat,by omega⟩
   obtain⟨s2,hs2⟩:∃n:Nat,(1:Int)=(n:Int):=⟨((1:Int)).toNat,by omega⟩
   obtain⟨s3,Cd⟩:∃n:Nat,7+m / 144000 % 3=(n:Int):=⟨(7+m / 144000 % 3).toNat,by omega⟩
   exact⟨z,s0,s1,s2,s3,by omega,Wo.in nz (by rw[ah,←hs0,←hs1,←hs2,←Cd]),hP.same (Wo.same sz),w4.trans (Wo.same sz),sz _ _ tX,rfl⟩
  rintro σ' H4 ⟨z,s0,s1,s2,s3,hs,BL,hP,w4,tX,rfl⟩
  clear hm m1 m2 hng hS hsz
  have C4:uO K H4 s t ns k3:=hC.off w4 tX (B3.lo k0)
  have Je:=Wo.sub _ _ BL
  refine⟨λσ' H'=>∃(a1:Addr) (r1:List Str) (k':Int),mU r1 s0 s1/\(∀r∈r1,Of (tP sg) r)/\Wo t H' a1=some (.lst (r1.map V.str))/\Wo t H' z=some (.lst [.int s0,.int s1,.int s2,.int s3])/\jk K p.aq (Wo t H') x sg rows fo fm/\ai (Wo t H) (Wo t H')/\H' t=some (.lst [.int k'])/\Kb k k' 1300/\σ'=[some (.ref s),some (.ref t),some (.int m),some (.int (ng:Int)),some (.str S),some (.ref x),some (.ref z),some (.ref a1),none,none,none,none,none,none],?_,?_⟩
  ·refine⟨_,rfl,_,rfl,_,rfl,_,rfl,_,rfl,S,rfl,C8,_,rfl,z,_,_,.int s0,rfl,rfl,bf.of Je,aT (j:=0) rfl,_,rfl,z,_,_,.int s1,rfl,rfl,bf.of Je,aT (j:=1) rfl,s,t,ns,k3,sg,s0,s1,(by rw[←Xf];rfl),C4,B3.top hk (by decide),hs.1,Nat.le_trans hs.2.1 (by decide),Nat.le_trans hs.2.2.1 (by decide),Kq,hsz1,F5,λl rs k' H' hR hO hl Wk w5 Vl c1 c2=>?_⟩
   have xu:l≠t:=λe=>by rw[e,tX]at Wk;cases Wk
   exact⟨l,rs,k',hR,hO,Wo.in xu hl,w5 _ _ BL,hP.same w5,w4.trans w5,Vl,B3.up c1 c2 (by decide),rfl⟩
  rintro σ' H5 ⟨a1,r1,k4,Wm,JK,hl1,LY,MK,w5,Vl,B4,rfl⟩
  have C5:uO K H5 s t ns k4:=hC.off w5 Vl (B4.lo k0)
  have Ks:=Wo.sub _ _ LY
  refine⟨λσ' H'=>∃(a2:Addr) (r2:List Str) (k5:Int),mU r2 s2 s3/\(∀r∈r2,Of (tP sg) r)/\Wo t H' a1=some (.lst (r1.map V.str))/\Wo t H' a2=some (.lst (r2.map V.str))/\jk K p.aq (Wo t H') x sg rows fo fm/\ai (Wo t H) (Wo t H')/\H' t=some (.lst [.int k5])/\Kb k k5 2300/\σ'=[some (.ref s),some (.ref t),some (.int m),some (.int (ng:Int)),some (.str S),some (.ref x),some (.ref z),some (.ref a1),some (.ref a2),none,none,none,none,none],?_,?_⟩
  ·refine⟨_,rfl,_,rfl,_,rfl,_,rfl,_,rfl,S,rfl,C8,_,rfl,z,_,_,.int s2,rfl,rfl,bf.of Ks,aT (j:=2) rfl,_,rfl,z,_,_,.int s3,rfl,rfl,bf.of Ks,aT (j:=3) rfl,s,t,ns,k4,sg,s2,s3,(by rw[←Xf];rfl),C5,B4.top hk (by decide),hs.2.2.2.1,Nat.le_trans hs.2.2.2.2.1 (by decide),Nat.le_trans hs.2.2.2.2.2 (by decide),Kq,hsz1,F5,λl rs k' H' hR hO hl Wk w6 sL c1 c2=>?_⟩
   have xu:l≠t:=λe=>by rw[e,Vl]at Wk;cases Wk
   exact⟨l,rs,k',hR,hO,w6 _ _ hl1,Wo.in xu hl,MK.same w6,w5.trans w6,sL,B4.up c1 c2 (by decide),rfl⟩
  rintro σ' H6 ⟨a2,r2,k5,tY,JJ,hl1,hl2,MJ,w6,sL,B5,rfl⟩
  have SW:0<s0:=hs.1
  have SV:0<s2:=hs.2.2.2.1
  have Qu:=Wm.block SW
  have Qt:=tY.block SV
  have akh:=Wm.w SW
  have akg:=tY.w SV
  have Ii:=Wm.len
  have ahb:=tY.len
  have rD:Au r1:=⟨by omega,λr hr=>by rw[Wm.br r hr];omega⟩
  have qb:Au r2:=⟨by omega,λr hr=>by rw[tY.br r hr];omega⟩
  have WI:∀{rs:List Str} {n w:Nat},mU rs n w->0<n->∃q,rs[0]? =some q/\q.cps.size=w:=λ{rs n w} h hn=>by
   have h0:0<rs.length:=by rw[h.len];exact hn
   exact⟨_,List.getElem?_eq_getElem h0,h.br _ (List.getElem_mem h0)⟩
  obtain⟨q1,hq1,Km⟩:=WI Wm SW
  obtain⟨q2,hq2,Kn⟩:=WI tY SV
  have hO:∀r∈r1++r2,Of (tP sg) r:=λr hr=>(List.mem_append.mp hr).elim (JK r) (JJ r)
  have cA:=pO Qu JK
  have cB:=pO Qt JJ
  have kg:45∈(tP sg).cps.toList:=oG.mpr (.inl rfl)
  refine⟨λσ' H'=>∃o1,Wo t H' a1=some (.lst (r1.map V.str))/\Wo t H' a2=some (.lst (r2.map V.str))/\jk K p.aq (Wo t H') x sg rows fo fm/\t7 K p.aJ (Wo t H') o1 r1/\ai (Wo t H) (Wo t H')/\H' t=some (.lst [.int k5])/\σ'=[some (.ref s),some (.ref t),some (.int m),some (.int (ng:Int)),some (.str S),some (.ref x),some (.ref z),some (.ref a1),some (.ref a2),some (.ref o1),none,none,none,none],?_,?_⟩
  ·refine⟨_,rfl,λo dx ho hdx XT=>?_⟩
   have s7:ai H6 (upd (upd H6 dx (.own o)) o (.ins p.aJ dx [])):=ai.at (ai.upd hdx) ho
   refine⟨o,dx,_,r1,rfl,ah,⟨a1,rfl,.inl (bf.of (s7 _ _ (Wo.sub _ _ hl1)))⟩,rD.sm,λ_ H8 q1 q2=>⟨rfl,?_⟩,λz=>(by rw[Qu]at z;cases z)⟩
   have g2:ai H6 H8:=λc u hc=>q1 _ _ (s7 _ _ hc) (λz=>by rw[z,ho]at hc;cases hc)
   exact⟨o,Wo.same g2 _ _ hl1,Wo.same g2 _ _ hl2,MJ.same (Wo.same g2),q2.wo (g2 _ _ sL),w6.trans (Wo.same g2),g2 _ _ sL,rfl⟩
  rintro σ' H7 ⟨o1,hl1,hl2,MI,Bx,w7,Ji,rfl⟩
  refine⟨λσ' H'=>∃o2,nO K p.aq p.aJ H H' t x a1 a2 o1 o2 k5 sg rows fo fm r1 r2/\σ'=[some (.ref s),some (.ref t),some (.int m),some (.int (ng:Int)),some (.str S),some (.ref x),some (.ref z),some (.ref a1),some (.ref a2),some (.ref o1),some (.ref o2),none,none,none],?_,?_⟩
  ·refine⟨_,rfl,λo dx ho hdx XT=>?_⟩
   have s7:ai H7 (upd (upd H7 dx (.own o)) o (.ins p.aJ dx [])):=ai.at (ai.upd hdx) ho
   refine⟨o,dx,_,r2,rfl,ah,⟨a2,rfl,.inl (bf.of (s7 _ _ (Wo.sub _ _ hl2)))⟩,qb.sm,λ_ H8 q1 q2=>⟨rfl,?_⟩,λz=>(by rw[Qt]at z;cases z)⟩
   have g2:ai H7 H8:=λc u hc=>q1 _ _ (s7 _ _ hc) (λz=>by rw[z,ho]at hc;cases hc)
   exact⟨o,⟨g2 _ _ Ji,MI.same (Wo.same g2),Wo.same g2 _ _ hl1,Wo.same g2 _ _ hl2,Bx.same (Wo.same g2),q2.wo (g2 _ _ Ji),w7.trans (Wo.same g2)⟩,rfl⟩
  rintro σ' H8 ⟨o2,I8,rfl⟩
  refine⟨λσ' H'=>∃b cs,nO K p.aq p.aJ H H' t x a1 a2 o1 o2 k5 sg rows fo fm r1 r2/\rB (uP (rT sg rows (aY fo.2 fm.2 rows)) (qa rows fo fm) (cols r1 (br r1)) (cols r2 (br r2))) (br r1) (br r2) cs (br r1) (br r2)/\t7 K p.aJ (Wo t H') b (oY r1 r2 cs)/\σ'=[some (.ref s),some (.ref t),some (.int m),some (.int (ng:Int)),some (.str S),some (.ref x),some (.ref z),some (.ref a1),some (.ref a2),some (.ref o1),some (.ref o2),some (.ref b),none,none],?_,?_⟩
  ·refine⟨_,rfl,_,rfl,_,rfl,x,o1,o2,sg,rows,fo,fm,r1,r2,rfl,I8.Fp,I8.JX,I8.JW,rD,qb,Qu,Qt,λ_ b H9 cs s9 _ hF BQ=>?_,λi j hB=>absurd hO hB.no⟩
   exact⟨b,cs,I8.same s9,hF,BQ.wo (s9 _ _ I8.ct),rfl⟩
  rintro σ' H9 ⟨b,cs,I9,hF,BQ,rfl⟩
  have hJ:Jw (br r1) (br r2) 0 0 cs:=by
   have:=hF.path.wk (ds:=[]) ⟨rfl,rfl⟩
   rw[List.append_nil]at this
   exact this
  have hcl:=hJ.len
  have hjl:(oY r1 r2 cs).length=r1.length+r2.length:=aZ
  have hJ':Jw (cols r1 (br r1)).length (cols r2 (br r2)).length 0 0 cs:=by rw[aZ,aZ];exact hJ
  obtain⟨tb,_⟩:=t9 (by omega) ((show Path (cols r1 (br r1)).length (cols r2 (br r2)).length cs _ _ from Jw.path (cs:=[]) .nil hJ').cols cA cB kg)
  have KD:=cP.mp (eF tb)
  have Jv:br (oY r1 r2 cs)=cs.length:=by
   rw[uR (by omega)]
   unfold Xa oV
   rw[List.length_map,List.length_range]
  obtain⟨LH,LG⟩:=G5 cA cB (eF Qu) (eF Qt) hJ
  refine⟨λσ' H'=>nO K p.aq p.aJ H H' t x a1 a2 o1 o2 k5 sg rows fo fm r1 r2/\t7 K p.aJ (Wo t H') b (oY r1 r2 cs)/\σ'=[some (.ref s),some (.ref t),some (.int m),some (.int (ng:Int)),some (.str S),some (.ref x),some (.ref z),some (.ref a1),some (.ref a2),some (.ref o1),some (.ref o2),some (.ref b),none,none],?_,?_⟩
  ·obtain⟨dq,q,Dj,hq⟩:=BQ
   have Kw:=Wo.sub _ _ Dj
   refine⟨_,rfl,b,_,dq,_,rfl,Kw,T.Ox,_,rfl,qu ?_⟩
   refine⟨_,rfl,b,_,dq,_,_,rfl,Kw,T.gF,T.cu,kJ,_,_,rfl,.inr ⟨_,ai.tup Wo.sub hq,rfl⟩,_,rfl,_,_,rfl,.inl ⟨_,bf.of I9.Wg,rfl⟩,_,rfl,_,_,rfl,.inl ⟨_,bf.of I9.XX,rfl⟩,_,_,rfl,rfl,rfl,_,rfl,?_⟩
   refine zk (λz=>absurd ?_ z) λ_=>⟨I9,⟨dq,q,Dj,hq⟩,rfl⟩
   rw[List.length_map,List.length_map,List.length_map,hjl]
   rfl
  rintro σ' H9 ⟨I9,BQ,rfl⟩
  refine⟨λσ' H'=>∃lf,nO K p.aq p.aJ H H' t x a1 a2 o1 o2 k5 sg rows fo fm r1 r2/\t7 K p.aJ (Wo t H') b (oY r1 r2 cs)/\Wo t H' lf=some (.lst ((oY r1 r2 cs).map V.str))/\σ'=[some (.ref s),some (.ref t),some (.int m),some (.int (ng:Int)),some (.str S),some (.ref x),some (.ref z),some (.ref a1),some (.ref a2),some (.ref o1),some (.ref o2),some (.ref b),some (.ref lf),none],?_,?_⟩
  ·obtain⟨dq,q,Dj,hq⟩:=id BQ
   refine⟨_,rfl,b,_,dq,_,_,rfl,Wo.sub _ _ Dj,T.gF,T.cu,kJ,q,_,rfl,.inr (ai.tup Wo.sub hq),λl hl=>?_⟩
   have WG:ai H9 (upd H9 l (.lst ((oY r1 r2 cs).map V.str))):=ai.upd hl
   have nl:l≠t:=λe=>by rw[e,I9.ct]at hl;cases hl
   exact⟨l,I9.same WG,BQ.same (Wo.same WG),Wo.in nl ah,rfl⟩
  rintro σ' Pd ⟨lf,Yn,Gd,SX,rfl⟩
  have Ih:=Wo.sub _ _ SX
  refine⟨λσ' H'=>∃lf,nO K p.aq p.aJ H H' t x a1 a2 o1 o2 k5 sg rows fo fm r1 r2/\t7 K p.aJ (Wo t H') b (oY r1 r2 cs)/\Wo t H' lf=some (.lst ((oY r1 r2 cs).map V.str))/\σ'=[some (.ref s),some (.ref t),some (.int m),some (.int (ng:Int)),some (.str S),some (.ref x),some (.ref z),some (.ref a1),some (.ref a2),some (.ref o1),some (.ref o2),some (.ref b),some (.ref lf),none],?_,?_⟩
  ·have hz0:((oY r1 r2 cs).map V.str).length=r1.length+r2.length:=by rw[List.length_map,hjl]
   refine⟨_,rfl,_,rfl,_,_,rfl,.inl ⟨_,bf.of Yn.Wg,rfl⟩,_,rfl,lf,_,rfl,bf.of Ih,λp1 hp1=>?_⟩
   rw[List.length_map,QF (by rw[hz0];omega),←List.map_take]
   have BY:ai Pd (upd Pd p1 (.lst (((oY r1 r2 cs).take r1.length).map V.str))):=ai.upd hp1
   have K6:∀r∈(oY r1 r2 cs).take r1.length,r.cps.size=cs.length:=λr hr=>by rw[←Jv];exact KD.2 r (List.mem_of_mem_take hr)
   have l1:((oY r1 r2 cs).take r1.length).length=r1.length:=by rw[List.length_take,hjl];omega
   have lB:∀{rs:List Str},0<rs.length->(∀r∈rs,r.cps.size=cs.length)->oE rs=true/\br rs=cs.length:=λ{rs} h0 hr=>by
    have hw:br rs=cs.length:=by
     cases rs with
     |nil=>cases h0
     |cons a rs=>exact hr a (List.mem_cons_self ..)
    exact⟨cP.mpr ⟨List.length_pos_iff.mp h0,λr h=>by rw[hw];exact hr r h⟩,hw⟩
   obtain⟨x1,x2⟩:=lB (by omega) K6
   refine⟨p1,(oY r1 r2 cs).take r1.length,rfl,bf.of ah,⟨by omega,λr hr=>by rw[K6 r hr];omega⟩,x1,by omega,λl2 Br s12 _ Vt=>?_⟩
   have BJ:=BY.trans s12
   have BF:=Yn.same BJ
   rw[LH]at Vt
   refine⟨_,rfl,l2,a1,_,rfl,rfl,bf.of Vt,bf.of BF.Wg,λz hz=>?_,_,rfl,iQ ?_⟩
   ·obtain⟨c,_,rfl⟩:=List.mem_map.mp hz
    exact .inl ⟨c,rfl⟩
   have acJ:=BJ _ _ Ih
   refine⟨_,rfl,_,rfl,_,_,rfl,.inl ⟨_,bf.of BF.Wg,rfl⟩,_,rfl,lf,_,rfl,bf.of acJ,λp2 hp2=>?_⟩
   rw[List.length_map,zw (by rw[hz0];omega),←List.map_drop]
   have Tv:ai Br (upd Br p2 (.lst (((oY r1 r2 cs).drop r1.length).map V.str))):=ai.upd hp2
   have K7:∀r∈(oY r1 r2 cs).drop r1.length,r.cps.size=cs.length:=λr hr=>by rw[←Jv];exact KD.2 r (List.mem_of_mem_drop hr)
   have l3:((oY r1 r2 cs).drop r1.length).length=r2.length:=by rw[List.length_drop,hjl];omega
   obtain⟨x3,x4⟩:=lB (by omega) K7
   refine⟨p2,(oY r1 r2 cs).drop r1.length,rfl,bf.of ah,⟨by omega,λr hr=>by rw[K7 r hr];omega⟩,x3,by omega,λl4 QU UB _ KG=>?_⟩
   have Wf:=BJ.trans (Tv.trans UB)
   have TM:=Yn.same Wf
   rw[LG]at KG
   refine⟨_,rfl,l4,a2,_,rfl,rfl,bf.of KG,bf.of TM.XX,λz hz=>?_,_,rfl,iQ ⟨lf,TM,Gd.same (Wo.same Wf),Wo.same Wf _ _ SX,rfl⟩⟩
   obtain⟨c,_,rfl⟩:=List.mem_map.mp hz
   exact .inl ⟨c,rfl⟩
  rintro σ' Pd ⟨lf,Yn,Gd,SX,rfl⟩
  have Ih:=Wo.sub _ _ SX
  refine⟨λσ' H'=>∃(ls:Addr) (tO:List (List Nat)) (k6:Int),nO K p.aq p.aJ H H' t x a1 a2 o1 o2 k6 sg rows fo fm r1 r2/\t7 K p.aJ (Wo t H') b (oY r1 r2 cs)/\Wo t H' lf=some (.lst ((oY r1 r2 cs).map V.str))/\Wo t H' ls=some (.lst (tO.map λms=>V.str (mE ms)))/\(∀ms∈tO,Jw (br r1) (br r2) 0 0 ms)/\Kb k k6 2600/\σ'=[some (.ref s),some (.ref t),some (.int m),some (.int (ng:Int)),some (.str S),some (.ref x),some (.ref z),some (.ref a1),some (.ref a2),some (.ref o1),some (.ref o2),some (.ref b),some (.ref lf),some (.ref ls)],?_,?_⟩
  ·refine⟨12,rfl,by decide,by decide,λl hl=>?_⟩
   refine ahU (t:=t) (k:=k5) (b:=20) 12 (λy=>∃ms,y= .str (mE ms)/\Jw (br r1) (br r2) 0 0 ms) hl Yn.ct (by decide) (by decide) (λi H' hi=>?_) (λH'=>?_) (λi y H' H3 k' R We SS c1 c2 hi hy hR=>?_) λHQ ys k' We SS c1 c2 hyl hys ahg=>?_
   ·show i<((12:Int)).toNat
    exact hi
   ·show((12:Int)).toNat<=12
    decide
   ·obtain⟨rfl,rfl⟩:=hy
    have Wa:=Yn.off2 We SS
    refine⟨Kp.mG,?_⟩
    refine⟨_,rfl,_,rfl,_,rfl,a1,_,_,.str q1,rfl,rfl,bf.of Wa.Wg,aT (j:=0) (by rw[List.getElem?_map,hq1];rfl),_,_,rfl,⟨Nat.le_trans (show q1.cps.size<=100 by omega) (by decide),rfl⟩,_,rfl,a2,_,_,.str q2,rfl,rfl,bf.of Wa.XX,aT (j:=0) (by rw[List.getElem?_map,hq2];rfl),_,_,rfl,⟨Nat.le_trans (show q2.cps.size<=100 by omega) (by decide),rfl⟩,s,t,ns,k',s1,s3,(by rw[←Km,←Kn];rfl),hC.off Wa.off SS (Int.le_trans (B5.lo k0) c1),Int.le_trans c2 (by have:=B5.top (f:=80000) hk (by decide);omega),Nat.le_trans hs.2.2.1 (by decide),Nat.le_trans hs.2.2.2.2.2 (by decide),λms k2 H5 hms w5 Vl d1 d2=>?_⟩
    exact hR _ k2 H5 ⟨ms,rfl,hms.wk (by omega) (by omega)⟩ w5 Vl d1 (by omega)
   ·obtain⟨tO,rfl,Vq⟩:=ZR hys
    have nl:l≠t:=λe=>by rw[e,Yn.ct]at hl;cases hl
    exact⟨l,tO,k',Yn.off2 We SS,Gd.same We,We _ _ SX,Wo.in nl ahg,Vq,B5.up c1 c2 (by decide),rfl⟩
  rintro σ' HQ ⟨ls,tO,k6,Wa,KS,SX,hls,Vq,B6,rfl⟩
  refine⟨λσ' H'=>∃(ls:Addr) (tO:List (List Nat)),nO K p.aq p.aJ H H' t x a1 a2 o1 o2 k6 sg rows fo fm r1 r2/\t7 K p.aJ (Wo t H') b (oY r1 r2 cs)/\Wo t H' lf=some (.lst ((oY r1 r2 cs).map V.str))/\Wo t H' ls=some (.lst (tO.map λms=>V.str (mE ms)))/\(∀ms∈tO,Jw (br r1) (br r2) 0 0 ms)/\σ'=[some (.ref s),some (.ref t),some (.int m),some (.int (ng:Int)),some (.str S),some (.ref x),some (.ref z),some (.ref a1),some (.ref a2),some (.ref o1),some (.ref o2),some (.ref b),some (.ref lf),some (.ref ls)],?_,?_⟩
  ·refine⟨_,rfl,a1,_,_,.str q1,rfl,rfl,bf.of Wa.Wg,aT (j:=0) (by rw[List.getElem?_map,hq1];rfl),_,_,rfl,⟨Nat.le_trans (show q1.cps.size<=100 by omega) (by decide),rfl⟩,_,rfl,a2,_,_,.str q2,rfl,rfl,bf.of Wa.XX,aT (j:=0) (by rw[List.getElem?_map,hq2];rfl),_,_,rfl,⟨Nat.le_trans (show q2.cps.size<=100 by omega) (by decide),rfl⟩,_,_,rfl,_,_,rfl,rfl,_,rfl,?_⟩
   refine eY (λhlt=>?_) (λ_=>⟨ls,tO,Wa,KS,SX,hls,Vq,rfl⟩)
   have hlt':(if((q2.cps.size:Nat):Int)>((q1.cps.size:Nat):Int)then((q2.cps.size:Nat):Int)else((q1.cps.size:Nat):Int))<4:=hlt
   have Fz:s1<4/\s3<4:=by split at hlt'<;>omega
   refine⟨_,rfl,a1,_,_,.str q1,rfl,rfl,bf.of Wa.Wg,aT (j:=0) (by rw[List.getElem?_map,hq1];rfl),_,_,rfl,⟨Nat.le_trans (show q1.cps.size<=100 by omega) (by decide),rfl⟩,_,rfl,a2,_,_,.str q2,rfl,rfl,bf.of Wa.XX,aT (j:=0) (by rw[List.getElem?_map,hq2];rfl),_,_,rfl,⟨Nat.le_trans (show q2.cps.size<=100 by omega) (by decide),rfl⟩,s1,s3,(by rw[←Km,←Kn];rfl),by omega,by omega,by omega,λl Br agA s12 hl Vt hm2 _=>?_⟩
   have nl:l≠t:=λe=>by rw[e,Wa.ct]at hl;cases hl
   exact⟨l,agA,Wa.same s12,KS.same (Wo.same s12),Wo.same s12 _ _ SX,Wo.in nl Vt,λms hms=>(hm2 ms hms).wk (by omega) (by omega),rfl⟩
  rintro σ' Br ⟨ls,tO,BF,ahC,SX,hls,Vq,rfl⟩
  refine⟨λσ' H'=>nO K p.aq p.aJ H H' t x a1 a2 o1 o2 k6 sg rows fo fm r1 r2/\t7 K p.aJ (Wo t H') b (oY r1 r2 cs)/\Wo t H' lf=some (.lst ((oY r1 r2 cs).map V.str))/\σ'=[some (.ref s),some (.ref t),some (.int m),some (.int (ng:Int)),some (.str S),some (.ref x),some (.ref z),some (.ref a1),some (.ref a2),some (.ref o1),some (.ref o2),some (.ref b),some (.ref lf),some (.ref ls)],?_,?_⟩
  ·refine⟨_,rfl,_,rfl,_,rfl,_,rfl,_,rfl,x,a1,a2,lf,ls,sg,rows,fo,fm,r1,r2,cs,tO,rfl,BF.Fp,BF.Wg,BF.XX,Wo.sub _ _ SX,Wo.sub _ _ hls,rD,qb,Qu,Qt,hO,hF,Vq,λPc Tv=>⟨_,rfl,qu ⟨BF.same Tv,ahC.same (Wo.same Tv),Wo.same Tv _ _ SX,rfl⟩⟩⟩
  rintro σ' Pc ⟨IB,ak1,SX,rfl⟩
  refine⟨λσ' H'=>nO K p.aq p.aJ H H' t x a1 a2 o1 o2 k6 sg rows fo fm r1 r2/\σ'=[some (.ref s),some (.ref t),some (.int m),some (.int (ng:Int)),some (.str S),some (.ref x),some (.ref z),some (.ref a1),some (.ref a2),some (.ref o1),some (.ref o2),some (.ref b),some (.ref lf),some (.ref ls)],?_,?_⟩
  ·refine⟨_,rfl,_,rfl,λo dx ho hdx XT=>?_⟩
   have s7:ai Pc (upd (upd Pc dx (.own o)) o (.ins p.aJ dx [])):=ai.at (ai.upd hdx) ho
   refine⟨o,dx,_,r1,rfl,ah,⟨a1,rfl,.inl (bf.of (s7 _ _ IB.Wg))⟩,rD.sm,λ_ QU q1 q2=>⟨rfl,?_⟩,λz=>(by rw[Qu]at z;cases z)⟩
   have g2:ai Pc QU:=λc u hc=>q1 _ _ (s7 _ _ hc) (λz=>by rw[z,ho]at hc;cases hc)
   have TM:=IB.same g2
   refine⟨_,rfl,λo' TF ho' ahl aj2=>?_⟩
   have s8:ai QU (upd (upd QU TF (.own o')) o' (.ins p.aJ TF [])):=ai.at (ai.upd ahl) ho'
   refine⟨o',TF,_,r2,rfl,ah,⟨a2,rfl,.inl (bf.of (s8 _ _ TM.XX))⟩,qb.sm,λ_ TN q3 q4=>⟨rfl,?_⟩,λz=>(by rw[Qt]at z;cases z)⟩
   have g4:ai QU TN:=λc u hc=>q3 _ _ (s8 _ _ hc) (λz=>by rw[z,ho']at hc;cases hc)
   have CD:=TM.same g4
   refine⟨x,o,o',sg,rows,fo,fm,r1,r2,rfl,CD.Fp,q2.same g4,q4,rD,qb,Qu,Qt,λ_ b2 IC Nj Rp _ MQ hB2=>?_,λi j hB=>absurd hO hB.no⟩
   have e:=MQ.uniq hF
   subst e
   have sA:=(g2.trans g4).trans Rp
   refine⟨_,rfl,b2,lf,oY r1 r2 Nj,rfl,hB2,bf.of (sA _ _ (Wo.sub _ _ SX)),by omega,λWq BX=>⟨_,rfl,qu ⟨IB.same (sA.trans BX),rfl⟩⟩⟩
  rintro σ' QU ⟨TM,rfl⟩
  have hcc:=List.getElem?_eq_getElem hjn
  have hcs:=Dl _ (List.getElem_mem hjn)
  generalize S.cps.toList[ng]=c at hcc hcs
  have hck:c∉(tP sg).cps.toList:=λz=>by
   rcases oG.mp z with z|z
   ·exact Gq hcs z
   ·rw[hsg]at z
    exact Ud Dp hcc (Nat.le_refl _) z
  refine⟨λσ' H'=>nO K p.aq p.aJ H H' t x a1 a2 o1 o2 (k6+1) sg rows fo fm r1 r2/\σ'=[some (.ref s),some (.ref t),some (.int m),some (.int (ng:Int)),some (.str S),some (.ref x),some (.ref z),some (.ref a1),some (.ref a2),some (.ref o1),some (.ref o2),some (.ref b),some (.ref lf),some (.ref ls)],?_,?_⟩
  ·refine⟨_,rfl,_,rfl,_,rfl,_,rfl,_,rfl,_,rfl,_,rfl,S,_,c,rfl,rfl,C8,aT hcc,s,t,x,a1,a2,ns,k6,sg,rows,fo,fm,r1,r2,s0,s1,s2,s3,c,rfl,hC.off TM.off TM.ct (B6.lo k0),B6.top hk (by decide),TM.pr,TM.l1,TM.l2,Wm,tY,SW,Nat.le_trans hs.2.1 (by decide),SV,Nat.le_trans hs.2.2.2.2.1 (by decide),Nat.le_trans hs.2.2.1 (by decide),Nat.le_trans hs.2.2.2.2.2 (by decide),hO,hcs,hck,λTN Ld agQ=>⟨_,rfl,qu ⟨TM.off2 Ld agQ,rfl⟩⟩⟩
  rintro σ' TN ⟨CD,rfl⟩
  refine⟨_,rfl,_,rfl,o1,a1,r1,rfl,CD.JX,bf.of CD.Wg,by omega,λIC Rp=>⟨_,rfl,kB ?_⟩⟩
  have IA:=CD.same Rp
  refine⟨_,rfl,_,rfl,o2,a2,r2,rfl,IA.JW,bf.of IA.XX,by omega,λWq BX=>?_⟩
  have Lb:=IA.same BX
  obtain⟨y1,y2⟩:=B6.add (d:=1) (f:=3000) (by decide) (by decide)
  exact kk _ Wq Lb.off Lb.ct y1 y2
end
section
variable{P:Program}{w:World}{K:PySem.W.Frag}{mg:Str->Option Value}{base:Heap}
theorem aad {Be lG:Addr} {VJ jN:FuncData} {p:Pm} (T:Txt K mg p w) (Wc:Dn K mg "law" tT ["_law_script"] Be VJ) (iE:Dn K mg "_law_round" pC ["_law_script","_law_at"] lG jN) (Ph:aH P w K mg base cO 12 lG jN ["_law_script","_law_at"] (NJ K)):aH P w K mg base cO 13 Be VJ ["_law_script"] (Q8 K):=by
 refine Wc.fn.ok PZ (λvs H Q E h=>?_) (λcdv A outer s H vs Q E hr h=>?_)
 ·obtain⟨a,ns,rfl,_⟩:=h
  rfl
 ·obtain⟨a,ns,rfl,hS,hlen,kk⟩:=h
  refine⟨_,(aj (aD (i:=1) PZ.nd rfl (Or.inl rfl) (gj (aa ak af)))
   (aj (dR PassesOwn.never rfl (eV rfl T.gT (aa (aB cY ak (aB cT (aC (aK) rfl T.bJ aW (aa (iO qH (pv 0) kL (kK ak)) af)) ak)) af)) (aM (i:=2) PZ.nd rfl (Or.inl rfl)) (ao (cK (qO (kP (az Ph (hr.mono (by decide)) rfl iE.m iE.fn.kp iE.b .nil aQ (aa (pv 0) (aa (pv 1) af))))) (ao (aS rS)) bx)))
   (ao (aS rS)))),?_⟩
  refine⟨by show 1<=sizeLine;decide,λt ht=>?_⟩
  have c1:uO K (upd H t (.lst [.int 0])) a t ns 0:=by
   refine⟨?_,hlen,ah,by decide⟩
   rw[Wo.set]
   exact ai.seq (λb u e=>Wo.in (bC e ht) e) hS
  generalize upd H t (.lst [.int 0])=H1 at c1 ⊢
  have hcl:=xB (ns.map V.int) none (some 60)
  rw[List.length_map]at hcl
  refine⟨_,rfl,_,rfl,a,_,rfl,c1.IJ,λp1 hp1=>⟨_,_,rfl,.inl ⟨_,bf.of ah,rfl⟩,_,_,rfl,rfl,⟨by decide,by decide⟩,_,_,rfl,rfl,_,rfl,?_,?_,?_⟩⟩
  ·omega
  ·omega
  have c2:=c1.same (ai.upd (o:=.lst (wD (ns.map V.int) none (some 60))) hp1)
  generalize upd H1 p1 (.lst (wD (ns.map V.int) none (some 60)))=H2 at c2 ⊢
  obtain⟨n,hn⟩:∃n:Nat,(1+(((wD (ns.map V.int) none (some 60)).length:Nat):Int) / 40).toNat=n:=⟨_,rfl⟩
  have hn2:n<=3:=by omega
  rw[hn]
  refine jI (lo:=0) (n:=n) (λi σ' H3=>∃(v2:Option V) (k:Int),σ'=[some (.ref a),some (.ref t),v2]/\uO K H3 a t ns k/\k<=3000*(i:Int)) ⟨_,0,rfl,c2,by omega⟩ ?_ ?_
  ·rintro i σ' H3 hi ⟨v2,k,rfl,c3,hk⟩
   have k0:=c3.k0
   refine⟨_,rfl,_,rfl,a,t,ns,k,rfl,c3,by omega,λk' H4 w4 tX b1 b2=>⟨_,rfl,qu ⟨_,k',rfl,c3.off w4 tX (by omega),by omega⟩⟩⟩
  ·rintro σ' H3 ⟨v2,k,rfl,c3,hk⟩
   exact kk H3
end
noncomputable def kN(K:PySem.W.Frag)(x y:Str)(s:Stmt):Prop:=∃f oc od sl kV dc pm an cd ct,PySem.W.nsIn K mainGlobals x=some (some (.ref f))/\K.lookup f=some ⟨oc,od,.func (PySem.W.fnOf y y (jj s) (gW s) (av s) .none kV dc pm an cd ct),sl⟩/\PySem.W.codeIn K cd y=true/\PySem.W.keepIn K (.ref f)=true
theorem kN.mk{K:PySem.W.Frag}{x y:Str}{s:Stmt}{f:Addr}{oc kV dc pm cd ct:Value}{od an:Option Addr}{sl:Array (Option Value)}(a:PySem.W.nsIn K mainGlobals x=some (some (.ref f)))(l:K.lookup f=some ⟨oc,od,.func (PySem.W.fnOf y y (jj s) (gW s) (av s) .none kV dc pm an cd ct),sl⟩)(c:PySem.W.codeIn K cd y=true)(k:PySem.W.keepIn K (.ref f)=true):kN K x y s:=⟨f,oc,od,sl,kV,dc,pm,an,cd,ct,a,l,c,k⟩
theorem VT{K:PySem.W.Frag}{h:Heap}{mg:Str->Option Value}{x y:Str}{s:Stmt}{ps:List Str}(X:K.In h)(G:h.Ns mainGlobals mg)(d:kN K x y s)(b:∀(kV doc pm:Value) (an:Option Addr) (cdv ct:Value) (us:List Value),us.length=ps.length->bindArgs (PySem.W.fnOf y y (jj s) (gW s) (av s) .none kV doc pm an cdv ct) ⟨us,[]⟩=pure (ps.zip us):=by intro _ _ _ _ _ _ us hl;first|(obtain⟨_,rfl⟩:=GP.W9 hl;exact rfl)|(obtain⟨_,_,rfl⟩:=GP.W8 hl;exact rfl)|(obtain⟨_,_,_,rfl⟩:=GP.W7 hl;exact rfl)|(obtain⟨_,_,_,_,rfl⟩:=GP.W6 hl;exact rfl)|(obtain⟨_,_,_,_,_,rfl⟩:=GP.W5 hl;exact rfl)|(obtain⟨_,_,_,_,_,_,rfl⟩:=GP.Kv hl;exact rfl)):∃f fd,Da K mg x y s ps f fd:=by
 obtain⟨f,oc,od,sl,kV,dc,pm,an,cd,ct,a,l,c,k⟩:=d
 exact⟨f,_,uC l c k,(uC l c k).binds b,PySem.W.mg_of X G a⟩
theorem bR{K:PySem.W.Frag}{h:Heap}{mg:Str->Option Value}{x:Str}{s:Stmt}{ps:List Str}(X:K.In h)(G:h.Ns mainGlobals mg)(d:kN K x x s)(b:∀(kV doc pm:Value) (an:Option Addr) (cdv ct:Value) (us:List Value),us.length=ps.length->bindArgs (PySem.W.fnOf x x (jj s) (gW s) (av s) .none kV doc pm an cdv ct) ⟨us,[]⟩=pure (ps.zip us):=by intro _ _ _ _ _ _ us hl;first|(obtain⟨_,rfl⟩:=GP.W9 hl;exact rfl)|(obtain⟨_,_,rfl⟩:=GP.W8 hl;exact rfl)|(obtain⟨_,_,_,rfl⟩:=GP.W7 hl;exact rfl)|(obtain⟨_,_,_,_,rfl⟩:=GP.W6 hl;exact rfl)|(obtain⟨_,_,_,_,_,rfl⟩:=GP.W5 hl;exact rfl)|(obtain⟨_,_,_,_,_,_,rfl⟩:=GP.Kv hl;exact rfl)):∃f fd,Dn K mg x s ps f fd:=by
 obtain⟨f,fd,e⟩:=VT X G d b
 exact⟨f,fd,e.fn,e.b,e.m⟩
theorem all_mk {l:PySem.W.OpenLaw} {w:World} {K:PySem.W.Frag} {h:Heap} {mg:Str->Option Value} {fa:Addr} (X:K.In h) (G:h.Ns mainGlobals mg) (Mw:mg "law" =some (.ref fa))
  {nY:Tok}
  {o8:Tok}
  {kU:Addr} {Oj:Option Addr} {Qk:Nat} {NS:Array (Option Value)} {NF ND NC:Tok}
  {kh:Addr} {VP:Nat} {iM iL iK:Addr} {NB Nz Ny:Tok}
  {Sy:Option Addr} {U3:Nat} {R9:Array (Option Value)} {PM PL:Tok}
  {Sx:Option Addr} {U1:Nat} {R8:Array (Option Value)} {PK PF:Tok}
  {Sw:Option Addr} {U0:Nat} {R7:Array (Option Value)} {PD PC:Tok}
  {Q2:Tok}
  {aq:Addr}
  {aJ:Addr}
  {au:Addr}
  {gQ:Addr}
  {dI:Addr}
  {aN:Addr}
  (u0:PySem.W.nsIn K mainGlobals "FIRST_SIGN" =some (some (.int 32 nY)))
  (u1:PySem.W.nsIn K mainGlobals "LAST_SIGN" =some (some (.int 126 o8)))
  (u2:PySem.W.nsIn K mainGlobals "NO_SIGNS" =some (some (.ref kU)))
  (u3:K.lookup kU=some ⟨.type "tuple",Oj,.seq #[.int 34 NF,.int 37 ND,.int 45 NC] Qk,NS⟩)
  (u4:PySem.W.nsIn K mainGlobals "STEPS" =some (some (.ref kh)))
  (u5:K.lookup kh=some { cls:=.type "dict",data:=.dict #[⟨PySem.PyData.keyHash w.params (Str.ofString "p"),.str (Str.ofString "p") NB,.ref iM⟩,⟨PySem.PyData.keyHash w.params (Str.ofString "a"),.str (Str.ofString "a") Nz,.ref iL⟩,⟨PySem.PyData.keyHash w.params (Str.ofString "b"),.str (Str.ofString "b") Ny,.ref iK⟩] VP })
  (u6:(kh==sysModules)=false)
  (u7:K.lookup iM=some ⟨.type "tuple",Sy,.seq #[.int 1 PM,.int 1 PL] U3,R9⟩)
  (u8:K.lookup iL=some ⟨.type "tuple",Sx,.seq #[.int 1 PK,.int 0 PF] U1,R8⟩)
  (u9:K.lookup iK=some ⟨.type "tuple",Sw,.seq #[.int 0 PD,.int 1 PC] U0,R7⟩)
  (Fd:PySem.W.nsIn K mainGlobals "GAP" =some (some (.str (Str.ofString "-") Q2)))
  (Fc:PySem.W.nsIn K mainGlobals "Prices" =some (some (.ref aq)))
  (Fb:PySem.W.plainGet K aq Str.empty=true) (E9:PySem.W.hasDictIn K aq=true) (E8:PySem.W.plainOver K aq=true) (E7:PySem.W.findIn K (.ref aq) "__setattr__" =some (some (.builtin "object.__setattr__"))) (E6:PySem.W.makesIn K aq=true) (E5:PySem.W.keepIn K (.ref aq)=true)
  (u18:bE K aq "signs")
  (E4:bE K aq "pairs")
  (E3:bE K aq "opening")
  (E2:bE K aq "more")
  (E1:bE K aq "factors")
  (EZ:bE K aq "unit")
  (EY:bE K aq "costs")
  (EX:bE K aq "opening_units")
  (EW:bE K aq "more_units")
  (EV:PySem.W.nsIn K mainGlobals "Block" =some (some (.ref aJ)))
  (EU:PySem.W.plainGet K aJ Str.empty=true) (ET:PySem.W.hasDictIn K aJ=true) (ES:PySem.W.plainOver K aJ=true) (ER:PySem.W.findIn K (.ref aJ) "__setattr__" =some (some (.builtin "object.__setattr__"))) (EO:PySem.W.makesIn K aJ=true) (EN:PySem.W.keepIn K (.ref aJ)=true)
  (EM:bE K aJ "rows")
  (u35:PySem.W.isIn K (.ref aJ) aJ=true)
  (EL:PySem.W.nsIn K mainGlobals "Joining" =some (some (.ref au)))
  (EK:PySem.W.plainGet K au Str.empty=true) (EJ:PySem.W.hasDictIn K au=true) (EI:PySem.W.plainOver K au=true) (EH:PySem.W.findIn K (.ref au) "__setattr__" =some (some (.builtin "object.__setattr__"))) (EG:PySem.W.makesIn K au=true) (EF:PySem.W.keepIn K (.ref au)=true)
  (EE:bE K au "ones")
  (ED:bE K au "others")
  (EC:bE K au "one_gaps")
  (EB:bE K au "other_gaps")
  (EA:bE K au "by_a")
  (Ez:bE K au "by_b")
  (Ey:bE K au "extras")
  (Ex:bE K au "rests")
  (Ew:PySem.W.nsIn K mainGlobals "WeaveError" =some (some (.ref gQ)))
  (Eu:PySem.W.nsIn K mainGlobals "NoBlock" =some (some (.ref dI)))
  (u53:PySem.W.excIn K dI [.type "ValueError",.type "Exception",.type "BaseException",.type "object"] "ValueError.__new__" =true)
  (Et:PySem.W.nsIn K mainGlobals "NoSign" =some (some (.ref aN)))
  (Es:PySem.W.hasDictIn K aN=true) (Er:PySem.W.typeIn K (.ref aN)=some (.type "type")) (Ep:PySem.W.mroIn K aN (.type "BaseException")=some true)
  (Eo:PySem.W.findIn K (.ref aN) "__getattribute__" =some (some (.builtin "BaseException.__getattribute__")))
  (En:PySem.W.findIn K (.ref aN) "__getattr__" =some none)
  (Em:PySem.W.hasDictIn K aN=true)
  (El:PySem.W.findIn K (.ref aN) "__class__" =some (some (.builtin "object.__class__")))
  (Ek:PySem.W.specialIn K (.builtin "object.__class__") "__get__" =some (some (.builtin "getset_descriptor.__get__")))
  (Ej:PySem.W.takesIn K (.builtin "object.__class__")=some true)
  (Ei:PySem.W.mroIn K aN (.type "object")=some true)
  (Eh:PySem.W.mroIn K aN (.type "BaseException")=some true)
  (Eg:PySem.W.hasDictIn K aN=true) (Ef:((PySem.W.clsIn K aN).any λcd=>uc cd.mro)=true) (Ed:PySem.W.findIn K (.ref aN) "__setattr__" =some (some (.builtin "object.__setattr__"))) (Ec:PySem.W.keepIn K (.ref aN)=true)
  (Eb:bE K aN "row")
  (Ea:bE K aN "place")
  (D9:PySem.W.specialIn K (.ref gQ) "__getattribute__" =some (some (.builtin "type.__getattribute__"))) (D8:PySem.W.readsIn K gQ (.type "type")=true) (D7:PySem.W.findCls K (.ref gQ) (.type "type") "__init__" =some (.val (.builtin "ValueError.__init__")))
  (D6:PySem.W.subIn K (.ref aN) (.ref aN)=some true)
  {LJ Nk:Option Addr} {Lm:Array (Option Value)} {LK LR Nh Lv JV Ni:Value} {bz:Addr}
  (IE:PySem.W.findIn K (.ref aN) "__init__" =some (some (.ref bz))) (D5:PySem.W.isFn K (.ref bz)=true) (D4:K.lookup bz=some ⟨LK,LJ,.func (PySem.W.fnOf "__init__" "NoSign.__init__" (jj cS) (gW cS) (av cS) .none LR Nh Lv Nk JV Ni),Lm⟩) (D3:PySem.W.codeIn K JV "NoSign.__init__" =true) (D0:PySem.W.keepIn K (.ref bz)=true)
  (u81:kN K "greatest_divisor" "greatest_divisor" fW)
  (DZ:kN K "lowest" "lowest" uZ)
  (DY:kN K "is_sign" "is_sign" sO)
  (DX:kN K "are_signs" "are_signs" nL)
  (DW:kN K "check_signs" "check_signs" ny)
  (DV:kN K "check_lengths_prices" "check_lengths" fC)
  (DU:kN K "lowest_price" "lowest_price" ju)
  (DT:kN K "lowest_prices" "lowest_prices" kF)
  (DS:kN K "all_unders" "all_unders" ow)
  (DR:kN K "unit_factors" "unit_factors" lS)
  (DQ:kN K "product_of" "product_of" n8)
  (DP:kN K "by_unit" "by_unit" qh)
  (DO:kN K "costs_by_signs" "costs_by_signs" jE)
  {agr ah2:Option Addr} {aga:Array (Option Value)} {agv agH ahO agk Kf ahT:Value} {bF:Addr}
  (DN:PySem.W.findIn K (.ref aq) "__init__" =some (some (.ref bF))) (DM:PySem.W.isFn K (.ref bF)=true) (DL:K.lookup bF=some ⟨agv,agr,.func (PySem.W.fnOf "__init__" "Prices.__init__" (jj cR) (gW cR) (av cR) .none agH ahO agk ah2 Kf ahT),aga⟩) (DK:PySem.W.codeIn K Kf "Prices.__init__" =true) (DJ:PySem.W.keepIn K (.ref bF)=true)
  (DI:kN K "pair_cost" "pair_cost" nK)
  (ZJ:kN K "more_cost" "more_cost" lu)
  (ZI:kN K "check_known" "check_known" nD)
  (ZH:kN K "place_behind" "place_behind" jt)
  (ZG:kN K "things_at" "things_at" pq)
  (ZF:kN K "turned" "turned" rL)
  (ZE:kN K "columns_of" "columns_of" lX)
  (ZD:kN K "laid_columns" "laid_columns" lU)
  (ZC:kN K "is_gaps" "is_gaps" sP)
  (ZA:kN K "signs_of" "signs_of" mH)
  (Zz:kN K "check_lengths_blocks" "check_lengths" fD)
  (Zy:kN K "are_things" "are_things" oq)
  (Zx:kN K "check_things" "check_things" lY)
  (Zw:kN K "check_columns" "check_columns" kI)
  {agq ah1:Option Addr} {af9:Array (Option Value)} {agu agG ahN agj Kg ahS:Value} {aR:Addr}
  (Zv:PySem.W.findIn K (.ref aJ) "__init__" =some (some (.ref aR))) (Zu:PySem.W.isFn K (.ref aR)=true) (Zt:K.lookup aR=some ⟨agu,agq,.func (PySem.W.fnOf "__init__" "Block.__init__" (jj cj) (gW cj) (av cj) .none agG ahN agj ah1 Kg ahS),af9⟩) (Zs:PySem.W.codeIn K Kg "Block.__init__" =true) (Zr:PySem.W.keepIn K (.ref aR)=true)
  (Zq:kN K "check_block_rows" "check_block_rows" iI)
  (Zp:kN K "cost_by_gaps" "cost_by_gaps" lW)
  (Zo:kN K "costs_by_gaps" "costs_by_gaps" kH)
  (Zn:kN K "sign_extras" "sign_extras" m8)
  (Zm:kN K "extras_beside" "extras_beside" kG)
  (Zl:kN K "all_extras" "all_extras" oA)
  (Zk:kN K "rests_ahead" "rests_ahead" nh)
  (Zj:kN K "join_rests" "join_rests" oj)
  {agp ah0:Option Addr} {af8:Array (Option Value)} {agt agF ahM agi Kh ahR:Value} {bA:Addr}
  (Zi:PySem.W.findIn K (.ref au) "__init__" =some (some (.ref bA))) (Zh:PySem.W.isFn K (.ref bA)=true) (Zg:K.lookup bA=some ⟨agt,agp,.func (PySem.W.fnOf "__init__" "Joining.__init__" (jj cF) (gW cF) (av cF) .none agF ahM agi ah0 Kh ahR),af8⟩) (Zf:PySem.W.codeIn K Kh "Joining.__init__" =true) (Ze:PySem.W.keepIn K (.ref bA)=true)
  (Zd:kN K "first_move" "first_move" om)
  (Zc:kN K "first_moves" "first_moves" nu)
  (Zb:kN K "joined_block" "joined_block" lV)
  (Za:kN K "joined" "joined" rM)
  (Y9:kN K "_law_next" "_law_next" iH)
  (Y8:kN K "_law_signs" "_law_signs" pB)
  (Y7:kN K "_law_price" "_law_price" pD)
  (Y6:kN K "_law_prices" "_law_prices" n9)
  (Y5:kN K "_law_column" "_law_column" oi)
  (Y4:kN K "_law_rows" "_law_rows" qJ)
  (Y3:kN K "_law_packed" "_law_packed" oh)
  (Y0:kN K "_law_thing" "_law_thing" pA)
  (YZ:kN K "_law_cost" "_law_cost" qL)
  (YY:kN K "_law_join" "_law_join" qK)
  (YX:kN K "_law_moves" "_law_moves" pG)
  (YW:kN K "_law_told_moves" "_law_told_moves" jD)
  (YV:kN K "_law_all_moves" "_law_all_moves" iN)
  (YU:kN K "_law_order" "_law_order" pF)
  (YT:kN K "_law_block_is" "_law_block_is" lT)
  (YS:kN K "_law_with" "_law_with" qI)
  (YR:kN K "_law_refused" "_law_refused" nk)
  (YQ:kN K "_law_least" "_law_least" pH)
  (YO:kN K "_law_strange" "_law_strange" nj)
  (YN:kN K "_law_round" "_law_round" pC)
  {ago Kc:Option Addr} {af7:Array (Option Value)} {ags Ku KR KZ Ga Kl:Value} {Be:Addr}
  (Ww:PySem.W.nsIn K mainGlobals "law" =some (some (.ref Be))) (YM:K.lookup Be=some ⟨ags,ago,.func (PySem.W.fnOf "law" "law" (jj tT) (gW tT) (av tT) .none Ku KR KZ Kc Ga Kl),af7⟩) (YL:PySem.W.codeIn K Ga "law" =true) (YK:PySem.W.keepIn K (.ref Be)=true)
  (Wv:QE K aN bz=true)
  (YJ:PySem.W.nsIn K mainGlobals "abs" =some none)
  (YI:PySem.W.nsIn K mainGlobals "len" =some none)
  (YH:PySem.W.nsIn K mainGlobals "ord" =some none)
  (YG:PySem.W.nsIn K mainGlobals "set" =some none)
  (YF:PySem.W.nsIn K mainGlobals "tuple" =some none)
  (YE:PySem.W.nsIn K mainGlobals "zip" =some none)
  (YD:PySem.W.nsIn K mainGlobals "enumerate" =some none)
  (YC:PySem.W.nsIn K mainGlobals "range" =some none)
  (YB:PySem.W.nsIn K mainGlobals "isinstance" =some none)
  (YA:PySem.W.nsIn K mainGlobals "int" =some none)
  (Yz:PySem.W.nsIn K mainGlobals "bool" =some none)
  (Yy:PySem.W.nsIn K mainGlobals "all" =some none)
  (Yx:PySem.W.nsIn K mainGlobals "any" =some none)
  (Yw:PySem.W.nsIn K mainGlobals "sum" =some none)
  (Yv:PySem.W.nsIn K mainGlobals "list" =some none)
  (Yu:PySem.W.nsIn K mainGlobals "min" =some none)
  (Yt:PySem.W.nsIn K mainGlobals "max" =some none)
  (Ys:PySem.W.nsIn K mainGlobals "reversed" =some none)
  : ∃fd:FuncData,(∀(s:Shared) (v:Value),BindsTo s fd ⟨[v],[]⟩ [("_law_script",v)])/\∀base:Heap,K.In base->base.Ns mainGlobals mg->aH l.prog w K mg base cO 13 fa fd ["_law_script"] (Q8 K):=by
 have e:=Mw.symm.trans (PySem.W.mg_of X G Ww)
 cases e
 obtain⟨p,hp⟩:∃p:Pm,p=(⟨nY,o8,kU,kh,iM,iL,iK,Q2,aq,aJ,au,gQ,dI,aN⟩:Pm):=⟨_,rfl⟩
 have T:Txt K mg p w:=by subst hp;exact⟨PySem.W.mg_none_of X G YJ,PySem.W.mg_none_of X G YI,PySem.W.mg_none_of X G YH,PySem.W.mg_none_of X G YG,PySem.W.mg_none_of X G YF,PySem.W.mg_none_of X G YE,PySem.W.mg_none_of X G YD,PySem.W.mg_none_of X G YC,PySem.W.mg_none_of X G YB,PySem.W.mg_none_of X G YA,PySem.W.mg_none_of X G Yz,PySem.W.mg_none_of X G Yy,PySem.W.mg_none_of X G Yx,PySem.W.mg_none_of X G Yw,PySem.W.mg_none_of X G Yv,PySem.W.mg_none_of X G Yu,PySem.W.mg_none_of X G Yt,PySem.W.mg_none_of X G Ys,PySem.W.mg_of X G u0,PySem.W.mg_of X G u1,PySem.W.mg_of X G u2,λH=>.inr ⟨_,_,_,u3,rfl,rfl,(by show 3<=sizeLine;decide),.cons ⟨_,rfl⟩ (.cons ⟨_,rfl⟩ (.cons ⟨_,rfl⟩ (.nil)))⟩,PySem.W.mg_of X G u4,λP=>KDict.mk (P:=P) (w:=w) [((Str.ofString "p"),NB,.ref iM),((Str.ofString "a"),Nz,.ref iL),((Str.ofString "b"),Ny,.ref iK)] u5 rfl (show([(Str.ofString "p"),(Str.ofString "a"),(Str.ofString "b")]:List Str).Nodup by decide +kernel) (vs:=[.ref iM,.ref iL,.ref iK]) (.cons rfl (.cons rfl (.cons rfl (.nil)))) u6,λH=>.inr ⟨_,_,_,u7,rfl,rfl,(by show 2<=sizeLine;decide),.cons ⟨_,rfl⟩ (.cons ⟨_,rfl⟩ (.nil))⟩,λH=>.inr ⟨_,_,_,u8,rfl,rfl,(by show 2<=sizeLine;decide),.cons ⟨_,rfl⟩ (.cons ⟨_,rfl⟩ (.nil))⟩,λH=>.inr ⟨_,_,_,u9,rfl,rfl,(by show 2<=sizeLine;decide),.cons ⟨_,rfl⟩ (.cons ⟨_,rfl⟩ (.nil))⟩,PySem.W.mg_of X G Fd,PySem.W.mg_of X G Fc,⟨Fb,E9,E8,E7⟩,u18,E4,E3,E2,E1,EZ,EY,EX,EW,PySem.W.mg_of X G EV,⟨EU,ET,ES,ER⟩,EM,u35,PySem.W.mg_of X G EL,⟨EK,EJ,EI,EH⟩,EE,ED,EC,EB,EA,Ez,Ey,Ex,PySem.W.mg_of X G Ew,PySem.W.mg_of X G Eu,Wu u53,PySem.W.mg_of X G Et,⟨Es,Er,Ep⟩,⟨Eo,En,Em,El,Ek,Ej,Ei,Eh⟩,⟨Eg,Ef,Ed⟩,⟨_,MZ Wv⟩,Eb,Ea,⟨D9,D8,D7⟩,D6⟩
 have pR:=uC (st:=cS) D4 D3 D0
 have fh:Dm K "__init__" "NoSign.__init__" cS ["self","row","place"] _ _:=⟨pR,pR.binds (ps:=["self","row","place"]) λ_ _ _ _ _ _ us hl=>by obtain⟨_,_,_,rfl⟩:=GP.W7 hl;exact rfl⟩
 obtain⟨bZ,bU,bw⟩:=bR (ps:=["one","other"]) X G u81
 obtain⟨qz,oM,nS⟩:=bR (ps:=["fraction"]) X G DZ
 obtain⟨oN,mO,lM⟩:=bR (ps:=["sign"]) X G DY
 obtain⟨gE,fG,dh⟩:=bR (ps:=["text"]) X G DX
 obtain⟨jc,ia,fO⟩:=bR (ps:=["signs"]) X G DW
 obtain⟨cL,cD,bM⟩:=VT (ps:=["signs","pairs"]) X G DV
 obtain⟨dD,cX,bB⟩:=bR (ps:=["price"]) X G DU
 obtain⟨gx,fQ,dO⟩:=bR (ps:=["row"]) X G DT
 obtain⟨j9,i0,gO⟩:=bR (ps:=["pairs","opening","more"]) X G DS
 obtain⟨ig,gp,eG⟩:=bR (ps:=["unders"]) X G DR
 obtain⟨jT,iT,gG⟩:=bR (ps:=["factors"]) X G DQ
 obtain⟨jZ,iJ,dH⟩:=bR (ps:=["price","unit"]) X G DP
 obtain⟨fV,e7,dg⟩:=bR (ps:=["signs","pairs","unit"]) X G DO
 have pQ:=uC (st:=cR) DL DK DJ
 have ff:Dm K "__init__" "Prices.__init__" cR ["self","signs","pairs","opening","more"] _ _:=⟨pQ,pQ.binds (ps:=["self","signs","pairs","opening","more"]) λ_ _ _ _ _ _ us hl=>by obtain⟨_,_,_,_,_,rfl⟩:=GP.W5 hl;exact rfl⟩
 obtain⟨gD,fF,c8⟩:=bR (ps:=["prices","one","other"]) X G DI
 obtain⟨dN,cW,bS⟩:=bR (ps:=["prices"]) X G ZJ
 obtain⟨jd,ic,fP⟩:=bR (ps:=["known","rows"]) X G ZI
 obtain⟨dB,cV,bW⟩:=bR (ps:=["place","move"]) X G ZH
 obtain⟨lD,jK,iB⟩:=bR (ps:=["texts","place"]) X G ZG
 obtain⟨mq,jJ,iA⟩:=bR (ps:=["texts","many"]) X G ZF
 obtain⟨fH,d8,bV⟩:=bR (ps:=["rows"]) X G ZE
 obtain⟨iu,gr,eL⟩:=bR (ps:=["ones","others","one_gaps","other_gaps","moves"]) X G ZD
 obtain⟨oO,mP,lN⟩:=bR (ps:=["column"]) X G ZC
 obtain⟨fj,dM,bP⟩:=bR (ps:=["things"]) X G ZA
 obtain⟨cM,cE,bN⟩:=VT (ps:=["rows"]) X G Zz
 obtain⟨j0,iZ,gM⟩:=bR (ps:=["row"]) X G Zy
 obtain⟨iz,gw,eS⟩:=bR (ps:=["rows"]) X G Zx
 obtain⟨gA,fT,dQ⟩:=bR (ps:=["rows"]) X G Zw
 have qB:=uC (st:=cj) Zt Zs Zr
 have aX:Dm K "__init__" "Block.__init__" cj ["self","rows"] _ _:=⟨qB,qB.binds (ps:=["self","rows"]) λ_ _ _ _ _ _ us hl=>by obtain⟨_,_,rfl⟩:=GP.W8 hl;exact rfl⟩
 obtain⟨dW,dG,cI⟩:=bR (ps:=["prices","rows"]) X G Zq
 obtain⟨iy,gv,eO⟩:=bR (ps:=["prices","column","many"]) X G Zp
 obtain⟨gz,fS,cg⟩:=bR (ps:=["prices","columns","many"]) X G Zo
 obtain⟨i7,gZ,fJ⟩:=bR (ps:=["prices","signs"]) X G Zn
 obtain⟨gy,fR,dP⟩:=bR (ps:=["prices","signs","others"]) X G Zm
 obtain⟨kc,i6,gP⟩:=bR (ps:=["prices","ones","others"]) X G Zl
 obtain⟨i8,g6,fK⟩:=bR (ps:=["extras","below"]) X G Zk
 obtain⟨jX,iX,gJ⟩:=bR (ps:=["extras","many"]) X G Zj
 have o7:=uC (st:=cF) Zg Zf Ze
 have dX:Dm K "__init__" "Joining.__init__" cF ["self","prices","one","other"] _ _:=⟨o7,o7.binds (ps:=["self","prices","one","other"]) λ_ _ _ _ _ _ us hl=>by obtain⟨_,_,_,_,rfl⟩:=GP.W6 hl;exact rfl⟩
 obtain⟨jY,iY,gK⟩:=bR (ps:=["joining","i","j"]) X G Zd
 obtain⟨jb,g9,fN⟩:=bR (ps:=["joining"]) X G Zc
 obtain⟨iw,gu,eN⟩:=bR (ps:=["joining"]) X G Zb
 obtain⟨mw,jS,fB⟩:=bR (ps:=["prices","one","other"]) X G Za
 obtain⟨bO,bD,aP⟩:=bR (ps:=["_law_script","_law_at"]) X G Y9
 obtain⟨lF,jM,iD⟩:=bR (ps:=["_law_script","_law_at","_law_many"]) X G Y8
 obtain⟨lH,jO,cU⟩:=bR (ps:=["_law_script","_law_at"]) X G Y7
 obtain⟨jU,iU,gH⟩:=bR (ps:=["_law_script","_law_at","_law_signs_here","_law_same"]) X G Y6
 obtain⟨jW,iW,gI⟩:=bR (ps:=["_law_script","_law_at","_law_signs_here","_law_many"]) X G Y5
 obtain⟨mR,lz,gg⟩:=bR (ps:=["_law_script","_law_at","_law_signs_here","_law_many","_law_columns"]) X G Y4
 obtain⟨jV,iV,dF⟩:=bR (ps:=["_law_rows_here"]) X G Y3
 obtain⟨lE,jL,iC⟩:=bR (ps:=["_law_prices_here","_law_one","_law_other"]) X G Y0
 obtain⟨mT,lC,gh⟩:=bR (ps:=["_law_prices_here","_law_rows_here"]) X G YZ
 obtain⟨mS,lA,jz⟩:=bR (ps:=["_law_ones","_law_others","_law_moves_here"]) X G YY
 obtain⟨lJ,jQ,iF⟩:=bR (ps:=["_law_script","_law_at","_law_i","_law_j"]) X G YX
 obtain⟨fU,eZ,c9⟩:=bR (ps:=["_law_rows_here","_law_many"]) X G YW
 obtain⟨cJ,ck,aI⟩:=bR (ps:=["_law_i","_law_j"]) X G YV
 obtain⟨lI,jP,eK⟩:=bR (ps:=["_law_moves_here"]) X G YU
 obtain⟨ir,gq,bL⟩:=bR (ps:=["_law_block","_law_rows_here"]) X G YT
 obtain⟨mQ,ly,jy⟩:=bR (ps:=["_law_row","_law_k","_law_thing_here"]) X G YS
 obtain⟨ja,g8,fM⟩:=bR (ps:=["_law_prices_here","_law_one","_law_other"]) X G YR
 obtain⟨lK,jR,iG⟩:=bR (ps:=["_law_prices_here","_law_ones","_law_others","_law_found","_law_some"]) X G YQ
 obtain⟨i9,g7,fL⟩:=bR (ps:=["_law_script","_law_at","_law_prices_here","_law_ones","_law_others","_law_sign"]) X G YO
 obtain⟨lG,jN,iE⟩:=bR (ps:=["_law_script","_law_at"]) X G YN
 have Yo:=uC (st:=tT) YM YL YK
 have Wc:Dn K mg "law" tT ["_law_script"] _ _:=⟨Yo,Yo.binds (ps:=["_law_script"]) λ_ _ _ _ _ _ us hl=>by obtain⟨_,rfl⟩:=GP.W9 hl;exact rfl,PySem.W.mg_of X G Ww⟩
 have zO:Io K p.aN bz:=by subst hp;exact⟨MZ Wv,D5,Ec⟩
 have zN:Mk K p.aq bF:=by subst hp;exact⟨E6,DN,DM,E5⟩
 have ki:Mk K p.aJ aR:=by subst hp;exact⟨EO,Zv,Zu,EN⟩
 have wO:Mk K p.au bA:=by subst hp;exact⟨EG,Zi,Zh,EF⟩
 refine⟨PySem.W.fnOf "law" "law" (jj tT) (gW tT) (av tT) .none Ku KR KZ Kc Ga Kl,λs v=>.of_eq rfl,λbase _ _=>?_⟩
 have oZ:=tL (P:=l.prog) (w:=w) (base:=base) T bw
 have V6:=Ss T nS bw oZ
 have sF:=xP T bB nS V6
 have xY:=vY T dO bB sF
 have HL:=Ai (P:=l.prog) (w:=w) (base:=base) T gO
 have zG:=xN T eG bw oZ
 have HD:=Aa (P:=l.prog) (w:=w) (base:=base) T gG
 have Bq:=Qf (P:=l.prog) (w:=w) (base:=base) T dH
 have Tj:=Qd (P:=l.prog) (w:=w) (base:=base) T lM
 have xE:=GY T dh lM Tj
 have AA:=yR T fO dh xE
 have qW:=qi (P:=l.prog) (w:=w) (base:=base) T bM
 have wN:=vg T dg dH Bq
 have xD:=GN (P:=l.prog) (w:=w) (base:=base) T c8
 have sE:=GO (P:=l.prog) (w:=w) (base:=base) T bS
 have vG:=ux T ff fO AA bM qW dO xY bB sF gO HL eG zG gG HD dg wN dH Bq
 have mV:=Og (P:=l.prog) (w:=w) (base:=base) T aP
 have O1:=GL (P:=l.prog) (w:=w) (base:=base) T iB
 have O0:=Sq T iA iB O1
 have vF:=Ag T bV iA O0
 have Tn:=Qe (P:=l.prog) (w:=w) (base:=base) T lN
 have uI:=Oc (P:=l.prog) (w:=w) (base:=base) T bP
 have HK:=Ah T gM bP uI dh xE
 have qX:=qj (P:=l.prog) (w:=w) (base:=base) T bN
 have zM:=xU T eS gM HK
 have x8:=we T dQ bV vF lN Tn
 have sD:=xO (P:=l.prog) (w:=w) (base:=base) T bW
 have vH:=uy (P:=l.prog) (w:=w) (base:=base) T fh
 have mW:=vh T aX bN qX eS zM dQ x8
 have QN:=Od (P:=l.prog) (w:=w) (base:=base) T jy
 have AB:=yS T fP fh zO vH
 have uK:=tM T cI fP AB
 have O2:=GQ T iC bS sE c8 xD
 have O3:=GR T iD aP mV
 have O5:=GU T cU aP mV
 have HE:=Ab T gH cU O5 ff zN vG
 have QT:=Oi T gh iC O2
 have HG:=Ad T gI aP mV
 have QO:=Oe T gg gI HG
 have zK:=xT T eO bP uI bS sE
 have x6:=wc T cg eO zK
 have Av:=yM T fJ c8 xD bS sE
 have xZ:=vZ T dP fJ Av
 have HM:=Aj T gP dP xZ
 have Aw:=yN (P:=l.prog) (w:=w) (base:=base) T fK
 have HH:=Ae T gJ fK Aw
 have uL:=tN T dX cI uK bV vF cg x6 bP uI gP HM gJ HH
 have HJ:=Af (P:=l.prog) (w:=w) (base:=base) T gK
 have Az:=yQ T fN gK HJ bW sD
 have zI:=xR T eL bW sD
 have zJ:=xS T eN fN Az eL zI iA O0 aX ki (aH.nv mW)
 have Pa:=Su T fB eN zJ dX wO uL
 have Ay:=yP T fM fB Pa
 have O6:=GV (P:=l.prog) (w:=w) (base:=base) T eK
 have O7:=GW T iF aP mV
 have HF:=Ac (P:=l.prog) (w:=w) (base:=base) T dF
 have zH:=xQ (P:=l.prog) (w:=w) (base:=base) T bL
 have QS:=Oh (P:=l.prog) (w:=w) (base:=base) T jz
 have wM:=vf (P:=l.prog) (w:=w) (base:=base) T c9
 have uJ:=tK (P:=l.prog) (w:=w) (base:=base) T aI
 have vE:=dS (d:=0) T aI uJ
 have vD:=dS (d:=1) T aI vE
 have vC:=dS (d:=2) T aI vD
 have vB:=dS (d:=3) T aI vC
 have vA:=dS (d:=4) T aI vB
 have vz:=dS (d:=5) T aI vA
 have O8:=GX T iG gh QT eK O6 c9 wM jz QS
 have Ax:=yO T fL aP mV jy QN aX ki (aH.nv mW) fM Ay
 have O4:=GS T iE aP mV iD O3 gH HE gg QO aX ki (aH.nv mW) fB (aH.nv Pa) dF HF iF O7 aI vz iG O8 bL zH fL Ax
 have adq:=aad T Wc iE O4
 exact adq
theorem walk{l:PySem.W.OpenLaw}{q:Program}{loose:List Str}{XP:(Str->Option Value)->Heap->Prop}{as:List Addr}{N t:Nat}{d:DefRec}{K:Params->PySem.W.Frag}(hn:l.most=some 63)(hdf:d.params.defaults=[])
  (hk:∀P,as=(K P).map (·.1)) (ht:∀P,Gg (K P) t=true)
  (F:∀(w:World) (mg:Str->Option Value) (fa:Addr) (h:Heap),(K w.params).In h->h.Ns mainGlobals mg->mg d.name=some (.ref fa) →
   ∃fd:FuncData,(∀(s:Shared) (u:Value),BindsTo s fd ⟨[u],[]⟩ [("_law_script",u)])/\∀base:Heap,(K w.params).In base->base.Ns mainGlobals mg->aH l.prog w (K w.params) mg base cO 13 fa fd ["_law_script"] (Q8 (K w.params))) :
  PySem.W.WalkX q loose XP (PySem.W.X.obsZ as) (PySem.W.X.valZ K N t) l.row.toRowW d [] (λf vs=>PySem.call f vs) :=
 L2.TU (n:=63) (k:=13) (x:= "_law_script") (CX:=λ_=>cO) (sp:=λw=>Q8 (K w.params)) hn (by decide) hdf ⟨rfl,by decide,by decide⟩ hk ht F (λ_ _ a ns hl _ hS=>⟨a,ns,rfl,hS,hl,λ_=>rfl⟩) λ_ _ _ _ _ z=>z
end DH
namespace PySem.W.Fast
def tw2216978728127480718:=True
def tw9008230292275236780:=True
def tw17327830477512300030:=True
def tw6548716916693655076:=True
def tw5559808069881657122:=True
def tw6984241430895917939:=True
def tw9394628464293688524:=True
def tw3224642922343418015:=True
def tw6807173924345576950:=True
def tw539624819243723716:=True
def tw11236795559916092720:=True
def tw2692221811882189949:=True
def tw7704885553074789505:=True
def tw10473107326622170927:=True
def tw4425440351777843930:=True
def tw1074580972176391918:=True
def tw4193576426949269469:=True
def tw5629961815532954535:=True
def tw5195140733301874343:=True
def tw14830141839235710199:=True
def tw13836718814489828939:=True
def tw12168149886455239121:=True
def tw16996069051506758548:=True
def tw231292319626105803:=True
def tw2846374448031463829:=True
def tw312429762918102774:=True
def tw17337050133575288617:=True
def tw13566795199064953980:=True
def tw16077346235711488977:=True
def tw9366540813220334502:=True
def tw8228606624366164438:=True
def tw12790406987307173114:=True
def tw3397131193659067348:=True
def tw5003090369085807564:=True
def tw12099763854865108861:=True
def tw14845516452942019701:=True
def tw3464438062183698579:=True
def tw11598609419066133673:=True
def tw13626944931071921967:=True
def tw1467130850753186096:=True
def tw12046043965218810863:=True
def tw13625251292001467678:=True
def tw16800157406612205254:=True
def tw11341963337496591526:=True
def tw11256983942554679304:=True
def tw9931195741353438835:=True
def tw331343668027179227:=True
def tw7634784632120197384:=True
def tw17927105673383841893:=True
def tw17491087622194197651:=True
def tw7425935022941465737:=True
def tw10913865567397037817:=True
def tw1797752497351950592:=True
def tw15427026103567550000:=True
def tw6847458173154484358:=True
def tw14371083546089205176:=True
def tw3022768862574046388:=True
def tw12862793846537328288:=True
def tw6195730815999916665:=True
def tw7945297393895317263:=True
def tw16880372361382529744:=True
def tw3777727307378144948:=True
def tw4360740977831077478:=True
def tw1845136976009418604:=True
def tw11415940059237908494:=True
def tw12116723346956526914:=True
def tw2901208981433601994:=True
def tw4189530327187960075:=True
def tw17324570506699274056:=True
def tw14976870417624863878:=True
def tw8045542521303524427:=True
def tw2214383088028023641:=True
def tw10443359821294382148:=True
def tw1331995492292969820:=True
def tw10640125673608130542:=True
def tw168989248732192110:=True
def tw12251461985267518608:=True
def tw9487480780895440474:=True
def tw11652806234258573826:=True
def tw10858121490234639627:=True
def tw6020750807117802033:=True
def tw18330319275872435204:=True
def tw11944268405956378056:=True
def tw15822457164168371450:=True
def tw8540658007828000384:=True
def tw12502796438847148118:=True
def tw17595391331531098492:=True
def tw17464680462214084544:=True
def tw16136659669363955666:=True
def tw6642545861788174495:=True
def tw7288537955782553074:=True
def tw1610968111916458969:=True
def tw15153734734364762588:=True
def tw13810992378106021365:=True
def tw1017837322542947840:=True
def tw9717607197915446459:=True
def tw6701581081895539099:=True
def tw13571008649270384589:=True
def tw17165924536105457725:=True
def tw654680503349245732:=True
def tw3291072699633974808:=True
def tw2737007872175436068:=True
def tw515956219178487446:=True
def tw7157223961656598896:=True
def tw10519615463674828003:=True
def tw8244023124242933207:=True
def tw2560541847121374993:=True
def tw13612906427812252522:=True
def tw11099285171797625401:=True
def tw14560762370395640312:=True
def tw12265325483247290630:=True
def tw6798489658408708820:=True
def tw2914219520437434914:=True
def tw1061046695025253065:=True
def tw10126709788110295488:=True
def tw12910905408077132403:=True
def tw9394169754679648214:=True
def tw4655808186002769624:=True
def tw5929597167522088635:=True
def tw11370913030458303565:=True
def tw17730662071654095238:=True
def tw10560507299744599035:=True
def tw4940711774807516655:=True
def tw8885726902699349029:=True
def tw11884392060787727507:=True
def tw16622666757273203672:=True
def tw12927429636939184883:=True
def tw10018403122761342871:=True
def tw8240777964616718661:=True
def tw6732715267717424950:=True
def tw8950845430302666602:=True
def tw15816313374651176540:=True
def tw15477656161596180608:=True
def tw10858808958594079997:=True
def tw18056072917567689602:=True
def tw17049677597146831582:=True
def tw15466409267897093238:=True
def tw7392227130002761203:=True
def tw4326460423711354110:=True
def tw9214326044911614611:=True
def tw5975927417828736601:=True
def tw11388623853063544199:=True
def tw17102493640837963706:=True
def tw12367338712892865345:=True
def tw3215425103031118720:=True
def tw13834925481516111090:=True
def tw2939928551448318637:=True
def tw9197649489821355497:=True
def tw17473625594566792274:=True
def tw6356679800082923404:=True
def tw8165263068801676185:=True
def tw17345681326899415561:=True
def tw10810812043671591846:=True
def tw11324340874464290876:=True
def tw12720278166925706177:=True
def tw12271021087195292940:=True
def tw13951250286080627829:=True
def tw123165604479634428:=True
def tw12702752620380861812:=True
def tw17487296477226661393:=True
def tw7682805815197614558:=True
def tw5617632065853708978:=True
def tw13364510054259459805:=True
def tw7872857971966542602:=True
def tw15853849346057760291:=True
def tw2961185703438436216:=True
def tw7428580123053990392:=True
def tw18176410499339919886:=True
def tw13695428290464712288:=True
def tw7101763344597680018:=True
def tw13735546506104981162:=True
def tw15666720803696442461:=True
def tw2629631242024747618:=True
def tw5018630024598047322:=True
def tw12673862702189601153:=True
def tw6168766812873238914:=True
def tw16316278593930349192:=True
def tw8315481006056303193:=True
def tw9741439761853397397:=True
def tw17769670312717025685:=True
def tw9191038503874513137:=True
def tw12933997487687655025:=True
def tw388787541668009383:=True
def tw4522649668555909820:=True
def tw2884680545374225749:=True
def tw14544914188143540616:=True
def tw13879879585192437468:=True
def tw17373246630812895094:=True
def tw10507265831554240908:=True
def tw1072655626966877561:=True
def tw4607120180652229508:=True
def tw15192638121380010176:=True
def tw1265631648938821733:=True
def tw2952769277289871889:=True
def tw11498884598049041717:=True
def tw7919339921895515301:=True
def tw2597778777323598811:=True
def tw14343638464516671877:=True
def tw15950190918778377314:=True
def tw5464914179552597719:=True
def tw3768935840783688416:=True
def tw7262849623537576191:=True
def tw8350537913748222913:=True
def tw13947286372503081863:=True
def tw10666956036776466486:=True
def tw10154442034302580989:=True
def tw8920617021378967128:=True
def tw9390332165090965502:=True
def tw17814035187863903958:=True
def tw8212267391313828835:=True
def tw12473615737413557471:=True
def tw7137899471162971740:=True
def tw1396949676264076270:=True
def tw9363859526650854647:=True
def tw7104790979996589913:=True
def tw8559172792980503178:=True
def tw13996324706129211621:=True
def tw4956544111072426496:=True
def tw13953439293852622957:=True
def tw3951163146796224276:=True
def tw7794073485076159996:=True
def tw14257908419221635209:=True
def tw7498674133971276313:=True
def tw3163347464343645796:=True
def tw14255144363948487827:=True
def tw3847836559239883312:=True
def tw7033815052632189389:=True
def tw18358435439736325475:=True
def tw13678821967476773645:=True
def tw3627282699363370439:=True
def tw9400409890064852963:=True
def tw13673434056644585242:=True
def tw10143046584609777711:=True
def tw5261325208696763404:=True
def tw12643878098326040513:=True
def tw3359829285117909860:=True
def tw11535016682565001914:=True
def tw15454848161155411090:=True
def tw2429307157395259179:=True
def tw11572445633445457498:=True
def tw14111779208933745194:=True
def tw1965666730556306933:=True
def tw4441724781474680629:=True
def tw17251600615175925749:=True
def tw16597914751884617156:=True
def tw15117783239668240166:=True
def tw3672121763367565928:=True
def tw10936439710401896632:=True
def tw12898201492540988711:=True
def tw2843430041071279930:=True
def tw6927458509338571042:=True
def tw12375039166536413260:=True
def tw6949012686955155747:=True
def tw18109623750342210663:=True
def tw6939927913093889837:=True
def tw8435797933265699865:=True
def tw10676926270320345579:=True
def tw910425731208334812:=True
def tw929244383072295493:=True
def tw7409489261582332027:=True
def tw13841565175326212960:=True
def tw11082812088763830841:=True
def tw7841398481964402157:=True
def tw7197306384352824566:=True
def tw2971970748461348440:=True
def tw7619003665943879622:=True
def tw12851431094671570634:=True
def tw7458676986122826455:=True
def tw15044913820800030749:=True
def tw10023431095912456226:=True
def tw8095295365981910423:=True
def tw4632446348628584564:=True
def tw5721762724238864776:=True
def tw2288113371329075530:=True
def tw11191539480869150058:=True
def tw4087266066447863085:=True
def tw9871838331268507792:=True
def tw10062725474847697594:=True
def tw16685128817344415993:=True
def tw14130556953414022694:=True
def tw1825092028970319072:=True
def tw15718212266814909852:=True
def tw12064330841129352838:=True
def tw13660306885006633500:=True
def tw10331401117255708380:=True
def tw6627679757939047355:=True
def tw4917193317168495060:=True
def tw13606783882836479752:=True
def tw15921864114092409318:=True
def tw9941887593726627561:=True
def tw2367070323265371724:=True
def tw1649258457231288250:=True
def tw9632238410437023198:=True
def tw589338384560123808:=True
def tw11147177504286257672:=True
def tw12074652314105987506:=True
def tw11290966160579247595:=True
def tw11019312278559184484:=True
def tw14810771795203200428:=True
def tw16803758860726041439:=True
def tw15482203282859607084:=True
def tw8795790231191996354:=True
def tw9854720913220216033:=True
def tw9102765090372489417:=True
def tw3123430882841595263:=True
def tw14266484877228992250:=True
def tw11603595495750340844:=True
def tw11890286750225094599:=True
def tw12947147799526142256:=True
def tw9984548341102314571:=True
def tw9300122886704614007:=True
def tw12685186771969265577:=True
def tw8927502936769179605:=True
def tw17090838301997763808:=True
def tw7534504658379927145:=True
def tw3539776208244933743:=True
def tw14794178655489159445:=True
def tw5641906021619825131:=True
def tw3463612839596742930:=True
def tw13305916794512355910:=True
def tw15496634807335191284:=True
def tw1754054052227618526:=True
def tw13768729405620714400:=True
def tw12343196135315570049:=True
def tw7552101492206237356:=True
def tw6938417001868775060:=True
def tw9380572364894131379:=True
def tw1981122209631458661:=True
def tw11443593918156539447:=True
def tw7902938040517224803:=True
def tw14109966947297099032:=True
def tw16413399046914009241:=True
def tw13225918041920999912:=True
def tw7250700936425831581:=True
def tw7228035075997092969:=True
def tw15162643036429683252:=True
def tw18123720439989710613:=True
def tw15784386044139775970:=True
def tw1658675196263765876:=True
def tw4075588623032523032:=True
def tw13050223504463607002:=True
def tw8381809493689071305:=True
def tw13355874942259865899:=True
def tw11574109608083999439:=True
def tw97672779277950884:=True
def tw4605437821413523229:=True
def tw5946605696876815210:=True
def tw777282263261359933:=True
def tw154152758893761371:=True
def tw2179625696075108966:=True
def tw12213213494392630959:=True
def tw598177580213127829:=True
def tw6541998010983999080:=True
def tw13690906308913932720:=True
def tw10864192594542822815:=True
def tw375003096767053390:=True
def tw2726157819645709542:=True
def tw16437278536066432198:=True
def tw9863951019687102297:=True
def tw16879076011518142788:=True
def tw10253314562190648220:=True
def tw7584597976433363504:=True
def tw17063033694431259722:=True
def tw16017907749655460661:=True
def tw6851368186291898098:=True
def tw1527111280099509409:=True
def tw8745618594089865947:=True
def tw3433474952331446427:=True
def tw13004188310848944941:=True
def tw69402092871841791:=True
def tw13536719301976771136:=True
def tw16043778640435576938:=True
def tw15329739532927336618:=True
def tw13664767536281343317:=True
def tw16831611969719980702:=True
def tw15168645330316130049:=True
def tw17744556801418160802:=True
def tw16061139303320882196:=True
def tw17623528160008691920:=True
def tw17596764578784521482:=True
def tw7858622128146925789:=True
def tw1541099257116150221:=True
def tw15607820193971565169:=True
def tw10435474045732197394:=True
def tw1348750230609057854:=True
def tw498089974685062058:=True
def tw5333626240494766516:=True
def tw11268070876011645698:=True
def tw5561248033699375087:=True
def tw10199825111040461117:=True
def tw15891108583996459035:=True
def tw5700400430652046305:=True
def tw4058168651986209973:=True
def tw2366684330683936396:=True
def tw7635066249477952305:=True
def tw10556742655158546748:=True
def tw6810616818612196045:=True
def tw16076581426431710081:=True
def tw16495079692331874005:=True
def tw17436428068908516773:=True
def tw7034350692361823210:=True
def tw11663658545446944918:=True
def tw8196452322915286207:=True
def tw3061918989003498665:=True
def tw16587875632666509469:=True
def tw6358332503816211972:=True
def tw9883207848019557688:=True
def tw11237515963385792539:=True
def tw2531147278973512165:=True
def tw1545209753023167269:=True
def tw9020746863128454960:=True
def tw10591517962543820476:=True
def tw3509389646060299288:=True
def tw16686603564300853404:=True
def tw9987913566273326702:=True
def tw5105382893139004070:=True
def tw8352497245153007426:=True
def tw8389284716297143440:=True
def tw15637986206849285018:=True
def tw9999485305465001944:=True
def tw10392234132451198772:=True
def tw18384471528424961410:=True
def tw4644547445976493535:=True
def tw14226210239626330358:=True
def tw14677057361560577216:=True
def tw11440791730173086786:=True
def tw10087229626880799757:=True
def tw832703791134529119:=True
def tw11307530559379484920:=True
def tw9745815793778072051:=True
def tw8723233897917100008:=True
def tw11059375939544560204:=True
def tw286318885022618839:=True
def tw18169881615537958940:=True
def tw17511934865888177092:=True
def tw16916020185681306051:=True
def tw1378852519977694379:=True
def tw15516679436229009877:=True
def tw13854309979743199706:=True
def tw6567269496966374131:=True
def tw17414518585832381288:=True
def tw7915491954279442147:=True
def tw7913128607565195210:=True
def tw15284587359852728964:=True
def tw12732905254522276191:=True
def tw4960838278707111177:=True
def tw3630085769309283986:=True
def tw2417199711301797437:=True
def tw2358544453325281641:=True
def tw7320407152228124665:=True
def tw383621494814389106:=True
def tw11125504575011233963:=True
def tw14616586268848702338:=True
def tw562570220815881563:=True
def tw11425106509555413916:=True
def tw16697633727467824207:=True
def tw13094981219950277964:=True
def tw5581207874862809529:=True
def tw11137125234267632150:=True
def tw9484506532746069251:=True
def tw6796591911814544378:=True
def tw8236719675103969277:=True
def tw12502999532928728441:=True
def tw2638931673570176309:=True
def tw4209041550603448933:=True
def tw1782940494720738665:=True
def tw6971501437952117030:=True
def tw6749720317691175535:=True
def tw15822014815792144800:=True
def tw225212073254248484:=True
def tw1874932947374603096:=True
def tw3998526688028270300:=True
def tw13483289932523312806:=True
def tw17089186994707329487:=True
def tw1259069634007967646:=True
def tw5085327408291461753:=True
def tw9355975462951547698:=True
def tw15974047600809429888:=True
def tw9028412705997906644:=True
def tw12166995596015108593:=True
def tw11019807394447121410:=True
def tw2748635207159917476:=True
def tw13843336451668181201:=True
def tw12807994701457344496:=True
def tw2557719503082258377:=True
def tw13032745746049592005:=True
def tw7094997965147546360:=True
def tw16154184817086648676:=True
def tw6316618089109446466:=True
def tw12013379313316690536:=True
def tw12922850006142924793:=True
def tw10395781904535926593:=True
def tw3488537835558749985:=True
def tw15451108393026825819:=True
end PySem.W.Fast
open PySem PySem.W PyProof.Rows
set_option maxRecDepth 100000 in
set_option maxHeartbeats 0 in
theorem PySem.Challenge.cw_gapweave_k42_joined_holds : PySem.Challenge.rw_gapweave_k42_joined.Holds := by
 w_on;o_law;z_head;(case hw=>w_witness2)
 k_fill
 refine DH.walk (l:=PySem.Challenge.rw_gapweave_k42_joined) rfl rfl (λ_=>by kernel_rfl) (λ_=>by kernel_rfl) ?F
 case F =>
  intro w mg fa h KX G hmg
  refine' DH.all_mk KX G hmg ?u0 ?u1 ?u2 ?u3 ?u4 ?u5 ?u6 ?u7 ?u8 ?u9 ?Fd ?Fc ?Fb ?E9 ?E8 ?E7 ?E6 ?E5 ?u18 ?E4 ?E3 ?E2 ?E1 ?EZ ?EY ?EX ?EW ?EV ?EU ?ET ?ES ?ER ?EO ?EN ?EM ?u35 ?EL ?EK ?EJ ?EI ?EH ?EG ?EF ?EE ?ED ?EC ?EB ?EA ?Ez ?Ey ?Ex ?Ew ?Eu ?u53 ?Et ?Es ?Er ?Ep ?Eo ?En ?Em ?El ?Ek ?Ej ?Ei ?Eh ?Eg ?Ef ?Ed ?Ec ?Eb ?Ea ?D9 ?D8 ?D7 ?D6 ?IE ?D5 ?D4 ?D3 ?D0 ?u81 ?DZ ?DY ?DX ?DW ?DV ?DU ?DT ?DS ?DR ?DQ ?DP ?DO ?DN ?DM ?DL ?DK ?DJ ?DI ?ZJ ?ZI ?ZH ?ZG ?ZF ?ZE ?ZD ?ZC ?ZA ?Zz ?Zy ?Zx ?Zw ?Zv ?Zu ?Zt ?Zs ?Zr ?Zq ?Zp ?Zo ?Zn ?Zm ?Zl ?Zk ?Zj ?Zi ?Zh ?Zg ?Zf ?Ze ?Zd ?Zc ?Zb ?Za ?Y9 ?Y8 ?Y7 ?Y6 ?Y5 ?Y4 ?Y3 ?Y0 ?YZ ?YY ?YX ?YW ?YV ?YU ?YT ?YS ?YR ?YQ ?YO ?YN ?Ww ?YM ?YL ?YK ?Wv ?YJ ?YI ?YH ?YG ?YF ?YE ?YD ?YC ?YB ?YA ?Yz ?Yy ?Yx ?Yw ?Yv ?Yu ?Yt ?Ys
  case u0|u1|u2|u3|u4|u5|u7|u8|u9|Fd|Fc|Fb|E9|E8|E7|E6|E5|EV|EU|ET|ES|ER|EO|EN|EL|EK|EJ|EI|EH|EG|EF|Ew|Eu|Et|Es|Er|Ep|Eo|En|Em|El|Ek|Ej|Ei|Eh|Eg|Ed|Ec|D6|IE|D5|D4|D3|D0|DN|DM|DL|DK|DJ|Zv|Zu|Zt|Zs|Zr|Zi|Zh|Zg|Zf|Ze|Ww|YM|YL|YK|YJ|YI|YH|YG|YF|YE|YD|YC|YB|YA|Yz|Yy|Yx|Yw|Yv|Yu|Yt|Ys=>k_is
  case u6=>decide
  case u18|E4|E3|E2|E1|EZ|EY|EX|EW|EM|EE|ED|EC|EB|EA|Ez|Ey|Ex|Eb|Ea=>(show PySem.W.findIn _ _ _=_;k_is)
  case u35|Ef|D9|D8|D7|Wv=>kernel_rfl
  case u53=>k_exc
  case u81|DZ|DY|DX|DW|DV|DU|DT|DS|DR|DQ|DP|DO|DI|ZJ|ZI|ZH|ZG|ZF|ZE|ZD|ZC|ZA|Zz|Zy|Zx|Zw|Zq|Zp|Zo|Zn|Zm|Zl|Zk|Zj|Zd|Zc|Zb|Za|Y9|Y8|Y7|Y6|Y5|Y4|Y3|Y0|YZ|YY|YX|YW|YV|YU|YT|YS|YR|YQ|YO|YN=>(refine' DH.kN.mk ?a ?l ?c ?k;(case a=>k_is);(case l=>k_is);(case c=>k_is);(case k=>k_is))
