import PyProof.Rows.All
import Wide.All
import OpenK.AllK
import Wide.FinOn
import Lean
import PyProof.EqAt
import PyProof.EqKinds
import PyProof.TupleCall
import PyProof.NeKinds
import PyProof.Rows.StrStrike
import PyProof.SumWalkG
import PyProof.StrCalls2
import PyProof.Rows.StrItems
import PyProof.Rows.StrJoin2
import PyProof.Truth
import PyProof.DictRoadsH
import PyProof.DictKeyH
import KE.KDictList
import KE.KMinKey
import KE.KLam
import KE.KNestM
import PyProof.MinMaxWalk
import PyProof.WalkInts
import KE.KRevIter
import PySem.Challenge.RW_gapweave_k20_cheapest_told
set_option Elab.async false
set_option linter.all false
set_option maxRecDepth 100000
namespace TK
open PySem
theorem qg{M:Model}{Γ:Ctx}{p:Pos}{t:Sem PySem.Fin}{fs:List Frame}{s s':Shared}{e:End}(h:Runs M Γ p t fs s e s'):s.toks<=s'.toks:=by
 induction h with
 |fresh _ ih=>exact Nat.le_trans (Nat.le_succ _) ih
 |call _ _ a b=>exact Nat.le_trans a b
 |segRet _ _ a b=>exact Nat.le_trans a b
 |segGen _ _ a b=>exact Nat.le_trans a b
 |resumeFresh _ _ _ _ a b=>exact Nat.le_trans a b
 |resumeSuspended _ _ _ _ a b=>exact Nat.le_trans a b
 |segSuspGen _ _ _ _ a b=>exact Nat.le_trans a b
 |_=>first|exact Nat.le_refl _|assumption
theorem Dd{M:Model}{Γ:Ctx}{p:Pos}{g:Nat}{r:Resume}{s s':Shared}{res:GenResult}(h:Wakes M Γ p g r s res s'):s.toks<=s'.toks:=by
 unfold Wakes at h
 split at h
 ·exact h.elim
 ·split at h
  ·obtain⟨e,s1,a,_,_,rfl⟩:=h;have z:=qg a;exact z
  ·obtain⟨_,rfl⟩:=h;exact Nat.le_refl _
  ·obtain⟨_,rfl⟩:=h;exact Nat.le_refl _
 ·obtain⟨e,s1,a,_,_,rfl⟩:=h;have z:=qg a;exact z
 ·obtain⟨_,rfl⟩:=h;exact Nat.le_refl _
 ·obtain⟨_,rfl⟩:=h;exact Nat.le_refl _
theorem Qs{α:Type}{M:Model}{Γ:Ctx}{n:Nat}(t:Sem α):∀{Q:α->Pos->Shared->Prop} {E:Value->Pos->Shared->Prop} {p:Pos} {s:Shared},n<=s.toks →
  Sem.wp M Γ t (λa p s'=>n<=s'.toks->Q a p s') (λe p s'=>n<=s'.toks->E e p s') p s->Sem.wp M Γ t Q E p s:=by
 induction t with
 |pure a=>intro Q E p s hn h;exact h hn
 |raise e=>intro Q E p s hn h;exact h hn
 |unsupported w=>intro Q E p s hn h;exact h
 |finish e=>intro Q E p s hn h;exact h
 |rule t k ih=>intro Q E p s hn h;exact ih () hn h
 | «at» p' k ih=>intro Q E p s hn h;exact ih () hn h
 |load a q k ih=>intro Q E p s hn h;obtain⟨o,e,h⟩:=h;exact⟨o,e,ih o hn h⟩
 |update a q f k ih=>intro Q E p s hn h;exact⟨h.1,ih () hn h.2⟩
 |alloc o k ih=>intro Q E p s hn h;exact ih _ hn h
 |loadIfAlive a k ih=>intro Q E p s hn h;exact ih _ hn h
 |point l k ih=>intro Q E p s hn h;exact ih () hn h
 |register a k ih=>intro Q E p s hn h;exact h
 |fresh k ih=>intro Q E p s hn h;exact ih _ (Nat.le_succ_of_le hn) h
 |ask k ih=>intro Q E p s hn h;exact ih _ hn h
 |choose src m k ih=>intro Q E p s hn h;exact⟨h.1,ih _ hn h.2⟩
 |os q l k ih=>intro Q E p s hn h;exact ih _ hn h
 |call c hd g l k ih=>intro Q E p s hn h;obtain⟨r,s1,a,h⟩:=h;exact⟨r,s1,a,ih r (Nat.le_trans hn (qg a)) h⟩
 |handled own k ih=>intro Q E p s hn h;exact ih _ hn h
 |newGen c k ih=>intro Q E p s hn h;exact ih _ hn h
 |genState g k ih=>intro Q E p s hn h;obtain⟨st,e,h⟩:=h;exact⟨st,e,ih _ hn h⟩
 |resume g r l k ih=>intro Q E p s hn h;obtain⟨res,s1,a,h⟩:=h;exact⟨res,s1,a,ih _ (Nat.le_trans hn (Dd a)) h⟩
 |yield v g l k ih=>intro Q E p s hn h;exact h
 |stack k ih=>intro Q E p s hn h;exact ih _ hn h
 |fork c k ih=>intro Q E p s hn h;exact h
 |thread k ih=>intro Q E p s hn h;exact ih _ hn h
 |await a tk tm l k ih=>intro Q E p s hn h;exact h
theorem bO{α:Type}{M:Model}{A:Around}{t:Sem α}{Q:α->Shared->Prop}{E:Value->Shared->Prop}{s:Shared}{n:Nat}(hn:n<=s.toks)(h:wpAny M A t (λa s'=>n<=s'.toks->Q a s') (λe s'=>n<=s'.toks->E e s') s):wpAny M A t Q E s :=
 λΓ p hΓ=>Qs t hn (h Γ p hΓ)
theorem Ej{M:Model}{A:Around}{c:Code}{R:Result->Shared->Prop}{s:Shared}{n:Nat}(hn:n<=s.toks)(h:codeAny M A c (λr s'=>n<=s'.toks->R r s') s):codeAny M A c R s:=λΓ p hc hb=>by
 obtain⟨r,s1,a,h⟩:=h Γ p hc hb
 exact⟨r,s1,a,h (Nat.le_trans hn (qg a))⟩
end TK
set_option Elab.async false
set_option linter.all false
set_option maxRecDepth 100000
namespace L2
open PySem PySem.Spec PyProof.Rows
abbrev Key:=Sum Int Str
def yS:Key->Value->Bool
 | .inl k,v=>Value.isInt k v
 | .inr x,v=>Value.isStrOf x v
def Wr(w:World):Key->Int
 | .inl k=>hashInt k
 | .inr x=>hashStr w x
theorem eZ:∀{k:Key} {v:Value},yS k v=true->(∃i t,k=Sum.inl i/\v=Value.int i t)\/(∃x t,k=Sum.inr x/\v=Value.str x t)
 | .inl i,v,h=>by
  obtain⟨t,e⟩:=Value.isInt_shape (k:=i) (v:=v) h
  exact .inl ⟨i,t,rfl,e⟩
 | .inr x,v,h=>by
  obtain⟨t,e⟩:=Value.isStrOf_shape (x:=x) (v:=v) h
  exact .inr ⟨x,t,rfl,e⟩
theorem Gu(i:Int)(t:Tok):yS (.inl i) (.int i t)=true:=by simp[yS,Value.isInt]
theorem Gs(x:Str)(t:Tok):yS (.inr x) (.str x t)=true:=by simp[yS,Value.isStrOf]
theorem OT(a b:Int):decide ((Sum.inl a:Key)=Sum.inl b)=(a==b):=by
 by_cases e:a=b
 ·subst e;simp
 ·have h:¬(Sum.inl a:Key)=Sum.inl b:=λq=>e (Sum.inl.inj q)
  rw[decide_eq_false h]
  exact(beq_eq_false_iff_ne.mpr e).symm
theorem OQ(a b:Str):decide ((Sum.inr a:Key)=Sum.inr b)=decide (a=b):=by
 by_cases e:a=b
 ·subst e;simp
 ·have h:¬(Sum.inr a:Key)=Sum.inr b:=λq=>e (Sum.inr.inj q)
  rw[decide_eq_false h,decide_eq_false e]
theorem OS(a:Int)(b:Str):decide ((Sum.inl a:Key)=Sum.inr b)=false:=decide_eq_false (λq=>nomatch q)
theorem OR(a:Str)(b:Int):decide ((Sum.inr a:Key)=Sum.inl b)=false:=decide_eq_false (λq=>nomatch q)
def bZ(prog:Program)(w:World):PySem.KeyKind prog w Key where
 is:=yS
 hash:=Wr w
 inj:=λv a b ha hb=>by
  rcases eZ ha with⟨i,t,rfl,rfl⟩|⟨x,t,rfl,rfl⟩
  ·rcases eZ hb with⟨j,u,rfl,e⟩|⟨y,u,rfl,e⟩
   ·injection e with e1 _;rw[e1]
   ·exact nomatch e
  ·rcases eZ hb with⟨j,u,rfl,e⟩|⟨y,u,rfl,e⟩
   ·exact nomatch e
   ·injection e with e1 _;rw[e1]
 byValue:=λk v h=>by
  rcases eZ h with⟨i,t,rfl,rfl⟩|⟨x,t,rfl,rfl⟩<;>rfl
 pyHash:=λhv h=>by
  rcases eZ hv with⟨i,t,rfl,rfl⟩|⟨x,t,rfl,rfl⟩
  ·exact wpAny_pyHash_int h
  ·exact wpAny_pyHash_str h
 eqBool:=λhu hv h=>by
  rcases eZ hu with⟨i,t,rfl,rfl⟩|⟨x,t,rfl,rfl⟩
  ·rcases eZ hv with⟨j,u,rfl,rfl⟩|⟨y,u,rfl,rfl⟩
   ·rw[OT]at h;exact wpAny_eqBool_int h
   ·rw[OS]at h;exact SeqAt.EqAt.int_str i t y u _ _ _ _ h
  ·rcases eZ hv with⟨j,u,rfl,rfl⟩|⟨y,u,rfl,rfl⟩
   ·rw[OR]at h;exact SeqAt.EqAt.str_int x t j u _ _ _ _ h
   ·rw[OQ]at h;exact wpAny_eqBool_str h
 «strs» :=λk x t v h=>by
  rcases eZ h with⟨i,u,rfl,e⟩|⟨y,u,rfl,e⟩
  ·exact nomatch e
  ·injection e with e1 _
   subst e1
   cases v<;>rfl
theorem BU(prog:Program)(w:World)(i:Int)(t:Tok):(bZ prog w).is (.inl i) (.int i t)=true:=Gu i t
theorem pC(prog:Program)(w:World)(x:Str)(t:Tok):(bZ prog w).is (.inr x) (.str x t)=true:=Gs x t
end L2
namespace L2
open PySem PySem.Spec PyProof.Rows
inductive V where
 |i9|bl (b:Bool)|int (i:Int)|str (x:Str)|Fz (b:Array UInt8)|Pd (b:UInt64)|ref (a:Addr)|ty (n:String)
 deriving DecidableEq
def RelV:V->Value->Prop
 | .i9,u=>u=Value.none
 | .bl b,u=>u=Value.bool b
 | .int i,u=>∃t,u=Value.int i t
 | .str x,u=>∃t,u=Value.str x t
 | .Fz b,u=>∃t,u=Value.bytes b t
 | .Pd b,u=>∃t,u=Value.float b t
 | .ref a,u=>u=Value.ref a
 | .ty n,u=>u=Value.type n
abbrev Vals:List V->List Value->Prop:=Paired RelV
theorem Vals.length{xs:List V}{us:List Value}(r:Vals xs us):xs.length=us.length:=Paired.length r
theorem Vals.get:∀{xs:List V} {us:List Value} {i:Nat} {x:V},Vals xs us->xs[i]? =some x->∃u,us[i]? =some u/\RelV x u
 |_,_,_,_,.nil,e=>by simp at e
 |_,_,0,_,.cons r _,e=>by simp at e;subst e;exact⟨_,rfl,r⟩
 |_,_,i+1,x,.cons _ t,e=>by
  obtain⟨u,h1,h2⟩:=Vals.get (i:=i) (x:=x) t (by simpa using e)
  exact⟨u,by simpa using h1,h2⟩
theorem Vals.set{x:V}{u:Value}(r:RelV x u):∀{xs:List V} {us:List Value} (i:Nat),Vals xs us->Vals (xs.set i x) (us.set i u)
 |_,_,_,.nil=>.nil
 |_,_,0,.cons _ t=>.cons r t
 |_,_,i+1,.cons q t=>.cons q (Vals.set r i t)
theorem Vals.append:∀{xs ys:List V} {us ws:List Value},Vals xs us->Vals ys ws->Vals (xs++ys) (us++ws)
 |_,_,_,_,.nil,s=>s
 |_,_,_,_,.cons r t,s=>.cons r (Vals.append t s)
theorem Vals.take:∀{xs:List V} {us:List Value} (n:Nat),Vals xs us->Vals (xs.take n) (us.take n)
 |_,_,0,_=>.nil
 |_,_,_+1,.nil=>.nil
 |_,_,n+1,.cons r t=>.cons r (Vals.take n t)
theorem Vals.drop:∀{xs:List V} {us:List Value} (n:Nat),Vals xs us->Vals (xs.drop n) (us.drop n)
 |_,_,0,r=>r
 |_,_,_+1,.nil=>.nil
 |_,_,n+1,.cons _ t=>Vals.drop n t
theorem Vals.none_of:∀{xs:List V} {us:List Value} {i:Nat},Vals xs us->xs[i]? =none->us[i]? =none:=λ{xs us i} r e=>by
 have h1:=r.length
 have h2:xs.length<=i:=List.getElem?_eq_none_iff.mp e
 exact List.getElem?_eq_none_iff.mpr (by omega)
def mL:Option V->Option Value->Prop
 |some v,some u=>RelV v u
 |none,none=>True
 |_,_=>False
def KV{κ:Type}:List (κ×V)->List (κ×Value)->Prop:=Paired λ(p:κ×V) (q:κ×Value)=>p.1=q.1/\RelV p.2 q.2
def kV:Key->V
 | .inl i=>.int i
 | .inr x=>.str x
inductive HO where
 |lst (xs:List V)
 |tup (xs:List V)
 |dK (kvs:List (Key×V))|dT (kvs:List (List Key×V))
 |set (S:Int->Bool) (n:Nat)
 |ins (C dx:Addr) (fs:List (Str×V))
 |own (x:Addr)
 |xd (fs:List (Str×V))
 |met (f x:Addr)
 |Tn (lo hi:Int)
 |Eb (o:Obj) (u:HO)
 |LI (ps:Array Value)
 |ext (φ:Heap->Prop)
abbrev Hp:=Addr->Option HO
def upd(H:Hp)(a:Addr)(o:HO):Hp:=λb=>if b=a then some o else H b
theorem ah{H:Hp}{a:Addr}{o:HO}:upd H a o a=some o:=by unfold upd;rw[if_pos rfl]
theorem au{H:Hp}{a b:Addr}{o:HO}(h:b≠a):upd H a o b=H b:=by unfold upd;rw[if_neg h]
theorem pq{H:Hp}{a b:Addr}{o u:HO}(h:H a=some o)(h':H b=some u)(d:o≠u):a≠b:=by
 intro e;subst e;rw[h]at h';exact d (Option.some.inj h')
theorem aM{H:Hp}{a b:Addr}{o:HO}(h:H a=some o)(h':H b=none):a≠b:=by
 intro e;subst e;rw[h]at h';cases h'
section
variable(P:Program)(w:World)
def bM(H:Hp)(h:Heap)(a:Addr):HO->Prop
 | .lst xs=>xs.length<=sizeLine/\∃(its:List Value) (n:Nat),Vals xs its/\h.get? a=some { cls:=.type "list",data:=.seq its.toArray n }
 | .tup xs=>xs.length<=sizeLine/\∃its:List Value,Vals xs its/\IsTup h a its.toArray
 | .dK kvs=>kvs.length<=sizeLine/\(a==sysModules)=false/\∃vs,KV kvs vs/\h.DictOf (bZ P w) a vs
 | .dT kvs=>kvs.length<=sizeLine/\(a==sysModules)=false/\∃xs:List (List Key×Addr×Value),
   Paired (λ(p:List Key×V) (q:List Key×Addr×Value)=>p.1=q.1/\H q.2.1=some (.tup (p.1.map kV))/\RelV p.2 q.2.2) kvs xs ∧
   ∃o es ep,h.get? a=some o/\o.ExactDict/\o.data= .dict es ep/\es.toList=xs.map (entryOfKey (tupleKind (bZ P w)))/\(xs.map (·.1)).Nodup
 | .set S n=>h.SetOf (intKind P w) a S n
 | .ins C dx fs=>H dx=some (.own a)/\fs.length<=1000/\dx≠a/\h.get? a=some (PySem.W.instObj C dx) ∧
   ∃mA,h.Ns1 dx mA/\(∀f,mL (fs.lookup f) (mA f))/\PySem.Within mA (fs.map (·.1))
 | .own _=>∃o,h.get? a=some o
 | .xd fs=>∃mA,h.Ns1 a mA/\∀f,mL (fs.lookup f) (mA f)
 | .Tn lo hi=>∃t u v,h.get? a=some { cls:=.type "range",data:=.fields #[.int lo t,.int hi u,.int 1 v] }
 | .Eb o u=>h.get? a=some o/\bM H h a u
 | .LI ps=>h.get? a=some { cls:=.none,data:=.fields ps }
 | .met f x=>h.get? a=some (PySem.W.methodObj (.ref f) (.ref x))
 | .ext φ=>φ h/\(∃o,h.get? a=some o)/\∀h1 h2:Heap,φ h1->(∀o,h1.get? a=some o->h2.get? a=some o)->φ h2
def mj(H:Hp)(h:Heap):Prop:=∀a o,H a=some o->bM P w H h a o
end
section
variable{P:Program}{w:World}{H H':Hp}{h h':Heap}{a:Addr}{o:HO}
theorem bM.lt(x:bM P w H h a o):a<h.objs.size:=by
 cases o with
 |lst xs=>obtain⟨_,_,_,_,e⟩:=x;exact Heap.lt_size e
 |tup xs=>obtain⟨_,_,_,p⟩:=x;exact p.lt
 |dK kvs=>obtain⟨_,_,_,_,o,_,_,e,_⟩:=x;exact Heap.lt_size e
 |dT kvs=>obtain⟨_,_,_,_,o,_,_,e,_⟩:=x;exact Heap.lt_size e
 |set S n=>obtain⟨o,_,_,_,e,_⟩:=x;exact Heap.lt_size e
 |ins C dx fs=>obtain⟨_,_,_,e,_⟩:=x;exact Heap.lt_size e
 |own y=>obtain⟨_,e⟩:=x;exact Heap.lt_size e
 |xd fs=>obtain⟨_,⟨_,_,_,e,_⟩,_⟩:=x;exact Heap.lt_size e
 |Tn lo hi=>obtain⟨_,_,_,e⟩:=x;exact Heap.lt_size e
 |Eb ob u=>obtain⟨e,_⟩:=x;exact Heap.lt_size e
 |LI ps=>exact Heap.lt_size (show h.get? a=some _ from x)
 |met f y=>exact Heap.lt_size (show h.get? a=some _ from x)
 |ext φ=>obtain⟨_,⟨_,e⟩,_⟩:=x;exact Heap.lt_size e
theorem Paired.iK{α β:Type}{F G:α->β->Prop}:∀{l₁:List α} {l₂:List β},Paired F l₁ l₂->(∀a b,F a b->G a b)->Paired G l₁ l₂
 |_,_,.nil,_=>.nil
 |_,_,.cons r t,f=>.cons (f _ _ r) (Paired.iK t f)
theorem bM.stay(x:bM P w H h a o)(k:∀b u,(b=a\/H b=some (.own a))->h.get? b=some u->h'.get? b=some u)
  (ho:∀b,H b=some (.own a)->H' b=some (.own a)) (ht:∀b xs,H b=some (.tup xs)->H' b=some (.tup xs)):bM P w H' h' a o:=by
 induction o with
 |lst xs=>obtain⟨z,its,n,r,e⟩:=x;exact⟨z,its,n,r,k _ _ (.inl rfl) e⟩
 |tup xs=>obtain⟨z,its,r,ob,e,c⟩:=x;exact⟨z,its,r,ob,k _ _ (.inl rfl) e,c⟩
 |dK kvs=>obtain⟨z,y,vs,r,ob,es,ep,e,c⟩:=x;exact⟨z,y,vs,r,ob,es,ep,k _ _ (.inl rfl) e,c⟩
 |dT kvs =>
  obtain⟨z,y,xs,r,ob,es,ep,e,c⟩:=x
  exact⟨z,y,xs,Paired.iK r λp q z=>⟨z.1,ht _ _ z.2.1,z.2.2⟩,ob,es,ep,k _ _ (.inl rfl) e,c⟩
 |set S n=>obtain⟨ob,es,ep,t,e,c⟩:=x;exact⟨ob,es,ep,t,k _ _ (.inl rfl) e,c⟩
 |ins C dx fs =>
  obtain⟨d,z,ne,e,mA,⟨od,es,ep,e2,c⟩,r⟩:=x
  exact⟨ho _ d,z,ne,k _ _ (.inl rfl) e,mA,⟨od,es,ep,k _ _ (.inr d) e2,c⟩,r⟩
 |own y=>obtain⟨ob,e⟩:=x;exact⟨ob,k _ _ (.inl rfl) e⟩
 |xd fs=>obtain⟨mA,⟨od,es,ep,e,c⟩,r⟩:=x;exact⟨mA,⟨od,es,ep,k _ _ (.inl rfl) e,c⟩,r⟩
 |Tn lo hi=>obtain⟨t,u,v,e⟩:=x;exact⟨t,u,v,k _ _ (.inl rfl) e⟩
 |Eb ob u ih=>obtain⟨e,q⟩:=x;exact⟨k _ _ (.inl rfl) e,ih q⟩
 |LI ps =>
  have e:h.get? a=some { cls:=.none,data:=.fields ps }:=x
  show h'.get? a=some { cls:=.none,data:=.fields ps }
  exact k a _ (.inl rfl) e
 |met f y =>
  have e:h.get? a=some (PySem.W.methodObj (.ref f) (.ref y)):=x
  show h'.get? a=some (PySem.W.methodObj (.ref f) (.ref y))
  exact k a _ (.inl rfl) e
 |ext φ=>obtain⟨p,⟨o,e⟩,st⟩:=x;exact⟨st _ _ p λo q=>k _ _ (.inl rfl) q,⟨o,k _ _ (.inl rfl) e⟩,st⟩
theorem mj.lt(x:mj P w H h)(e:H a=some o):a<h.objs.size:=(x a o e).lt
theorem mj.fresh(x:mj P w H h)(e:h.objs.size<=a):H a=none:=by
 cases q:H a with
 |none=>rfl
 |some u=>exact absurd (Nat.lt_of_lt_of_le (x.lt q) e) (Nat.lt_irrefl _)
theorem mj.kept(x:mj P w H h)(k:∀b u,h.get? b=some u->h'.get? b=some u):mj P w H h':=λa o e =>
 (x a o e).stay (λb u _ q=>k b u q) (λ_ q=>q) λ_ _ q=>q
theorem mj.laid(x:mj P w H h)(k:∀b u,h.get? b=some u->h'.get? b=some u)(hp:h.objs.size<=a)(new:bM P w (upd H a o) h' a o):mj P w (upd H a o) h':=λb u e=>by
 have hn:=x.fresh hp
 by_cases hb:b=a
 ·subst hb;rw[ah]at e;cases e;exact new
 ·rw[au hb]at e
  exact(x b u e).stay (λc v _ q=>k c v q) (λc q=>by rw[au (aM q hn)];exact q) λc xs q=>by rw[au (aM q hn)];exact q
end
def Rd(H:Hp)(a:Addr)(u:HO):Prop:=H a=some u\/∃o,H a=some (.Eb o u)
theorem Rd.ok{P:Program}{w:World}{H:Hp}{h:Heap}{a:Addr}{u:HO}(r:Rd H a u)(x:mj P w H h):bM P w H h a u:=by
 rcases r with r|⟨o,r⟩
 ·exact x a u r
 ·obtain⟨_,q⟩:=x a _ r
  exact q
def SR:Option HO->Prop
 |some (.lst _)=>True
 |some (.dK _)=>True
 |some (.dT _)=>True
 |some (.set _ _)=>True
 |some (.ins _ _ _)=>True
 |some (.ext _)=>True
 |_=>False
section
variable{P:Program}{w:World}{H:Hp}{h h':Heap}{x e:Addr}{o':HO}
theorem mj.write(ok:mj P w H h)(mu:SR (H x))(he:e=x\/H e=some (.own x))(k:∀b u,b≠e->h.get? b=some u->h'.get? b=some u)(Qd:∃u,h'.get? e=some u)
  (new:bM P w (upd H x o') h' x o'):mj P w (upd H x o') h':=λb u q=>by
 have Q8:∀c y,H c=some (.own y)->c≠x:=λc y r z=>by subst z;rw[r]at mu;exact mu
 have We:∀c xs,H c=some (.tup xs)->c≠x:=λc xs r z=>by subst z;rw[r]at mu;exact mu
 by_cases hb:b=x
 ·subst hb;rw[ah]at q;cases q;exact new
 ·rw[au hb]at q
  by_cases Ja:b=e
  ·have q':H b=some (.own x):=by
    rcases he with z|z
    ·exact absurd (Ja.trans z) hb
    ·rw[Ja];exact z
   rw[q]at q';cases q'
   obtain⟨v,hv⟩:=Qd
   exact⟨v,by rw[Ja];exact hv⟩
  ·refine(ok b u q).stay (λc v hc r=>k c v ?_ r) (λc r=>by rw[au (Q8 c b r)];exact r) λc xs r=>by rw[au (We c xs r)];exact r
   rcases hc with rfl|hc
   ·exact Ja
   ·rintro rfl
    rcases he with z|z
    ·exact Q8 c b hc z
    ·rw[hc]at z;cases z;exact hb rfl
end
structure Un(fs ex:List Addr)(H H':Hp)(h h':Heap):Prop where
 keep:∀b o,h.get? b=some o->H b=none->b∉fs->b∉ex->h'.get? b=some o
 slot:∀b o,h.get? b=some o->H b=none->b∈fs->b∉ex->∃sl,h'.get? b=some { o with slots:=sl }
 free:∀b o,h.get? b=some o->H b=none->b∉ex->H' b=none
 there:∀b o,h.get? b=some o->b∉ex->∃o',h'.get? b=some o'
 tups:∀b xs,H b=some (.tup xs)->H' b=some (.tup xs)
 rE:∀b o u,H b=some (.Eb o u)->H' b=some (.Eb o u)
 rO:∀b ps,H b=some (.LI ps)->∃more,H' b=some (.LI (ps++more))
section
variable{fs fs' ex ex':List Addr}{H H1 H2:Hp}{h h1 h2 h':Heap}{a x e:Addr}{o:HO}
theorem Un.any(u:Un fs ex H H1 h h1){b:Addr}{ob:Obj}(q:h.get? b=some ob)(n:H b=none)(hx:b∉ex):∃sl,h1.get? b=some { ob with slots:=sl }:=by
 by_cases hb:b∈fs
 ·exact u.slot b ob q n hb hx
 ·exact⟨ob.slots,u.keep b ob q n hb hx⟩
theorem Un.kept(k:∀b u,h.get? b=some u->h'.get? b=some u):Un fs ex H H h h' :=
 ⟨λb ob q _ _ _=>k b ob q,λb ob q _ _ _=>⟨ob.slots,k b ob q⟩,λ_ _ _ n _=>n,λb ob q _=>⟨ob,k b ob q⟩,λ_ _ q=>q,λ_ _ _ q=>q,λ_ ps q=>⟨#[],by rw[q];simp⟩⟩
theorem Un.refl:Un fs ex H H h h:=Un.kept λ_ _ q=>q
theorem Un.laid(k:∀b u,h.get? b=some u->h'.get? b=some u)(hp:h.objs.size<=a)(hn:H a=none):Un fs ex H (upd H a o) h h' where
 keep:=λb u q _ _ _=>k b u q
 slot:=λb u q _ _ _=>⟨u.slots,k b u q⟩
 free:=λb u q n _=>by rw[au (Nat.ne_of_lt (Nat.lt_of_lt_of_le (Heap.lt_size q) hp))];exact n
 there:=λb u q _=>⟨u,k b u q⟩
 tups:=λb xs q=>by rw[au (aM q hn)];exact q
 rE:=λb u xs q=>by rw[au (aM q hn)];exact q
 rO:=λb ps q=>⟨#[],by rw[au (aM q hn),q];simp⟩
theorem Un.write(mu:SR (H x))(he:e=x\/H e=some (.own x))(k:∀b u,b≠e->h.get? b=some u->h'.get? b=some u)(Qd:∃u,h'.get? e=some u):Un fs ex H (upd H x o) h h':=by
 have hx:∀b,H b=none->b≠x:=λb n z=>by subst z;rw[n]at mu;exact mu
 have hb:∀b,H b=none->b≠e:=λb n z=>by
  subst z
  rcases he with r|r
  ·exact hx b n r
  ·rw[n]at r;cases r
 have hm:∀b u,H b=some u->¬SR (some u)->b≠x:=λb u q nm z=>by subst z;rw[q]at mu;exact nm mu
 refine⟨λb u q n _ _=>k b u (hb b n) q,λb u q n _ _=>⟨u.slots,k b u (hb b n) q⟩,λb u q n _=>by rw[au (hx b n)];exact n,λb u q _=>?_,
  λb xs q=>by rw[au (hm b _ q λz=>z)];exact q,λb u xs q=>by rw[au (hm b _ q λz=>z)];exact q,λb ps q=>⟨#[],by rw[au (hm b _ q λz=>z),q];simp⟩⟩
 by_cases Ja:b=e
 ·subst Ja;exact Qd
 ·exact⟨u,k b u Ja q⟩
end
def Tf(h:Heap)(H:Hp):List Addr:=(List.range h.objs.size).filter λa=>(H a).isSome
def x9(h:Heap)(H:Hp):Heap:=PySem.W.hideAll h (Tf h H)
theorem GA(h:Heap)(H:Hp):(x9 h H).objs.size=h.objs.size:=PySem.W.hideAll_size _ _
theorem I8{h:Heap}{H:Hp}{b:Addr}{o:Obj}(e:h.get? b=some o)(n:H b=none):(x9 h H).get? b=some o :=
 PySem.W.hideAll_get _ e λhm=>by
  have q:(H b).isSome=true:=(List.mem_filter.mp hm).2
  rw[n]at q;simp at q
theorem KA{h:Heap}{H:Hp}{b:Addr}{o:Obj}(e:(x9 h H).get? b=some o):h.get? b=some o/\H b=none:=by
 have e':h.get? b=some o:=PySem.W.of_hideAll (Tf h H) e
 refine⟨e',?_⟩
 cases q:H b with
 |none=>rfl
 |some x =>
  have hm:b∈Tf h H:=List.mem_filter.mpr ⟨List.mem_range.mpr (Heap.lt_size e'),by simp[q]⟩
  have z:(x9 h H).get? b=none:=PySem.W.hideAll_none (Tf h H) hm
  rw[z]at e;cases e
end L2
namespace L2
open PySem PySem.Spec PyProof.Rows
structure Mod(K:PySem.W.Frag)(mg:Str->Option Value)(base:Heap):Prop where
 L8:K.In base
 glob:base.Ns mainGlobals mg
 blt:∃mb,base.Ns builtinsNs mb/\∀x:Str,x≠ "__name__" ->mb x=bootBuiltins x
 nolimit:base.NoLimit
structure Cx where
 prog:Program
 w:World
 K:PySem.W.Frag
 mg:Str->Option Value
 base:Heap
 A:Around
 N:List Str
 s₀:Shared
 H₀:Hp
 env:Env
 outer:List Env
 stack:List Env
 ex:List Addr
 fn:Str->Bool
 calm:Bool
 pn:List (Addr×Obj)
 xe:Value->Shared->Prop
def frs(l:List Env):List Addr:=l.filterMap (·.frame)
abbrev Cx.fs(X:Cx):List Addr:=frs X.outer
def T7(sc:Scope)(x:Str):Prop:=sc.names.lookup x=some .local\/sc.names.lookup x=some .cell\/sc.names.lookup x=some .free
def Loc(sc:Scope)(x:Str):Prop:=sc.names.lookup x=some .local\/sc.names.lookup x=some .cell
def Look(env:Env)(h:Heap)(m:Str->Option Value)(x:Str)(u:Value):Prop :=
 (env.kindOf x=some .local/\m x=some u)\/((env.kindOf x=some .cell\/env.kindOf x=some .free)/\∃c,env.cells.lookup x=some c/\h.IsCell c (some u))
def Eo(mg:Str->Option Value)(n:Nat):Prop:=∀v u,mg "GAP" =some (.str v u)->u<n/\u≠0
theorem Eo.mono{mg:Str->Option Value}{n m:Nat}(h:Eo mg n)(l:n<=m):Eo mg m:=λv u e=>⟨Nat.lt_of_lt_of_le (h v u e).1 l,(h v u e).2⟩
structure Cx.Ok(X:Cx):Prop where
 mod:Mod X.K X.mg X.base
 kind:X.env.scope.kind= .function
 glob:X.env.globals=mainGlobals
 blt:X.env.builtins=builtinsNs
 above:X.s₀.heap.objs.size<=X.env.locals
 inj:∀x y c,X.env.cells.lookup x=some c->X.env.cells.lookup y=some c->x=y
 has:∀x,(X.env.kindOf x=some .cell\/X.env.kindOf x=some .free)->∃c,X.env.cells.lookup x=some c
 Lr:∀x c,X.fn x=true->X.env.cells.lookup x=some c->X.s₀.heap.objs.size<=c
 hd:X.calm=true->X.A.handled=none
 frames:X.A.frames=some X.stack
 stk:X.stack=X.outer\/(X.stack=X.env::X.outer/\X.env.frame=some X.env.locals)
 T4:∀b∈X.ex,b≠X.env.locals/\∀x c,X.env.cells.lookup x=some c->c≠b
 bs:∀b o,X.base.get? b=some o->X.s₀.heap.get? b=some o/\X.H₀ b=none
 Jw:X.base.objs.size<=X.s₀.heap.objs.size
 DP:∀b o,X.base.get? b=some o->b∉X.ex
 GD:∀b∈X.ex,b∉X.fs
 rD:X.s₀.heap.FunFrames X.base X.outer
 Lh:∀b∈X.fs,X.H₀ b=none
 tk:Eo X.mg X.s₀.toks
structure Inv(X:Cx)(pins:List (Addr×Obj))(σ:List (Option V))(H:Hp)(s:Shared):Prop where
 ok:X.Ok
 os:s.os=X.s₀.os
 bare:AllBare s.gens
 base:Un X.fs X.ex X.H₀ H X.s₀.heap s.heap
 loc:∃m,s.heap.Ns X.env.locals m/\∀(i:Nat) (x:Str) (v:V),X.N[i]? =some x->σ[i]? =some (some v)->T7 X.env.scope x->∃u,RelV v u/\Look X.env s.heap m x u
 cell:∀x c,X.env.cells.lookup x=some c->∃v,s.heap.IsCell c v
 free:H X.env.locals=none
 jV:∀x c,X.env.cells.lookup x=some c->H c=none
 pin:∀p∈X.pn++pins,s.heap.get? p.1=some p.2/\H p.1=none/\p.1≠X.env.locals/\p.1∉X.fs/\∀v,p.2.data≠ .cell v
 hok:mj X.prog X.w H s.heap
 len:σ.length=X.N.length
 up:X.s₀.toks<=s.toks
section
variable{X:Cx}{pins:List (Addr×Obj)}{σ:List (Option V)}{H H':Hp}{s:Shared}{h':Heap}
theorem Cx.Ok.Wg(ok:X.Ok){b:Addr}{o:Obj}(e:X.base.get? b=some o):b∉X.fs:=λhb=>by
 have:=(ok.rD.mem hb).1
 rw[e]at this;cases this
theorem Inv.tk(I:Inv X pins σ H s):Eo X.mg s.toks:=I.ok.tk.mono I.up
theorem Inv.bs(I:Inv X pins σ H s):∀b o,X.base.get? b=some o->s.heap.get? b=some o/\H b=none:=λb o e =>
 ⟨I.base.keep b o (I.ok.bs b o e).1 (I.ok.bs b o e).2 (I.ok.Wg e) (I.ok.DP b o e),I.base.free b o (I.ok.bs b o e).1 (I.ok.bs b o e).2 (I.ok.DP b o e)⟩
theorem Inv.bk(I:Inv X pins σ H s):∀b o,X.base.get? b=some o->s.heap.get? b=some o:=λb o e=>(I.bs b o e).1
theorem Inv.mod(I:Inv X pins σ H s):Mod X.K X.mg X.base:=I.ok.mod
theorem Inv.nR(I:Inv X pins σ H s):X.K.In s.heap:=I.ok.mod.L8.keeps I.bk
theorem Inv.nolimit(I:Inv X pins σ H s):s.heap.NoLimit:=I.ok.mod.nolimit.keeps I.bk
theorem Inv.lt(I:Inv X pins σ H s):X.env.locals<s.heap.objs.size:=let ⟨_,hn,_⟩:=I.loc;hn.lt
theorem Inv.sz(I:Inv X pins σ H s):X.s₀.heap.objs.size<=s.heap.objs.size:=Nat.le_trans I.ok.above (Nat.le_of_lt I.lt)
theorem Inv.Wf(I:Inv X pins σ H s){a:Addr}(h:s.heap.objs.size<=a):a∉X.fs:=λhb=>by
 obtain⟨_,o,ho,_⟩:=I.ok.rD.mem hb
 exact absurd (Nat.lt_of_lt_of_le (Heap.lt_size ho) (Nat.le_trans I.sz h)) (Nat.lt_irrefl _)
theorem Inv.Mn(I:Inv X pins σ H s):∀x c,X.env.cells.lookup x=some c->c≠X.env.locals:=λx c e z=>by
 obtain⟨v,o,ho,hd⟩:=I.cell x c e
 obtain⟨m,⟨o',es,ep,ho',hd',_⟩,_⟩:=I.loc
 rw[z,ho']at ho;cases ho;rw[hd']at hd;cases hd
theorem Inv.rD(I:Inv X pins σ H s):s.heap.FunFrames X.base X.outer:=by
 have all:∀(l:List Env),(∀b∈frs l,b∈X.fs)->X.s₀.heap.FunFrames X.base l->s.heap.FunFrames X.base l:=by
  intro l
  induction l with
  |nil=>intro _ _;trivial
  |cons env r ih =>
   intro hs hl
   obtain⟨hk,⟨L,o,hf,hn,ho,hd⟩,hr⟩:=hl
   have hL:L∈X.fs:=hs L (by unfold frs;rw[List.filterMap_cons,hf];exact List.mem_cons_self)
   obtain⟨sl,e⟩:=I.base.slot L o ho (I.ok.Lh L hL) hL λz=>I.ok.GD L z hL
   exact⟨hk,⟨L,_,hf,hn,e,hd⟩,ih (λb hb=>hs b (by unfold frs;rw[List.filterMap_cons,hf];exact List.mem_cons_of_mem _ hb)) hr⟩
 exact all X.outer (λ_ hb=>hb) I.ok.rD
theorem Inv.stack(I:Inv X pins σ H s):s.heap.FunFrames X.base X.stack:=by
 rcases I.ok.stk with e|⟨e,hf⟩
 ·rw[e];exact I.rD
 ·rw[e]
  obtain⟨m,hn,_⟩:=I.loc
  refine .cons (by rw[I.ok.kind];decide) hf hn ?_ I.rD
  exact Heap.get?_none_of_le (Nat.le_trans I.ok.Jw I.ok.above)
theorem Inv.qN(I:Inv X pins σ H s):∀b∈frs X.stack,b∈X.env.locals::X.fs:=λb hb=>by
 rcases I.ok.stk with e|⟨e,hf⟩
 ·rw[e]at hb;exact List.mem_cons_of_mem _ hb
 ·rw[e]at hb
  unfold frs at hb
  rw[List.filterMap_cons,hf]at hb
  exact hb
theorem Inv.zC(I:Inv X pins σ H s):∀b∈frs X.stack,H b=none:=λb hb=>by
 rcases List.mem_cons.mp (I.qN b hb)with e|hb
 ·rw[e];exact I.free
 ·obtain⟨_,o,ho,_⟩:=I.ok.rD.mem hb
  exact I.base.free b o ho (I.ok.Lh b hb) λz=>I.ok.GD b z hb
theorem Inv.step{g':Array GenState}{t':Nat}{d':Drawn}{ch:List Addr}(I:Inv X pins σ H s)
  (hch:∀b∈ch,(b∈X.ex\/X.s₀.heap.objs.size<=b)/\b≠X.env.locals/\(∀x c,X.env.cells.lookup x=some c->c≠b)/\∀p∈X.pn++pins,p.1≠b)
  (keep:∀b o,b≠X.env.locals->b∉X.fs->b∉ch->s.heap.get? b=some o->H b=none->h'.get? b=some o)
  (slot:∀b o,b≠X.env.locals->b∈X.fs->b∉ch->s.heap.get? b=some o->H b=none->∃sl,h'.get? b=some { o with slots:=sl }) (free:∀b o,b∉ch->s.heap.get? b=some o->H b=none->H' b=none)
  (there:∀b o,b∉ch->s.heap.get? b=some o->∃o',h'.get? b=some o')
  (tups:∀b xs,H b=some (.tup xs)->H' b=some (.tup xs)) (rE:∀b o u,H b=some (.Eb o u)->H' b=some (.Eb o u)) (rO:∀b ps,H b=some (.LI ps)->∃more,H' b=some (.LI (ps++more)))
  (ns:∀m,s.heap.Ns X.env.locals m->h'.Ns X.env.locals m) (hok:mj X.prog X.w H' h') (hg:AllBare g') (ht:X.s₀.toks<=t') :
  Inv X pins σ H' { s with heap:=h',gens:=g',drawn:=d',toks:=t' }:=by
 have Yk:∀b o,X.s₀.heap.get? b=some o->b≠X.env.locals:=λb o e=>Nat.ne_of_lt (Nat.lt_of_lt_of_le (Heap.lt_size e) I.ok.above)
 have Tt:∀b o,X.s₀.heap.get? b=some o->b∉X.ex->b∉ch:=λb o e hx hb=>by
  rcases(hch b hb).1 with z|z
  ·exact hx z
  ·exact absurd (Nat.lt_of_lt_of_le (Heap.lt_size e) z) (Nat.lt_irrefl _)
 have cellK:∀x c,X.env.cells.lookup x=some c->∀v,s.heap.IsCell c v->h'.IsCell c v:=λx c e v ⟨o,ho,hd⟩=>by
  have L4:c∉ch:=λz=>(hch c z).2.2.1 x c e rfl
  by_cases hc:c∈X.fs
  ·obtain⟨sl,q⟩:=slot c o (I.Mn x c e) hc L4 ho (I.jV x c e)
   exact⟨_,q,hd⟩
  ·exact⟨o,keep c o (I.Mn x c e) hc L4 ho (I.jV x c e),hd⟩
 refine⟨I.ok,I.os,hg,⟨λb o e n hb hx=>?_,λb o e n hb hx=>?_,λb o e n hx=>?_,λb o e hx=>?_,λb xs e=>tups b xs (I.base.tups b xs e),λb o xs e=>rE b o xs (I.base.rE b o xs e),λb ps e=>?_⟩,?_,λx c e=>?_,?_,λx c e=>?_,λp hp=>?_,hok,I.len,ht⟩
 ·exact keep b o (Yk b o e) hb (Tt b o e hx) (I.base.keep b o e n hb hx) (I.base.free b o e n hx)
 ·obtain⟨sl,e1⟩:=I.base.slot b o e n hb hx
  obtain⟨G4,e2⟩:=slot b _ (Yk b o e) hb (Tt b o e hx) e1 (I.base.free b o e n hx)
  exact⟨G4,e2⟩
 ·obtain⟨o',e1⟩:=I.base.there b o e hx
  exact free b o' (Tt b o e hx) e1 (I.base.free b o e n hx)
 ·obtain⟨o',e1⟩:=I.base.there b o e hx
  exact there b o' (Tt b o e hx) e1
 ·obtain⟨m1,e1⟩:=I.base.rO b ps e
  obtain⟨m2,e2⟩:=rO b _ e1
  exact⟨m1++m2,by rw[e2,Array.append_assoc]⟩
 ·obtain⟨m,hn,hl⟩:=I.loc
  refine⟨m,ns m hn,λi x v e1 e2 e3=>?_⟩
  obtain⟨u,r,l⟩:=hl i x v e1 e2 e3
  refine⟨u,r,?_⟩
  rcases l with l|⟨k,c,e,z⟩
  ·exact .inl l
  ·exact .inr ⟨k,c,e,cellK x c e _ z⟩
 ·obtain⟨v,z⟩:=I.cell x c e
  exact⟨v,cellK x c e v z⟩
 ·obtain⟨m,⟨o,_,_,ho,_⟩,_⟩:=I.loc
  exact free _ o (λz=>(hch _ z).2.1 rfl) ho I.free
 ·obtain⟨v,o,ho,hd⟩:=I.cell x c e
  exact free c o (λz=>(hch c z).2.2.1 x c e rfl) ho (I.jV x c e)
 ·obtain⟨e,n,ne,nf,d⟩:=I.pin p hp
  have L4:p.1∉ch:=λz=>(hch p.1 z).2.2.2 p hp rfl
  exact⟨keep p.1 p.2 ne nf L4 e n,free p.1 p.2 L4 e n,ne,nf,d⟩
theorem Inv.un{t':Nat}(I:Inv X pins σ H s)(u:Un X.fs [] H H' s.heap h')(hok:mj X.prog X.w H' h')(ht:s.toks<=t':=by first|exact Nat.le_refl _|exact Nat.le_succ _|assumption|omega):Inv X pins σ H' { s with heap:=h',toks:=t' }:=by
 obtain⟨m,⟨o,es,ep,ho,r⟩,_⟩:=id I.loc
 obtain⟨sl,hL⟩:=u.any ho I.free (by simp)
 exact I.step (g':=s.gens) (d':=s.drawn) (ch:=[]) (λ_ z=>nomatch z) (λb o _ hb _ e n=>u.keep b o e n hb (by simp)) (λb o _ hb _ e n=>u.slot b o e n hb (by simp)) (λb o _ e n=>u.free b o e n (by simp)) (λb o _ e=>u.there b o e (by simp)) u.tups u.rE u.rO (λm' hm=>by
  obtain⟨o',es',Xz,ho',r'⟩:=hm
  rw[ho]at ho';cases ho'
  exact⟨_,es',Xz,hL,r'⟩) hok I.bare (Nat.le_trans I.up ht)
theorem Inv.call{g':Array GenState}{t':Nat}{d':Drawn}{ch:List Addr}(I:Inv X pins σ H s)(u:Un (frs X.stack) ch H H' s.heap h')(hok:mj X.prog X.w H' h')(hg:AllBare g')
  (hch:∀b∈ch,(b∈X.ex\/X.s₀.heap.objs.size<=b)/\b≠X.env.locals/\(∀x c,X.env.cells.lookup x=some c->c≠b)/\∀p∈X.pn++pins,p.1≠b) (ht:X.s₀.toks<=t') :
  Inv X pins σ H' { s with heap:=h',gens:=g',drawn:=d',toks:=t' }:=by
 obtain⟨m,⟨o,es,ep,ho,r⟩,_⟩:=id I.loc
 obtain⟨sl,hL⟩:=u.any ho I.free λz=>(hch _ z).2.1 rfl
 exact I.step (ch:=ch) hch (λb o hL hb hc e n=>u.keep b o e n (λz=>(List.mem_cons.mp (I.qN b z)).elim hL hb) hc) (λb o _ _ hc e n=>u.any e n hc) (λb o hc e n=>u.free b o e n hc) (λb o hc e=>u.there b o e hc) u.tups u.rE u.rO (λm' hm=>by
  obtain⟨o',es',Xz,ho',r'⟩:=hm
  rw[ho]at ho';cases ho'
  exact⟨_,es',Xz,hL,r'⟩) hok hg ht
theorem Inv.turned{t':Nat}{it:Addr}(I:Inv X pins σ H s)(k:∀b o,b≠it->s.heap.get? b=some o->h'.get? b=some o)(hn:H it=none)(hL:it≠X.env.locals)
  (h1:it∈X.ex\/X.s₀.heap.objs.size<=it) (h2:∀x c,X.env.cells.lookup x=some c->c≠it) (h3:∀p∈X.pn++pins,p.1≠it) (ht:s.toks<=t':=by first|exact Nat.le_refl _|exact Nat.le_succ _|assumption|omega):Inv X pins σ H { s with heap:=h',toks:=t' }:=by
 have Yj:∀b u,H b=some u->b≠it:=λb u e z=>by rw[z,hn]at e;cases e
 refine I.step (g':=s.gens) (d':=s.drawn) (ch:=[it]) (λb hb=>?_) (λb o _ _ hc e _=>k b o (λz=>hc (by simp[z])) e) (λb o _ _ hc e _=>⟨o.slots,k b o (λz=>hc (by simp[z])) e⟩) (λ_ _ _ _ n=>n)
  (λb o hc e=>⟨o,k b o (λz=>hc (by simp[z])) e⟩) (λ_ _ e=>e) (λ_ _ _ e=>e) (λb ps e=>⟨#[],by rw[e];simp⟩) (λm hm=>?_) (λb u e=>?_) I.bare (Nat.le_trans I.up ht)
 ·have e:b=it:=by simpa using hb
  subst e
  exact⟨h1,hL,h2,h3⟩
 ·obtain⟨o,es,ep,ho,r⟩:=hm
  exact⟨o,es,ep,k _ o (Ne.symm hL) ho,r⟩
 ·refine(I.hok b u e).stay (λc v hc q=>k c v ?_ q) (λ_ q=>q) λ_ _ q=>q
  rcases hc with z|z
  ·rw[z];exact Yj b u e
  ·exact Yj c _ z
theorem Inv.tok(I:Inv X pins σ H s)(t':Nat)(ht:s.toks<=t':=by first|exact Nat.le_refl _|exact Nat.le_succ _|assumption|omega):Inv X pins σ H { s with toks:=t' }:=I.un (h':=s.heap) (t':=t') Un.refl I.hok ht
theorem Inv.kept{t':Nat}(I:Inv X pins σ H s)(k:∀b u,s.heap.get? b=some u->h'.get? b=some u)(ht:s.toks<=t':=by first|exact Nat.le_refl _|exact Nat.le_succ _|assumption|omega):Inv X pins σ H { s with heap:=h',toks:=t' }:=I.un (Un.kept k) (I.hok.kept k) ht
theorem Inv.laid{a:Addr}{o:HO}{t':Nat}(I:Inv X pins σ H s)(k:∀b u,s.heap.get? b=some u->h'.get? b=some u)(hp:s.heap.objs.size<=a)(new:bM X.prog X.w (upd H a o) h' a o)(ht:s.toks<=t':=by first|exact Nat.le_refl _|exact Nat.le_succ _|assumption|omega):
  Inv X pins σ (upd H a o) { s with heap:=h',toks:=t' }:=I.un (Un.laid k hp (I.hok.fresh hp)) (I.hok.laid k hp new) ht
theorem Inv.write{x e:Addr}{o:HO}{t':Nat}(I:Inv X pins σ H s)(mu:SR (H x))(he:e=x\/H e=some (.own x))(k:∀b u,b≠e->s.heap.get? b=some u->h'.get? b=some u)(Qd:∃u,h'.get? e=some u)
  (new:bM X.prog X.w (upd H x o) h' x o) (ht:s.toks<=t':=by first|exact Nat.le_refl _|exact Nat.le_succ _|assumption|omega):Inv X pins σ (upd H x o) { s with heap:=h',toks:=t' }:=I.un (Un.write mu he k Qd) (I.hok.write mu he k Qd new) ht
theorem Inv.weak{σ':List (Option V)}(I:Inv X pins σ H s)(hl:σ'.length=σ.length)(w:∀(i:Nat) v,σ'[i]? =some (some v)->σ[i]? =some (some v)):Inv X pins σ' H s :=
 ⟨I.ok,I.os,I.bare,I.base,let ⟨m,hn,hl'⟩:=I.loc;⟨m,hn,λi x v e1 e2 e3=>hl' i x v e1 (w i v e2) e3⟩,I.cell,I.free,I.jV,I.pin,I.hok,hl.trans I.len,I.up⟩
theorem Inv.zO{LV:List (Addr×Obj)}(I:Inv X pins σ H s)(h:∀p∈LV,s.heap.get? p.1=some p.2/\H p.1=none/\p.1≠X.env.locals/\p.1∉X.fs/\∀v,p.2.data≠ .cell v):Inv X LV σ H s :=
 ⟨I.ok,I.os,I.bare,I.base,I.loc,I.cell,I.free,I.jV,λp hp=>(List.mem_append.mp hp).elim (λz=>I.pin p (List.mem_append_left _ z)) (h p),I.hok,I.len,I.up⟩
theorem wk{N:List Str}(hN:N.Nodup){i j:Nat}{x:Str}(a:N[i]? =some x)(b:N[j]? =some x):i=j:=by
 obtain⟨h1,e1⟩:=List.getElem?_eq_some_iff.mp a
 obtain⟨h2,e2⟩:=List.getElem?_eq_some_iff.mp b
 exact(List.getElem_inj hN).mp (e1.trans e2.symm)
theorem tG{M:Model}{A:Around}{E:Value->Shared->Prop}{i:Nat}{x:Str}{v:V}{u:Value}{Q:Unit->Shared->Prop}(I:Inv X pins σ H s)(hN:X.N.Nodup)(hi:X.N[i]? =some x)(hx:Loc X.env.scope x)(r:RelV v u)
  (h:∀s',Inv X pins (σ.set i (some v)) H s'->(∃a,Heap.SameBut a s.heap s'.heap/\(a=X.env.locals\/X.env.cells.lookup x=some a))->Q () s') (hf:X.fn x=true\/X.env.scope.names.lookup x=some .local:=by first|exact .inl rfl|exact .inr rfl|assumption):wpAny M A (storeName X.env x u) Q E s:=by
 obtain⟨m,hn,hl⟩:=id I.loc
 have hcls:(X.env.scope.kind== .class||(X.env.scope.kind== .module&&X.env.locals != X.env.globals))=false:=by rw[I.ok.kind];rfl
 have Sd:i<σ.length:=by rw[I.len];exact(List.getElem?_eq_some_iff.mp hi).1
 have Mn:=I.Mn
 have tracked:∀{a:Addr} {h':Heap},(∃o,s.heap.get? a=some o/\H a=none)->Heap.SameBut a s.heap h'->mj X.prog X.w H h':=λ{a h'} ha hs b ob e=>by
  obtain⟨_,_,hfree⟩:=ha
  refine(I.hok b ob e).stay (λc w' hc q=>(hs.2 c ?_).trans q) (λ_ q=>q) λ_ _ q=>q
  rintro rfl
  rcases hc with rfl|hc
  ·rw[hfree]at e;cases e
  ·rw[hfree]at hc;cases hc
 rcases hx with hk|hk
 ·refine wpAny_storeName_local hk hn (λh' hn' hs=>?_) hcls
  obtain⟨oL,_,_,hoL,_⟩:=id hn
  refine h _ ⟨I.ok,I.os,I.bare,⟨λb o e n hb hx=>?_,λb o e n hb hx=>?_,I.base.free,λb o e hx=>?_,I.base.tups,I.base.rE,I.base.rO⟩,⟨_,hn',λj y v' e1 e2 e3=>?_⟩,λy c e=>?_,I.free,I.jV,λp hp=>?_,tracked ⟨oL,hoL,I.free⟩ hs,by simpa using I.len,Nat.le_trans I.up (by first|exact Nat.le_refl _|exact Nat.le_succ _|exact Nat.le_add_right _ _)⟩ ⟨_,hs,.inl rfl⟩
  ·exact(hs.2 b (Nat.ne_of_lt (Nat.lt_of_lt_of_le (Heap.lt_size e) I.ok.above))).trans (I.base.keep b o e n hb hx)
  ·obtain⟨sl,e1⟩:=I.base.slot b o e n hb hx
   exact⟨sl,(hs.2 b (Nat.ne_of_lt (Nat.lt_of_lt_of_le (Heap.lt_size e) I.ok.above))).trans e1⟩
  ·obtain⟨o',e1⟩:=I.base.there b o e hx
   exact⟨o',(hs.2 b (Nat.ne_of_lt (Nat.lt_of_lt_of_le (Heap.lt_size e) I.ok.above))).trans e1⟩
  ·by_cases hj:j=i
   ·subst hj
    rw[hi]at e1;cases e1
    rw[List.getElem?_set_self Sd]at e2
    cases e2
    exact⟨u,r,.inl ⟨hk,by simp⟩⟩
   ·rw[List.getElem?_set_ne (Ne.symm hj)]at e2
    obtain⟨u',r',q⟩:=hl j y v' e1 e2 e3
    refine⟨u',r',?_⟩
    rcases q with⟨k,e⟩|⟨k,c,e,z⟩
    ·refine .inl ⟨k,?_⟩
     have:y≠x:=λe=>hj (wk hN e1 (e▸hi))
     simp[this,e]
    ·exact .inr ⟨k,c,e,z.sameBut hs (Mn y c e)⟩
  ·obtain⟨w',z⟩:=I.cell y c e
   exact⟨w',z.sameBut hs (Mn y c e)⟩
  ·obtain⟨e,n,ne,nf,d⟩:=I.pin p hp
   exact⟨(hs.2 p.1 ne).trans e,n,ne,nf,d⟩
 ·have hfn:X.fn x=true:=by
   rcases hf with z|z
   ·exact z
   ·rw[z]at hk;cases hk
  obtain⟨c,hc⟩:=I.ok.has x (.inl hk)
  obtain⟨w',z⟩:=I.cell x c hc
  refine wpAny_storeName_cell I.ok.kind hk hc z (λh' hc' hs=>?_)
  obtain⟨oc,hoc,WO⟩:=id z
  refine h { s with heap:=h' } ⟨I.ok,I.os,I.bare,⟨λb o e n hb hx=>?_,λb o e n hb hx=>?_,I.base.free,λb o e hx=>?_,I.base.tups,I.base.rE,I.base.rO⟩,⟨m,hn.sameBut hs (Ne.symm (Mn x c hc)),λj y v' e1 e2 e3=>?_⟩,λy c' e=>?_,I.free,I.jV,λp hp=>?_,tracked ⟨oc,hoc,I.jV x c hc⟩ hs,by simpa using I.len,I.up⟩ ⟨c,hs,.inr hc⟩
  ·exact(hs.2 b (Nat.ne_of_lt (Nat.lt_of_lt_of_le (Heap.lt_size e) (I.ok.Lr x c hfn hc)))).trans (I.base.keep b o e n hb hx)
  ·obtain⟨sl,e1⟩:=I.base.slot b o e n hb hx
   exact⟨sl,(hs.2 b (Nat.ne_of_lt (Nat.lt_of_lt_of_le (Heap.lt_size e) (I.ok.Lr x c hfn hc)))).trans e1⟩
  ·obtain⟨o',e1⟩:=I.base.there b o e hx
   exact⟨o',(hs.2 b (Nat.ne_of_lt (Nat.lt_of_lt_of_le (Heap.lt_size e) (I.ok.Lr x c hfn hc)))).trans e1⟩
  ·by_cases hj:j=i
   ·subst hj
    rw[hi]at e1;cases e1
    rw[List.getElem?_set_self Sd]at e2
    cases e2
    exact⟨u,r,.inr ⟨.inl hk,c,hc,hc'⟩⟩
   ·rw[List.getElem?_set_ne (Ne.symm hj)]at e2
    obtain⟨u',r',q⟩:=hl j y v' e1 e2 e3
    refine⟨u',r',?_⟩
    rcases q with q|⟨k,c',e,z'⟩
    ·exact .inl q
    ·refine .inr ⟨k,c',e,z'.sameBut hs ?_⟩
     rintro rfl
     exact hj (wk hN e1 (I.ok.inj _ _ _ e hc▸hi))
  ·by_cases hcc:c'=c
   ·subst hcc;exact⟨_,hc'⟩
   ·obtain⟨w2,z2⟩:=I.cell y c' e
    exact⟨w2,z2.sameBut hs hcc⟩
  ·obtain⟨e,n,ne,nf,d⟩:=I.pin p hp
   refine⟨(hs.2 p.1 ?_).trans e,n,ne,nf,d⟩
   intro q
   rw[q,hoc]at e
   have q':oc=p.2:=Option.some.inj e
   exact d w' (by rw[←q'];exact WO)
theorem oW{M:Model}{A:Around}{E:Value->Shared->Prop}{i:Nat}{x:Str}{v:V}{u:Value}{Q:Unit->Shared->Prop}(I:Inv X pins σ H s)(hN:X.N.Nodup)(hi:X.N[i]? =some x)(hx:Loc X.env.scope x)(r:RelV v u)
  (h:∀s',Inv X pins (σ.set i (some v)) H s'->Q () s') (hf:X.fn x=true\/X.env.scope.names.lookup x=some .local:=by first|exact .inl rfl|exact .inr rfl|assumption):wpAny M A (storeName X.env x u) Q E s :=
 tG I hN hi hx r (λs' I' _=>h s' I') hf
theorem Inv.Jv{s':Shared}{ch:List Addr}(I:Inv X pins σ H s)(ho:s'.os=s.os)(u:Un (frs X.stack) ch H H' s.heap s'.heap)(hok:mj X.prog X.w H' s'.heap)(hg:AllBare s'.gens)
  (hch:∀b∈ch,(b∈X.ex\/X.s₀.heap.objs.size<=b)/\b≠X.env.locals/\(∀x c,X.env.cells.lookup x=some c->c≠b)/\∀p∈X.pn++pins,p.1≠b) (ht:X.s₀.toks<=s'.toks):Inv X pins σ H' s':=by
 obtain⟨h',g',d',t',o'⟩:=s'
 have e:o'=s.os:=ho
 subst e
 exact I.call (g':=g') (t':=t') (d':=d') u hok hg hch ht
end
abbrev XK:=Value->Option Addr->Hp->Prop
abbrev St:=List (Option V)
abbrev VK:=V->Hp->Prop
abbrev TE:=St->Hp->VK->Prop
abbrev TT:=St->Hp->(Bool->Hp->Prop)->Prop
abbrev TA:=St->Hp->(List V->Hp->Prop)->Prop
structure Ends where
 nx:St->Hp->Prop
 rt:VK
 bk:St->Hp->Prop:=λ_ _=>False
 ct:St->Hp->Prop:=λ_ _=>False
abbrev TS:=Ends->St->Hp->Prop
def EP(X:Cx)(pins:List (Addr×Obj))(σ:St)(Q:VK)(u:Value)(s':Shared):Prop:=∃v H',Inv X pins σ H' s'/\RelV v u/\Q v H'
def TP(X:Cx)(pins:List (Addr×Obj))(σ:St)(Q:Bool->Hp->Prop)(b:Bool)(s':Shared):Prop:=∃H',Inv X pins σ H' s'/\Q b H'
def AP(X:Cx)(pins:List (Addr×Obj))(σ:St)(Q:List V->Hp->Prop)(us:List Value)(s':Shared):Prop:=∃vs H',Inv X pins σ H' s'/\Vals vs us/\Q vs H'
def SP(X:Cx)(pins:List (Addr×Obj))(D:Ends)(f:Flow)(s':Shared):Prop :=
 match f with
 | .next=>∃ σ' H',Inv X pins σ' H' s'/\D.nx σ' H'
 | .brk=>∃ σ' H',Inv X pins σ' H' s'/\D.bk σ' H'
 | .cont=>∃ σ' H',Inv X pins σ' H' s'/\D.ct σ' H'
 | .ret u=>∃v σ' H',Inv X pins σ' H' s'/\RelV v u/\D.rt v H'
def PE(X:Cx)(e:Expr)(t:TE):Prop :=
 ∀(pins:List (Addr×Obj)) (s:Shared) (σ:St) (H:Hp) (Q:VK),Inv X pins σ H s->t σ H Q->wpAny (model X.prog X.w) X.A (eval e X.env) (EP X pins σ Q) X.xe s
def PT(X:Cx)(e:Expr)(t:TT):Prop :=
 ∀(pins:List (Addr×Obj)) (s:Shared) (σ:St) (H:Hp) (Q:Bool->Hp->Prop),Inv X pins σ H s->t σ H Q->wpAny (model X.prog X.w) X.A (isTrue e X.env (eval e X.env)) (TP X pins σ Q) X.xe s
def PW(X:Cx)(e:Expr)(t:TT):Prop :=
 ∀(whole:Sem Value) (pins:List (Addr×Obj)) (s:Shared) (σ:St) (H:Hp) (Q:Bool->Hp->Prop),Inv X pins σ H s->t σ H Q->wpAny (model X.prog X.w) X.A (isTrue e X.env whole) (TP X pins σ Q) X.xe s
theorem PW.pt{X:Cx}{e:Expr}{t:TT}(h:PW X e t):PT X e t:=h _
def PA(X:Cx)(es:List Expr)(t:TA):Prop :=
 ∀(pos:Pos) (pins:List (Addr×Obj)) (s:Shared) (σ:St) (H:Hp) (Q:List V->Hp->Prop),Inv X pins σ H s->t σ H Q->wpAny (model X.prog X.w) X.A (spliced (backTo pos (starEach es X.env))) (AP X pins σ Q) X.xe s
def PS(X:Cx)(st:Stmt)(t:TS):Prop :=
 ∀(pins:List (Addr×Obj)) (s:Shared) (σ:St) (H:Hp) (D:Ends),Inv X pins σ H s->t D σ H->wpAny (model X.prog X.w) X.A (exec st X.env) (SP X pins D) X.xe s
def zu(X:Cx)(st:List Stmt)(t:TS):Prop :=
 ∀(pins:List (Addr×Obj)) (s:Shared) (σ:St) (H:Hp) (D:Ends),Inv X pins σ H s->t D σ H->wpAny (model X.prog X.w) X.A (execs st X.env) (SP X pins D) X.xe s
theorem dJ{α:Type}{t:Sem α}{Q Q':α->Shared->Prop}{M:Model}{A:Around}{E:Value->Shared->Prop}{s:Shared}(h:wpAny M A t Q E s)(hQ:∀a s,Q a s->Q' a s):wpAny M A t Q' E s:=wpAny_mono h hQ λ_ _ x=>x
end L2
namespace L2
open PySem PySem.Spec PyProof.Rows
section
variable{X:Cx}
def Qt(i:Nat):TE:=λσ H Q=>∃v,σ[i]? =some (some v)/\Q v H
def tC(v:V):TE:=λ_ H Q=>Q v H
theorem Ou {i:Nat} {x:Str} {pos:Pos} (hN:X.N[i]? =some x) (hv:T7 X.env.scope x) (hd:(x==("__debug__" :Str))=false:=by decide) (hcd:(x==("__classdict__" :Str))=false:=by decide):PE X (.Name x pos) (Qt i):=by
 intro pins s σ H Q I h
 obtain⟨v,e,h⟩:=h
 obtain⟨m,hn,hl⟩:=I.loc
 obtain⟨u,r,l⟩:=hl i x v hN e hv
 have fin:EP X pins σ Q u s:=⟨v,H,I,r,h⟩
 rcases l with⟨hk,hm⟩|⟨hk,c,hc,hcell⟩
 ·exact wpAny_Name (wpAny_loadName_local I.ok.kind hk hn hm fin) hd
 ·rcases hk with hk|hk
  ·exact wpAny_Name (wpAny_loadName_cell I.ok.kind hk hc hcell fin) hd
  ·exact wpAny_Name (wpAny_loadName_free I.ok.kind hk hc hcell fin hcd) hd
theorem ai{i j pos}:PE X (.Constant (.int i) j pos) (tC (.int i)):=λ_ _ _ H _ I h=>wpAny_Constant_int ⟨.int i,H,I.tok _,⟨_,rfl⟩,h⟩
theorem nL{b j pos}:PE X (.Constant (.bool b) j pos) (tC (.bl b)):=λ_ _ _ H _ I h=>Constant_bool ⟨.bl b,H,I,rfl,h⟩
theorem tO{j pos}:PE X (.Constant .none j pos) (tC .i9):=λ_ _ _ H _ I h=>Constant_none ⟨.i9,H,I,rfl,h⟩
theorem br{x j pos}:PE X (.Constant (.str x) j pos) (tC (.str x)):=λ_ _ _ H _ I h=>Calls.Constant_str ⟨.str x,H,I.tok _,⟨_,rfl⟩,h⟩
def Gl(X:Cx)(x:Str):Prop:=X.env.kindOf x=some .globalImplicit
theorem m7{E:Value->Shared->Prop}{pins:List (Addr×Obj)}{s:Shared}{σ:St}{H:Hp}{x:Str}{u:Value}{pos:Pos}{Q:Value->Shared->Prop}(I:Inv X pins σ H s)(hg:Gl X x)(hm:X.mg x=some u)(h:Q u s)
  (hd:(x==("__debug__" :Str))=false:=by decide):wpAny (model X.prog X.w) X.A (eval (.Name x pos) X.env) Q E s :=
 Calls.Name_function_global I.ok.kind hg (Calls.loadGlobal_global (by rw[I.ok.glob];exact I.mod.glob.keeps I.bk) hm h) hd
theorem pH{E:Value->Shared->Prop}{pins:List (Addr×Obj)}{s:Shared}{σ:St}{H:Hp}{x:Str}{u:Value}{pos:Pos}{Q:Value->Shared->Prop}(I:Inv X pins σ H s)(hg:Gl X x)(hm:X.mg x=none)(hv:bootBuiltins x=some u)(h:Q u s)
  (hn:x≠ "__name__" :=by decide) (hd:(x==("__debug__" :Str))=false:=by decide):wpAny (model X.prog X.w) X.A (eval (.Name x pos) X.env) Q E s:=by
 obtain⟨mb,h1,h2⟩:=I.mod.blt
 exact Calls.Name_function_global I.ok.kind hg (Calls.loadGlobal_builtin (by rw[I.ok.glob];exact I.mod.glob.keeps I.bk) hm (by rw[I.ok.blt];exact h1.keeps I.bk) ((h2 x hn).trans hv) h) hd
theorem fH {x:Str} {v:V} {u:Value} {pos:Pos} (hg:Gl X x) (hm:X.mg x=some u) (r:RelV v u) (hd:(x==("__debug__" :Str))=false:=by decide):PE X (.Name x pos) (tC v) :=
 λ_ _ _ H _ I h=>m7 I hg hm ⟨v,H,I,r,h⟩ hd
theorem dD {x:Str} {v:V} {u:Value} {pos:Pos} (hg:Gl X x) (hm:X.mg x=none) (hv:bootBuiltins x=some u) (r:RelV v u) (hn:x≠ "__name__" :=by decide) (hd:(x==("__debug__" :Str))=false:=by decide):PE X (.Name x pos) (tC v) :=
 λ_ _ _ H _ I h=>pH I hg hm hv ⟨v,H,I,r,h⟩ hn hd
variable{a b:Expr}{ta tb:TE}{pos:Pos}
def tB(t:TE):TT:=λσ H Q=>t σ H λx H1=>∃c,x= .bl c/\Q c H1
theorem fL{e:Expr}{t:TE}(h:PE X e t)(he:∀whole,isTrue e X.env whole=(do let v ←whole;standAt e.pos;holding [v] (truthy v)):=by intro _;rfl):PT X e (tB t):=by
 intro pins s σ H Q I hw
 refine isTrue_plain (dJ (h pins s σ H _ I hw) λv s1 ⟨x,H1,I1,r1,q1⟩=>?_) (he _)
 obtain⟨d,rfl,q⟩:=q1
 cases r1
 exact wpAny_truthy_bool ⟨H1,I1,q⟩
variable{tA Th:TT}{rest:List Expr}
def VO(t u:TT):TT:=λσ H Q=>t σ H λc H1=>if c=true then u σ H1 Q else Q false H1
def Zn(t u:TT):TT:=λσ H Q=>t σ H λc H1=>if c=true then Q true H1 else u σ H1 Q
def VH(t:TT):TT:=λσ H Q=>t σ H λc H1=>Q (!c) H1
theorem rT(ha:PT X a tA):PW X (.BoolOp .And [a] pos) tA:=by
 intro wh pins s σ H Q I h
 refine isTrue_and (dJ (ha pins s σ H Q I h) λc s1 e=>?_)
 cases c with
 |true=>exact isTrue_and_nil e
 |false=>exact e
theorem qS(ha:PT X a tA):PW X (.BoolOp .Or [a] pos) tA:=by
 intro wh pins s σ H Q I h
 refine isTrue_or (dJ (ha pins s σ H Q I h) λc s1 e=>?_)
 cases c with
 |false=>exact isTrue_or_nil e
 |true=>exact e
theorem tN(ha:PT X a tA)(hb:PW X (.BoolOp .And (b::rest) pos) Th):PW X (.BoolOp .And (a::b::rest) pos) (VO tA Th):=by
 intro wh pins s σ H Q I h
 refine isTrue_and (dJ (ha pins s σ H _ I h) λc s1 ⟨H1,I1,q1⟩=>?_)
 cases c with
 |true=>exact hb wh pins s1 σ H1 Q I1 q1
 |false=>exact⟨H1,I1,q1⟩
theorem uu(ha:PT X a tA)(hb:PW X (.BoolOp .Or (b::rest) pos) Th):PW X (.BoolOp .Or (a::b::rest) pos) (Zn tA Th):=by
 intro wh pins s σ H Q I h
 refine isTrue_or (dJ (ha pins s σ H _ I h) λc s1 ⟨H1,I1,q1⟩=>?_)
 cases c with
 |true=>exact⟨H1,I1,q1⟩
 |false=>exact hb wh pins s1 σ H1 Q I1 q1
theorem j5(ha:PT X a tA):PT X (.UnaryOp .Not a pos) (VH tA):=by
 intro pins s σ H Q I h
 exact isTrue_not (ha pins s σ H (λc H1=>Q (!c) H1) I h)
def QH(ta tb:TE):TE:=λσ H Q=>ta σ H λx H1=>∃c,x= .bl c/\if c=true then tb σ H1 Q else Q (.bl false) H1
def VG(ta tb:TE):TE:=λσ H Q=>ta σ H λx H1=>∃c,x= .bl c/\if c=true then Q (.bl true) H1 else tb σ H1 Q
def Qv(ta:TE):TE:=λσ H Q=>ta σ H λx H1=>∃c,x= .bl c/\Q (.bl (!c)) H1
theorem jN{op}{t:TE}(h:PE X a t):PE X (.BoolOp op [a] pos) t:=λpins s σ H Q I hw=>BoolOp_one (h pins s σ H Q I hw)
theorem jP(ha:PE X a ta)(hb:PE X (.BoolOp .And (b::rest) pos) tb):PE X (.BoolOp .And (a::b::rest) pos) (QH ta tb):=by
 intro pins s σ H Q I h
 refine BoolOp_and (dJ (ha pins s σ H _ I h) λv s1 ⟨x,H1,I1,r1,q1⟩=>?_)
 obtain⟨c,rfl,q1⟩:=q1
 cases r1
 refine wpAny_truthy_bool ?_
 cases c with
 |true=>exact hb pins s1 σ H1 Q I1 q1
 |false=>exact⟨.bl false,H1,I1,rfl,q1⟩
theorem LY(ha:PE X a ta)(hb:PE X (.BoolOp .Or (b::rest) pos) tb):PE X (.BoolOp .Or (a::b::rest) pos) (VG ta tb):=by
 intro pins s σ H Q I h
 refine BoolOp_or (dJ (ha pins s σ H _ I h) λv s1 ⟨x,H1,I1,r1,q1⟩=>?_)
 obtain⟨c,rfl,q1⟩:=q1
 cases r1
 refine wpAny_truthy_bool ?_
 cases c with
 |false=>exact hb pins s1 σ H1 Q I1 q1
 |true=>exact⟨.bl true,H1,I1,rfl,q1⟩
theorem Ie(ha:PE X a ta):PE X (.UnaryOp .Not a pos) (Qv ta):=by
 intro pins s σ H Q I h
 refine UnaryOp_ (dJ (ha pins s σ H _ I h) λv s1 ⟨x,H1,I1,r1,q1⟩=>?_)
 obtain⟨c,rfl,q1⟩:=q1
 cases r1
 exact not_of (wpAny_truthy_bool ⟨.bl (!c),H1,I1,rfl,q1⟩)
def Zo(t:TT)(ta tb:TE):TE:=λσ H Q=>t σ H λc H1=>if c=true then ta σ H1 Q else tb σ H1 Q
theorem o9{c:Expr}(hc:PT X c tA)(ha:PE X a ta)(hb:PE X b tb):PE X (.IfExp c a b pos) (Zo tA ta tb):=by
 intro pins s σ H Q I h
 refine wpAny_IfExp (dJ (hc pins s σ H _ I h) λd s1 ⟨H1,I1,q1⟩=>?_)
 cases d with
 |true=>exact ha pins s1 σ H1 Q I1 q1
 |false=>exact hb pins s1 σ H1 Q I1 q1
end
end L2
namespace L2
open PySem PySem.Spec PyProof.Rows
def cS(K:PySem.W.Frag)(H:Hp)(a:Addr)(xs:List V):Prop :=
 Rd H a (.lst xs) ∨
  ∃(o:Obj) (its:Array Value) (n:Nat),K.lookup a=some o/\o.cls= .type "list" /\o.dict=none/\o.data= .seq its n/\its.size<=sizeLine/\Vals xs its.toList
def cT(K:PySem.W.Frag)(H:Hp)(a:Addr)(xs:List V):Prop :=
 Rd H a (.tup xs) ∨
  ∃(o:Obj) (its:Array Value) (n:Nat),K.lookup a=some o/\o.cls= .type "tuple" /\o.data= .seq its n/\its.size<=sizeLine/\Vals xs its.toList
def XM:Value->Option V
 | .none=>some .i9
 | .bool b=>some (.bl b)
 | .int i _=>some (.int i)
 | .str x _=>some (.str x)
 | .bytes b _=>some (.Fz b)
 | .float b _=>some (.Pd b)
 | .ref a=>some (.ref a)
 | .type n=>some (.ty n)
 |_=>none
theorem RelV.abs{x:V}{u:Value}(r:RelV x u):XM u=some x:=by
 cases x with
 |i9=>cases r;rfl
 |bl _=>cases r;rfl
 |int _=>obtain⟨t,rfl⟩:=r;rfl
 |str _=>obtain⟨t,rfl⟩:=r;rfl
 |Fz _=>obtain⟨t,rfl⟩:=r;rfl
 |Pd _=>obtain⟨t,rfl⟩:=r;rfl
 |ref _=>cases r;rfl
 |ty _=>cases r;rfl
theorem RelV.inj{x y:V}{u:Value}(r:RelV x u)(q:RelV y u):x=y:=Option.some.inj (r.abs.symm.trans q.abs)
theorem Vals.inj:∀{xs ys:List V} {us:List Value},Vals xs us->Vals ys us->xs=ys
 |_,_,_,.nil,.nil=>rfl
 |_,_,_,.cons r t,.cons r' t'=>by rw[r.inj r',Vals.inj t t']
section
variable{X:Cx}{pins:List (Addr×Obj)}{σ:St}{H:Hp}{s:Shared}{a:Addr}{xs ys:List V}
theorem cS.of{K:PySem.W.Frag}(h:H a=some (.lst xs)):cS K H a xs:=.inl (.inl h)
theorem cT.of{K:PySem.W.Frag}(h:H a=some (.tup xs)):cT K H a xs:=.inl (.inl h)
theorem Inv.list(I:Inv X pins σ H s)(h:cS X.K H a xs):∃its:List Value,Vals xs its/\PlainL s.heap a its.toArray/\xs.length<=sizeLine:=by
 rcases h with h|⟨o,its,n,hk,hc,hd,hs,hz,r⟩
 ·obtain⟨z,its,n,r,e⟩:=h.ok I.hok
  exact⟨its,r,⟨_,n,e,rfl,rfl,rfl⟩,z⟩
 ·refine⟨its.toList,r,⟨o,n,I.nR a o hk,hc,hd,by simpa using hs⟩,?_⟩
  have e:=r.length
  simp only[Array.length_toList]at e
  omega
theorem Inv.tuple(I:Inv X pins σ H s)(h:cT X.K H a xs):∃its:List Value,Vals xs its/\IsTup s.heap a its.toArray/\xs.length<=sizeLine:=by
 rcases h with h|⟨o,its,n,hk,hc,hs,hz,r⟩
 ·obtain⟨z,its,r,p⟩:=h.ok I.hok
  exact⟨its,r,p,z⟩
 ·refine⟨its.toList,r,⟨o,I.nR a o hk,hc,n,by simpa using hs⟩,?_⟩
  have e:=r.length
  simp only[Array.length_toList]at e
  omega
theorem Inv.wH(I:Inv X pins σ H s)(h:cS X.K H a xs)(h':cS X.K H a ys):xs=ys:=by
 obtain⟨its,r,⟨o,n,e,_,_,d⟩,_⟩:=I.list h
 obtain⟨its',r',⟨o',n',e',_,_,d'⟩,_⟩:=I.list h'
 rw[e]at e';cases e'
 rw[d]at d'
 injection d' with d1 _
 have:its=its':=by simpa using congrArg Array.toList d1
 subst this
 exact r.inj r'
theorem Inv.yH(I:Inv X pins σ H s)(h:cT X.K H a xs)(h':cT X.K H a ys):xs=ys:=by
 obtain⟨its,r,⟨o,e,_,n,d⟩,_⟩:=I.tuple h
 obtain⟨its',r',⟨o',e',_,n',d'⟩,_⟩:=I.tuple h'
 rw[e]at e';cases e'
 rw[d]at d'
 injection d' with d1 _
 have:its=its':=by simpa using congrArg Array.toList d1
 subst this
 exact r.inj r'
end
abbrev Cx.xJ(X:Cx)(E:Value->Shared->Prop):Cx:={ X with xe:=E }
abbrev Cx.OA(X:Cx):Cx:=X.xJ λ_ _=>False
theorem Cx.Ok.xJ{X:Cx}(ok:X.Ok)(E:Value->Shared->Prop):(X.xJ E).Ok :=
 ⟨ok.mod,ok.kind,ok.glob,ok.blt,ok.above,ok.inj,ok.has,ok.Lr,ok.hd,ok.frames,ok.stk,ok.T4,ok.bs,ok.Jw,ok.DP,ok.GD,ok.rD,ok.Lh,ok.tk⟩
theorem Cx.Ok.oV{X:Cx}{E:Value->Shared->Prop}(ok:(X.xJ E).Ok):X.Ok :=
 ⟨ok.mod,ok.kind,ok.glob,ok.blt,ok.above,ok.inj,ok.has,ok.Lr,ok.hd,ok.frames,ok.stk,ok.T4,ok.bs,ok.Jw,ok.DP,ok.GD,ok.rD,ok.Lh,ok.tk⟩
section
variable{X:Cx}{pins:List (Addr×Obj)}{σ:St}{H:Hp}{s:Shared}{E:Value->Shared->Prop}
theorem Inv.xJ(I:Inv X pins σ H s)(E:Value->Shared->Prop):Inv (X.xJ E) pins σ H s:=⟨I.ok.xJ E,I.os,I.bare,I.base,I.loc,I.cell,I.free,I.jV,I.pin,I.hok,I.len,I.up⟩
theorem Inv.oV(I:Inv (X.xJ E) pins σ H s):Inv X pins σ H s:=⟨I.ok.oV,I.os,I.bare,I.base,I.loc,I.cell,I.free,I.jV,I.pin,I.hok,I.len,I.up⟩
theorem SP.oV{D:Ends}{f:Flow}{s':Shared}(h:SP (X.xJ E) pins D f s'):SP X pins D f s':=by
 cases f with
 |next=>obtain⟨σ',H',I,q⟩:=h;exact⟨σ',H',I.oV,q⟩
 |brk=>obtain⟨σ',H',I,q⟩:=h;exact⟨σ',H',I.oV,q⟩
 |cont=>obtain⟨σ',H',I,q⟩:=h;exact⟨σ',H',I.oV,q⟩
 |ret u=>obtain⟨v,σ',H',I,r,q⟩:=h;exact⟨v,σ',H',I.oV,r,q⟩
theorem zu.OA{st:List Stmt}{t:TS}(h:zu X.OA st t):zu X st t:=λpins s σ H D I hw =>
 wpAny_mono (h pins s σ H D (I.xJ _) hw) (λ_ _ q=>q.oV) λ_ _ z=>False.elim z
end
section
variable{X:Cx}{st:Stmt}{rest:List Stmt}{t u:TS}{e:Expr}{te:TE}{pos:Pos}
def Qw:TS:=λD σ H=>D.nx σ H
def VD(t u:TS):TS:=λD σ H=>t { D with nx:=u D } σ H
theorem aU:zu X [] Qw:=λ_ _ σ H _ I h=>wpAny_execs_nil ⟨σ,H,I,h⟩
theorem aj(h1:PS X st t)(h2:zu X rest u):zu X (st::rest) (VD t u):=by
 intro pins s σ H D I h
 refine wpAny_execs_cons (dJ (h1 pins s σ H { D with nx:=u D } I h) λf s1 q=>?_)
 cases f with
 |next =>
  obtain⟨σ',H',I',q⟩:=q
  exact h2 pins s1 σ' H' D I' q
 |ret v=>exact q
 |brk=>exact q
 |cont=>exact q
theorem ao(h1:PS X st t):zu X [st] t:=by
 intro pins s σ H D I h
 refine wpAny_execs_cons (dJ (h1 pins s σ H D I h) λf s1 q=>?_)
 cases f with
 |next=>exact wpAny_execs_nil q
 |ret v=>exact q
 |brk=>exact q
 |cont=>exact q
theorem Inv.quiet{pins:List (Addr×Obj)}{σ:St}{H:Hp}{s:Shared}(I:Inv X pins σ H s):interactive X.env=false:=by simp[interactive,I.ok.kind]
def QC(te:TE):TS:=λD σ H=>te σ H λ_ H1=>D.nx σ H1
theorem g6(he:PE X e te)(hs:swapsWith e none pos.line X.env=pure false:=by rfl):PS X (.Expr e pos) (QC te):=by
 intro pins s σ H D I h
 exact wpAny_Expr_any (dJ (he pins s σ H _ I h) λv s1 ⟨x,H1,I1,r1,q1⟩=>⟨σ,H1,I1,q1⟩) I.quiet hs
def VE(te:TE):TS:=λD σ H=>te σ H D.rt
theorem aJ(he:PE X e te):PS X (.Return (some e) pos) (VE te):=by
 intro pins s σ H D I h
 exact wpAny_Return_some (dJ (he pins s σ H _ I h) λv s1 ⟨x,H1,I1,r1,q1⟩=>⟨x,σ,H1,I1,r1,q1⟩)
def VM(c:TT)(t u:TS):TS:=λD σ H=>c σ H λb H1=>if b=true then t D σ H1 else u D σ H1
theorem bJ{c:Expr}{a b:List Stmt}{tc:TT}(hc:PT X c tc)(ha:zu X a t)(hb:zu X b u):PS X (.If c a b pos) (VM tc t u):=by
 intro pins s σ H D I h
 refine wpAny_If (dJ (hc pins s σ H _ I h) λd s1 ⟨H1,I1,q1⟩=>?_)
 cases d with
 |true=>exact ha pins s1 σ H1 D I1 q1
 |false=>exact hb pins s1 σ H1 D I1 q1
def N7:TS:=λ_ _ _=>False
theorem iI{sts:List Stmt}:zu X sts N7:=λ_ _ _ _ _ _ h=>h.elim
end
abbrev TG:=V->St->Hp->(St->Hp->Prop)->Prop
abbrev Mr:=List V->St->Hp->(St->Hp->Prop)->Prop
def PG(X:Cx)(target:Expr)(t:TG):Prop :=
 ∀(pins:List (Addr×Obj)) (s:Shared) (σ:St) (H:Hp) (v:V) (u:Value) (Q:St->Hp->Prop),Inv X pins σ H s->RelV v u->t v σ H Q →
  wpAny (model X.prog X.w) X.A (assign target X.env u) (λ_ s'=>∃ σ' H',Inv X pins σ' H' s'/\Q σ' H') X.xe s
def SN(X:Cx)(ts:List Expr)(t:Mr):Prop :=
 ∀(pins:List (Addr×Obj)) (s:Shared) (σ:St) (H:Hp) (vs:List V) (us:List Value) (Q:St->Hp->Prop),Inv X pins σ H s->Vals vs us->t vs σ H Q →
  wpAny (model X.prog X.w) X.A (assignInOrder ((assignEach ts X.env).map (·.2)) us) (λ_ s'=>∃ σ' H',Inv X pins σ' H' s'/\Q σ' H') X.xe s
abbrev Py:=V->V->V->Hp->(Hp->Prop)->Prop
def SM(X:Cx)(t:Py):Prop :=
 ∀(pins:List (Addr×Obj)) (s:Shared) (σ:St) (H:Hp) (o i v:V) (ov iv u:Value) (Q:Hp->Prop),Inv X pins σ H s->RelV o ov->RelV i iv->RelV v u->t o i v H Q →
  wpAny (model X.prog X.w) X.A (setItem ov iv u) (λ_ s'=>∃H',Inv X pins σ H' s'/\Q H') X.xe s
section
variable{X:Cx}{pos:Pos}
def Fl(i:Nat):TG:=λv σ H Q=>Q (σ.set i (some v)) H
theorem aS{i:Nat}{x:Str}(hN:X.N.Nodup)(hi:X.N[i]? =some x)(hx:Loc X.env.scope x)(hf:X.fn x=true\/X.env.scope.names.lookup x=some .local:=by first|exact .inl rfl|exact .inr rfl|assumption):PG X (.Name x pos) (Fl i):=by
 intro pins s σ H v u Q I r h
 exact wpAny_assign_Name (oW I hN hi hx r (λs' I'=>⟨_,H,I',h⟩) hf)
def Xs:Mr:=λvs σ H Q=>vs=[]/\Q σ H
def Su(t:TG)(u:Mr):Mr:=λvs σ H Q=>∃v r,vs=v::r/\t v σ H λσ' H'=>u r σ' H' Q
theorem kU:SN X [] Xs:=by
 intro pins s σ H vs us Q I r h
 obtain⟨e,h⟩:=h
 subst e
 cases r
 exact assignInOrder_nil ⟨σ,H,I,h⟩
theorem bT{e:Expr}{es:List Expr}{t:TG}{u:Mr}(h1:PG X e t)(h2:SN X es u)
  (hs:(assignEach (e::es) X.env).map (·.2)=assign e X.env::(assignEach es X.env).map (·.2):=by rfl):SN X (e::es) (Su t u):=by
 intro pins s σ H vs us Q I r h
 obtain⟨v,vr,e1,h⟩:=h
 subst e1
 cases r with
 |cons r rr =>
  rw[hs]
  refine assignInOrder_cons (dJ (h1 pins s σ H _ _ _ I r h) λ_ s1 ⟨σ1,H1,I1,q1⟩=>?_)
  exact h2 pins s1 σ1 H1 _ _ Q I1 rr q1
def Sq(K:PySem.W.Frag)(n:Nat)(t:Mr):TG:=λv σ H Q=>∃a xs,v= .ref a/\cT K H a xs/\xs.length=n/\t xs σ H Q
theorem oi{es:List Expr}{k:Nat}{t:Mr}{n:Nat}(hc:X.calm=true)(h:SN X es t)
  (hn:(assignEach es X.env).length=n:=by rfl) (hst:(assignEach es X.env).findIdx? (·.1)=none:=by rfl):PG X (.Tuple es k pos) (Sq X.K n t):=by
 intro pins s σ H v u Q I r hw
 obtain⟨a,xs,e1,hq,hl,hw⟩:=hw
 subst e1
 cases r
 obtain⟨its,rv,ht,hz⟩:=I.tuple hq
 refine assign_Tuple_tuple (I.ok.hd hc) ht (by simp[hn,←hl,rv.length]) hst λh' hx=>?_
 have I1:Inv X pins σ H { s with heap:=h' }:=I.kept (t':=s.toks) λb o e=>hx b o (Nat.ne_of_lt (Heap.lt_size e)) e
 exact h pins _ σ H xs _ Q I1 (by simpa using rv) hw
def Xr(to ti:TE)(t:Py):TG:=λv σ H Q=>to σ H λo H1=>ti σ H1 λi H2=>t o i v H2 λH3=>Q σ H3
theorem zQ{o i:Expr}{to ti:TE}{t:Py}(ho:PE X o to)(hi:PE X i ti)(hs:SM X t)
  (ha:∀v,assign (.Subscript o i pos) X.env v=(do
   let ov ←holding [v] (eval o X.env)
   let iv ←holding [v,ov] (eval i X.env)
   standAt pos
   holding [v,ov,iv] (setItem ov iv v)
   release [v,ov,iv] []):=by intro _;rfl):PG X (.Subscript o i pos) (Xr to ti t):=by
 intro pins s σ H v u Q I r h
 rw[ha]
 refine wpAny_bind (wpAny_holding (dJ (ho pins s σ H _ I h) λov s1 ⟨x,H1,I1,r1,q1⟩=>?_))
 refine wpAny_bind (wpAny_holding (dJ (hi pins s1 σ H1 _ I1 q1) λiv s2 ⟨y,H2,I2,r2,q2⟩=>?_))
 refine wpAny_bind (wpAny_standAt (wpAny_bind (wpAny_holding (dJ (hs pins s2 σ H2 x y v ov iv u _ I2 r1 r2 r q2) λ_ s3 ⟨H3,I3,q3⟩=>?_))))
 exact wpAny_release ⟨σ,H3,I3,q3⟩
def Ke(te:TE)(g:TG):TS:=λD σ H=>te σ H λx H1=>g x σ H1 D.nx
theorem o8{tg e:Expr}{te:TE}{g:TG}(he:PE X e te)(hg:PG X tg g)(hs:swapsWithSole [tg] e pos.line X.env=pure false:=by rfl)(hw:swappedStores [tg] e X.env=pure none:=by rfl)
  (h1:(assignEach [tg] X.env).map (·.2)=[assign tg X.env]:=by rfl):PS X (.Assign [tg] e pos) (Ke te g):=by
 intro pins s σ H D I h
 refine wpAny_Assign_stores (dJ (he pins s σ H _ I h) λv s1 ⟨x,H1,I1,r1,q1⟩=>?_) hs hw
 rw[h1]
 exact dJ (hg pins s1 σ H1 x v _ I1 r1 q1) λ_ s2 q=>q
theorem aG{i:Nat}{x:Str}{e:Expr}{te:TE}{pos':Pos}(hN:X.N.Nodup)(hi:X.N[i]? =some x)(hx:Loc X.env.scope x)(he:PE X e te)(hs:swapsWith e (some (.Name x pos')) pos.line X.env=pure false:=by rfl)(hf:X.fn x=true\/X.env.scope.names.lookup x=some .local:=by first|exact .inl rfl|exact .inr rfl|assumption):
  PS X (.Assign [.Name x pos'] e pos) (Ke te (Fl i)):=by
 intro pins s σ H D I h
 refine wpAny_Assign_Name (dJ (he pins s σ H _ I h) λv s1 ⟨y,H1,I1,r1,q1⟩=>?_) hs
 exact oW I1 hN hi hx r1 (λs2 I2=>⟨_,H1,I2,q1⟩) hf
def VF(i j:Nat)(ta:TA):TS:=λD σ H=>ta σ H λvs H1=>∃v w,vs=[v,w]/\D.nx ((σ.set i (some v)).set j (some w)) H1
theorem Ib{i j:Nat}{x y:Str}{a b:Expr}{ta:TA}{px py pt:Pos}{kt k2 V3}(hc:X.calm=true)(hN:X.N.Nodup)(hi:X.N[i]? =some x)(hj:X.N[j]? =some y)(hij:i≠j)
  (hx:X.env.scope.names.lookup x=some .local) (hy:X.env.scope.names.lookup y=some .local) (ha:PA X [a,b] ta)
  (hw:swappedStores [.Tuple [.Name x px,.Name y py] kt pt] (.Tuple [a,b] k2 V3) X.env=pure (some [x,y]))
  (hs:swapsWithSole [.Tuple [.Name x px,.Name y py] kt pt] (.Tuple [a,b] k2 V3) pos.line X.env=pure false:=by rfl) :
  PS X (.Assign [.Tuple [.Name x px,.Name y py] kt pt] (.Tuple [a,b] k2 V3) pos) (VF i j ta):=by
 intro pins s σ H D I h
 rw[exec_Assign_arm]
 refine wpAny_bind (wpAny_standAt ?_)
 rw[hs]
 refine wpAny_bind (wpAny_pure ?_)
 rw[if_neg (by decide)]
 refine wpAny_bind (Tuple_ (dJ (ha _ pins s σ H _ I h) λus s1 ⟨vs,H1,I1,r1,q1⟩=>?_))
 obtain⟨v,w,e1,q1⟩:=q1
 subst e1
 obtain⟨u1,u2,rfl,rv,rw'⟩:∃u1 u2,us=[u1,u2]/\RelV v u1/\RelV w u2:=by
  cases r1 with
  |cons p q =>
   cases q with
   |cons p' q' =>
    cases q'
    exact⟨_,_,rfl,p,p'⟩
 refine wpAny_newObj_type ?_ (by show 2<=sizeLine;decide)
 have I2:Inv X pins σ H1 { s1 with heap:=s1.heap.push { cls:=.type "tuple",data:=.seq [u1,u2].toArray } }:=I1.kept (t':=s1.toks) λb o e=>Heap.get?_push_of_some _ e
 rw[hw]
 refine wpAny_bind (wpAny_pure ?_)
 show wpAny (model X.prog X.w) X.A (do rule "assign.swapped-stores";let items ←unpackItems (.ref s1.heap.objs.size) 2 none;assignInOrder [λv=>bindName X.env y v,λv=>bindName X.env x v] items.reverse;pure Flow.next) _ _ _
 refine wpAny_bind (wpAny_rule (wpAny_bind (unpackItems_tuple (items:= #[u1,u2]) (I.ok.hd hc) (IsTup.new s1.heap _) λh' hx'=>?_)))
 have I3:=I2.kept (h':=h') (t':=s1.toks) λb o e=>hx' b o (Nat.ne_of_lt (Heap.lt_size e)) e
 show wpAny _ _ (assignInOrder [λv=>bindName X.env y v,λv=>bindName X.env x v] [u2,u1] >>= λ_=>pure Flow.next) _ _ _
 refine wpAny_bind (assignInOrder_cons (wpAny_bindName (oW I3 hN hj (.inl hy) rw' (λs2 I4=>?_) (.inr hy))))
 refine assignInOrder_cons (wpAny_bindName (oW I4 hN hi (.inl hx) rv (λs3 I5=>assignInOrder_nil (wpAny_pure ?_)) (.inr hx)))
 rw[List.set_comm _ _ (Ne.symm hij)]at I5
 exact⟨_,H1,I5,q1⟩
end
section
variable{X:Cx}{pos:Pos}
def N5(c:TT)(tb:TS):TS:=λD σ H=>∃W:Nat->St->Hp->Prop,(∃m,W m σ H)/\∀m σ H,W m σ H →
 c σ H λb H1=>if b=true then ∃N:St->Hp->Prop,(∀ σ' H',N σ' H'->∃m',m'<m/\W m' σ' H')/\tb { D with nx:=N,ct:=N,bk:=D.nx } σ H1 else D.nx σ H1
theorem BC{c:Expr}{body:List Stmt}{tc:TT}{tb:TS}(hp:PassesOwn (model X.prog X.w) X.A X.env X.xe)(hc:PT X c tc)(hb:zu X body tb):PS X (.While c body [] pos) (N5 tc tb):=by
 intro pins s σ H D I h
 obtain⟨W,⟨m0,w0⟩,turn⟩:=h
 refine wpAny_While (codeAny_whileLoop (λn s'=>∃ σ' H',Inv X pins σ' H' s'/\W n σ' H') ?_ m0 ⟨σ,H,I,w0⟩)
 rintro n s1 ⟨σ1,H1,I1,w1⟩
 refine wpAny_passesOwn hp (dJ (hc pins s1 σ1 H1 _ I1 (turn n σ1 H1 w1)) λb s2 ⟨H2,I2,q2⟩=>?_)
 cases b with
 |true =>
  obtain⟨N,hN,q2⟩:=q2
  rw[if_pos rfl]
  refine wpAny_passesOwn hp (dJ (hb pins s2 σ1 H2 _ I2 q2) λf s3 q3=>?_)
  cases f with
  |next =>
   obtain⟨σ3,H3,I3,n3⟩:=q3
   obtain⟨m',hm,w3⟩:=hN σ3 H3 n3
   exact⟨m',hm,σ3,H3,I3,w3⟩
  |cont =>
   obtain⟨σ3,H3,I3,n3⟩:=q3
   obtain⟨m',hm,w3⟩:=hN σ3 H3 n3
   exact⟨m',hm,σ3,H3,I3,w3⟩
  |brk=>exact q3
  |ret v=>exact q3
 |false =>
  rw[if_neg Bool.false_ne_true]
  exact wpAny_execs_nil ⟨σ1,H2,I2,q2⟩
end
structure It where
 go:Nat->Hp->Prop
 AS:Nat->Hp->V->Hp->Prop
 stop:Nat->Hp->Prop
def oU(X:Cx)(pins:List (Addr×Obj))(H:Hp)(b:Addr):Prop :=
 H b=none/\b≠X.env.locals/\b∉X.fs/\(b∈X.ex\/X.s₀.heap.objs.size<=b)/\(∀x c,X.env.cells.lookup x=some c->c≠b)/\∀p∈X.pn++pins,p.1≠b
theorem Inv.uY{X:Cx}{pins:List (Addr×Obj)}{σ:St}{H H':Hp}{s:Shared}{b:Addr}(I:Inv X pins σ H s)(hb:s.heap.objs.size<=b)(hn:H' b=none):oU X pins H' b:=by
 refine⟨hn,Nat.ne_of_gt (Nat.lt_of_lt_of_le I.lt hb),I.Wf hb,.inr (Nat.le_trans I.sz hb),λx c e z=>?_,λp hp z=>?_⟩
 ·obtain⟨v,q⟩:=I.cell x c e
  exact absurd (Nat.lt_of_lt_of_le q.lt (by rw[z];exact hb)) (Nat.lt_irrefl _)
 ·exact absurd (Nat.lt_of_lt_of_le (Heap.lt_size (I.pin p hp).1) (by rw[z];exact hb)) (Nat.lt_irrefl _)
structure Turn(P:Program)(w:World)(K:PySem.W.Frag)(tg:Expr)(J:It)(fp:List Addr)(it:Addr)(tn:Nat->Heap->Prop):Prop where
 mem:it∈fp
 obj:∀i h,tn i h->∀b∈fp,∃o,h.get? b=some o/\∀v,o.data≠ .cell v
 keep:∀i h h',tn i h->(∀b∈fp,∀o,h.get? b=some o->h'.get? b=some o)->tn i h'
 item:∀(X:Cx),X.prog=P->X.w=w->X.K=K->X.calm=true->∀(i:Nat) (pins:List (Addr×Obj)) (s:Shared) (σ:St) (H:Hp) (E:Value->Shared->Prop),Inv X pins σ H s->(∀b∈fp,oU X pins H b)->tn i s.heap->J.go i H →
  wpAny (model P w) X.A (pyNext (.ref it)) (λr s1=>∃u,r=some u ∧
   wpAny (model P w) X.A (letOwnedTupleGo tg (.ref it) u) (λ_ s2=>∃x H',Inv X pins σ H' s2/\RelV x u/\J.AS i H x H'/\tn (i+1) s2.heap/\∀b∈fp,H' b=none) E s1) E s
 done:∀(X:Cx),X.prog=P->X.w=w->X.K=K->X.calm=true->∀(i:Nat) (pins:List (Addr×Obj)) (s:Shared) (σ:St) (H:Hp) (E:Value->Shared->Prop),Inv X pins σ H s->(∀b∈fp,oU X pins H b)->tn i s.heap->J.stop i H →
  wpAny (model P w) X.A (pyNext (.ref it)) (λr s1=>r=none/\Inv X pins σ H s1) E s
 self:∀(A:Around) (i:Nat) (s:Shared) (Q:Value->Shared->Prop) (E:Value->Shared->Prop),tn i s.heap->Q (.ref it) s->wpAny (model P w) A (pyIter (.ref it)) Q E s
abbrev TI:=St->Hp->(It->Hp->Prop)->Prop
def Zd(X:Cx)(pins:List (Addr×Obj))(σ:St)(tg:Expr)(R:It->Hp->Prop)(itv:Value)(s2:Shared):Prop :=
 ∃(it:Addr) (fp:List Addr) (tn:Nat->Heap->Prop) (J:It) (H':Hp),itv= .ref it/\Inv X pins σ H' s2/\Turn X.prog X.w X.K tg J fp it tn/\tn 0 s2.heap/\(∀b∈fp,oU X pins H' b)/\R J H'
def PI(X:Cx)(tg iter:Expr)(wi:TI):Prop :=
 ∀(pins:List (Addr×Obj)) (s:Shared) (σ:St) (H:Hp) (R:It->Hp->Prop),Inv X pins σ H s->wi σ H R →
  wpAny (model X.prog X.w) X.A (eval iter X.env) (λv s1=>wpAny (model X.prog X.w) X.A (pyIter v) (Zd X pins σ tg R) X.xe s1) X.xe s
theorem Cb{M:Model}{A:Around}{E:Value->Shared->Prop}{s:Shared}{tg:Expr}{it:Addr}{u:Value}{o:Obj}{n:String}{vs:Array Value}{Q:Unit->Shared->Prop}(ho:s.heap.get? it=some o)(hc:o.cls= .type n)(hd:o.data= .fields vs)
  (hn:["enumerate","zip","dict_itemiterator","dict_reverseitemiterator","odict_iterator","itertools.zip_longest","itertools.pairwise"].contains n=false) (hQ:Q () s):wpAny M A (letOwnedTupleGo tg (.ref it) u) Q E s:=by
 unfold letOwnedTupleGo
 cases tg<;>first
  |exact wpAny_pure hQ
  |(cases u<;>first
    |exact wpAny_pure hQ
    |(refine wpAny_bind (wpAny_load ho ?_)
      rw[hc,hd]
      show wpAny M A (if(["enumerate","zip","dict_itemiterator","dict_reverseitemiterator","odict_iterator","itertools.zip_longest","itertools.pairwise"].contains n&&vs[0]? ==some (rawInt _))=true then _ else _) Q E s
      rw[if_neg (by intro h;rw[hn,Bool.false_and]at h;cases h)]
      exact wpAny_pure hQ))
def S0(K:PySem.W.Frag)(a:Addr):It :=
 ⟨λi H=>∃xs x,cS K H a xs/\xs[i]? =some x,λi H x H'=>H'=H/\∀xs,cS K H a xs->xs[i]? =some x,λi H=>∃xs,cS K H a xs/\xs.length<=i⟩
def SX(K:PySem.W.Frag)(a:Addr):It :=
 ⟨λi H=>∃xs x,cT K H a xs/\xs[i]? =some x,λi H x H'=>H'=H/\∀xs,cT K H a xs->xs[i]? =some x,λi H=>∃xs,cT K H a xs/\xs.length<=i⟩
def Qm(lo:Int)(n:Nat):It:=⟨λi _=>i<n,λi H x H'=>H'=H/\x= .int (lo+i),λi _=>n<=i⟩
theorem yG{P:Program}{w:World}{K:PySem.W.Frag}{tg:Expr}(a it:Addr):Turn P w K tg (S0 K a) [it] it (λi h=>h.IsListIter it a i) where
 mem:=by simp
 obj:=λi h st b hb=>by
  have e:b=it:=by simpa using hb
  subst e
  obtain⟨o,e,c,d⟩:=st
  exact⟨o,e,λv z=>by rw[d]at z;cases z⟩
 keep:=λi h h' st k=>st.at λo e=>k it (by simp) o e
 item:=by
  intro X hP hw hK hc i pins s σ H E I hf st hg
  subst hP hw hK
  obtain⟨xs,x,hq,hx⟩:=hg
  obtain⟨its,rv,p,hz⟩:=I.list hq
  obtain⟨u,hu,ru⟩:=rv.get hx
  obtain⟨f0,f1,f2,f3,f4,f5⟩:=hf it (by simp)
  refine wpAny_pyNext_list_item st p.isList (x:=u) (by simpa using hu) λh' st' sb=>?_
  have I1:Inv X pins σ H { s with heap:=h' }:=I.turned (t':=s.toks) (λb o hb e=>(sb.2 b hb).trans e) f0 f1 f3 f4 f5
  obtain⟨o,e,c,d⟩:=id st'
  exact⟨u,rfl,Cb (s:={ s with heap:=h' }) e c d (by decide) ⟨x,H,I1,ru,⟨rfl,λys hy=>by rw[I.wH hy hq];exact hx⟩,st',λb hb=>(hf b hb).1⟩⟩
 done:=by
  intro X hP hw hK hc i pins s σ H E I hf st hg
  subst hP hw hK
  obtain⟨xs,hq,hx⟩:=hg
  obtain⟨its,rv,p,hz⟩:=I.list hq
  obtain⟨f0,f1,f2,f3,f4,f5⟩:=hf it (by simp)
  have hl:=rv.length
  exact wpAny_pyNext_list_end (I.ok.hd hc) st p.isList (by simp;omega) λh' eb=>⟨rfl,I.turned (t':=s.toks) (λb o hb e=>eb b o hb e) f0 f1 f3 f4 f5⟩
 self:=λ_ _ _ _ _ st h=>wpAny_pyIter_listiter st h
theorem vG{P:Program}{w:World}{K:PySem.W.Frag}{tg:Expr}(a it:Addr):Turn P w K tg (SX K a) [it] it (λi h=>h.IsTupleIter it a i) where
 mem:=by simp
 obj:=λi h st b hb=>by
  have e:b=it:=by simpa using hb
  subst e
  obtain⟨o,e,c,d⟩:=st
  exact⟨o,e,λv z=>by rw[d]at z;cases z⟩
 keep:=λi h h' st k=>st.at λo e=>k it (by simp) o e
 item:=by
  intro X hP hw hK hc i pins s σ H E I hf st hg
  subst hP hw hK
  obtain⟨xs,x,hq,hx⟩:=hg
  obtain⟨its,rv,p,hz⟩:=I.tuple hq
  obtain⟨u,hu,ru⟩:=rv.get hx
  obtain⟨f0,f1,f2,f3,f4,f5⟩:=hf it (by simp)
  refine wpAny_pyNext_tuple_item st (show s.heap.IsTuple a its.toArray from p) (x:=u) (by simpa using hu) λh' st' sb=>?_
  have I1:Inv X pins σ H { s with heap:=h' }:=I.turned (t':=s.toks) (λb o hb e=>(sb.2 b hb).trans e) f0 f1 f3 f4 f5
  obtain⟨o,e,c,d⟩:=id st'
  exact⟨u,rfl,Cb (s:={ s with heap:=h' }) e c d (by decide) ⟨x,H,I1,ru,⟨rfl,λys hy=>by rw[I.yH hy hq];exact hx⟩,st',λb hb=>(hf b hb).1⟩⟩
 done:=by
  intro X hP hw hK hc i pins s σ H E I hf st hg
  subst hP hw hK
  obtain⟨xs,hq,hx⟩:=hg
  obtain⟨its,rv,p,hz⟩:=I.tuple hq
  obtain⟨f0,f1,f2,f3,f4,f5⟩:=hf it (by simp)
  have hl:=rv.length
  exact wpAny_pyNext_tuple_end (I.ok.hd hc) st (show s.heap.IsTuple a its.toArray from p) (by simp;omega) λh' eb=>⟨rfl,I.turned (t':=s.toks) (λb o hb e=>eb b o hb e) f0 f1 f3 f4 f5⟩
 self:=λ_ _ _ _ _ st h=>wpAny_pyIter_tupleiter st h
theorem De{P:Program}{w:World}{K:PySem.W.Frag}{tg:Expr}(it:Addr)(lo:Int)(n:Nat):Turn P w K tg (Qm lo n) [it] it (λi h=>IsRangeIter h it (lo+(i:Nat)*1) ((n:Int)-(i:Nat)) 1) where
 mem:=by simp
 obj:=λi h st b hb=>by
  have e:b=it:=by simpa using hb
  subst e
  exact⟨_,st,λv z=>by
   have z':Data.fields _=Data.cell v:=z
   cases z'⟩
 keep:=λi h h' st k=>k it (by simp) _ st
 item:=by
  intro X hP hw hK hc i pins s σ H E I hf st hg
  subst hP hw hK
  obtain⟨f0,f1,f2,f3,f4,f5⟩:=hf it (by simp)
  have W:=Walks.range (prog:=X.prog) (w:=X.w) (I.ok.hd hc) it lo 1 n
  refine TK.bO (Nat.le_refl s.toks) (W.item i s _ _ hg st λv h' tk hv st' kk hup=>?_)
  obtain⟨t,rfl⟩:=hv
  have I1:Inv X pins σ H { s with heap:=h',toks:=tk }:=I.turned (λb o hb e=>kk b o (by simpa using hb) e) f0 f1 f3 f4 f5
  refine⟨_,rfl,Cb (s:={ s with heap:=h',toks:=tk }) (n:= "range_iterator") st' rfl rfl (by decide) ⟨.int (lo+i),H,I1,⟨t,?_⟩,⟨rfl,rfl⟩,st',λb hb=>(hf b hb).1⟩⟩
  rw[Int.mul_one]
 done:=by
  intro X hP hw hK hc i pins s σ H E I hf st hg
  subst hP hw hK
  obtain⟨f0,f1,f2,f3,f4,f5⟩:=hf it (by simp)
  exact wpAny_pyNext_range_end (I.ok.hd hc) st (by have:n<=i:=hg;omega) λh' eb=>⟨rfl,I.turned (t':=s.toks) (λb o hb e=>eb b o hb e) f0 f1 f3 f4 f5⟩
 self:=λ_ _ _ _ _ st h=>wpAny_pyIter_rangeiter st h
end L2
namespace L2
open PySem PySem.Spec PyProof.Rows
section
variable{X:Cx}{tg:Expr}
def RO(K:PySem.W.Frag)(tl:TE):TI:=λσ H R=>tl σ H λx H1=>∃a,x= .ref a/\(∃xs,cS K H1 a xs)/\R (S0 K a) H1
def Wx(K:PySem.W.Frag)(tl:TE):TI:=λσ H R=>tl σ H λx H1=>∃a,x= .ref a/\(∃xs,cT K H1 a xs)/\R (SX K a) H1
theorem oh{l:Expr}{tl:TE}(hl:PE X l tl):PI X tg l (RO X.K tl):=by
 intro pins s σ H R I h
 refine dJ (hl pins s σ H _ I h) λv s1 ⟨x,H1,I1,r1,q1⟩=>?_
 obtain⟨a,e,⟨xs,hq⟩,q⟩:=q1
 subst e
 cases r1
 obtain⟨its,rv,p,hz⟩:=I1.list hq
 refine wpAny_pyIter_list p.isList ?_
 refine⟨s1.heap.objs.size,[s1.heap.objs.size],_,_,H1,rfl,I1.kept (t':=s1.toks) λb o e=>Heap.get?_push_of_some _ e,yG a _,⟨_,Heap.get?_push_size _ rfl,rfl,rfl⟩,λb hb=>?_,q⟩
 have e:b=s1.heap.objs.size:=by simpa using hb
 subst e
 exact I1.uY (Nat.le_refl _) (I1.hok.fresh (Nat.le_refl _))
theorem Oo{l:Expr}{tl:TE}(hl:PE X l tl):PI X tg l (Wx X.K tl):=by
 intro pins s σ H R I h
 refine dJ (hl pins s σ H _ I h) λv s1 ⟨x,H1,I1,r1,q1⟩=>?_
 obtain⟨a,e,⟨xs,hq⟩,q⟩:=q1
 subst e
 cases r1
 obtain⟨its,rv,p,hz⟩:=I1.tuple hq
 refine wpAny_pyIter_tuple (show s1.heap.IsTuple a its.toArray from p) ?_
 refine⟨s1.heap.objs.size,[s1.heap.objs.size],_,_,H1,rfl,I1.kept (t':=s1.toks) λb o e=>Heap.get?_push_of_some _ e,vG a _,⟨_,Heap.get?_push_size _ rfl,rfl,rfl⟩,λb hb=>?_,q⟩
 have e:b=s1.heap.objs.size:=by simpa using hb
 subst e
 exact I1.uY (Nat.le_refl _) (I1.hok.fresh (Nat.le_refl _))
theorem HY{pins:List (Addr×Obj)}{σ:St}{H:Hp}{s:Shared}{R:It->Hp->Prop}{E:Value->Shared->Prop}{lo hi:Int}{t u v:Tok}{tk:Nat}(I:Inv X pins σ H s)(h1: -(2 ^ 62)<=lo)(h2:lo<2 ^ 62)(h3: -(2 ^ 62)<=hi)(h4:hi<2 ^ 62)
  (q:R (Qm lo (hi-lo).toNat) H) (htk:s.toks<=tk:=by first|exact Nat.le_refl _|exact Nat.le_succ _|assumption|omega):wpAny (model X.prog X.w) X.A (pyIter (.ref s.heap.objs.size)) (Zd X pins σ tg R) E { s with heap:=s.heap.push { cls:=.type "range",data:=.fields #[.int lo t,.int hi u,.int 1 v] },toks:=tk }:=by
 refine wpAny_pyIter_range (IsRange.new ..) (small_one h1 h2 h3 h4) ?_
 have I1:Inv X pins σ H { s with heap:=s.heap.push { cls:=.type "range",data:=.fields #[.int lo t,.int hi u,.int 1 v] },toks:=tk }:=I.kept λb o e=>Heap.get?_push_of_some _ e
 refine⟨(s.heap.push { cls:=.type "range",data:=.fields #[.int lo t,.int hi u,.int 1 v] }).objs.size,[(s.heap.push { cls:=.type "range",data:=.fields #[.int lo t,.int hi u,.int 1 v] }).objs.size],_,_,H,rfl,
  I1.kept (t':=tk) λb o e=>Heap.get?_push_of_some _ e,De _ lo (hi-lo).toNat,?_,λb hb=>?_,q⟩
 ·have e1:lo+((0:Nat):Int)*1=lo:=by simp
  have e2:(((hi-lo).toNat:Nat):Int)-((0:Nat):Int)=Builtin.Range.rangeSize lo hi 1:=by rw[rangeSize_one];split<;>omega
  show IsRangeIter _ _ (lo+((0:Nat):Int)*1) ((((hi-lo).toNat:Nat):Int)-((0:Nat):Int)) 1
  rw[e1,e2]
  exact Heap.get?_push_size _ rfl
 ·have e:b=(s.heap.push { cls:=.type "range",data:=.fields #[.int lo t,.int hi u,.int 1 v] }).objs.size:=by simpa using hb
  subst e
  exact I1.uY (Nat.le_refl _) (I1.hok.fresh (Nat.le_refl _))
def RN(ta:TA):TI:=λσ H R=>ta σ H λvs H1=>∃j:Int,vs=[.int j]/\ -(2 ^ 62)<=j/\j<2 ^ 62/\R (Qm 0 j.toNat) H1
theorem gA {a:Expr} {ta:TA} {p pos:Pos} (hg:Gl X "range") (hm:X.mg "range" =none) (ha:PA X [a] ta) (hs:starEach [a] X.env=[(false,eval a X.env)]:=by rfl):PI X tg (.Call (.Name "range" p) [a] [] pos) (RN ta):=by
 intro pins s σ H R I h
 refine Call_ (pH I hg hm boot_range (PyProof.Rows.callWith_type1 (dJ (ha pos pins s σ H _ I h) λus s1 ⟨vs,H1,I1,r1,q1⟩=>?_) hs rfl))
 obtain⟨j,e,q1,q2,q⟩:=q1
 subst e
 cases r1 with
 |cons r rr =>
  cases rr
  obtain⟨t,rfl⟩:=r
  exact call_range_1 (HY I1 (by omega) (by omega) q1 q2 (by simpa using q))
def VN(wi:TI)(g:TG)(tb:TS):TS:=λD σ H=>wi σ H λJ H1=>∃W:Nat->Nat->St->Hp->Prop,(∃m,W 0 m σ H1)/\∀i m σ H,W i m σ H →
 (J.stop i H/\D.nx σ H)\/(J.go i H/\∃N:St->Hp->Prop,(∀ σ' H',N σ' H'->∃m',m'<m/\W (i+1) m' σ' H')/\∀x H',J.AS i H x H'->g x σ H' λσ2 H2=>tb { D with nx:=N,ct:=N,bk:=D.nx } σ2 H2)
def zP(fp:List Addr)(h:Heap):List (Addr×Obj):=fp.filterMap λb=>(h.get? b).map λo=>(b,o)
theorem iw{fp:List Addr}{h:Heap}{b:Addr}{o:Obj}(hb:b∈fp)(e:h.get? b=some o):(b,o)∈zP fp h:=List.mem_filterMap.mpr ⟨b,hb,by rw[e];rfl⟩
theorem F3{fp:List Addr}{h:Heap}{p:Addr×Obj}(hp:p∈zP fp h):p.1∈fp/\h.get? p.1=some p.2:=by
 obtain⟨b,hb,e⟩:=List.mem_filterMap.mp hp
 cases q:h.get? b with
 |none=>rw[q]at e;cases e
 |some o =>
  rw[q]at e
  have e':(b,o)=p:=Option.some.inj e
  subst e'
  exact⟨hb,q⟩
theorem Inv.pinned{pins:List (Addr×Obj)}{σ:St}{H:Hp}{s:Shared}{fp:List Addr}(I:Inv X pins σ H s)(hf:∀b∈fp,oU X pins H b)(ho:∀b∈fp,∃o,s.heap.get? b=some o/\∀v,o.data≠ .cell v):Inv X (pins++zP fp s.heap) σ H s :=
 I.zO λp hp=>(List.mem_append.mp hp).elim (λz=>I.pin p (List.mem_append_right _ z)) λz=>by
  obtain⟨hb,e⟩:=F3 z
  obtain⟨f0,f1,f2,_⟩:=hf p.1 hb
  obtain⟨o,e',d⟩:=ho p.1 hb
  rw[e]at e';cases e'
  exact⟨e,f0,f1,f2,d⟩
theorem Inv.vE{pins pl:List (Addr×Obj)}{σ:St}{H:Hp}{s:Shared}(I:Inv X (pins++pl) σ H s):Inv X pins σ H s:=I.zO λp hp=>I.pin p (List.mem_append_right _ (List.mem_append_left _ hp))
theorem fF{iter:Expr}{body:List Stmt}{wi:TI}{g:TG}{tb:TS}{pos:Pos}(hp:PassesOwn (model X.prog X.w) X.A X.env X.xe)(hc:X.calm=true)(hi:PI X tg iter wi)(hg:PG X tg g)(hb:zu X body tb)
  (hs:∀x,foldedSetIterable iter X.env x=pure x:=by intro _;rfl):PS X (.For tg iter body [] pos) (VN wi g tb):=by
 intro pins s σ H D I h
 refine wpAny_For (dJ (hi pins s σ H _ I h) λv s1 h1=>dJ h1 λitv s2 h2=>?_) hs
 obtain⟨it,fp,tn,J,H2,e,I2,T,st2,f2,W,⟨m0,w0⟩,turn⟩:=h2
 subst e
 have stat:∀{H':Hp},(∀b∈fp,H' b=none)->∀b∈fp,oU X pins H' b:=λhn b hb=>⟨hn b hb,(f2 b hb).2⟩
 refine codeAny_forLoop_any (λn s'=>∃i σ' H',Inv X pins σ' H' s'/\tn i s'.heap/\(∀b∈fp,H' b=none)/\W i n σ' H') ?_ m0 ⟨0,σ,H2,I2,st2,λb hb=>(f2 b hb).1,w0⟩
 rintro n s3 ⟨i,σ3,H3,I3,st3,Y5,w3⟩
 rcases turn i n σ3 H3 w3 with⟨stop,qn⟩|⟨go,N,hN,step⟩
 ·refine wpAny_passesOwn hp (dJ (T.done X rfl rfl rfl hc i pins s3 σ3 H3 X.xe I3 (stat Y5) st3 stop) λr s4 ⟨hr,I4⟩=>?_)
  subst hr
  exact wpAny_execs_nil ⟨σ3,H3,I4,qn⟩
 ·refine wpAny_passesOwn hp (dJ (T.item X rfl rfl rfl hc i pins s3 σ3 H3 X.xe I3 (stat Y5) st3 go) λr s4 ⟨u,hr,h4⟩=>?_)
  subst hr
  refine wpAny_passesOwn hp (dJ h4 λ_ s5 ⟨x,H5,I5,r5,y5,VP,fr5⟩=>?_)
  have I5':=I5.pinned (stat fr5) (T.obj _ _ VP)
  refine wpAny_passesOwn hp (dJ (hg _ s5 σ3 H5 x u _ I5' r5 (step x H5 y5)) λ_ s6 ⟨Zj,H6,I6,q6⟩=>?_)
  refine wpAny_passesOwn hp (dJ (hb _ s6 Zj H6 _ I6 q6) λf s7 q7=>?_)
  have again:∀{AR:St} {H7:Hp},Inv X (pins++zP fp s5.heap) AR H7 s7->N AR H7->∃m,m<n/\∃i σ' H',Inv X pins σ' H' s7/\tn i s7.heap/\(∀b∈fp,H' b=none)/\W i m σ' H':=λ{AR H7} I7 n7=>by
   obtain⟨m',hm,w7⟩:=hN AR H7 n7
   refine⟨m',hm,i+1,AR,H7,I7.vE,T.keep _ _ _ VP λb hb o e=>(I7.pin (b,o) (List.mem_append_right _ (List.mem_append_right _ (iw hb e)))).1,λb hb=>?_,w7⟩
   obtain⟨o,e,d⟩:=T.obj _ _ VP b hb
   exact(I7.pin (b,o) (List.mem_append_right _ (List.mem_append_right _ (iw hb e)))).2.1
  cases f with
  |next=>obtain⟨AR,H7,I7,n7⟩:=q7;exact again I7 n7
  |cont=>obtain⟨AR,H7,I7,n7⟩:=q7;exact again I7 n7
  |brk=>obtain⟨AR,H7,I7,q7⟩:=q7;exact⟨AR,H7,I7.vE,q7⟩
  |ret v=>obtain⟨x7,AR,H7,I7,r7,q7⟩:=q7;exact⟨x7,AR,H7,I7.vE,r7,q7⟩
end
theorem pM{K:PySem.W.Frag}{a:Addr}{xs:List V}{g:TG}{tb:TS}{D:Ends}{σ:St}{H:Hp}(Pv:Nat->St->Hp->Prop)(h0:Pv 0 σ H)(hl:∀i σ H,i<=xs.length->Pv i σ H->cS K H a xs)
  (hs:∀i x σ H,xs[i]? =some x->Pv i σ H->g x σ H λσ2 H2=>tb { D with nx:=Pv (i+1),ct:=Pv (i+1),bk:=D.nx } σ2 H2) (hd:∀ σ H,Pv xs.length σ H->D.nx σ H) :
  ∃W:Nat->Nat->St->Hp->Prop,(∃m,W 0 m σ H)/\∀i m σ H,W i m σ H →
   ((S0 K a).stop i H/\D.nx σ H)\/((S0 K a).go i H/\∃N:St->Hp->Prop,(∀ σ' H',N σ' H'->∃m',m'<m/\W (i+1) m' σ' H')/\∀x H',(S0 K a).AS i H x H'->g x σ H' λσ2 H2=>tb { D with nx:=N,ct:=N,bk:=D.nx } σ2 H2):=by
 refine⟨λi m σ H=>m=xs.length-i/\i<=xs.length/\Pv i σ H,⟨xs.length,by simp,Nat.zero_le _,h0⟩,?_⟩
 rintro i m σ H ⟨rfl,hi,p⟩
 have q:=hl i σ H hi p
 by_cases hlt:i<xs.length
 ·refine .inr ⟨⟨xs,xs[i],q,by simp[hlt]⟩,Pv (i+1),λσ' H' p'=>⟨xs.length-(i+1),by omega,rfl,hlt,p'⟩,λx H' y=>?_⟩
  obtain⟨e,y⟩:=y
  subst e
  exact hs i x σ _ (y xs q) p
 ·have e:i=xs.length:=by omega
  subst e
  exact .inl ⟨⟨xs,q,Nat.le_refl _⟩,hd σ H p⟩
theorem Lj{K:PySem.W.Frag}{a:Addr}{xs:List V}{g:TG}{tb:TS}{D:Ends}{σ:St}{H:Hp}(Pv:Nat->St->Hp->Prop)(h0:Pv 0 σ H)(hl:∀i σ H,i<=xs.length->Pv i σ H->cT K H a xs)
  (hs:∀i x σ H,xs[i]? =some x->Pv i σ H->g x σ H λσ2 H2=>tb { D with nx:=Pv (i+1),ct:=Pv (i+1),bk:=D.nx } σ2 H2) (hd:∀ σ H,Pv xs.length σ H->D.nx σ H) :
  ∃W:Nat->Nat->St->Hp->Prop,(∃m,W 0 m σ H)/\∀i m σ H,W i m σ H →
   ((SX K a).stop i H/\D.nx σ H)\/((SX K a).go i H/\∃N:St->Hp->Prop,(∀ σ' H',N σ' H'->∃m',m'<m/\W (i+1) m' σ' H')/\∀x H',(SX K a).AS i H x H'->g x σ H' λσ2 H2=>tb { D with nx:=N,ct:=N,bk:=D.nx } σ2 H2):=by
 refine⟨λi m σ H=>m=xs.length-i/\i<=xs.length/\Pv i σ H,⟨xs.length,by simp,Nat.zero_le _,h0⟩,?_⟩
 rintro i m σ H ⟨rfl,hi,p⟩
 have q:=hl i σ H hi p
 by_cases hlt:i<xs.length
 ·refine .inr ⟨⟨xs,xs[i],q,by simp[hlt]⟩,Pv (i+1),λσ' H' p'=>⟨xs.length-(i+1),by omega,rfl,hlt,p'⟩,λx H' y=>?_⟩
  obtain⟨e,y⟩:=y
  subst e
  exact hs i x σ _ (y xs q) p
 ·have e:i=xs.length:=by omega
  subst e
  exact .inl ⟨⟨xs,q,Nat.le_refl _⟩,hd σ H p⟩
theorem kc{lo:Int}{n:Nat}{g:TG}{tb:TS}{D:Ends}{σ:St}{H:Hp}(Pv:Nat->St->Hp->Prop)(h0:Pv 0 σ H)
  (hs:∀i σ H,i<n->Pv i σ H->g (.int (lo+i)) σ H λσ2 H2=>tb { D with nx:=Pv (i+1),ct:=Pv (i+1),bk:=D.nx } σ2 H2) (hd:∀ σ H,Pv n σ H->D.nx σ H) :
  ∃W:Nat->Nat->St->Hp->Prop,(∃m,W 0 m σ H)/\∀i m σ H,W i m σ H →
   ((Qm lo n).stop i H/\D.nx σ H)\/((Qm lo n).go i H/\∃N:St->Hp->Prop,(∀ σ' H',N σ' H'->∃m',m'<m/\W (i+1) m' σ' H')/\∀x H',(Qm lo n).AS i H x H'->g x σ H' λσ2 H2=>tb { D with nx:=N,ct:=N,bk:=D.nx } σ2 H2):=by
 refine⟨λi m σ H=>m=n-i/\i<=n/\Pv i σ H,⟨n,by simp,Nat.zero_le _,h0⟩,?_⟩
 rintro i m σ H ⟨rfl,hi,p⟩
 by_cases hlt:i<n
 ·refine .inr ⟨hlt,Pv (i+1),λσ' H' p'=>⟨n-(i+1),by omega,rfl,hlt,p'⟩,λx H' y=>?_⟩
  obtain⟨e,y⟩:=y
  subst e y
  exact hs i σ _ hlt p
 ·have e:i=n:=by omega
  subst e
  exact .inl ⟨Nat.le_refl _,hd σ H p⟩
end L2
namespace L2
open PySem PySem.Spec PyProof.Rows
abbrev R2:=V->V->Hp->VK->Prop
def ug(X:Cx)(f:Value->Value->Sem Value)(r:R2):Prop :=
 ∀(pins:List (Addr×Obj)) (s:Shared) (σ:St) (H:Hp) (x y:V) (v u:Value) (Q:VK),Inv X pins σ H s->RelV x v->RelV y u->r x y H Q →
  wpAny (model X.prog X.w) X.A (f v u) (EP X pins σ Q) X.xe s
def lA(X:Cx)(f:Value)(r:List V->Hp->VK->Prop):Prop :=
 ∀(pins:List (Addr×Obj)) (s:Shared) (σ:St) (H:Hp) (xs:List V) (us:List Value) (Q:VK),Inv X pins σ H s->Vals xs us->r xs H Q →
  wpAny (model X.prog X.w) X.A (call f us) (EP X pins σ Q) X.xe s
def Tg(r:R2)(ta tb:TE):TE:=λσ H Q=>ta σ H λx H1=>tb σ H1 λy H2=>r x y H2 Q
def rI(C:Int->Int->Prop)(g:Int->Int->V):R2:=λx y H Q=>∃i j,x= .int i/\y= .int j/\C i j/\Q (g i j) H
def Oj(g:Int->Int->V):R2:=λx y H Q=>∃i j,x= .int i/\y= .int j/\Q (g i j) H
section
variable{X:Cx}{a b c:Expr}{ta tb tc:TE}{pos:Pos}
theorem Px(ha:PE X a ta)(hb:PE X b tb){pins:List (Addr×Obj)}{s:Shared}{σ:St}{H:Hp}{R:V->V->Hp->Prop}(I:Inv X pins σ H s)
  (h:ta σ H λx H1=>tb σ H1 λy H2=>R x y H2) {Q:Value->Shared->Prop} {f:Value->Value->Sem Value}
  (hf:∀v u s2 x y H2,Inv X pins σ H2 s2->RelV x v->RelV y u->R x y H2->wpAny (model X.prog X.w) X.A (f v u) Q X.xe s2) :
  wpAny (model X.prog X.w) X.A (eval a X.env) (λv s₁=>wpAny (model X.prog X.w) X.A (eval b X.env) (λu s₂=>wpAny (model X.prog X.w) X.A (f v u) Q X.xe s₂) X.xe s₁) X.xe s:=by
 refine dJ (ha pins s σ H _ I h) λv s1 ⟨x,H1,I1,r1,q1⟩=>?_
 refine dJ (hb pins s1 σ H1 _ I1 q1) λu s2 ⟨y,H2,I2,r2,q2⟩=>?_
 exact hf v u s2 x y H2 I2 r1 r2 q2
theorem aE{op:Operator}{r:R2}(ho:ug X (binaryOp op) r)(ha:PE X a ta)(hb:PE X b tb):PE X (.BinOp a op b pos) (Tg r ta tb):=by
 intro pins s σ H Q I h
 exact wpAny_BinOp (Px ha hb I h λv u s2 x y H2 I2 rx ry q=>ho pins s2 σ H2 x y v u Q I2 rx ry q)
theorem Q4{f:Value->Value->Sem Value}{C:Int->Int->Prop}{g:Int->Int->Int}
  (rule:∀(i j:Int) (t u:Tok) (s:Shared) (Q:Value->Shared->Prop) (E:Value->Shared->Prop),C i j->Q (.int (g i j) s.toks) { s with toks:=s.toks+1 }->wpAny (model X.prog X.w) X.A (f (.int i t) (.int j u)) Q E s) :
  ug X f (rI C λi j=>.int (g i j)):=by
 intro pins s σ H x y v u Q I rx ry h
 obtain⟨i,j,rfl,rfl,hc,q⟩:=h
 obtain⟨t,rfl⟩:=rx
 obtain⟨t',rfl⟩:=ry
 exact rule i j t t' s _ _ hc ⟨.int (g i j),H,I.tok _,⟨_,rfl⟩,q⟩
theorem Q3{f:Value->Value->Sem Value}{g:Int->Int->Int}
  (rule:∀(i j:Int) (t u:Tok) (s:Shared) (Q:Value->Shared->Prop) (E:Value->Shared->Prop),Q (.int (g i j) s.toks) { s with toks:=s.toks+1 }->wpAny (model X.prog X.w) X.A (f (.int i t) (.int j u)) Q E s) :
  ug X f (Oj λi j=>.int (g i j)):=by
 intro pins s σ H x y v u Q I rx ry h
 obtain⟨i,j,rfl,rfl,q⟩:=h
 obtain⟨t,rfl⟩:=rx
 obtain⟨t',rfl⟩:=ry
 exact rule i j t t' s _ _ ⟨.int (g i j),H,I.tok _,⟨_,rfl⟩,q⟩
theorem Ov{f:Value->Value->Sem Value}{g:Int->Int->Bool}
  (rule:∀(i j:Int) (t u:Tok) (s:Shared) (Q:Value->Shared->Prop) (E:Value->Shared->Prop),Q (.bool (g i j)) s->wpAny (model X.prog X.w) X.A (f (.int i t) (.int j u)) Q E s) :
  ug X f (Oj λi j=>.bl (g i j)):=by
 intro pins s σ H x y v u Q I rx ry h
 obtain⟨i,j,rfl,rfl,q⟩:=h
 obtain⟨t,rfl⟩:=rx
 obtain⟨t',rfl⟩:=ry
 exact rule i j t t' s _ _ ⟨.bl (g i j),H,I,rfl,q⟩
def XX(i j:Int):Prop:=0<j/\j<1073741824
def XW(i j:Int):Prop:=0<=j/\j<=1000000/\i.natAbs<2 ^ 64
def PK(i j:Int):Prop:=(-(2 ^ 64)<i/\i<2 ^ 64)\/(-(2 ^ 64)<j/\j<2 ^ 64)
theorem PK.ok{i j:Int}(h:PK i j):IntMulOk i j:=by
 rcases h with⟨h1,h2⟩|⟨h1,h2⟩
 ·exact .of_left (intBits_le_64 h1 h2)
 ·exact .of_right (intBits_le_64 h1 h2)
theorem cR:ug X (binaryOp .Add) (Oj λi j=>.int (i+j)):=Q3 λ_ _ _ _ _ _ _ q=>add_int q
theorem vU:ug X (binaryOp .Sub) (Oj λi j=>.int (i-j)):=Q3 λ_ _ _ _ _ _ _ q=>sub_int q
theorem ny:ug X (binaryOp .Mult) (rI PK λi j=>.int (i*j)):=Q4 λ_ _ _ _ _ _ _ hc q=>mul_int q hc.ok
theorem cE:ug X (binaryOp .FloorDiv) (rI XX λi j=>.int (i / j)):=Q4 λi j _ _ _ _ _ hc q=>by
 have h1:(0:Int)<j:=hc.1
 have h2:j<1073741824:=hc.2
 exact floordiv_int (by omega) (by rw[Int.fdiv_eq_ediv_of_nonneg i (by omega)];exact q) (.inl (PyProof.noPylong_small (by omega)))
theorem bQ:ug X (binaryOp .Mod) (rI (λ_ j=>0<j) λi j=>.int (i % j)):=Q4 λi j _ _ _ _ _ hc q=>by
 have h1:(0:Int)<j:=hc
 exact mod_int' (by omega) (by rw[Int.fmod_eq_emod_of_nonneg i (by omega)];exact q)
theorem zS:ug X (binaryOp .Pow) (rI XW λi j=>.int (i ^ j.toNat)):=Q4 λ_ _ _ _ _ _ _ hc q=>pow_int_small hc.1 hc.2.1 hc.2.2 q
end
def QN:V->V->Bool
 | .i9,.i9=>true| .i9,.int _=>true| .int _,.i9=>true| .i9,.bl _=>true| .bl _,.i9=>true| .i9,.str _=>true| .str _,.i9=>true
 | .int _,.int _=>true| .bl _,.bl _=>true| .str _,.str _=>true| .Fz _,.Fz _=>true
 | .int _,.str _=>true| .str _,.int _=>true| .bl _,.str _=>true| .str _,.bl _=>true
 |_,_=>false
def Zz:R2:=λx y H Q=>QN x y=true/\Q (.bl (decide (x=y))) H
def Zx:R2:=λx y H Q=>QN x y=true/\Q (.bl (!decide (x=y))) H
theorem oF{i j:Int}:decide (V.int i=V.int j)=(i==j):=by
 rw[Bool.eq_iff_iff]
 simp
theorem Jq{i j:Bool}:decide (V.bl i=V.bl j)=(i==j):=by
 rw[Bool.eq_iff_iff]
 simp
theorem Fv{i j:Str}:decide (V.str i=V.str j)=(i==j):=by
 rw[Bool.eq_iff_iff]
 simp
theorem Fw{i j:Array UInt8}:decide (V.Fz i=V.Fz j)=(i.toList==j.toList):=by
 rw[Bool.eq_iff_iff]
 cases i
 cases j
 simp
section
variable{X:Cx}{a b c:Expr}{ta tb tc:TE}{pos:Pos}
theorem ck{pins:List (Addr×Obj)}{σ:St}{H:Hp}{s:Shared}{Q:VK}{k k':Bool}(I:Inv X pins σ H s)(q:Q (.bl k) H)(e:k=k'):EP X pins σ Q (.bool k') s:=by
 subst e
 exact⟨.bl k,H,I,rfl,q⟩
theorem b9:ug X (compareOp .Eq) Zz:=by
 intro pins s σ H x y v u Q I rx ry h
 obtain⟨hs,q⟩:=h
 cases x with
 |i9 =>
  cases rx
  cases y with
  |i9=>cases ry;exact PySem.EqNone.eq_none_none (ck I q (by simp))
  |bl j=>cases ry;exact PySem.EqNone.eq_none_bool (ck I q (by simp))
  |int j=>obtain⟨t',rfl⟩:=ry;exact PySem.EqNone.eq_none_int (ck I q (by simp))
  |str j=>obtain⟨t',rfl⟩:=ry;exact PySem.EqNone.eq_none_str (ck I q (by simp))
  |_=>exact absurd (show false=true from hs) Bool.false_ne_true
 |bl i =>
  cases rx
  cases y with
  |i9=>cases ry;exact PySem.EqNone.eq_bool_none (ck I q (by simp))
  |bl j=>cases ry;exact eq_bool (ck I q Jq)
  |str j=>obtain⟨t',rfl⟩:=ry;exact PySem.EqMixed.eq_bool_str (ck I q (by simp))
  |_=>exact absurd (show false=true from hs) Bool.false_ne_true
 |int i =>
  obtain⟨t,rfl⟩:=rx
  cases y with
  |i9=>cases ry;exact PySem.EqNone.eq_int_none (ck I q (by simp))
  |int j=>obtain⟨t',rfl⟩:=ry;exact eq_int (ck I q oF)
  |str j=>obtain⟨t',rfl⟩:=ry;exact PySem.EqMixed.eq_int_str (ck I q (by simp))
  |_=>exact absurd (show false=true from hs) Bool.false_ne_true
 |str i =>
  obtain⟨t,rfl⟩:=rx
  cases y with
  |i9=>cases ry;exact PySem.EqNone.eq_str_none (ck I q (by simp))
  |bl j=>cases ry;exact PySem.EqMixed.eq_str_bool (ck I q (by simp))
  |int j=>obtain⟨t',rfl⟩:=ry;exact PySem.EqMixed.eq_str_int (ck I q (by simp))
  |str j=>obtain⟨t',rfl⟩:=ry;exact eq_str (ck I q Fv)
  |_=>exact absurd (show false=true from hs) Bool.false_ne_true
 |Fz i =>
  obtain⟨t,rfl⟩:=rx
  cases y with
  |Fz j=>obtain⟨t',rfl⟩:=ry;exact PySem.W.eq_bytes (ck I q Fw)
  |_=>exact absurd (show false=true from hs) Bool.false_ne_true
 |_=>cases y<;>exact absurd (show false=true from hs) Bool.false_ne_true
theorem rY:ug X (compareOp .NotEq) Zx:=by
 intro pins s σ H x y v u Q I rx ry h
 obtain⟨hs,q⟩:=h
 cases x with
 |i9 =>
  cases rx
  cases y with
  |i9=>cases ry;exact PySem.EqNone.ne_none_none (ck I q (by simp))
  |bl j=>cases ry;exact PySem.EqNone.ne_none_bool (ck I q (by simp))
  |int j=>obtain⟨t',rfl⟩:=ry;exact PySem.EqNone.ne_none_int (ck I q (by simp))
  |str j=>obtain⟨t',rfl⟩:=ry;exact PySem.EqNone.ne_none_str (ck I q (by simp))
  |_=>exact absurd (show false=true from hs) Bool.false_ne_true
 |bl i =>
  cases rx
  cases y with
  |i9=>cases ry;exact PySem.EqNone.ne_bool_none (ck I q (by simp))
  |bl j=>cases ry;exact ne_bool (ck I q (congrArg not Jq))
  |str j=>obtain⟨t',rfl⟩:=ry;exact PySem.EqMixed.ne_bool_str (ck I q (by simp))
  |_=>exact absurd (show false=true from hs) Bool.false_ne_true
 |int i =>
  obtain⟨t,rfl⟩:=rx
  cases y with
  |i9=>cases ry;exact PySem.EqNone.ne_int_none (ck I q (by simp))
  |int j=>obtain⟨t',rfl⟩:=ry;exact ne_int (ck I q (congrArg not oF))
  |str j=>obtain⟨t',rfl⟩:=ry;exact PySem.EqMixed.ne_int_str (ck I q (by simp))
  |_=>exact absurd (show false=true from hs) Bool.false_ne_true
 |str i =>
  obtain⟨t,rfl⟩:=rx
  cases y with
  |i9=>cases ry;exact PySem.EqNone.ne_str_none (ck I q (by simp))
  |bl j=>cases ry;exact PySem.EqMixed.ne_str_bool (ck I q (by simp))
  |int j=>obtain⟨t',rfl⟩:=ry;exact PySem.EqMixed.ne_str_int (ck I q (by simp))
  |str j=>obtain⟨t',rfl⟩:=ry;exact ne_str (ck I q (congrArg not Fv))
  |_=>exact absurd (show false=true from hs) Bool.false_ne_true
 |Fz i =>
  obtain⟨t,rfl⟩:=rx
  cases y with
  |Fz j=>obtain⟨t',rfl⟩:=ry;exact PySem.W.ne_bytes (ck I q (congrArg not Fw))
  |_=>exact absurd (show false=true from hs) Bool.false_ne_true
 |_=>cases y<;>exact absurd (show false=true from hs) Bool.false_ne_true
theorem rZ:ug X (compareOp .Lt) (Oj λi j=>.bl (decide (i<j))):=Ov λ_ _ _ _ _ _ _ q=>lt_int q
theorem yP:ug X (compareOp .LtE) (Oj λi j=>.bl (decide (i<=j))):=Ov λ_ _ _ _ _ _ _ q=>le_int q
theorem vV:ug X (compareOp .Gt) (Oj λi j=>.bl (decide (j<i))):=Ov λ_ _ _ _ _ _ _ q=>gt_int q
theorem zT:ug X (compareOp .Is) (λx y H Q=>y= .i9/\Q (.bl (decide (x= .i9))) H):=by
 intro pins s σ H x y v u Q I rx ry h
 obtain⟨rfl,q⟩:=h
 cases ry
 refine is_none_gen (ck I q ?_)
 cases x<;>first
  |(cases rx;rfl)
  |(obtain⟨t,rfl⟩:=rx;rfl)
theorem aL(b:Expr){op:CmpOp}(h:op≠ .In:=by decide)(h2:op≠ .NotIn:=by decide):behindInMarks op b=false:=by
 have e1:(op==CmpOp.In)=false:=by cases op<;>first|rfl|exact absurd rfl h
 have e2:(op==CmpOp.NotIn)=false:=by cases op<;>first|rfl|exact absurd rfl h2
 cases b<;>simp[behindInMarks,e1,e2]
theorem bY{op:CmpOp}{r:R2}(ho:ug X (compareOp op) r)(ha:PE X a ta)(hb:PE X b tb)(hm:behindInMarks op b=false):PE X (.Compare a [op] [b] pos) (Tg r ta tb):=by
 intro pins s σ H Q I h
 exact wpAny_Compare1 (Px ha hb I h λv u s2 x y H2 I2 rx ry q=>ho pins s2 σ H2 x y v u Q I2 rx ry q) hm
def LJ(t:TE):TT:=λσ H Q=>t σ H λx H'=>∃k,x= .bl k/\Q k H'
theorem aP{op:CmpOp}{r:R2}(ho:ug X (compareOp op) r)(ha:PE X a ta)(hb:PE X b tb)(hm:behindInMarks op b=false):PT X (.Compare a [op] [b] pos) (LJ (Tg r ta tb)):=by
 intro pins s σ H Q I h
 refine wpAny_isTrue_Compare1 (dJ (ha pins s σ H _ I h) λv s1 ⟨x,H1,I1,r1,q1⟩=>dJ (hb pins s1 σ H1 _ I1 q1) λu s2 ⟨y,H2,I2,r2,q2⟩ =>
  dJ (ho pins s2 σ H2 x y v u _ I2 r1 r2 q2) λc s3 ⟨z,H3,I3,r3,k,e,q3⟩=>?_) hm
 subst e
 cases r3
 exact wpAny_truthy_bool ⟨H3,I3,q3⟩
def HC(r r':R2)(ta tb tc:TE):TE:=λσ H Q=>ta σ H λx H1=>tb σ H1 λy H2=>r x y H2 λz H3=>∃k,z= .bl k ∧
 (if k=true then tc σ H3 λw' H4=>r' y w' H4 Q else Q (.bl false) H3)
theorem Ii{op op':CmpOp}{r r':R2}(ho:ug X (compareOp op) r)(ho':ug X (compareOp op') r')(ha:PE X a ta)(hb:PE X b tb)(hc:PE X c tc)
  (hm:lastMarks [op,op'] [b,c]=false:=by with_unfolding_all rfl):PE X (.Compare a [op,op'] [b,c] pos) (HC r r' ta tb tc):=by
 intro pins s σ H Q I h
 refine Compare_chain (dJ (ha pins s σ H _ I h) λv s1 ⟨x,H1,I1,r1,q1⟩=>chain_link (dJ (hb pins s1 σ H1 _ I1 q1) λu s2 ⟨y,H2,I2,r2,q2⟩ =>
  dJ (ho pins s2 σ H2 x y v u _ I2 r1 r2 q2) λd s3 ⟨z,H3,I3,r3,k,e,q3⟩=>?_)) hm
 subst e
 cases r3
 refine wpAny_truthy_bool ?_
 cases k with
 |false=>exact ite_ff ⟨.bl false,H3,I3,rfl,q3⟩
 |true=>exact ite_tt (chain_last (dJ (hc pins s3 σ H3 _ I3 q3) λw' s4 ⟨z',H4,I4,r4,q4⟩=>ho' pins s4 σ H4 y z' u w' Q I4 r2 r4 q4))
theorem BB{op op':CmpOp}{r r':R2}(ho:ug X (compareOp op) r)(ho':ug X (compareOp op') r')(ha:PE X a ta)(hb:PE X b tb)(hc:PE X c tc)
  (hm:lastMarks [op,op'] [b,c]=false:=by with_unfolding_all rfl):PT X (.Compare a [op,op'] [b,c] pos) (LJ (HC r r' ta tb tc)):=by
 intro pins s σ H Q I h
 refine isTrue_chain (dJ (ha pins s σ H _ I h) λv s1 ⟨x,H1,I1,r1,q1⟩=>test_link (dJ (hb pins s1 σ H1 _ I1 q1) λu s2 ⟨y,H2,I2,r2,q2⟩ =>
  dJ (ho pins s2 σ H2 x y v u _ I2 r1 r2 q2) λd s3 ⟨z,H3,I3,r3,k,e,q3⟩=>?_)) hm
 subst e
 cases r3
 refine wpAny_truthy_bool ?_
 cases k with
 |false =>
  obtain⟨k',e',q'⟩:=q3
  cases e'
  exact ite_ff ⟨H3,I3,q'⟩
 |true =>
  refine ite_tt (test_last (dJ (hc pins s3 σ H3 _ I3 q3) λw' s4 ⟨z',H4,I4,r4,q4⟩=>dJ (ho' pins s4 σ H4 y z' u w' _ I4 r2 r4 q4) λd' s5 ⟨z2,H5,I5,r5,k2,e2,q5⟩=>?_))
  subst e2
  cases r5
  exact wpAny_truthy_bool ⟨H5,I5,q5⟩
theorem tX:(sizeLine:Nat)<2 ^ 63:=by rw[sizeLine_eq];decide
theorem mD:ug X (binaryOp .Add) (λx y H Q=>∃i j,x= .str i/\y= .str j/\i.length+j.length<=sizeLine/\Q (.str (i++j)) H):=by
 intro pins s σ H x y v u Q I rx ry h
 obtain⟨i,j,rfl,rfl,hz,q⟩:=h
 obtain⟨t,rfl⟩:=rx
 obtain⟨t',rfl⟩:=ry
 exact TK.bO (Nat.le_refl _) (add_str (λt' tk hup=>⟨.str (i++j),H,I.tok _,⟨_,rfl⟩,q⟩) hz)
theorem vals1{x:V}{us:List Value}(r:Vals [x] us):∃u,us=[u]/\RelV x u:=by
 cases r with
 |cons r1 r2=>cases r2;exact⟨_,rfl,r1⟩
theorem vals2{x y:V}{us:List Value}(r:Vals [x,y] us):∃u w',us=[u,w']/\RelV x u/\RelV y w':=by
 cases r with
 |cons r1 r2 =>
  cases r2 with
  |cons r3 r4=>cases r4;exact⟨_,_,rfl,r1,r3⟩
theorem Ju:lA X (.builtin "abs") (λxs H Q=>∃i,xs=[.int i]/\Q (.int (if i<0 then -i else i)) H):=by
 intro pins s σ H xs us Q I r h
 obtain⟨i,rfl,q⟩:=h
 obtain⟨u,rfl,t,rfl⟩:=vals1 r
 exact TK.bO (Nat.le_refl _) (call_abs_int λu tk hup=>⟨.int (if i<0 then -i else i),H,I.tok _,⟨_,rfl⟩,q⟩)
theorem ud:lA X (.type "int") (λxs H Q=>(∃i,xs=[.int i]/\Q (.int i) H)\/∃k,xs=[.bl k]/\Q (.int (if k then 1 else 0)) H):=by
 intro pins s σ H xs us Q I r h
 rcases h with⟨i,rfl,q⟩|⟨k,rfl,q⟩
 ·obtain⟨u,rfl,t,rfl⟩:=vals1 r
  exact call_int_int ⟨.int i,H,I,⟨_,rfl⟩,q⟩
 ·obtain⟨u,rfl,r1⟩:=vals1 r
  cases r1
  exact call_int_bool ⟨.int (if k then 1 else 0),H,I.tok _,⟨_,rfl⟩,q⟩
theorem Jt:lA X (.builtin "ord") (λxs H Q=>∃x,xs=[.str x]/\x.length=1/\Q (.int (x.cps.getD 0 0:Nat)) H):=by
 intro pins s σ H xs us Q I r h
 obtain⟨x,rfl,hz,q⟩:=h
 obtain⟨u,rfl,t,rfl⟩:=vals1 r
 exact ord_of_one hz ⟨.int _,H,I.tok _,⟨_,rfl⟩,q⟩
def PD(K:PySem.W.Frag)(x:V)(H:Hp)(n:Nat):Prop :=
 match x with
 | .str y=>y.length<=sizeLine/\n=y.length
 | .Fz y=>y.size<=sizeLine/\n=y.size
 | .ref p=>(∃xs,cS K H p xs/\n=xs.length)\/∃xs,cT K H p xs/\n=xs.length
 |_=>False
theorem aY:lA X (.builtin "len") (λxs H Q=>∃x n,xs=[x]/\PD X.K x H n/\Q (.int n) H):=by
 intro pins s σ H xs us Q I r h
 obtain⟨x,n,rfl,e,q⟩:=h
 obtain⟨u,rfl,rx⟩:=vals1 r
 have hl:=tX
 have hs:sizeLine=16777216:=sizeLine_eq
 cases x with
 |str y =>
  obtain⟨t,rfl⟩:=rx
  obtain⟨hy,e'⟩:y.length<=sizeLine/\n=y.length:=e
  subst e'
  exact len_str (by omega) ⟨.int _,H,I.tok _,⟨_,rfl⟩,q⟩
 |Fz y =>
  obtain⟨t,rfl⟩:=rx
  obtain⟨hy,e'⟩:y.size<=sizeLine/\n=y.size:=e
  subst e'
  exact PySem.W.len_bytes (by omega) ⟨.int _,H,I.tok _,⟨_,rfl⟩,q⟩
 |ref p =>
  cases rx
  have e':(∃xs,cS X.K H p xs/\n=xs.length)\/∃xs,cT X.K H p xs/\n=xs.length:=e
  rcases e' with⟨xs,hx,e'⟩|⟨xs,hx,e'⟩
  ·subst e'
   obtain⟨its,r',pl,hz⟩:=I.list hx
   have hlen:=r'.length
   exact Calls.call_len_list pl.isList (by simp only[List.size_toArray];omega) ⟨.int xs.length,H,I.tok _,⟨_,by simp only[List.size_toArray];rw[hlen]⟩,q⟩
  ·subst e'
   obtain⟨its,r',pl,hz⟩:=I.tuple hx
   have hlen:=r'.length
   exact len_tuple pl (by simp only[List.size_toArray];omega) ⟨.int xs.length,H,I.tok _,⟨_,by simp only[List.size_toArray];rw[hlen]⟩,q⟩
 |_=>exact(show False from e).elim
end
end L2
namespace L2
open PySem PySem.Spec PyProof.Rows
structure GY(h:Heap)(x dx C:Addr)(mA:Str->Option Value):Prop where
 obj:h.get? x=some (PySem.W.instObj C dx)
 ns:h.Ns1 dx mA
 ne:dx≠x
theorem tW{h:Heap}{dx:Addr}{mA:Str->Option Value}(n:h.Ns1 dx mA):∃od,h.get? dx=some od/\∀name,PySem.W.lookIn name od=some (mA name):=by
 obtain⟨o,es,ep,ho,hd,hk,_,hm⟩:=n
 refine⟨o,ho,λname=>?_⟩
 have e:=hm name
 unfold nsFind findBy at e
 rw[←Array.find?_toList]at e
 unfold PySem.W.lookIn
 rw[hd]
 dsimp only
 split
 ·rename_i y q
  rw[q]at e
  exact congrArg some e
 ·rename_i q
  rw[q]at e
  have a:es.toList.any (·.refKey)=false:=by
   rw[List.any_eq_false]
   intro y hy
   obtain⟨z,t,hkey⟩:=hk y (Array.mem_toList_iff.mp hy)
   simp[DictEntry.refKey,hkey]
  have a':¬es.toList.any (·.refKey)=true:=by rw[a];exact Bool.false_ne_true
  rw[if_neg a']
  exact congrArg some e
theorem GY.look{h:Heap}{x dx C:Addr}{mA:Str->Option Value}(I:GY h x dx C mA):∃od,PySem.W.InstAt h x (PySem.W.instObj C dx) C (some od)/\∀name,PySem.W.lookIn name od=some (mA name) :=
 let ⟨od,ho,hl⟩:=tW I.ns
 ⟨od,⟨I.obj,rfl,rfl,ho⟩,hl⟩
section
variable{prog:Program}{w:World}{A:Around}{E:Value->Shared->Prop}{s:Shared}{K:PySem.W.Frag}{x dx C f:Addr}{mA:Str->Option Value}{name:Str}{v:Value}
theorem get_map{expr:Bool}{Q:Value->Shared->Prop}(X:K.In s.heap)(I:GY s.heap x dx C mA)(hg:PySem.W.plainGet K C name=true)(hh:PySem.W.hasDictIn K C=true)
  (ha:PySem.W.findIn K (.ref C) name=some none) (hv:mA name=some v) (hv':PySem.W.handedIn v=true) (h:Q v { s with toks:=s.toks+1 }) :
  wpAny (model prog w) A (getAttr (.ref x) name expr) Q E s:=by
 obtain⟨od,J,hl⟩:=I.look
 exact PySem.W.get_value X J (PySem.W.plainGet_of hg).1 (PySem.W.findObj_own hh ha rfl (by rw[hl,hv])) hv' h
theorem Kl{ns:List Str}{Q:Unit->Shared->Prop}(X:K.In s.heap)(I:GY s.heap x dx C mA)
  (hs:PySem.W.findIn K (.ref C) "__setattr__" =some (some (.builtin "object.__setattr__"))) (hp:PySem.W.plainOver K C=true) (ht:PySem.W.takerIn K C name=some none) (hh:PySem.W.hasDictIn K C=true)
  (hw:PySem.Within mA ns) (hsz:ns.length<=sizeLine)
  (h:∀h',GY h' x dx C (λy=>if y=name then some v else mA y)->Heap.SameBut dx s.heap h'->Q () { s with heap:=h',toks:=s.toks+2 }) :
  wpAny (model prog w) A (setAttr (.ref x) name v) Q E s:=by
 obtain⟨od,J,hl⟩:=I.look
 refine PySem.W.set_plain X J hs (PySem.W.osa_open (s:={ s with toks:=s.toks+1 }) (r:=none) X J hp ht λb=>?_)
 obtain⟨cd,hc,hd'⟩:=PySem.W.any_some hh
 have hx:s.heap.get? x=some ⟨.ref C,some dx,.plain,#[]⟩:=I.obj
 refine wpAny_bind (wpAny_pure (wpAny_bind (wpAny_bind (wpAny_loadPart hx (wpAny_bind (PySem.W.Looks.here (s:={ s with toks:=s.toks+1 }) (PySem.W.looks_clsIn X hc) ?_))))))
 rw[hd']
 refine wpAny_pure (a:=some dx) (wpAny_bind (wpAny_pure (wpAny_bind ?_)))
 refine wpAny_nsSet1 (s:={ s with toks:=s.toks+1 }) I.ns λh' hn2 hs2=>?_
 obtain⟨oD,esD,Y6,R5,Sg,Sh⟩:=hn2.count (PySem.Within.cons name v hw)
 refine wpAny_bind (wpAny_lookBehind R5 (by rw[Sg];exact pastItsLine_dict (Nat.le_trans Sh (by rw[List.length_cons];omega))) ?_)
 exact wpAny_pure (h _ ⟨(hs2.2 _ (Ne.symm I.ne)).trans I.obj,hn2,I.ne⟩ hs2)
theorem ID{R:Result->Shared->Prop}{vs:List Value}{kw:List (Str×Value)}(X:K.In s.heap)(hm:PySem.W.makesIn K C=true)
  (hi:PySem.W.findIn K (.ref C) "__init__" =some (some (.ref f))) (hf:PySem.W.typeIn K (.ref f)=some (.type "function"))
  (h:codeAny (model prog w) (A.under (.builtin "type.__call__" ⟨.ref C::vs,kw⟩)) (.call (.ref f) ⟨.ref (s.heap.objs.size+1)::vs,kw⟩) (PySem.W.InitBack (s.heap.objs.size+1) R)
   { s with heap:=(s.heap.push PySem.W.emptyDict).push (PySem.W.instObj C s.heap.objs.size) }) :
  codeAny (model prog w) A (.call (.ref C) ⟨vs,kw⟩) R s:=by
 obtain⟨hh,g,d,t,os⟩:=s
 exact PySem.W.make_core (PySem.W.makes_of X hm) (PySem.W.looks_findIn X hi) (λself=>PySem.W.bind_fn X self hf) (.inl rfl) h
end
def aF(f:Str)(v:V):List (Str×V)->List (Str×V)
 |[]=>[(f,v)]
 |(g,x)::r=>if g=f then(g,v)::r else(g,x)::aF f v r
theorem av(f g:Str)(v:V):∀fs:List (Str×V),(aF f v fs).lookup g=if g=f then some v else fs.lookup g
 |[]=>by
  show List.lookup g [(f,v)]=_
  by_cases h:g=f
  ·have hb:(g==f)=true:=beq_iff_eq.mpr h
   simp only[List.lookup,hb,if_pos h]
  ·have hb:(g==f)=false:=beq_eq_false_iff_ne.mpr h
   simp only[List.lookup,hb,if_neg h]
 |(k,x)::r=>by
  have ih:=av f g v r
  rw[show aF f v ((k,x)::r)=(if k=f then(k,v)::r else(k,x)::aF f v r) from rfl]
  by_cases hk:k=f
  ·rw[if_pos hk]
   by_cases h:g=k
   ·have hb:(g==k)=true:=beq_iff_eq.mpr h
    simp only[List.lookup,hb,if_pos (h.trans hk)]
   ·have hb:(g==k)=false:=beq_eq_false_iff_ne.mpr h
    simp only[List.lookup,hb,if_neg (λe:g=f=>h (e.trans hk.symm))]
  ·rw[if_neg hk]
   by_cases h:g=k
   ·have hb:(g==k)=true:=beq_iff_eq.mpr h
    simp only[List.lookup,hb,if_neg (λe:g=f=>hk (h.symm.trans e))]
   ·have hb:(g==k)=false:=beq_eq_false_iff_ne.mpr h
    simp only[List.lookup,hb]
    exact ih
theorem nM(f:Str)(v:V):∀fs:List (Str×V),f∈(aF f v fs).map (·.1)/\∀g,g∈fs.map (·.1)->g∈(aF f v fs).map (·.1)
 |[]=>⟨by simp[aF],λg h=>by simp at h⟩
 |(k,x)::r=>by
  obtain⟨i1,i2⟩:=nM f v r
  rw[show aF f v ((k,x)::r)=(if k=f then(k,v)::r else(k,x)::aF f v r) from rfl]
  by_cases hk:k=f
  ·rw[if_pos hk]
   subst hk
   exact⟨by simp,λg h=>by simpa using h⟩
  ·rw[if_neg hk]
   refine⟨?_,λg h=>?_⟩
   ·rw[List.map_cons]
    exact List.mem_cons_of_mem _ i1
   ·rw[List.map_cons]at h ⊢
    rcases List.mem_cons.mp h with e|e
    ·exact List.mem_cons.mpr (.inl e)
    ·exact List.mem_cons_of_mem _ (i2 g e)
theorem pG(f:Str)(v:V):∀fs:List (Str×V),(aF f v fs).length<=fs.length+1
 |[]=>by simp[aF]
 |(k,x)::r=>by
  have ih:=pG f v r
  rw[show aF f v ((k,x)::r)=(if k=f then(k,v)::r else(k,x)::aF f v r) from rfl]
  by_cases hk:k=f
  ·rw[if_pos hk,List.length_cons,List.length_cons];omega
  ·rw[if_neg hk,List.length_cons,List.length_cons];omega
theorem mL.some_of{v:V}{o:Option Value}(r:mL (some v) o):∃u,o=some u/\RelV v u:=by
 cases o with
 |none=>exact(show False from r).elim
 |some u=>exact⟨u,rfl,r⟩
theorem GB{v:V}{u:Value}(r:RelV v u):PySem.W.handedIn u=true:=by
 cases v with
 |i9=>cases (show u=Value.none from r);rfl
 |bl b=>cases (show u=Value.bool b from r);rfl
 |int i=>obtain⟨t,e⟩:=(show ∃t,u=Value.int i t from r);cases e;rfl
 |str x=>obtain⟨t,e⟩:=(show ∃t,u=Value.str x t from r);cases e;rfl
 |Fz b=>obtain⟨t,e⟩:=(show ∃t,u=Value.bytes b t from r);cases e;rfl
 |Pd b=>obtain⟨t,e⟩:=(show ∃t,u=Value.float b t from r);cases e;rfl
 |ref a=>cases (show u=Value.ref a from r);rfl
 |ty n=>cases (show u=Value.type n from r);rfl
section
variable{P:Program}{w:World}{H H':Hp}{h h':Heap}{a C dx:Addr}{fs fs':List (Str×V)}
theorem Ad(hok:mj P w H h)(e:H a=some (.ins C dx fs)):∃mA,GY h a dx C mA/\(∀f,mL (fs.lookup f) (mA f))/\PySem.Within mA (fs.map (·.1))/\fs.length<=1000/\H dx=some (.own a):=by
 obtain⟨d,z,ne,ob,mA,n,r,q⟩:=(show bM P w H h a (.ins C dx fs) from hok a _ e)
 exact⟨mA,⟨ob,n,ne⟩,r,q,z,d⟩
end
structure LC(K:PySem.W.Frag)(C:Addr):Prop where
 pg:PySem.W.plainGet K C Str.empty=true
 hd:PySem.W.hasDictIn K C=true
 po:PySem.W.plainOver K C=true
 sa:PySem.W.findIn K (.ref C) "__setattr__" =some (some (.builtin "object.__setattr__"))
theorem LC.get{K:PySem.W.Frag}{C:Addr}(c:LC K C)(f:Str):PySem.W.plainGet K C f=true:=c.pg
def bL(K:PySem.W.Frag)(C:Addr)(f:Str):Prop:=PySem.W.findIn K (.ref C) f=some none
theorem bL.HA{K:PySem.W.Frag}{C:Addr}{f:Str}(n:bL K C f):PySem.W.takerIn K C f=some none:=by
 unfold PySem.W.takerIn
 rw[show PySem.W.findIn K (.ref C) f=some none from n]
 rfl
section
variable{X:Cx}{pins:List (Addr×Obj)}{σ:St}{H:Hp}{s:Shared}{a C dx:Addr}{fs:List (Str×V)}{f:Str}{v:V}{A:Around}{E:Value->Shared->Prop}
theorem D8{b:Bool}{Q:Value->Shared->Prop}(I:Inv X pins σ H s)(e:H a=some (.ins C dx fs))(c:LC X.K C)(n:bL X.K C f)(l:fs.lookup f=some v)
  (h:∀u s',Inv X pins σ H s'->RelV v u->Q u s'):wpAny (model X.prog X.w) A (getAttr (.ref a) f b) Q E s:=by
 obtain⟨mA,O,r,_,_,_⟩:=Ad I.hok e
 obtain⟨u,hu,ru⟩:=mL.some_of (v:=v) (o:=mA f) (by rw[←l];exact r f)
 exact get_map I.nR O (c.get f) c.hd n hu (GB ru) (h u _ (I.tok _) ru)
theorem Ds{y:V}{u:Value}{Q:Unit->Shared->Prop}(I:Inv X pins σ H s)(e:H a=some (.ins C dx fs))(c:LC X.K C)(n:bL X.K C f)(hl:fs.length<1000)(ry:RelV y u)
  (h:∀s',Inv X pins σ (upd H a (.ins C dx (aF f y fs))) s'->Q () s'):wpAny (model X.prog X.w) A (setAttr (.ref a) f u) Q E s:=by
 obtain⟨mA,O,r,wi,_,ho⟩:=Ad I.hok e
 have hz:(fs.map (·.1)).length<=sizeLine:=by rw[List.length_map,sizeLine_eq];omega
 refine Kl I.nR O c.sa c.po n.HA c.hd wi hz λh' O' sb=>h _ ?_
 have hd:∃o,h'.get? dx=some o:=let ⟨o,_,_,e',_⟩:=O'.ns;⟨o,e'⟩
 refine I.write (x:=a) (e:=dx) (by rw[e];exact True.intro) (.inr ho) (λb q hb z=>(sb.2 b hb).trans z) hd ?_
 refine⟨by rw[au O.ne];exact ho,?_,O.ne,O'.obj,_,O'.ns,λg=>?_,λg hg=>?_⟩
 ·have:=pG f y fs;omega
 ·show mL ((aF f y fs).lookup g) (if g=f then some u else mA g)
  rw[av]
  by_cases q:g=f
  ·rw[if_pos q,if_pos q];exact ry
  ·rw[if_neg q,if_neg q];exact r g
 ·by_cases q:g=f
  ·rw[q];exact(nM f y fs).1
  ·refine(nM f y fs).2 g (wi g λz=>hg ?_)
   show(if g=f then some u else mA g)=none
   rw[if_neg q];exact z
theorem Inv.made(I:Inv X pins σ H s):Inv X pins σ (upd (upd H s.heap.objs.size (.own (s.heap.objs.size+1))) (s.heap.objs.size+1) (.ins C s.heap.objs.size []))
  { s with heap:=(s.heap.push PySem.W.emptyDict).push (PySem.W.instObj C s.heap.objs.size) }:=by
 have e1:(s.heap.push PySem.W.emptyDict).get? s.heap.objs.size=some PySem.W.emptyDict:=Heap.get?_push_size s.heap rfl
 have e2:((s.heap.push PySem.W.emptyDict).push (PySem.W.instObj C s.heap.objs.size)).get? (s.heap.objs.size+1)=some (PySem.W.instObj C s.heap.objs.size):=by
  have:=Heap.get?_push_size (s.heap.push PySem.W.emptyDict) (o:=PySem.W.instObj C s.heap.objs.size) rfl
  rwa [Heap.size_push]at this
 have e3:(s.heap.push PySem.W.emptyDict).Ns s.heap.objs.size (λ_=>none):=⟨PySem.W.emptyDict,#[],_,e1,rfl,(λe he=>absurd he (by simp)),λ_=>rfl⟩
 have I1:=I.laid (a:=s.heap.objs.size) (o:=.own (s.heap.objs.size+1)) (h':=s.heap.push PySem.W.emptyDict) (t':=s.toks) (λb u q=>Heap.get?_push_of_some _ q) (Nat.le_refl _) ⟨_,e1⟩
 refine I1.laid (a:=s.heap.objs.size+1) (o:=.ins C s.heap.objs.size []) (t':=s.toks) (λb u q=>Heap.get?_push_of_some _ q) (Nat.le_of_eq (Heap.size_push _ _)) ?_
 have ne:s.heap.objs.size≠s.heap.objs.size+1:=Nat.ne_of_lt (Nat.lt_succ_self _)
 refine⟨by rw[au ne,ah],Nat.zero_le _,ne,e2,λ_=>none,(Heap.Ns1.of_empty e3).at λo q=>Heap.get?_push_of_some _ q,λ_=>True.intro,λy hy=>absurd rfl hy⟩
theorem FD{prog:Program}{w:World}{env:Env}{e:Expr}{f:Str}{pos:Pos}{s:Shared}{Q:Value->Shared->Prop}(hb:attributeBase e f env (eval e env)=eval e env)
  (h:wpAny (model prog w) A (eval e env) (λo s₁=>wpAny (model prog w) A (getAttr o f true) Q E s₁) E s):wpAny (model prog w) A (eval (.Attribute e f pos) env) Q E s :=
 Attribute_any_ h (by rw[arm_eval_Attribute,hb])
end
def QB(K:PySem.W.Frag)(ta:TE)(f:Str):TE:=λσ H Q=>ta σ H λx H1=>∃a C dx fs v,x= .ref a/\H1 a=some (.ins C dx fs)/\LC K C/\bL K C f/\fs.lookup f=some v/\Q v H1
def VV(K:PySem.W.Frag)(ta tv:TE)(f:Str):TS:=λD σ H=>tv σ H λy H1=>ta σ H1 λx H2=>∃a C dx fs,x= .ref a/\H2 a=some (.ins C dx fs)/\LC K C/\bL K C f/\fs.length<1000 ∧
 D.nx σ (upd H2 a (.ins C dx (aF f y fs)))
section
variable{X:Cx}{o e value:Expr}{f:Str}{pos pos' tpos:Pos}{ta tv:TE}
theorem dm(he:PE X e ta)(hb:attributeBase e f X.env (eval e X.env)=eval e X.env):PE X (.Attribute e f pos) (QB X.K ta f):=by
 intro pins s σ H Q I h
 refine FD hb (dJ (he pins s σ H _ I h) λu s1 ⟨x,H1,I1,rx,a,C,dx,fs,v,ex,ea,c,n,l,q⟩=>?_)
 subst ex
 obtain rfl:u=Value.ref a:=rx
 exact D8 I1 ea c n l λu' s2 I2 ru=>⟨v,H1,I2,ru,q⟩
theorem lC(ha:PE X o ta)(hv:PE X value tv)(hs:swapsWith value (some (.Attribute o f pos')) pos.line X.env=pure false):PS X (.Assign [.Attribute o f pos'] value pos) (VV X.K ta tv f):=by
 intro pins s σ H D I h
 refine plainObj_wpAny_Assign_Attribute (dJ (hv pins s σ H _ I h) λu s1 ⟨y,H1,I1,ry,q⟩=>dJ (ha pins s1 σ H1 _ I1 q) λov s2 ⟨x,H2,I2,rx,a,C,dx,fs,ex,ea,c,n,l,q2⟩=>?_) hs
 subst ex
 obtain rfl:ov=Value.ref a:=rx
 exact Ds I2 ea c n l ry λs3 I3=>⟨σ,_,I3,q2⟩
end
section
variable{X:Cx}{pins:List (Addr×Obj)}{σ:St}{H:Hp}{s:Shared}{A:Around}{E:Value->Shared->Prop}{Q:Value->Shared->Prop}{c:Value}{b:Bool}
inductive rK(K:PySem.W.Frag)(H:Hp):V->Value->Prop where
 |i9:rK K H .i9 (.type "NoneType")
 |bl (x:Bool):rK K H (.bl x) (.type "bool")
 |int (i:Int):rK K H (.int i) (.type "int")
 |str (x:Str):rK K H (.str x) (.type "str")
 |Pd (x:UInt64):rK K H (.Pd x) (.type "float")
 |lst {a:Addr} {xs:List V} (e:H a=some (.lst xs)):rK K H (.ref a) (.type "list")
 |Eb {a:Addr} {o:Obj} {xs:List V} (e:H a=some (.Eb o (.lst xs))):rK K H (.ref a) (.type "list")
 |tup {a:Addr} {xs:List V} (e:H a=some (.tup xs)):rK K H (.ref a) (.type "tuple")
 |dK {a:Addr} {kvs:List (Key×V)} (e:H a=some (.dK kvs)):rK K H (.ref a) (.type "dict")
 |dT {a:Addr} {kvs:List (List Key×V)} (e:H a=some (.dT kvs)):rK K H (.ref a) (.type "dict")
 |ins {a C dx:Addr} {fs:List (Str×V)} (e:H a=some (.ins C dx fs)) (cl:LC K C) (ha:PySem.W.findIn K (.ref C) "__class__" =some (some (.builtin "object.__class__")))
   (hn:PySem.W.specialIn K (.builtin "object.__class__") "__get__" =some (some (.builtin "getset_descriptor.__get__"))) (htk:PySem.W.takesIn K (.builtin "object.__class__")=some true)
   (hm:PySem.W.mroIn K C (.type "object")=some true):rK K H (.ref a) (.ref C)
theorem Gw{x:V}{u t:Value}(I:Inv X pins σ H s)(rx:RelV x u)(ty:rK X.K H x t)(e:PySem.W.kitOne X.K t c=some b)(h:∀tk,Q (.bool b) { s with toks:=tk }):
  wpAny (model X.prog X.w) A (call (.builtin "isinstance") [u,c]) Q E s:=by
 cases ty with
 |i9=>cases (show u=Value.none from rx);exact PySem.W.kia_one PySem.W.kitx_none I.nR True.intro e (λz=>nomatch z) h
 |bl y=>cases (show u=Value.bool y from rx);exact PySem.W.kia_one PySem.W.kitx_bool I.nR True.intro e (λz=>nomatch z) h
 |int i=>obtain⟨t,q⟩:=(show ∃t,u=Value.int i t from rx);cases q;exact PySem.W.kia_one PySem.W.kitx_int I.nR True.intro e (λz=>nomatch z) h
 |str y=>obtain⟨t,q⟩:=(show ∃t,u=Value.str y t from rx);cases q;exact PySem.W.kia_one PySem.W.kitx_str I.nR True.intro e (λz=>nomatch z) h
 |Pd y=>obtain⟨t,q⟩:=(show ∃t,u=Value.float y t from rx);cases q;exact PySem.W.kia_one PySem.W.kitx_float I.nR True.intro e (λz=>nomatch z) h
 | @lst a xs ea =>
  cases (show u=Value.ref a from rx)
  obtain⟨_,_,n,_,h1⟩:=(show bM X.prog X.w H s.heap a (.lst xs) from I.hok a _ ea)
  exact PySem.W.kia_one PySem.W.kitx_list I.nR ⟨_,h1,rfl⟩ e (λz=>nomatch z) h
 | @Eb a ob xs ea =>
  cases (show u=Value.ref a from rx)
  obtain⟨_,_,_,n,_,h1⟩:=(show bM X.prog X.w H s.heap a (.Eb ob (.lst xs)) from I.hok a _ ea)
  exact PySem.W.kia_one PySem.W.kitx_list I.nR ⟨_,h1,rfl⟩ e (λz=>nomatch z) h
 | @tup a xs ea =>
  cases (show u=Value.ref a from rx)
  obtain⟨_,_,_,p⟩:=(show bM X.prog X.w H s.heap a (.tup xs) from I.hok a _ ea)
  obtain⟨o,h1,h2,_⟩:=p
  exact PySem.W.kia_one PySem.W.kitx_tuple I.nR ⟨o,h1,h2⟩ e (λz=>nomatch z) h
 | @dK a kvs ea =>
  cases (show u=Value.ref a from rx)
  obtain⟨_,_,vs,_,p⟩:=(show bM X.prog X.w H s.heap a (.dK kvs) from I.hok a _ ea)
  obtain⟨o,es,ep,h1,h2,_⟩:=p
  exact PySem.W.kia_one PySem.W.kitx_dict I.nR ⟨o,h1,h2.1⟩ e (λz=>nomatch z) h
 | @dT a kvs ea =>
  cases (show u=Value.ref a from rx)
  obtain⟨_,_,xs,_,o,es,ep,h1,h2,_⟩:=(show bM X.prog X.w H s.heap a (.dT kvs) from I.hok a _ ea)
  exact PySem.W.kia_one PySem.W.kitx_dict I.nR ⟨o,h1,h2.1⟩ e (λz=>nomatch z) h
 | @ins a C dx fs ea cl ha hn htk hm =>
  cases (show u=Value.ref a from rx)
  obtain⟨mA,O,_⟩:=Ad I.hok ea
  obtain⟨od,J,_⟩:=O.look
  exact PySem.W.kia_one (PySem.W.kitx_own (cl.get _) cl.hd ha hn htk hm) I.nR J e (λz=>nomatch z) h
end
end L2
namespace L2
open PySem PySem.Spec PyProof.Rows
structure jE(k:Nat)(A:Around):Prop where
 hd:A.handled=none
 dp:A.depth+3*k+5<recursionLimit
 un:A.units+16*k+200<cLine
theorem jE.mono{j k:Nat}{A:Around}(r:jE k A)(h:j<=k):jE j A:=⟨r.hd,by have:=r.dp;omega,by have:=r.un;omega⟩
theorem jE.deeper{k:Nat}{A:Around}(r:jE (k+1) A)(env:Env):jE k (A.deeper env) :=
 ⟨r.hd,by have:=r.dp;show A.depth+1+3*k+5<_;omega,by have:=r.un;show A.units+3+16*k+200<_;omega⟩
theorem D3{A:Around}{C:Addr}{us:List Value}{kw:List (Str×Value)}:(A.under (.builtin "type.__call__" ⟨.ref C::us,kw⟩)).depth=A.depth+1:=by
 first|rfl|simp[Around.under,Code.weight,Code.isCreation,Code.isGuard,Code.isCaller,Code.frames,Code.isFrame,guardIds]
theorem D0{A:Around}{C:Addr}{us:List Value}{kw:List (Str×Value)}:(A.under (.builtin "type.__call__" ⟨.ref C::us,kw⟩)).units=A.units+1:=by
 first|rfl|simp[Around.under,Code.cUnits,Code.frames,Code.isFrame]
theorem jE.make{k:Nat}{A:Around}(r:jE (k+1) A)(C:Addr)(us:List Value)(kw:List (Str×Value)):jE k (A.under (.builtin "type.__call__" ⟨.ref C::us,kw⟩)) :=
 ⟨r.hd,by have:=r.dp;rw[D3];omega,by have:=r.un;rw[D0];omega⟩
theorem jE.depth{k:Nat}{A:Around}(r:jE k A):A.depth<recursionLimit:=by have:=r.dp;omega
theorem jE.units{k:Nat}{A:Around}(r:jE k A):A.units+64<cLine:=by have:=r.un;omega
def VI:TA:=λ_ H Q=>Q [] H
def QE(ta:TE)(tr:TA):TA:=λσ H Q=>ta σ H λx H1=>tr σ H1 λxs H2=>Q (x::xs) H2
section
variable{X:Cx}{e:Expr}{es:List Expr}{te:TE}{t:TA}{pos:Pos}
theorem af:PA X [] VI:=λ_ _ _ _ H Q I h=>Calls.spliced_nil ⟨[],H,I,.nil,h⟩
theorem aa(ha:PE X e te)(hr:PA X es t)(hs:starEach (e::es) X.env=(false,eval e X.env)::starEach es X.env:=by rfl):PA X (e::es) (QE te t):=by
 intro pos pins s σ H Q I h
 rw[hs]
 show wpAny _ _ (spliced ((false,eval e X.env)::backTo pos (starEach es X.env))) _ _ s
 refine Calls.spliced_cons (dJ (ha pins s σ H _ I h) λu s1 ⟨x,H1,I1,r1,q1⟩=>?_)
 exact dJ (hr pos pins s1 σ H1 _ I1 q1) λus s2 ⟨xs,H2,I2,r2,q2⟩=>⟨x::xs,H2,I2,.cons r1 r2,q2⟩
def VB(t:TA):TE:=λσ H Q=>t σ H λxs H1=>xs.length<=sizeLine/\∀p,H1 p=none->Q (.ref p) (upd H1 p (.tup xs))
def VL(t:TA):TE:=λσ H Q=>t σ H λxs H1=>xs.length<=sizeLine/\∀p,H1 p=none->Q (.ref p) (upd H1 p (.lst xs))
theorem bP{x1}(h:PA X es t):PE X (.Tuple es x1 pos) (VB t):=by
 intro pins s σ H Q I hq
 refine wpAny_Tuple_spliced (dJ (h pos pins s σ H _ I hq) λus s1 ⟨xs,H1,I1,r,z,q⟩=>⟨by rw[←r.length];exact z,?_⟩)
 have hf:H1 s1.heap.objs.size=none:=I1.hok.fresh (Nat.le_refl _)
 refine⟨.ref s1.heap.objs.size,upd H1 s1.heap.objs.size (.tup xs),I1.laid (t':=s1.toks) (λb u e=>Heap.get?_push_of_some _ e) (Nat.le_refl _) ?_,rfl,q _ hf⟩
 exact⟨z,us,r,⟨_,Heap.get?_push_size _ rfl,rfl,_,rfl⟩⟩
theorem jO(h:PA X es t):PE X (.List es pos) (VL t):=by
 intro pins s σ H Q I hq
 refine wpAny_List_spliced (dJ (h pos pins s σ H _ I hq) λus s1 ⟨xs,H1,I1,r,z,q⟩=>⟨by rw[←r.length];exact z,?_⟩)
 have hf:H1 s1.heap.objs.size=none:=I1.hok.fresh (Nat.le_refl _)
 refine⟨.ref s1.heap.objs.size,upd H1 s1.heap.objs.size (.lst xs),I1.laid (t':=s1.toks) (λb u e=>Heap.get?_push_of_some _ e) (Nat.le_refl _) ?_,rfl,q _ hf⟩
 exact⟨z,us,0,r,Heap.get?_push_size _ rfl⟩
end
abbrev Sp:=List V->Hp->VK->XK->Prop
abbrev G3:=List Env->Hp->Shared->XK->Value->Shared->Prop
structure EA(P:Program)(w:World)(K:PySem.W.Frag)(mg:Str->Option Value)(base:Heap)(A:Around)(outer:List Env)(s:Shared)(H:Hp):Prop where
 frames:A.frames=some outer
 mod:Mod K mg base
 bs:∀b o,base.get? b=some o->s.heap.get? b=some o/\H b=none
 Jw:base.objs.size<=s.heap.objs.size
 rD:s.heap.FunFrames base outer
 Lh:∀b∈frs outer,H b=none
 hok:mj P w H s.heap
 bare:AllBare s.gens
 tk:Eo mg s.toks
def CE(outer:List Env)(P:Program)(w:World)(H:Hp)(s:Shared)(Q:VK)(u:Value)(s':Shared):Prop :=
 ∃v H',s'.os=s.os/\AllBare s'.gens/\Un (frs outer) [] H H' s.heap s'.heap/\mj P w H' s'.heap/\RelV v u/\s.toks<=s'.toks/\Q v H'
def CR(CX:G3)(outer:List Env)(P:Program)(w:World)(H:Hp)(s:Shared)(Q:VK)(E:XK)(r:Result)(s':Shared):Prop :=
 match r with
 | .ok (.ret u)=>CE outer P w H s Q u s'
 | .ok _=>False
 | .error e=>CX outer H s E e s'
structure aK(P:Program)(w:World)(K:PySem.W.Frag)(mg:Str->Option Value)(base:Heap)(CX:G3)(k:Nat)(f:Addr)(fd:FuncData)(ps:List Str)(sp:Sp):Prop where
 len:∀vs H Q E,sp vs H Q E->vs.length=ps.length
 run:∀(A:Around) (outer:List Env) (s:Shared) (H:Hp) (args:Args) (us:List Value) (vs:List V) (Q:VK) (E:XK),jE k A->EA P w K mg base A outer s H->BindsTo s fd args (ps.zip us)->Vals vs us->sp vs H Q E →
  codeAny (model P w) A (.call (.ref f) args) (CR CX outer P w H s Q E) s
theorem EA.make{P:Program}{w:World}{K:PySem.W.Frag}{mg:Str->Option Value}{base:Heap}{A:Around}{outer:List Env}{s:Shared}{H:Hp}(e:EA P w K mg base A outer s H)(C:Addr)(us:List Value)(kw:List (Str×Value)):
  EA P w K mg base (A.under (.builtin "type.__call__" ⟨.ref C::us,kw⟩)) outer s H:=⟨by first|exact e.frames|(simpa[Around.under,Code.envs,Code.isFrame,pushEnvs]using e.frames),e.mod,e.bs,e.Jw,e.rD,e.Lh,e.hok,e.bare,e.tk⟩
section
variable{X:Cx}{pins:List (Addr×Obj)}{σ:St}{H:Hp}{s s':Shared}
theorem Inv.Lq(I:Inv X pins σ H s):EA X.prog X.w X.K X.mg X.base X.A X.stack s H :=
 ⟨I.ok.frames,I.ok.mod,I.bs,Nat.le_trans I.ok.Jw I.sz,I.stack,I.zC,I.hok,I.bare,I.tk⟩
theorem Inv.after{Q:VK}{u:Value}(I:Inv X pins σ H s)(h:CE X.stack X.prog X.w H s Q u s'):EP X pins σ Q u s':=by
 obtain⟨v,H',os,bare,un,hok,r,tt,q⟩:=h
 obtain⟨hh,g,d,t,os'⟩:=s'
 obtain rfl:os'=s.os:=os
 exact⟨v,H',I.call (h':=hh) (g':=g) (d':=d) (t':=t) (ch:=[]) un hok bare (λb z=>absurd z (by simp)) (Nat.le_trans I.up tt),r,q⟩
end
def QF(sp:Sp)(dvs:List V)(E:XK)(t:TA):TE:=λσ H Q=>t σ H λvs H1=>sp (vs++dvs) H1 Q E
def QA(C:Addr)(sp:Sp)(dvs:List V)(E:XK)(t:TA):TE:=λσ H Q=>t σ H λvs H1=>∀x dx,H1 x=none->H1 dx=none->dx≠x →
 sp (.ref x::(vs++dvs)) (upd (upd H1 dx (.own x)) x (.ins C dx [])) (λv H2=>v= .i9/\Q (.ref x) H2) E
def Binds(K:PySem.W.Frag)(fd:FuncData)(ps:List Str)(ds:List Value):Prop :=
 ∀(s:Shared) (us:List Value),K.In s.heap->(us++ds).length=ps.length->BindsTo s fd ⟨us,[]⟩ (ps.zip (us++ds))
theorem Binds.all{K:PySem.W.Frag}{fd:FuncData}{ps:List Str}(h:∀us:List Value,us.length=ps.length->bindArgs fd ⟨us,[]⟩=pure (ps.zip us)):Binds K fd ps []:=λs us _ hl=>by
 rw[List.append_nil]at hl ⊢
 exact .of_eq (h us hl)
def Passes(CX:G3)(X:Cx)(E:XK):Prop:=∀(pins:List (Addr×Obj)) (σ:St) (H:Hp) (s:Shared) (e:Value) (s':Shared),Inv X pins σ H s->CX X.stack H s E e s'->X.xe e s'
section
variable{X:Cx}{CX:G3}{k:Nat}{f C:Addr}{fd:FuncData}{ps:List Str}{sp:Sp}{dvs:List V}{ds:List Value}{E:XK}{x m:Str}{p pos apos:Pos}{e o:Expr}{es:List Expr}{ta:TE}{t:TA}
theorem Oh{pins:List (Addr×Obj)}{σ:St}{H:Hp}{s:Shared}{Q:VK}{us:List Value}{vs:List V}(F:aK X.prog X.w X.K X.mg X.base CX k f fd ps sp)(hr:jE k X.A)(hb:Binds X.K fd ps ds)(hd:Vals dvs ds)(hx:Passes CX X E)
  (I:Inv X pins σ H s) (r:Vals vs us) (h:sp (vs++dvs) H Q E):wpAny (model X.prog X.w) X.A (call (.ref f) us) (EP X pins σ Q) X.xe s:=by
 have r2:Vals (vs++dvs) (us++ds):=r.append hd
 have hl:(us++ds).length=ps.length:=by rw[←r2.length];exact F.len _ _ _ _ h
 refine wpAny_call (codeAny_mono (F.run X.A X.stack s H ⟨us,[]⟩ (us++ds) (vs++dvs) Q E hr I.Lq (hb s us I.nR hl) r2 h) λr s' hq=>?_)
 cases r with
 |error e=>exact hx pins σ H s e s' I hq
 |ok fl =>
  cases fl with
  |ret u=>exact I.after hq
  |next=>exact False.elim hq
  |brk=>exact False.elim hq
  |cont=>exact False.elim hq
theorem aA(F:aK X.prog X.w X.K X.mg X.base CX k f fd ps sp)(hr:jE k X.A)(hg:Gl X x)(hm:X.mg x=some (.ref f))(hk:PySem.W.keepIn X.K (.ref f)=true)(hb:Binds X.K fd ps ds)(hd:Vals dvs ds)(hx:Passes CX X E)
  (ha:PA X (e::es) t) (hdb:(x==("__debug__" :Str))=false:=by decide) (he:starEach (e::es) X.env=(false,eval e X.env)::starEach es X.env:=by rfl) (hpl:(backTo pos (starEach es X.env)).any (·.1)=false:=by rfl) :
  PE X (.Call (.Name x p) (e::es) [] pos) (QF sp dvs E t):=by
 intro pins s σ H Q I h
 refine wpAny_Call_Name_kw (m7 I hg hm ?_ hdb)
 refine PySem.W.callWith_K (h₀:=X.base) I.ok.mod.L8 hk (dJ (ha pos pins s σ H _ I h) λus s1 ⟨vs,H1,I1,r,q⟩=>⟨I1.nR,?_⟩) he hpl
 exact Oh F hr hb hd hx I1 r q
structure Mk(K:PySem.W.Frag)(C f:Addr):Prop where
 makes:PySem.W.makesIn K C=true
 init:PySem.W.findIn K (.ref C) "__init__" =some (some (.ref f))
 fn:PySem.W.isFn K (.ref f)=true
 kp:PySem.W.keepIn K (.ref C)=true
theorem HW{pins:List (Addr×Obj)}{σ:St}{H:Hp}{s:Shared}{Q:VK}{us:List Value}{vs:List V}(M:Mk X.K C f)(F:aK X.prog X.w X.K X.mg X.base CX k f fd ps sp)(hr:jE (k+1) X.A)(hb:Binds X.K fd ps ds)(hd:Vals dvs ds)
  (hx:Passes CX X E) (I:Inv X pins σ H s) (r:Vals vs us)
  (h:∀x dx,H x=none->H dx=none->dx≠x->sp (.ref x::(vs++dvs)) (upd (upd H dx (.own x)) x (.ins C dx [])) (λv H2=>v= .i9/\Q (.ref x) H2) E) :
  wpAny (model X.prog X.w) X.A (call (.ref C) us) (EP X pins σ Q) X.xe s:=by
 have hq:=h (s.heap.objs.size+1) s.heap.objs.size (I.hok.fresh (Nat.le_succ _)) (I.hok.fresh (Nat.le_refl _)) (Nat.ne_of_lt (Nat.lt_succ_self _))
 have I2:=Inv.made (C:=C) I
 have r2:Vals (V.ref (s.heap.objs.size+1)::(vs++dvs)) (Value.ref (s.heap.objs.size+1)::(us++ds)):=.cons rfl (r.append hd)
 have hl:(Value.ref (s.heap.objs.size+1)::us++ds).length=ps.length:=by
  have e:=r2.length
  rw[F.len _ _ _ _ hq]at e
  exact e.symm
 refine wpAny_call (ID (f:=f) I.nR M.makes M.init (beq_iff_eq.mp M.fn) (codeAny_mono (F.run _ X.stack _ _ ⟨Value.ref (s.heap.objs.size+1)::us,[]⟩ (Value.ref (s.heap.objs.size+1)::(us++ds)) _ _ E (hr.make C us [])
  (I2.Lq.make C us []) (hb _ (Value.ref (s.heap.objs.size+1)::us) I2.nR hl) r2 hq) λr s' hq'=>?_))
 cases r with
 |error e=>exact hx pins σ _ _ e s' I2 hq'
 |ok fl =>
  cases fl with
  |ret u =>
   obtain⟨v,H',I3,rv,ev,q3⟩:=I2.after hq'
   subst ev
   exact⟨rv,⟨V.ref (s.heap.objs.size+1),H',I3,rfl,q3⟩⟩
  |next=>exact False.elim hq'
  |brk=>exact False.elim hq'
  |cont=>exact False.elim hq'
theorem E2(M:Mk X.K C f)(F:aK X.prog X.w X.K X.mg X.base CX k f fd ps sp)(hr:jE (k+1) X.A)(hg:Gl X x)(hm:X.mg x=some (.ref C))(hb:Binds X.K fd ps ds)(hd:Vals dvs ds)(hx:Passes CX X E)
  (ha:PA X (e::es) t) (hdb:(x==("__debug__" :Str))=false:=by decide) (he:starEach (e::es) X.env=(false,eval e X.env)::starEach es X.env:=by rfl) (hpl:(backTo pos (starEach es X.env)).any (·.1)=false:=by rfl) :
  PE X (.Call (.Name x p) (e::es) [] pos) (QA C sp dvs E t):=by
 intro pins s σ H Q I h
 refine wpAny_Call_Name_kw (m7 I hg hm ?_ hdb)
 refine PySem.W.callWith_K (h₀:=X.base) I.ok.mod.L8 M.kp (dJ (ha pos pins s σ H _ I h) λus s1 ⟨vs,H1,I1,r,q⟩=>⟨I1.nR,?_⟩) he hpl
 exact HW M F hr hb hd hx I1 r q
end
section
variable{X:Cx}{CX:G3}{k:Nat}{f C:Addr}{fd:FuncData}{ps ks:List Str}{sp:Sp}{E:XK}{x m:Str}{p pos apos kpos:Pos}{e o:Expr}{es:List Expr}{kws:List Keyword}{te ta:TE}{t tk:TA}{nm:Option Str}
variable{g:List Value->List Value->List Value}{gV:List V->List V->List V}
end
structure aH(N P:List Str)(sc:Scope):Prop where
 kind:sc.kind= .function
 co:sc.isCoroutine=false
 gen:sc.isGenerator=false
 nd:N.Nodup
 pre:N.take P.length=P
 par:∀x∈P,sc.names.lookup x=some .local\/sc.names.lookup x=some .cell
 OB:∀y∈sc.names,y.2≠ .free
theorem zj{kindOf:Str->Option NameKind}{x:Str}:∀{binds:List (Str×Value)} {m:Str->Option Value},(∀v,(x,v)∉binds)->bindL kindOf binds m x=m x
 |[],_,_=>rfl
 |(n,v)::r,m,h=>by
  unfold bindL
  rw[zj λw hw=>h w (List.mem_cons_of_mem _ hw)]
  split
  ·have:x≠n:=by rintro rfl;exact h v List.mem_cons_self
   simp[this]
  ·rfl
theorem zl{kindOf:Str->Option NameKind}{x:Str}:∀{binds:List (Str×Value)} {m:Str->Option Value},(∀v,(x,v)∉binds)->bindC kindOf binds m x=m x
 |[],_,_=>rfl
 |(n,v)::r,m,h=>by
  unfold bindC
  rw[zl λw hw=>h w (List.mem_cons_of_mem _ hw)]
  split
  ·rfl
  ·have:x≠n:=by rintro rfl;exact h v List.mem_cons_self
   simp[this]
theorem zk{kindOf:Str->Option NameKind}{x:Str}{v:Value}:∀{P:List Str} {vs:List Value} {i:Nat} {m:Str->Option Value},P.Nodup->P[i]? =some x->vs[i]? =some v->kindOf x=some .local →
  bindL kindOf (P.zip vs) m x=some v
 |[],_,_,_,_,h,_,_=>by simp at h
 |_::_,[],_,_,_,_,h,_=>by simp at h
 |p::P,w::vs,0,m,nd,h1,h2,hk=>by
  simp at h1 h2;subst h1;subst h2
  show bindL kindOf ((p,w)::P.zip vs) m p=_
  unfold bindL
  rw[zj λv hv=>(List.nodup_cons.mp nd).1 (List.of_mem_zip hv).1,if_pos hk]
  simp
 |p::P,w::vs,i+1,m,nd,h1,h2,hk=>by
  show bindL kindOf ((p,w)::P.zip vs) m x=_
  unfold bindL
  exact zk (i:=i) (List.nodup_cons.mp nd).2 (by simpa using h1) (by simpa using h2) hk
theorem zm{kindOf:Str->Option NameKind}{x:Str}{v:Value}:∀{P:List Str} {vs:List Value} {i:Nat} {m:Str->Option Value},P.Nodup->P[i]? =some x->vs[i]? =some v->kindOf x≠some .local →
  bindC kindOf (P.zip vs) m x=some v
 |[],_,_,_,_,h,_,_=>by simp at h
 |_::_,[],_,_,_,_,h,_=>by simp at h
 |p::P,w::vs,0,m,nd,h1,h2,hk=>by
  simp at h1 h2;subst h1;subst h2
  show bindC kindOf ((p,w)::P.zip vs) m p=_
  unfold bindC
  rw[zl λv hv=>(List.nodup_cons.mp nd).1 (List.of_mem_zip hv).1,if_neg hk]
  simp
 |p::P,w::vs,i+1,m,nd,h1,h2,hk=>by
  show bindC kindOf ((p,w)::P.zip vs) m x=_
  unfold bindC
  exact zm (i:=i) (List.nodup_cons.mp nd).2 (by simpa using h1) (by simpa using h2) hk
def start(N:List Str)(vs:List V):St:=vs.map some++List.replicate (N.length-vs.length) none
def sM(CX:G3)(P:Program)(w:World)(K:PySem.W.Frag)(mg:Str->Option Value)(base:Heap)(N:List Str)(qual:Str)(scope:Scope)(f:Addr)(cd:Value)(A:Around)(outer:List Env)(s:Shared)(H:Hp)(E:XK):Cx where
 prog:=P
 w:=w
 K:=K
 mg:=mg
 base:=base
 A:=A.deeper (envOfC qual scope s.heap.objs.size f cd)
 N:=N
 s₀:=s
 H₀:=H
 env:=envOfC qual scope s.heap.objs.size f cd
 outer:=outer
 stack:=envOfC qual scope s.heap.objs.size f cd::outer
 ex:=[]
 calm:=true
 fn:=λ_=>true
 pn:=[]
 xe:=λe s'=>wpAny (model P w) (A.deeper (envOfC qual scope s.heap.objs.size f cd)) (leaving (envOfC qual scope s.heap.objs.size f cd) e) (λ_ s''=>CX outer H s E e s'') (λe' s''=>CX outer H s E e' s'') s'
theorem Cv{sc:Scope}{n:Nat}{x:Str}(h:sc.names.lookup x=some .cell):∃c,(cellsFrom n sc.names []).lookup x=some c:=by
 have q:=PySem.W.cellsFrom_some sc.names n [] (.inl h)
 exact Option.isSome_iff_exists.mp q
theorem Gx{CX:G3}{P:Program}{w:World}{K:PySem.W.Frag}{mg:Str->Option Value}{base:Heap}{N ps:List Str}{qual:Str}{scope:Scope}{f:Addr}{cd:Value}{A:Around}{outer:List Env}{s s1:Shared}{H:Hp}{E:XK}{us:List Value}{vs:List V}
  (S:aH N ps scope) (hd:A.handled=none) (e0:EA P w K mg base A outer s H) (hl:vs.length=ps.length) (r:Vals vs us)
  (x:InCallC s s.heap.objs.size (bindL (envOfC qual scope s.heap.objs.size f cd).kindOf (ps.zip us) λ_=>none) (cellsFrom (s.heap.objs.size+1) scope.names []) (bindC (envOfC qual scope s.heap.objs.size f cd).kindOf (ps.zip us) λ_=>none) s1) (hup:s.toks<=s1.toks) :
  Inv (sM CX P w K mg base N qual scope f cd A outer s H E) [] (start N vs) H s1:=by
 have hpl:ps.length<=N.length:=by have:=congrArg List.length S.pre;rw[List.length_take]at this;omega
 obtain⟨h1,tk,rfl,hk⟩:=x.done
 have htk:s.toks<=tk:=hup
 have Wh:∀b:Addr,b∉(sM CX P w K mg base N qual scope f cd A outer s H E).ex:=λb z=>absurd (show b∈([]:List Addr) from z) (by simp)
 refine⟨⟨e0.mod,S.kind,rfl,rfl,Nat.le_refl _,λy z c h1 h2=>?_,λy hy=>?_,λy c _ h=>?_,λ_=>hd,Around.frames_deeper e0.frames,.inr ⟨rfl,rfl⟩,λb z=>absurd z (Wh b),e0.bs,e0.Jw,λb _ _=>Wh b,λb z=>absurd z (Wh b),e0.rD,e0.Lh,e0.tk⟩,
  rfl,e0.bare,Un.kept hk,⟨_,x.toInCall.ns,λi y v h1 h2 h3=>?_⟩,λy c h=>⟨_,x.cell y c h⟩,e0.hok.fresh (Nat.le_refl _),λy c h=>?_,λp hp=>absurd (show p∈([]:List (Addr×Obj)) from hp) (by simp),e0.hok.kept hk,?_,htk⟩
 ·exact name_of_addr x.apart (PySem.mem_of_lookup h1) (PySem.mem_of_lookup h2)
 ·have hy:scope.names.lookup y=some .cell\/scope.names.lookup y=some .free:=hy
  rcases hy with hy|hy
  ·exact Cv hy
  ·exact absurd rfl (S.OB _ (PySem.mem_of_lookup hy))
 ·exact Nat.le_of_lt (x.above y c (PySem.mem_of_lookup h))
 ·have hi:i<vs.length:=by
   unfold start at h2
   by_cases hi:i<vs.length
   ·exact hi
   ·rw[List.getElem?_append_right (by simpa using hi)]at h2
    rw[List.getElem?_replicate]at h2
    split at h2<;>cases h2
  have ha:vs[i]? =some v:=by
   unfold start at h2
   rw[List.getElem?_append_left (by simpa using hi),List.getElem?_map]at h2
   cases e:vs[i]? with
   |none=>rw[e]at h2;cases h2
   |some a=>rw[e]at h2;cases h2;rfl
  obtain⟨u,hu,rv⟩:=r.get ha
  have hp:ps[i]? =some y:=by
   rw[←S.pre,List.getElem?_take_of_lt (by omega)];exact h1
  have Ym:ps.Nodup:=by rw[←S.pre];exact S.nd.sublist (List.take_sublist _ _)
  refine⟨u,rv,?_⟩
  rcases S.par y (List.mem_of_getElem? hp)with k|k
  ·exact .inl ⟨k,zk Ym hp hu k⟩
  ·obtain⟨c,e⟩:=Cv (n:=s.heap.objs.size+1) k
   refine .inr ⟨.inl k,c,e,?_⟩
   have q:=x.cell y c e
   rw[zm Ym hp hu (by show scope.names.lookup y≠_;rw[k];decide)]at q
   exact q
 ·exact e0.hok.fresh (Nat.le_of_lt (x.above y c (PySem.mem_of_lookup h)))
 ·unfold start
  show _=N.length
  rw[List.length_append,List.length_map,List.length_replicate]
  omega
theorem Jg{CX:G3}{P:Program}{w:World}{K:PySem.W.Frag}{mg:Str->Option Value}{base:Heap}{k:Nat}{f:Addr}{name qual:Str}{params:Arguments}{body:List Stmt}{scope:Scope}{dV kV doc pm cdv ct oc:Value}{an od:Option Addr}
  {osl:Array (Option Value)} {N ps:List Str} {sp:Sp} (lk:K.lookup f=some ⟨oc,od,.func (PySem.W.fnOf name qual params body scope dV kV doc pm an cdv ct),osl⟩) (hcd:PySem.W.codeIn K cdv qual=true) (S:aH N ps scope)
  (len:∀vs H Q E,sp vs H Q E->vs.length=ps.length)
  (hbody:∀(A:Around) (outer:List Env) (s:Shared) (H:Hp) (vs:List V) (Q:VK) (E:XK),jE k (A.deeper (envOfC qual scope s.heap.objs.size f cdv))->sp vs H Q E →
   ∃t,zu (sM CX P w K mg base N qual scope f cdv A outer s H E) body t/\t { nx:=λ_ H'=>Q .i9 H',rt:=Q } (start N vs) H) :
  aK P w K mg base CX (k+1) f (PySem.W.fnOf name qual params body scope dV kV doc pm an cdv ct) ps sp:=by
 refine⟨len,λA outer s H args us vs Q E hr e0 hb r Fj=>?_⟩
 have hl:=len _ _ _ _ Fj
 have KX:K.In s.heap:=e0.mod.L8.keeps λb o e=>(e0.bs b o e).1
 have lim:s.heap.NoLimit:=e0.mod.nolimit.keeps λb o e=>(e0.bs b o e).1
 have hkind:∀y∈ps.zip us,scope.names.lookup y.1=some .local\/(scope.names.lookup y.1=some .cell/\((cellsFrom (s.heap.objs.size+1) scope.names []).lookup y.1).isSome=true):=λ⟨n,v⟩ hy=>by
  rcases S.par n (List.of_mem_zip hy).1 with q|q
  ·exact .inl q
  ·exact .inr ⟨q,PySem.W.cellsFrom_some _ _ _ (.inl q)⟩
 refine TK.Ej (Nat.le_refl _) ?_
 refine codeAny_call_function hr.depth (KX _ _ lk) rfl S.co S.gen rfl (PySem.W.codeRec_of KX hcd) (hb _ _ _ _ ?_)
 refine TK.bO (Nat.le_refl _) (wpAny_newFunctionEnv_cells S.kind hkind λenv he s1 x hup=>?_)
 subst he
 refine⟨lim.keeps x.toInCall.keep,codeAny_func ?_⟩
 obtain⟨t,ht,hq⟩:=hbody A outer s H vs Q E (hr.deeper _) Fj
 have I:Inv (sM CX P w K mg base N qual scope f cdv A outer s H E) [] (start N vs) H s1:=Gx S hr.hd e0 hl r x hup
 refine wpAny_mono (ht [] s1 (start N vs) H _ I hq) (λfl s' hs WH=>?_) λe s' hs=>wpAny_mono hs (λ_ _ z _=>z) λ_ _ z _=>z
 have fin:∀{σ':St} {H':Hp} {v:V} {u:Value},Inv (sM CX P w K mg base N qual scope f cdv A outer s H E) [] σ' H' s'->RelV v u->Q v H'->CE outer P w H s Q u s' :=
  λ{σ' H' v u} J rv q=>⟨v,H',J.os,J.bare,J.base,J.hok,rv,WH,q⟩
 cases fl with
 |ret u =>
  obtain⟨v,σ',H',J,rv,q⟩:=hs
  exact fin J rv q
 |next =>
  obtain⟨σ',H',J,q⟩:=hs
  exact fin (v:=V.i9) (u:=Value.none) J rfl q
 |brk =>
  obtain⟨_,_,_,q⟩:=hs
  exact False.elim q
 |cont =>
  obtain⟨_,_,_,q⟩:=hs
  exact False.elim q
end L2
namespace L2
open PySem PySem.Spec PyProof.Rows
section
variable{X:Cx}{x:Str}{p pos:Pos}{e:Expr}{es:List Expr}{t:TA}{id T:String}{r:List V->Hp->VK->Prop}
def X3(r:List V->Hp->VK->Prop)(t:TA):TE:=λσ H Q=>t σ H λvs H1=>r vs H1 Q
theorem aC (hc:lA X (.builtin id) r) (hg:Gl X x) (hm:X.mg x=none) (hv:bootBuiltins x=some (.builtin id)) (ha:PA X (e::es) t) (hn:x≠ "__name__" :=by decide) (hdb:(x==("__debug__" :Str))=false:=by decide)
  (he:starEach (e::es) X.env=(false,eval e X.env)::starEach es X.env:=by rfl) (hpl:(backTo pos (starEach es X.env)).any (·.1)=false:=by rfl):PE X (.Call (.Name x p) (e::es) [] pos) (X3 r t):=by
 intro pins s σ H Q I h
 refine wpAny_Call_Name_kw (pH I hg hm hv ?_ hn hdb)
 exact PyProof.Rows.callWith_builtin1 (dJ (ha pos pins s σ H _ I h) λus s1 ⟨vs,H1,I1,r1,q1⟩=>hc pins s1 σ H1 vs us Q I1 r1 q1) he hpl
theorem j6 (hc:lA X (.type T) r) (hg:Gl X x) (hm:X.mg x=none) (hv:bootBuiltins x=some (.type T)) (ha:PA X (e::es) t) (hn:x≠ "__name__" :=by decide) (hdb:(x==("__debug__" :Str))=false:=by decide)
  (he:starEach (e::es) X.env=(false,eval e X.env)::starEach es X.env:=by rfl) (hpl:(backTo pos (starEach es X.env)).any (·.1)=false:=by rfl):PE X (.Call (.Name x p) (e::es) [] pos) (X3 r t):=by
 intro pins s σ H Q I h
 refine wpAny_Call_Name_kw (pH I hg hm hv ?_ hn hdb)
 exact PyProof.Rows.callWith_type1 (dJ (ha pos pins s σ H _ I h) λus s1 ⟨vs,H1,I1,r1,q1⟩=>hc pins s1 σ H1 vs us Q I1 r1 q1) he hpl
end
end L2
namespace HT
open PySem PyProof.Rows
section
open PySem.SeqAt
open PySem.AutoSeq1 (wpAny_loadPart')
open PySem.MeetsSeq PySem.MeetsSeq2 PySem.MeetsSeq3
end
section
variable{prog:Program}{w:World}{A:Around}{E:Value->Shared->Prop}{s:Shared}
def Dy(n d:Nat):Option Int->Nat
 |none=>d
 |some v=>if v<0 then(v+(n:Int)).toNat else min v.toNat n
end
end HT
namespace L2
open PySem PySem.Spec PyProof.Rows
abbrev TO:=St->Hp->(Option Int->Hp->Prop)->Prop
def PO(X:Cx)(e:Option Expr)(t:TO):Prop :=
 ∀(pins:List (Addr×Obj)) (s:Shared) (σ:St) (H:Hp) (Q:Option Int->Hp->Prop),Inv X pins σ H s->t σ H Q →
  wpAny (model X.prog X.w) X.A (evalPart e X.env) (λu s'=>∃o H',Inv X pins σ H' s'/\IsPart u o/\Q o H') X.xe s
def Kd:TO:=λ_ H Q=>Q none H
def Qu(t:TE):TO:=λσ H Q=>t σ H λx H1=>∃i,x= .int i/\Q (some i) H1
section
variable{X:Cx}{e:Expr}{te:TE}{lo hi:Option Expr}{tl th:TO}{pos p2:Pos}
theorem zN:PO X none Kd:=by
 intro pins s σ H Q I h
 rw[evalPart_none]
 exact wpAny_pure ⟨none,H,I,.none,h⟩
theorem zM(h:PE X e te):PO X (some e) (Qu te):=by
 intro pins s σ H Q I hw
 rw[evalPart_some]
 refine dJ (h pins s σ H _ I hw) λu s1 ⟨x,H1,I1,r1,q1⟩=>?_
 obtain⟨i,rfl,q⟩:=q1
 obtain⟨t,rfl⟩:=r1
 exact⟨some i,H1,I1,.int i t,q⟩
def XQ(X:Cx)(r:V->Option Int->Option Int->Hp->VK->Prop):Prop :=
 ∀(pins:List (Addr×Obj)) (s:Shared) (σ:St) (H:Hp) (x:V) (v vl vu:Value) (lo hi:Option Int) (sl:Addr) (Q:VK),Inv X pins σ H s->RelV x v->s.heap.IsSliceOf sl vl vu .none->IsPart vl lo->IsPart vu hi->r x lo hi H Q →
  ∃T id,typeLookup (.type T) "__getitem__" =pure (some (.builtin id))/\s.TypeIs v T/\wpAny (model X.prog X.w) X.A (getItem v (.ref sl)) (EP X pins σ Q) X.xe s
def Zm(r:V->Option Int->Option Int->Hp->VK->Prop)(te:TE)(tl th:TO):TE:=λσ H Q=>te σ H λx H1=>tl σ H1 λl H2=>th σ H2 λu H3=>r x l u H3 Q
theorem vS{r:V->Option Int->Option Int->Hp->VK->Prop}(hr:XQ X r)(he:PE X e te)(hl:PO X lo tl)(hu:PO X hi th):PE X (.Subscript e (.Slice lo hi none p2) pos) (Zm r te tl th):=by
 intro pins s σ H Q I h
 refine Subscript_ (dJ (he pins s σ H _ I h) λv s1 ⟨x,H1,I1,r1,q1⟩=>?_)
 refine wpAny_Slice (dJ (hl pins s1 σ H1 _ I1 q1) λvl s2 ⟨l,H2,I2,pl,q2⟩=>dJ (hu pins s2 σ H2 _ I2 q2) λvu s3 ⟨u,H3,I3,pu,q3⟩=>?_)
 rw[evalPart_none]
 refine wpAny_pure ?_
 have I4:Inv X pins σ H3 { s3 with heap:=s3.heap.push { cls:=.type "slice",data:=.fields #[vl,vu,.none] } }:=I3.kept (t':=s3.toks) λb ob q=>Heap.get?_push_of_some _ q
 obtain⟨T,id,hT,ht,hg⟩:=hr pins { s3 with heap:=s3.heap.push { cls:=.type "slice",data:=.fields #[vl,vu,.none] } } σ H3 x v vl vu l u s3.heap.objs.size Q I4 r1 (Heap.IsSliceOf.new ..) pl pu q3
 show wpAny (model X.prog X.w) X.A (subscriptTail e (.Slice lo hi none p2) v (.ref s3.heap.objs.size)) (EP X pins σ Q) X.xe { s3 with heap:=s3.heap.push { cls:=.type "slice",data:=.fields #[vl,vu,.none] } }
 exact tail_any (ops:=[.ref s3.heap.objs.size,v]) ht hT hg (by with_unfolding_all rfl)
def Eh(xs:List V)(lo hi:Option Int):List V:=(xs.drop (HT.Dy xs.length 0 lo)).take (HT.Dy xs.length xs.length hi-HT.Dy xs.length 0 lo)
theorem uF(xs:List V)(lo hi:Option Int):(Eh xs lo hi).length<=xs.length:=by
 unfold Eh
 rw[List.length_take,List.length_drop]
 omega
end
end L2
namespace L2
open PySem PySem.Spec PyProof.Rows
def K3(n:Nat)(i:Int):Option Nat:=if 0<=i then(if i<n then some i.toNat else none)else if -(n:Int)<=i then some (i+n).toNat else none
def AU{α:Type}(xs:List α)(i:Int):Option α:=(K3 xs.length i).bind λj=>xs[j]?
theorem Fb{n:Nat}{i:Int}{j:Nat}(h:K3 n i=some j):seqIndex? i n=some j/\j<n/\ -(n:Int)<=i/\i<n:=by
 unfold K3 at h
 by_cases h0:0<=i
 ·rw[if_pos h0]at h
  by_cases h1:i<n
  ·rw[if_pos h1]at h
   have e:i.toNat=j:=Option.some.inj h
   exact⟨by rw[seqIndex_of h0 h1,e],by omega,by omega,h1⟩
  ·rw[if_neg h1]at h;cases h
 ·rw[if_neg h0]at h
  by_cases h1: -(n:Int)<=i
  ·rw[if_pos h1]at h
   have e:(i+n).toNat=j:=Option.some.inj h
   exact⟨by rw[seqIndex_neg (by omega) h1,e],by omega,h1,by omega⟩
  ·rw[if_neg h1]at h;cases h
theorem Au{α:Type}{xs:List α}{i:Int}{v:α}(h:AU xs i=some v):∃j,seqIndex? i xs.length=some j/\xs[j]? =some v/\j<xs.length/\ -(xs.length:Int)<=i/\i<xs.length:=by
 unfold AU at h
 cases e:K3 xs.length i with
 |none=>rw[e]at h;cases h
 |some j =>
  rw[e]at h
  obtain⟨h1,h2,h3,h4⟩:=Fb e
  exact⟨j,h1,h,h2,h3,h4⟩
theorem g7{α:Type}{xs:List α}{j:Nat}{v:α}(h:xs[j]? =some v):AU xs (j:Int)=some v:=by
 have hj:j<xs.length:=(List.getElem?_eq_some_iff.mp h).1
 have e:K3 xs.length (j:Int)=some j:=by
  unfold K3
  rw[if_pos (by omega),if_pos (by omega)];simp
 unfold AU;rw[e];exact h
def Lz(b:Expr):Prop:=∀o i,subscripted b false o i=operate [o,i] (getItem o i)
def SV(X:Cx)(r:R2):Prop :=
 ∀(value slice:Expr) (pins:List (Addr×Obj)) (s:Shared) (σ:St) (H:Hp) (x y:V) (v u:Value) (Q:VK),Inv X pins σ H s->RelV x v->RelV y u->r x y H Q →
  subscripted slice false v u=operate [v,u] (getItem v u)->wpAny (model X.prog X.w) X.A (subscriptTail value slice v u) (EP X pins σ Q) X.xe s
def XT(X:Cx)(id:String)(r:V->List V->Hp->VK->Prop):Prop :=
 ∀(pins:List (Addr×Obj)) (s:Shared) (σ:St) (H:Hp) (x:V) (xs:List V) (v:Value) (us:List Value) (Q:VK),Inv X pins σ H s->RelV x v->Vals xs us->r x xs H Q →
  wpAny (model X.prog X.w) X.A (call (.builtin id) (v::us)) (EP X pins σ Q) X.xe s
section
variable{X:Cx}{a b:Expr}{ta tb:TE}{pos:Pos}
theorem bw{r:R2}(hr:SV X r)(ha:PE X a ta)(hb:PE X b tb)(hs:Lz b):PE X (.Subscript a b pos) (Tg r ta tb):=by
 intro pins s σ H Q I h
 exact Subscript_ (Px ha hb I h λv u s2 x y H2 I2 rx ry q=>hr a b pins s2 σ H2 x y v u Q I2 rx ry q (hs _ _))
def V2(K:PySem.W.Frag):R2:=λx y H Q=>∃p xs i v,x= .ref p/\y= .int i/\cS K H p xs/\AU xs i=some v/\Q v H
def QZ(K:PySem.W.Frag):R2:=λx y H Q=>∃p xs i v,x= .ref p/\y= .int i/\cT K H p xs/\AU xs i=some v/\Q v H
def V1:R2:=λx y H Q=>∃z i c,x= .str z/\y= .int i/\z.length<=sizeLine/\AU z.cps.toList i=some c/\Q (.str ⟨#[c]⟩) H
theorem b7:SV X (V2 X.K):=by
 intro value slice pins s σ H x y v u Q I rx ry h hs
 obtain⟨p,xs,i,z,rfl,rfl,hq,he,q⟩:=h
 cases rx
 obtain⟨t,rfl⟩:=ry
 obtain⟨its,r,pl,hz⟩:=I.list hq
 obtain⟨j,h1,h2,h3,h4,h5⟩:=Au he
 obtain⟨w,ew,rw'⟩:=r.get h2
 have hl:=r.length
 have hn:=tX
 have fin:EP X pins σ Q w s:=⟨z,H,I,rw',q⟩
 by_cases h0:0<=i
 ·have hj:i.toNat=j:=by
   rw[seqIndex_of h0 h5]at h1
   exact Option.some.inj h1
  exact item_listR pl.isList h0 (by omega) (by rw[hj];simpa using ew) fin hs
 ·have hj:(i+(its.toArray.size:Int)).toNat=j:=by
   rw[seqIndex_neg (by omega) h4]at h1
   rw[List.size_toArray,←hl]
   exact Option.some.inj h1
  exact subscriptTail_builtinR (x:=w) pl.isList.typeIs slot_list_getitem.lookup
   (wpAny_getItem_list_neg (Q:=λr s'=>r=w/\EP X pins σ Q r s') pl.isList (by omega) (by rw[List.size_toArray]<;>omega) (by omega) (by rw[hj];simpa using ew) ⟨rfl,fin⟩) hs
theorem bR:SV X (QZ X.K):=by
 intro value slice pins s σ H x y v u Q I rx ry h hs
 obtain⟨p,xs,i,z,rfl,rfl,hq,he,q⟩:=h
 cases rx
 obtain⟨t,rfl⟩:=ry
 obtain⟨its,r,pl,hz⟩:=I.tuple hq
 obtain⟨j,h1,h2,h3,h4,h5⟩:=Au he
 obtain⟨w,ew,rw'⟩:=r.get h2
 have hl:=r.length
 have hn:=tX
 have fin:EP X pins σ Q w s:=⟨z,H,I,rw',q⟩
 exact subscriptTail_builtinR (x:=w) pl.typeIs slot_tuple_getitem.lookup
  (getItem_tuple (j:=j) (Q:=λr s'=>r=w/\EP X pins σ Q r s') pl (by omega) (by omega) (by rw[List.size_toArray,←hl];exact h1) (by simpa using ew) ⟨rfl,fin⟩) hs
theorem tZ:SV X V1:=by
 intro value slice pins s σ H x y v u Q I rx ry h hs
 obtain⟨z,i,c,rfl,rfl,hz,he,q⟩:=h
 obtain⟨t,rfl⟩:=rx
 obtain⟨t',rfl⟩:=ry
 obtain⟨j,h1,h2,h3,h4,h5⟩:=Au he
 have hl:z.cps.toList.length=z.length:=by simp[Str.length]
 rw[hl]at h1 h4 h5
 have hn:=tX
 exact tail_any (typeIs_str s z t) slot_str_getitem.lookup (getItem_str (c:=c) (by
  have e1:decide (i< -(2 ^ 63:Int))=false:=decide_eq_false (by omega)
  have e2:decide (i>=2 ^ 63)=false:=decide_eq_false (by omega)
  rw[e1,e2,Bool.or_false]) (by rw[h1];simpa using h2) ⟨.str ⟨#[c]⟩,H,I.tok _,⟨_,rfl⟩,q⟩) hs
theorem DZ(its:List Value)(n j:Nat)(u:Value):Obj.mapSeq (·.setIfInBounds j u) { cls:=.type "list",data:=.seq its.toArray n }={ cls:=.type "list",data:=.seq (its.set j u).toArray n }:=by
 simp[Obj.mapSeq]
theorem Inv.lst{pins:List (Addr×Obj)}{σ:St}{H:Hp}{s:Shared}{p:Addr}{xs:List V}(I:Inv X pins σ H s)(h:H p=some (.lst xs)):
  ∃(its:List Value) (n:Nat),Vals xs its/\s.heap.get? p=some { cls:=.type "list",data:=.seq its.toArray n }/\xs.length<=sizeLine:=by
 obtain⟨z,its,n,r,e⟩:=I.hok p _ h
 exact⟨its,n,r,e,z⟩
theorem Inv.OF{pins:List (Addr×Obj)}{σ:St}{H:Hp}{s:Shared}{p:Addr}{xs ys:List V}{its its':List Value}{n n':Nat}{f:Obj->Obj}(I:Inv X pins σ H s)(h:H p=some (.lst xs))
  (ho:s.heap.get? p=some { cls:=.type "list",data:=.seq its.toArray n }) (hf:f { cls:=.type "list",data:=.seq its.toArray n }={ cls:=.type "list",data:=.seq its'.toArray n' }) (r:Vals ys its') (hz:ys.length<=sizeLine) (t:Nat) (ht:s.toks<=t:=by first|exact Nat.le_refl _|exact Nat.le_succ _|assumption|omega) :
  Inv X pins σ (upd H p (.lst ys)) { s with heap:=s.heap.update p f,toks:=t }:=by
 have e:(s.heap.update p f).get? p=some { cls:=.type "list",data:=.seq its'.toArray n' }:=by
  rw[Heap.get?_update_self f ho (by rw[hf]<;>rfl),hf]
 refine I.write (x:=p) (e:=p) (by rw[h];trivial) (.inl rfl) (λb u hb q=>(Heap.get?_update_other _ _ (Ne.symm hb)).trans q) ⟨_,e⟩ ?_
 exact⟨hz,its',n',r,e⟩
def QY:V->V->V->Hp->(Hp->Prop)->Prop:=λo i v H Q=>∃p xs k j,o= .ref p/\i= .int k/\H p=some (.lst xs)/\K3 xs.length k=some j/\Q (upd H p (.lst (xs.set j v)))
theorem set_list:SM X QY:=by
 intro pins s σ H o i v ov iv u Q I ro ri rv h
 obtain⟨p,xs,k,j,rfl,rfl,hp,hj,q⟩:=h
 cases ro
 obtain⟨t,rfl⟩:=ri
 obtain⟨its,n,r,ho,hz⟩:=I.lst hp
 obtain⟨h1,h2,h3,h4⟩:=Fb hj
 have hl:=r.length
 have hn:=tX
 have I':Inv X pins σ (upd H p (.lst (xs.set j v))) { s with heap:=s.heap.update p (Obj.mapSeq (·.setIfInBounds j u)) } :=
  I.OF hp ho (DZ its n j u) (r.set rv j) (by rw[List.length_set];exact hz) s.toks
 by_cases h0:0<=k
 ·have hk:k.toNat=j:=by
   rw[seqIndex_of h0 h4]at h1
   exact Option.some.inj h1
  exact PySem.W.ki_setAt ho h0 (by omega) (by rw[List.size_toArray,←hl];exact h4) (by rw[hk];exact⟨_,I',q⟩)
 ·have hk:(k+(its.toArray.size:Int)).toNat=j:=by
   rw[seqIndex_neg (by omega) h3]at h1
   rw[List.size_toArray,←hl]
   exact Option.some.inj h1
  exact PySem.W.ki_setBack ho (by omega) (by rw[List.size_toArray,←hl];exact h3) (by omega) (by rw[hk];exact⟨_,I',q⟩)
theorem zG(lo hi:Option Int)(n:Nat):(sliceBounds lo hi none n).1=((HT.Dy n 0 lo:Nat):Int)/\(sliceBounds lo hi none n).2.1=((HT.Dy n n hi:Nat):Int)/\(sliceBounds lo hi none n).2.2=1:=by
 refine⟨?_,?_,rfl⟩
 ·cases lo with
  |none=>simp[sliceBounds,HT.Dy]
  |some i =>
   simp only[sliceBounds,HT.Dy,Option.getD_none,show(1:Int)>0 by decide,if_true]
   by_cases h:i<0
   ·simp only[h,if_true]<;>omega
   ·simp only[h,if_false]<;>omega
 ·cases hi with
  |none=>simp[sliceBounds,HT.Dy]
  |some i =>
   simp only[sliceBounds,HT.Dy,Option.getD_none,show(1:Int)>0 by decide,if_true]
   by_cases h:i<0
   ·simp only[h,if_true]<;>omega
   ·simp only[h,if_false]<;>omega
theorem xK(its:List Value)(lo hi:Option Int):slicePick its.toArray lo hi none=((its.drop (HT.Dy its.length 0 lo)).take (HT.Dy its.length its.length hi-HT.Dy its.length 0 lo)).toArray:=by
 obtain⟨h1,h2,h3⟩:=zG lo hi its.toArray.size
 unfold slicePick
 rw[h1,h2,h3]
 simp only[sliceRange_one,pick_run,List.size_toArray]<;>rfl
def V0(K:PySem.W.Frag):V->Option Int->Option Int->Hp->VK->Prop:=λx lo hi H Q=>∃a xs,x= .ref a/\cS K H a xs/\∀p,H p=none->Q (.ref p) (upd H p (.lst (Eh xs lo hi)))
theorem Kg:XQ X (V0 X.K):=by
 intro pins s σ H x v vl vu lo hi sl Q I rx hs pl pu h
 obtain⟨a,xs,rfl,hx,q⟩:=h
 cases rx
 obtain⟨its,r,ht,hz⟩:=I.list hx
 have hlen:=r.length
 refine⟨"list",_,slot_list_getitem.lookup,ht.isList.typeIs,?_⟩
 refine wpAny_getItem_list_slice ht.isList hs pl pu .none (by simp) ?_ (by rw[List.size_toArray]<;>omega)
 rw[xK,←hlen]
 refine⟨.ref s.heap.objs.size,_,I.laid (t':=s.toks) (o:=.lst (Eh xs lo hi)) (λb ob q=>Heap.get?_push_of_some _ q) (Nat.le_refl _) ?_,rfl,q _ (I.hok.fresh (Nat.le_refl _))⟩
 exact⟨Nat.le_trans (uF xs lo hi) hz,_,0,(r.drop (HT.Dy xs.length 0 lo)).take (HT.Dy xs.length xs.length hi-HT.Dy xs.length 0 lo),Heap.get?_push_size _ rfl⟩
def uE:V->Bool
 | .i9=>true
 | .bl _=>true
 | .int _=>true
 | .str _=>true
 |_=>false
def Ln:V->V->Bool
 | .i9,.i9=>true
 | .bl a,.bl b=>a==b
 | .bl a,.int b=>(if a then 1 else 0)==b
 | .int a,.bl b=>a==(if b then 1 else 0)
 | .int a,.int b=>a==b
 | .str a,.str b=>a==b
 |_,_=>false
theorem Pe{A:Around}{s:Shared}{y x:V}{u v:Value}(ry:RelV y u)(rx:RelV x v)(fy:uE y=true)(fx:uE x=true):SeqAt.EqAt A s u v (Ln y x):=by
 cases y with
 |i9 =>
  cases ry
  cases x with
  |i9=>cases rx;exact SeqAt.EqAt.same _
  |bl b=>cases rx;exact SeqAt.EqAt.none_bool b
  |int b=>obtain⟨t,rfl⟩:=rx;exact SeqAt.EqAt.none_int b t
  |str b=>obtain⟨t,rfl⟩:=rx;exact SeqAt.EqAt.none_str b t
  |_=>exact absurd (show false=true from fx) Bool.false_ne_true
 |bl a =>
  cases ry
  cases x with
  |i9=>cases rx;exact SeqAt.EqAt.bool_none a
  |bl b=>cases rx;exact SeqAt.EqAt.bool_bool a b
  |int b=>obtain⟨t,rfl⟩:=rx;exact SeqAt.EqAt.bool_int a b t
  |str b=>obtain⟨t,rfl⟩:=rx;exact SeqAt.EqAt.bool_str a b t
  |_=>exact absurd (show false=true from fx) Bool.false_ne_true
 |int a =>
  obtain⟨t',rfl⟩:=ry
  cases x with
  |i9=>cases rx;exact SeqAt.EqAt.int_none a t'
  |bl b=>cases rx;exact SeqAt.EqAt.int_bool a t' b
  |int b=>obtain⟨t,rfl⟩:=rx;exact SeqAt.EqAt.int_int a t' b t
  |str b=>obtain⟨t,rfl⟩:=rx;exact SeqAt.EqAt.int_str a t' b t
  |_=>exact absurd (show false=true from fx) Bool.false_ne_true
 |str a =>
  obtain⟨t',rfl⟩:=ry
  cases x with
  |i9=>cases rx;exact SeqAt.EqAt.str_none a t'
  |bl b=>cases rx;exact SeqAt.EqAt.str_bool a t' b
  |int b=>obtain⟨t,rfl⟩:=rx;exact SeqAt.EqAt.str_int a t' b t
  |str b=>obtain⟨t,rfl⟩:=rx;exact SeqAt.EqAt.str_str a t' b t
  |_=>exact absurd (show false=true from fx) Bool.false_ne_true
 |_=>exact absurd (show false=true from fy) Bool.false_ne_true
def Lp(x:V)(u:Value):Bool:=match u with
 | .none=>Ln .i9 x
 | .bool b=>Ln (.bl b) x
 | .int i _=>Ln (.int i) x
 | .str z _=>Ln (.str z) x
 |_=>false
theorem Jk{x y:V}{u:Value}(r:RelV y u)(f:uE y=true):Lp x u=Ln y x:=by
 cases y with
 |i9=>cases r;rfl
 |bl b=>cases r;rfl
 |int i=>obtain⟨t,rfl⟩:=r;rfl
 |str z=>obtain⟨t,rfl⟩:=r;rfl
 |_=>exact absurd (show false=true from f) Bool.false_ne_true
theorem Av{x:V}:∀{xs:List V} {us:List Value},Vals xs us->xs.all uE=true->us.any (Lp x)=xs.any λy=>Ln y x
 |_,_,.nil,_=>rfl
 |y::xs,u::us,.cons r t,f=>by
  rw[List.all_cons,Bool.and_eq_true]at f
  rw[List.any_cons,List.any_cons,Jk r f.1,Av t f.2]
theorem wB{A:Around}{s:Shared}{x:V}{v:Value}(rx:RelV x v)(fx:uE x=true):∀{xs:List V} {us:List Value},Vals xs us->xs.all uE=true->∀u∈us,SeqAt.EqAt A s u v (Lp x u)
 |_,_,.nil,_=>λu hu=>by cases hu
 |y::xs,u::us,.cons r t,f=>λu' hu=>by
  rw[List.all_cons,Bool.and_eq_true]at f
  rcases List.mem_cons.mp hu with rfl|hu
  ·rw[Jk r f.1];exact Pe r rx f.1 fx
  ·exact wB rx fx t f.2 u' hu
def K5(x:V)(xs:List V):Bool:=xs.any λy=>Ln y x
def Zy(K:PySem.W.Frag)(neg:Bool):R2:=λx y H Q=>∃p xs,y= .ref p/\(cS K H p xs\/cT K H p xs)/\uE x=true/\xs.all uE=true/\Q (.bl (if neg then !K5 x xs else K5 x xs)) H
theorem rX:ug X (compareOp .NotIn) (Zy X.K true):=by
 intro pins s σ H x y v u Q I rx ry h
 obtain⟨p,xs,rfl,hq,fx,fs,q⟩:=h
 cases ry
 rcases hq with hq|hq
 ·obtain⟨its,r,pl,hz⟩:=I.list hq
  refine SeqAt.notIn_listAt (Lp x) pl.isList (λw hw=>wB rx fx r fs w (by simpa using hw)) ⟨.bl _,H,I,rfl,?_⟩
  rw[show its.toArray.any (Lp x)=its.any (Lp x) by simp,Av r fs]
  exact q
 ·obtain⟨its,r,pl,hz⟩:=I.tuple hq
  refine SeqAt.notIn_tupleAt (Lp x) pl (λw hw=>wB rx fx r fs w (by simpa using hw)) ⟨.bl _,H,I,rfl,?_⟩
  rw[show its.toArray.any (Lp x)=its.any (Lp x) by simp,Av r fs]
  exact q
theorem rW:ug X (compareOp .NotIn) (λx y H Q=>∃i j,x= .str i/\y= .str j/\Q (.bl (!(!(Builtin.Str.occurrences j i 0 j.length 1).isEmpty))) H):=by
 intro pins s σ H x y v u Q I rx ry h
 obtain⟨i,j,rfl,rfl,q⟩:=h
 obtain⟨t,rfl⟩:=rx
 obtain⟨t',rfl⟩:=ry
 exact notIn_str ⟨.bl _,H,I,rfl,q⟩
theorem As:lA X (.builtin "len") (λxs H Q=>∃z,xs=[.str z]/\z.length<=sizeLine/\Q (.int z.length) H):=by
 intro pins s σ H xs us Q I r h
 obtain⟨z,rfl,hz,q⟩:=h
 obtain⟨u,rfl,t,rfl⟩:=vals1 r
 have hn:=tX
 exact len_str (by omega) ⟨.int z.length,H,I.tok _,⟨_,rfl⟩,q⟩
theorem qJ:lA X (.type "tuple") (λxs H Q=>∃p ys,xs=[.ref p]/\((cS X.K H p ys/\∀l,H l=none->Q (.ref l) (upd H l (.tup ys)))\/(cT X.K H p ys/\Q (.ref p) H))):=by
 intro pins s σ H xs us Q I r h
 obtain⟨p,ys,rfl,h⟩:=h
 obtain⟨u,rfl,rx⟩:=vals1 r
 cases rx
 rcases h with⟨hq,q⟩|⟨hq,q⟩
 ·obtain⟨its,r',pl,hz⟩:=I.list hq
  have hlen:=r'.length
  refine call_tuple_list pl.isList (λh' kp=>?_) (by simp only[List.size_toArray]<;>omega)
  have I1:Inv X pins σ H { s with heap:=h' }:=I.kept (t':=s.toks) kp
  have I2:Inv X pins σ (upd H h'.objs.size (.tup ys)) { s with heap:=h'.push { cls:=.type "tuple",data:=.seq its.toArray } } :=
   I1.laid (t':=s.toks) (λb o e=>Heap.get?_push_of_some _ e) (Nat.le_refl _) (show bM X.prog X.w _ _ _ (.tup ys) from⟨hz,its,r',IsTup.new _ _⟩)
  exact⟨.ref h'.objs.size,_,I2,rfl,q _ (I1.hok.fresh (Nat.le_refl _))⟩
 ·obtain⟨its,r',pl,hz⟩:=I.tuple hq
  exact call_tuple_same pl ⟨.ref p,H,I,rfl,q⟩
def X0(K:PySem.W.Frag)(T:String)(x:V)(H:Hp):Prop:=match x with
 | .str _=>T= "str"
 | .int _=>T= "int"
 | .ref p=>(T= "list" /\∃xs,cS K H p xs)\/(T= "tuple" /\∃o,K.lookup p=some o/\o.cls= .type "tuple" /\o.dict=none) ∨
   (T= "dict" /\((∃kvs,H p=some (.dK kvs))\/∃kvs,H p=some (.dT kvs)))\/(T= "set" /\∃S n,H p=some (.set S n))
 |_=>False
theorem N3{pins:List (Addr×Obj)}{σ:St}{H:Hp}{s:Shared}{T:String}{x:V}{v:Value}(I:Inv X pins σ H s)(r:RelV x v)(ty:X0 X.K T x H):
  s.TypeIs v T/\∀a,v= .ref a->∃ob,s.heap.get? a=some ob/\ob.dict=none:=by
 cases x with
 |str z =>
  obtain⟨t,rfl⟩:=r
  cases (show T= "str" from ty)
  exact⟨typeIs_str s z t,λ_ e=>nomatch e⟩
 |int i =>
  obtain⟨t,rfl⟩:=r
  cases (show T= "int" from ty)
  exact⟨typeIs_int s i t,λ_ e=>nomatch e⟩
 |ref p =>
  cases r
  rcases ty with⟨rfl,xs,hq⟩|⟨rfl,o,hk,hc,hd⟩|⟨rfl,hk⟩|⟨rfl,S,n,hk⟩
  ·obtain⟨its,_,pl,_⟩:=I.list hq
   refine⟨pl.isList.typeIs,λa e=>?_⟩
   cases e
   obtain⟨o,n,e,c,hd,_⟩:=pl
   exact⟨o,e,hd⟩
  ·refine⟨⟨o,I.nR p o hk,hc⟩,λa e=>?_⟩
   cases e
   exact⟨o,I.nR _ o hk,hd⟩
  ·have z:∃o,s.heap.get? p=some o/\o.ExactDict:=by
    rcases hk with⟨kvs,hk⟩|⟨kvs,hk⟩
    ·obtain⟨_,_,_,_,o,_,_,e,ex,_⟩:=I.hok p _ hk
     exact⟨o,e,ex⟩
    ·obtain⟨_,_,_,_,o,_,_,e,ex,_⟩:=I.hok p _ hk
     exact⟨o,e,ex⟩
   obtain⟨o,e,ex⟩:=z
   refine⟨⟨o,e,ex.1⟩,λa e2=>?_⟩
   cases e2
   exact⟨o,e,ex.2.1⟩
  ·obtain⟨o,_,_,_,e,ex,_⟩:=I.hok p _ hk
   refine⟨⟨o,e,ex.1⟩,λa e2=>?_⟩
   cases e2
   exact⟨o,e,ex.2.1⟩
 |_=>exact False.elim ty
def Zp(K:PySem.W.Frag)(T:String)(r:V->List V->Hp->VK->Prop)(to:TE)(t:TA):TE:=λσ H Q=>to σ H λx H1=>X0 K T x H1/\t σ H1 λxs H2=>r x xs H2 Q
variable{o e:Expr}{es:List Expr}{to:TE}{t:TA}{name:Str}{apos cpos:Pos}{T id:String}{r:V->List V->Hp->VK->Prop}
theorem qz (pa:PlainAttrs T) (slot:Slot T name id) (hty:typeOf (.builtin id)=pure (.type "method_descriptor")) (hm:XT X id r) (ho:PE X o to) (ha:PA X (e::es) t)
  (hbase:attributeBase o name X.env (eval o X.env)=eval o X.env:=by rfl)
  (hfew:((backTo cpos (starEach (e::es) X.env)).all (λx=>!x.1)&&(backToKw cpos (keywordEach [] X.env)).all (λx=>x.1.isSome)
   && decide ((e::es).length+([]:List Keyword).length+(if([]:List Keyword).isEmpty then 0 else 1)<30))=true:=by rfl)
  (hline:(apos.endLine==cpos.line)=true:=by rfl) (hs:starEach (e::es) X.env=(false,eval e X.env)::starEach es X.env:=by rfl) (hplain:(backTo cpos (starEach es X.env)).any (·.1)=false:=by rfl) :
  PE X (.Call (.Attribute o name apos) (e::es) [] cpos) (Zp X.K T r to t):=by
 intro pins s σ H Q I h
 refine wpAny_Call_method_late hbase hfew hline rfl (dJ (ho pins s σ H _ I h) λv s1 ⟨x,H1,I1,r1,ty,q1⟩=>?_)
 obtain⟨h1,h2⟩:=N3 I1 r1 ty
 refine⟨T,id,pa,slot,hty,h1,h2,?_⟩
 have hA:=ha cpos pins s1 σ H1 _ I1 q1
 rw[hs]at hA ⊢
 refine Calls.callWith_builtin (by show(false||(backTo cpos (starEach es X.env)).any (·.1))=false;rw[hplain]<;>rfl) (Calls.evalArgs_plain ?_)
 exact dJ hA λus s2 ⟨vs,H2,I2,r2,q2⟩=>hm pins s2 σ H2 x vs v us Q I2 r1 r2 q2
end
end L2
namespace L2
open PySem PySem.Spec PyProof.Rows
def Ze(X:Cx)(id:String)(r:V->List V->Hp->VK->Prop):Prop :=
 ∀(pins:List (Addr×Obj)) (s:Shared) (σ:St) (H:Hp) (x:V) (xs:List V) (v:Value) (us:List Value) (Q:VK),Inv X pins σ H s->RelV x v->Vals xs us->r x xs H Q →
  wpAny (model X.prog X.w) X.A (call (.builtin id) (v::us)) (EP X pins σ Q) X.xe s
theorem Vals.one:∀{x:V} {us:List Value},Vals [x] us->∃u,us=[u]/\RelV x u
 |_,_,.cons r .nil=>⟨_,rfl,r⟩
section
variable{X:Cx}{pins:List (Addr×Obj)}{σ:St}{H:Hp}{s:Shared}{l b:Addr}{xs ys zs:List V}
theorem Inv.Rb{its its':List Value}{n:Nat}{f:Array Value->Array Value}{t':Nat}(I:Inv X pins σ H s)(hH:H l=some (.lst xs))
  (e:s.heap.get? l=some { cls:=.type "list",data:=.seq its.toArray n }) (hf:f its.toArray=its'.toArray) (hv:Vals ys its') (hz:ys.length<=sizeLine) (ht:s.toks<=t':=by first|exact Nat.le_refl _|exact Nat.le_succ _|assumption|omega) :
  Inv X pins σ (upd H l (.lst ys)) { s with heap:=s.heap.update l (Obj.mapSeq f),toks:=t' }:=by
 have q:=PySem.IsL.update e f
 rw[hf]at q
 refine I.write (x:=l) (e:=l) (by rw[hH];exact trivial) (.inl rfl) (λb' u hb hu=>(Heap.get?_update_other s.heap (Obj.mapSeq f) (Ne.symm hb)).trans hu) ⟨_,q⟩ ?_
 exact⟨hz,its',_,hv,q⟩
theorem Inv.Rj{its:List Value}{t':Nat}(I:Inv X pins σ H s)(hv:Vals ys its)(hz:ys.length<=sizeLine)(ht:s.toks<=t':=by first|exact Nat.le_refl _|exact Nat.le_succ _|assumption|omega):
  Inv X pins σ (upd H s.heap.objs.size (.lst ys)) { s with heap:=s.heap.push { cls:=.type "list",data:=.seq its.toArray },toks:=t' } :=
 I.laid (λ_ _ q=>Heap.get?_push_of_some _ q) (Nat.le_refl _) ⟨hz,its,0,hv,Heap.get?_push_size _ rfl⟩
theorem Inv.fresh(I:Inv X pins σ H s):H s.heap.objs.size=none:=I.hok.fresh (Nat.le_refl _)
theorem Inv.OG(I:Inv X pins σ H s)(hH:H l=some (.lst xs)):xs.length<=sizeLine/\∃(its:List Value) (n:Nat),Vals xs its/\xs.length=its.length/\s.heap.get? l=some { cls:=.type "list",data:=.seq its.toArray n }:=by
 obtain⟨z,its,n,r,e⟩:=I.hok l _ hH
 exact⟨z,its,n,r,r.length,e⟩
theorem Iq{n:Nat}(h:n<=sizeLine):Builtin.List.listTooLong n=false:=by
 unfold Builtin.List.listTooLong
 exact decide_eq_false (by omega)
end
section
variable{X:Cx}
def Kq:V->List V->Hp->VK->Prop:=λx vs H Q=>∃l xs y,x= .ref l/\vs=[y]/\H l=some (.lst xs)/\xs.length<sizeLine/\Q .i9 (upd H l (.lst (xs++[y])))
theorem iJ:Ze X "list.append" Kq:=by
 intro pins s σ H x vs v us Q I rx rv h
 obtain⟨l,xs,y,rfl,rfl,hH,hz,q⟩:=h
 cases rx
 obtain⟨u,rfl,ru⟩:=rv.one
 obtain⟨z,its,n,r,hl,e⟩:=I.OG hH
 refine call_meets F.slot_list_append ⟨_,e,rfl⟩ F.entry_list_append (F.args_list_append_2 _ _) (PySem.list_append l its.toArray n u (by rw[List.size_toArray];omega)) ⟨e,?_⟩
 refine⟨.i9,_,I.Rb (its':=its++[u]) hH e (by simp) (r.append (.cons ru .nil)) ?_,rfl,q⟩
 rw[List.length_append,List.length_singleton]
 omega
def Ko:V->List V->Hp->VK->Prop:=λx vs H Q=>∃l b xs zs,x= .ref l/\vs=[.ref b]/\H l=some (.lst xs)/\H b=some (.lst zs)/\xs.length+zs.length<=sizeLine/\Q .i9 (upd H l (.lst (xs++zs)))
theorem Ga:Ze X "list.extend" Ko:=by
 intro pins s σ H x vs v us Q I rx rv h
 obtain⟨l,b,xs,zs,rfl,rfl,hH,hB,hz,q⟩:=h
 cases rx
 obtain⟨u,rfl,ru⟩:=rv.one
 cases ru
 obtain⟨z,its,n,r,hl,e⟩:=I.OG hH
 obtain⟨z2,its2,n2,r2,hl2,e2⟩:=I.OG hB
 have hsz:its.toArray.size+its2.toArray.size<=sizeLine:=by rw[List.size_toArray,List.size_toArray];omega
 have R9:¬(!its.toArray.isEmpty&&Builtin.List.listTooLong (its.toArray.size+its2.toArray.size))=true:=by
  rw[Iq hsz,Bool.and_false]
  exact Bool.false_ne_true
 refine call_meets F.slot_list_extend ⟨_,e,rfl⟩ F.entry_list_extend (F.args_list_extend_2 _ _)
  (AutoSeq1.list_extend_list_list_0 l its.toArray n b its2.toArray n2 R9 (by rw[List.size_toArray];omega) (by omega)) ⟨e,e2,?_⟩
 refine⟨.i9,_,I.Rb (its':=its++its2) hH e (by simp) (r.append r2) ?_,rfl,q⟩
 rw[List.length_append]
 omega
end
section
variable{prog:Program}{w:World}{A:Around}{E:Value->Shared->Prop}{s:Shared}
end
section
variable{X:Cx}
end
end L2
namespace L2
open PySem PySem.Spec PyProof.Rows
section
variable{κ:Type}[DecidableEq κ]
def lF(kvs:List (κ×V))(k:κ):Option V:=(kvs.find? λkv=>decide (kv.1=k)).map (·.2)
def putK(kvs:List (κ×V))(k:κ)(v:V):List (κ×V) :=
 if(kvs.any λkv=>decide (kv.1=k))=true then kvs.map (λkv=>if kv.1=k then(kv.1,v)else kv)else kvs++[(k,v)]
theorem g8{p:κ×V}{r:List (κ×V)}{k:κ}(e:p.1=k):lF (p::r) k=some p.2:=by simp[lF,List.find?_cons,e]
theorem g9{p:κ×V}{r:List (κ×V)}{k:κ}(e:¬p.1=k):lF (p::r) k=lF r k:=by simp[lF,List.find?_cons,e]
theorem rN(k:κ):∀kvs:List (κ×V),(kvs.any λkv=>decide (kv.1=k))=(lF kvs k).isSome
 |[]=>rfl
 |p::r=>by
  rw[List.any_cons]
  by_cases e:p.1=k
  ·simp only[g8 e,decide_eq_true e,Bool.true_or,Option.isSome_some]
  ·rw[g9 e,decide_eq_false e,Bool.false_or];exact rN k r
theorem A2(k j:κ)(y:V):∀kvs:List (κ×V),lF (kvs.map λkv=>if kv.1=k then(kv.1,y)else kv) j=(lF kvs j).map λx=>if j=k then y else x
 |[]=>rfl
 |p::r=>by
  have ih:=A2 k j y r
  rw[List.map_cons]
  by_cases h:p.1=k
  ·rw[if_pos h]
   by_cases e:p.1=j
   ·rw[g8 (p:=(p.1,y)) e,g8 e,Option.map_some,if_pos (e.symm.trans h)]
   ·rw[g9 (p:=(p.1,y)) e,g9 e,ih]
  ·rw[if_neg h]
   by_cases e:p.1=j
   ·rw[g8 (p:=p) e,g8 e,Option.map_some,if_neg (λz=>h (e.trans z))]
   ·rw[g9 (p:=p) e,g9 e,ih]
theorem yF(k j:κ)(y:V):∀kvs:List (κ×V),lF kvs k=none->lF (kvs++[(k,y)]) j=if j=k then some y else lF kvs j
 |[],_=>by
  by_cases e:k=j
  ·rw[if_pos e.symm];exact g8 (p:=(k,y)) e
  ·rw[if_neg (λz=>e z.symm)];exact g9 (p:=(k,y)) e
 |p::r,hn=>by
  rw[List.cons_append]
  have hk:¬p.1=k:=λz=>by rw[g8 z]at hn;cases hn
  rw[g9 hk]at hn
  have ih:=yF k j y r hn
  by_cases e:p.1=j
  ·rw[g8 e,g8 e,if_neg (λz=>hk (e.trans z))]
  ·rw[g9 e,g9 e,ih]
theorem A0(kvs:List (κ×V))(k j:κ)(y:V):lF (putK kvs k y) j=if j=k then some y else lF kvs j:=by
 unfold putK
 by_cases a:(kvs.any λkv=>decide (kv.1=k))=true
 ·rw[if_pos a,A2]
  rw[rN]at a
  by_cases e:j=k
  ·obtain⟨x,hx⟩:=Option.isSome_iff_exists.mp a
   rw[if_pos e,e,hx,Option.map_some,if_pos rfl]
  ·rw[if_neg e]
   cases lF kvs j with
   |none=>rfl
   |some x=>rw[Option.map_some,if_neg e]
 ·rw[if_neg a]
  refine yF k j y kvs ?_
  rw[rN]at a
  cases q:lF kvs k with
  |none=>rfl
  |some x=>rw[q]at a;exact(a rfl).elim
theorem m6(kvs:List (κ×V))(k:κ)(v:V):(putK kvs k v).length<=kvs.length+1:=by
 unfold putK
 split
 ·rw[List.length_map];omega
 ·rw[List.length_append,List.length_cons,List.length_nil];omega
theorem mL.yV{o:Option V}{u:Option Value}(r:mL o u):o.isSome=u.isSome:=by
 cases o with
 |none=>cases u with
  |none=>rfl
  |some _=>exact(show False from r).elim
 |some _=>cases u with
  |none=>exact(show False from r).elim
  |some _=>rfl
theorem KV.val{kvs:List (κ×V)}{vs:List (κ×Value)}(r:KV kvs vs)(k:κ):mL (lF kvs k) (valueAt vs k):=by
 unfold KV at r
 induction r with
 |nil=>exact True.intro
 | @cons p q ps qs h t ih =>
  obtain⟨h1,h2⟩:=h
  by_cases e:p.1=k
  ·have e':q.1=k:=h1.symm.trans e
   have b:valueAt (q::qs) k=some q.2:=by simp[valueAt,List.find?_cons,e']
   rw[g8 e,b];exact h2
  ·have e':¬q.1=k:=λz=>e (h1.trans z)
   have b:valueAt (q::qs) k=valueAt qs k:=by simp[valueAt,List.find?_cons,e']
   rw[g9 e,b];exact ih
theorem KV.any{kvs:List (κ×V)}{vs:List (κ×Value)}(r:KV kvs vs)(k:κ):(kvs.any λkv=>decide (kv.1=k))=vs.any λkv=>decide (kv.1=k):=by
 unfold KV at r
 induction r with
 |nil=>rfl
 |cons h t ih=>rw[List.any_cons,List.any_cons,ih,h.1]
theorem KV.repl{kvs:List (κ×V)}{vs:List (κ×Value)}(r:KV kvs vs)(k:κ){y:V}{u:Value}(ry:RelV y u):
  KV (kvs.map λkv=>if kv.1=k then(kv.1,y)else kv) (vs.map λkv=>if kv.1=k then(kv.1,u)else kv):=by
 unfold KV at r ⊢
 induction r with
 |nil=>exact .nil
 | @cons p q ps qs h t ih =>
  rw[List.map_cons,List.map_cons]
  refine .cons ?_ ih
  obtain⟨h1,h2⟩:=h
  by_cases e:p.1=k
  ·rw[if_pos e,if_pos (h1.symm.trans e)];exact⟨h1,ry⟩
  ·rw[if_neg e,if_neg (λz=>e (h1.trans z))];exact⟨h1,h2⟩
theorem KV.put{kvs:List (κ×V)}{vs:List (κ×Value)}(r:KV kvs vs)(k:κ){y:V}{u:Value}(ry:RelV y u):KV (putK kvs k y) (stored vs k u):=by
 unfold putK stored
 rw[r.any k]
 by_cases e:(vs.any λkv=>decide (kv.1=k))=true
 ·rw[if_pos e,if_pos e];exact r.repl k ry
 ·rw[if_neg e,if_neg e];exact Paired.snoc r ⟨rfl,ry⟩
theorem KV.length{kvs:List (κ×V)}{vs:List (κ×Value)}(r:KV kvs vs):kvs.length=vs.length:=Paired.length r
end
theorem IU{P:Program}{w:World}{k:Key}{u:Value}(r:RelV (kV k) u):(bZ P w).is k u=true:=by
 cases k with
 |inl i=>obtain⟨t,e⟩:=(show ∃t,u=Value.int i t from r);subst e;exact BU P w i t
 |inr x=>obtain⟨t,e⟩:=(show ∃t,u=Value.str x t from r);subst e;exact pC P w x t
theorem yU{P:Program}{w:World}:∀{ks:List Key} {us:List Value},Vals (ks.map kV) us->ItemsAre (bZ P w) ks us
 |[],_,r=>by rw[List.map_nil]at r;cases r;exact .nil
 |k::ks,_,r=>by
  rw[List.map_cons]at r
  cases r with
  |cons h t=>exact .cons (IU h) (yU t)
abbrev KT(H:Hp):List (List Key×V)->List (List Key×Addr×Value)->Prop:=Paired λp q=>p.1=q.1/\H q.2.1=some (.tup (p.1.map kV))/\RelV p.2 q.2.2
theorem KT.val{H:Hp}{kvs:List (List Key×V)}{xs:List (List Key×Addr×Value)}(r:KT H kvs xs)(k:List Key):mL (lF kvs k) ((atKey xs k).map (·.2)):=by
 induction r with
 |nil=>exact True.intro
 | @cons p q ps qs h t ih =>
  obtain⟨h1,_,h2⟩:=h
  by_cases e:p.1=k
  ·have e':q.1=k:=h1.symm.trans e
   have b:atKey (q::qs) k=some q.2:=by simp[atKey,List.find?_cons,e']
   rw[g8 e,b];exact h2
  ·have e':¬q.1=k:=λz=>e (h1.trans z)
   have b:atKey (q::qs) k=atKey qs k:=by simp[atKey,List.find?_cons,e']
   rw[g9 e,b];exact ih
theorem KT.repl{H:Hp}{kvs:List (List Key×V)}{xs:List (List Key×Addr×Value)}(r:KT H kvs xs)(k:List Key){y:V}{u:Value}(ry:RelV y u):
  KT H (kvs.map λkv=>if kv.1=k then(kv.1,y)else kv) (xs.map (putAt k u)):=by
 induction r with
 |nil=>exact .nil
 | @cons p q ps qs h t ih =>
  rw[List.map_cons,List.map_cons]
  refine .cons ?_ ih
  obtain⟨h1,h2,h3⟩:=h
  unfold putAt
  by_cases e:p.1=k
  ·rw[if_pos e,if_pos (h1.symm.trans e)];exact⟨h1,h2,ry⟩
  ·rw[if_neg e,if_neg (λz=>e (h1.trans z))];exact⟨h1,h2,h3⟩
theorem KT.put{H:Hp}{kvs:List (List Key×V)}{xs:List (List Key×Addr×Value)}(r:KT H kvs xs)(k:List Key){b:Addr}{y:V}{u:Value}(hb:H b=some (.tup (k.map kV)))(ry:RelV y u):
  KT H (putK kvs k y) (storedH xs k b u):=by
 have e:(kvs.any λkv=>decide (kv.1=k))=(atKey xs k).isSome:=by
  rw[rN,(r.val k).yV,Option.isSome_map]
 unfold putK storedH
 rw[e]
 by_cases q:(atKey xs k).isSome=true
 ·rw[if_pos q,if_pos q];exact r.repl k ry
 ·rw[if_neg q,if_neg q];exact Paired.snoc r ⟨rfl,hb,ry⟩
theorem KT.keeps{H H':Hp}{kvs:List (List Key×V)}{xs:List (List Key×Addr×Value)}(r:KT H kvs xs)(ht:∀b ys,H b=some (.tup ys)->H' b=some (.tup ys)):KT H' kvs xs :=
 Paired.iK r λ_ _ z=>⟨z.1,ht _ _ z.2.1,z.2.2⟩
section
variable{P:Program}{w:World}{H:Hp}{h:Heap}{a:Addr}
theorem LS{u:HO}(ok:mj P w H h)(e:Rd H a u):bM P w H h a u:=e.ok ok
theorem Jo{kvs:List (Key×V)}(ok:mj P w H h)(e:Rd H a (.dK kvs)):kvs.length<=sizeLine/\(a==sysModules)=false/\∃vs,KV kvs vs/\h.DictOf (bZ P w) a vs :=
 show bM P w H h a (.dK kvs) from LS ok e
theorem Sx{kvs:List (Key×V)}(ok:mj P w H h)(e:H a=some (.dK kvs)):kvs.length<=sizeLine/\(a==sysModules)=false/\∃vs,KV kvs vs/\h.DictOf (bZ P w) a vs:=Jo ok (.inl e)
theorem wI{ks:List Key}(ok:mj P w H h)(e:H a=some (.tup (ks.map kV))):(tupleKind (bZ P w)).is h ks a:=by
 obtain⟨_,its,r,o,h1,h2,n,h3⟩:=(show bM P w H h a (.tup (ks.map kV)) from ok a _ e)
 exact⟨o,its.toArray,n,h1,h2,h3,by simpa using yU r⟩
theorem Jl{kvs:List (List Key×V)}(ok:mj P w H h)(e:Rd H a (.dT kvs)):kvs.length<=sizeLine/\(a==sysModules)=false ∧
  ∃xs,KT H kvs xs/\h.DictOfH (tupleKind (bZ P w)) a xs:=by
 obtain⟨z,y,xs,r,o,es,ep,h1,h2,h3,h4,h5⟩:=(show bM P w H h a (.dT kvs) from LS ok e)
 refine⟨z,y,xs,r,o,es,ep,h1,h2,h3,h4,λx hx=>?_,h5⟩
 have all:∀{l:List (List Key×V)} {m:List (List Key×Addr×Value)},KT H l m->∀x∈m,(tupleKind (bZ P w)).is h x.1 x.2.1:=by
  intro l m q
  induction q with
  |nil=>intro x hx;exact nomatch hx
  | @cons p q ps qs hq t ih =>
   intro x hx
   rcases List.mem_cons.mp hx with e|hx
   ·subst e
    exact wI ok (by rw[←hq.1];exact hq.2.1)
   ·exact ih x hx
 exact all r x hx
theorem Sw{kvs:List (List Key×V)}(ok:mj P w H h)(e:H a=some (.dT kvs)):kvs.length<=sizeLine/\(a==sysModules)=false ∧
  ∃xs,KT H kvs xs/\h.DictOfH (tupleKind (bZ P w)) a xs:=Jl ok (.inl e)
end
def CY(H:Hp)(a:Addr)(y:V)(r:Option V):Prop :=
 (∃kvs k,Rd H a (.dK kvs)/\y=kV k/\r=lF kvs k)\/∃kvs k b,Rd H a (.dT kvs)/\y= .ref b/\H b=some (.tup (k.map kV))/\r=lF kvs k
def G2(H:Hp)(a:Addr)(y v:V)(H':Hp):Prop :=
 (∃kvs k,H a=some (.dK kvs)/\y=kV k/\kvs.length<sizeLine/\H'=upd H a (.dK (putK kvs k v))) ∨
 ∃kvs k b,H a=some (.dT kvs)/\y= .ref b/\H b=some (.tup (k.map kV))/\kvs.length<sizeLine/\H'=upd H a (.dT (putK kvs k v))
theorem CY.t{H:Hp}{a b:Addr}{kvs:List (List Key×V)}{k:List Key}(e:H a=some (.dT kvs))(eb:H b=some (.tup (k.map kV))):CY H a (.ref b) (lF kvs k):=.inr ⟨kvs,k,b,.inl e,rfl,eb,rfl⟩
theorem G2.t{H:Hp}{a b:Addr}{kvs:List (List Key×V)}{k:List Key}{v:V}(e:H a=some (.dT kvs))(eb:H b=some (.tup (k.map kV)))(hl:kvs.length<sizeLine):
  G2 H a (.ref b) v (upd H a (.dT (putK kvs k v))):=.inr ⟨kvs,k,b,e,rfl,eb,hl,rfl⟩
section
variable{X:Cx}{pins:List (Addr×Obj)}{σ:St}{H:Hp}{s:Shared}{a:Addr}{y v:V}{u r:Value}{o:Option V}{A:Around}{E:Value->Shared->Prop}
theorem Inv.big(I:Inv X pins σ H s):sysModules<s.heap.objs.size:=by
 have h:mainGlobals<s.heap.objs.size:=(I.mod.glob.keeps I.bk).lt
 exact Nat.lt_trans (by decide) h
theorem GI{Q:Value->Shared->Prop}(hu:A.units+1<cLine)(I:Inv X pins σ H s)(g:CY H a y (some v))(ry:RelV y u)(h:∀w' s',Inv X pins σ H s'->RelV v w'->Q w' s'):
  wpAny (model X.prog X.w) A (getItem (.ref a) u) Q E s:=by
 rcases g with⟨kvs,k,e,ey,l⟩|⟨kvs,k,b,e,ey,eb,l⟩
 ·subst ey
  obtain⟨z,hd,vs,rel,dd⟩:=Jo I.hok e
  obtain⟨w',hw,rw'⟩:=mL.some_of (v:=v) (o:=valueAt vs k) (by rw[l];exact rel.val k)
  exact wpAny_getItem_of (IU ry) dd.mapOf hw (h w' _ (I.tok _) rw')
 ·subst ey
  cases (show u=Value.ref b from ry)
  obtain⟨z,hd,xs,rel,dd⟩:=Jl I.hok e
  obtain⟨w',hw,rw'⟩:=mL.some_of (v:=v) (o:=(atKey xs k).map (·.2)) (by rw[l];exact rel.val k)
  obtain⟨p,hp,hp2⟩:=Option.map_eq_some_iff.mp hw
  refine wpAny_getItem_heap (tupleKind_room_in1 hu) (wI I.hok eb) dd hp ?_
  rw[hp2]
  exact h w' _ (I.tok _) rw'
theorem Am{h':Heap}{t':Nat}{ob:HO}(I:Inv X pins σ H s)(mu:SR (H a))(hs:Heap.SameBut a s.heap h')(he:∃q,h'.get? a=some q)(new:bM X.prog X.w (upd H a ob) h' a ob)(ht:s.toks<=t':=by first|exact Nat.le_refl _|exact Nat.le_succ _|assumption|omega):
  Inv X pins σ (upd H a ob) { s with heap:=h',toks:=t' } :=
 I.write (x:=a) (e:=a) mu (.inl rfl) (λb q hb z=>(hs.2 b hb).trans z) he new
theorem Pf{P:Program}{w:World}{H':Hp}{h':Heap}{kvs:List (Key×V)}{vs:List (Key×Value)}(z:kvs.length<=sizeLine)(hd:(a==sysModules)=false)(rel:KV kvs vs)(dd:h'.DictOf (bZ P w) a vs):
  bM P w H' h' a (.dK kvs):=⟨z,hd,vs,rel,dd⟩
theorem GH{H':Hp}{Q:Unit->Shared->Prop}(hu:A.units+1<cLine)(I:Inv X pins σ H s)(g:G2 H a y v H')(ry:RelV y u)(rv:RelV v r)(h:∀s',Inv X pins σ H' s'->Q () s'):
  wpAny (model X.prog X.w) A (setItem (.ref a) u r) Q E s:=by
 rcases g with⟨kvs,k,e,ey,l,eH⟩|⟨kvs,k,b,e,ey,eb,l,eH⟩
 ·subst ey eH
  obtain⟨z,hd,vs,rel,dd⟩:=Sx I.hok e
  have hz:vs.length<=sizeLine:=by rw[←rel.length];exact z
  have hl:(putK kvs k v).length<=sizeLine:=by have:=m6 kvs k v;omega
  refine wpAny_setItem_pairs (hsz:=hz) (IU ry) dd λh' Qi hs=>h _ ?_
  have he:∃q,h'.get? a=some q:=let ⟨q,_,_,hq,_⟩:=Qi;⟨q,hq⟩
  exact Am I (by rw[e];exact True.intro) hs he (Pf hl hd (rel.put k rv) Qi)
 ·subst ey eH
  cases (show u=Value.ref b from ry)
  obtain⟨z,hd,xs,rel,dd⟩:=Sw I.hok e
  have hz:xs.length<=sizeLine:=by rw[←Paired.length rel];exact z
  have hl:(putK kvs k v).length<=sizeLine:=by have:=m6 kvs k v;omega
  refine wpAny_setItem_heap (hsz:=hz) (tupleKind_room_in1 hu) (wI I.hok eb) dd λh' Qi hs=>h _ ?_
  obtain⟨q,es,ep,hq,h2,h3,h4,_,h5⟩:=Qi
  refine Am I (by rw[e];exact True.intro) hs ⟨q,hq⟩ ⟨hl,hd,_,(rel.put k eb rv).keeps λc ys ec=>?_,q,es,ep,hq,h2,h3,h4,h5⟩
  rw[au (pq ec e (λz=>nomatch z))]
  exact ec
end
section
variable{X:Cx}{pins:List (Addr×Obj)}{σ:St}{H:Hp}{s:Shared}{a:Addr}{kvs:List (Key×V)}{k:Key}{u:Value}{A:Around}{E:Value->Shared->Prop}
end
def PB(i:Expr):Prop:=∀ov iv,subscripted i false ov iv=operate [ov,iv] (getItem ov iv)
theorem vp{prog:Program}{w:World}{A:Around}{E:Value->Shared->Prop}{s:Shared}{env:Env}{value slice:Expr}{pos:Pos}{T id:String}{Q:Value->Shared->Prop}
  (hl:typeLookup (.type T) "__getitem__" =pure (some (.builtin id))) (hs:PB slice)
  (h:wpAny (model prog w) A (eval value env) (λo s₁=>wpAny (model prog w) A (eval slice env) (λi s₂=>s₂.TypeIs o T/\wpAny (model prog w) A (getItem o i) Q E s₂) E s₁) E s) :
  wpAny (model prog w) A (eval (.Subscript value slice pos) env) Q E s:=by
 refine Subscript_ (wpAny_mono h (λo s₁ h₁=>wpAny_mono h₁ (λi s₂ h₂=>?_) λ_ _ x=>x) λ_ _ x=>x)
 obtain⟨hT,h₂⟩:=h₂
 unfold subscriptTail
 refine wpAny_bind ?_
 rw[getitemInPython_of_ne hT.not_modules]
 refine wpAny_bind (wpAny_specialOf hT hl ?_)
 have fin:wpAny (model prog w) A (subscripted slice false o i) (λr s₃=>wpAny (model prog w) A (letTemporaryGo value o r >>= λ_=>pure r) Q E s₃) E s₂:=by
  rw[hs o i]
  exact wpAny_operating (wpAny_mono h₂ (λr s₃ h₃=>wpAny_bind (wpAny_letTemporaryGo (wpAny_pure h₃))) λ_ _ x=>x)
 first
  |exact wpAny_pure (wpAny_bind fin)
  |exact wpAny_bind (wpAny_pure (wpAny_bind fin))
  |exact wpAny_bind fin
theorem Cn{X:Cx}{pins:List (Addr×Obj)}{σ:St}{H:Hp}{s:Shared}{a:Addr}{y:V}{o:Option V}(I:Inv X pins σ H s)(g:CY H a y o):s.TypeIs (.ref a) "dict" :=by
 rcases g with⟨kvs,k,e,_,_⟩|⟨kvs,k,b,e,_,_,_⟩
 ·obtain⟨_,_,vs,_,dd⟩:=Jo I.hok e
  exact dd.typeIs
 ·obtain⟨_,_,xs,_,dd⟩:=Jl I.hok e
  exact dd.typeIs
def QD(td ty:TE):TE:=λσ H Q=>td σ H λx H1=>ty σ H1 λy H2=>∃a v,x= .ref a/\CY H2 a y (some v)/\Q v H2
def QT(td ty tv:TE):TS:=λD σ H=>tv σ H λv H1=>td σ H1 λx H2=>ty σ H2 λy H3=>∃a H4,x= .ref a/\G2 H3 a y v H4/\D.nx σ H4
section
variable{X:Cx}{o i e value:Expr}{pos pos' tpos:Pos}{td ty tv:TE}
theorem zR(hu:X.A.units+1<cLine)(ho:PE X o td)(hi:PE X i ty)(hs:PB i):PE X (.Subscript o i pos) (QD td ty):=by
 intro pins s σ H Q I h
 refine vp PySem.F.slot_dict_getitem.lookup hs (dJ (ho pins s σ H _ I h) λu s1 ⟨x,H1,I1,rx,q1⟩=>dJ (hi pins s1 σ H1 _ I1 q1) λiv s2 ⟨y,H2,I2,ry,a,v,ex,g,q2⟩=>?_)
 subst ex
 obtain rfl:u=Value.ref a:=rx
 exact⟨Cn I2 g,GI hu I2 g ry λw' s3 I3 rw'=>⟨v,H2,I3,rw',q2⟩⟩
theorem EV(hu:X.A.units+1<cLine)(ho:PE X o td)(hi:PE X i ty)(hv:PE X value tv)(hs:swapsWith value (some (.Subscript o i pos')) pos.line X.env=pure false):
  PS X (.Assign [.Subscript o i pos'] value pos) (QT td ty tv):=by
 intro pins s σ H D I h
 refine wpAny_Assign_Subscript (dJ (hv pins s σ H _ I h) λr s1 ⟨v,H1,I1,rv,q1⟩=>dJ (ho pins s1 σ H1 _ I1 q1) λu s2 ⟨x,H2,I2,rx,q2⟩=>dJ (hi pins s2 σ H2 _ I2 q2) λiv s3 ⟨y,H3,I3,ry,a,H4,ex,g,q3⟩=>?_) hs
 subst ex
 obtain rfl:u=Value.ref a:=rx
 exact GH hu I3 g ry rv λs4 I4=>⟨σ,H4,I4,q3⟩
end
theorem Jm{P:Program}{w:World}{H:Hp}(h:Heap)(hb:sysModules<h.objs.size):bM P w H (h.push { cls:=.type "dict",data:=.dict #[] }) h.objs.size (.dT []) :=
 ⟨Nat.zero_le _,beq_eq_false_iff_ne.mpr (Ne.symm (Nat.ne_of_lt hb)),[],.nil,_,#[],0,Heap.get?_push_size _ rfl,⟨rfl,rfl,rfl⟩,rfl,rfl,List.nodup_nil⟩
def N8:TE:=λ_ H Q=>∀p,H p=none->Q (.ref p) (upd H p (.dT []))
section
variable{X:Cx}{pos:Pos}
theorem BG:PE X (.Dict [] [] pos) N8:=λpins s σ H Q I h =>
 wpAny_Dict_empty ⟨.ref s.heap.objs.size,_,I.laid (a:=s.heap.objs.size) (o:=.dT []) (t':=s.toks) (λ_ _ q=>Heap.get?_push_of_some _ q) (Nat.le_refl _) (Jm s.heap I.big),rfl,h _ (I.hok.fresh (Nat.le_refl _))⟩
end
section
variable{X:Cx}{pins:List (Addr×Obj)}{σ:St}{H:Hp}{s:Shared}{a:Addr}{y d:V}{u r:Value}{o:Option V}{A:Around}{E:Value->Shared->Prop}
end
section
variable{X:Cx}{o e f:Expr}{apos cpos:Pos}{td ty tx:TE}
end
section
variable{X:Cx}{pins:List (Addr×Obj)}{σ:St}{H:Hp}{s:Shared}{a:Addr}{kvs:List (Key×V)}{A:Around}{E:Value->Shared->Prop}
end
section
variable{X:Cx}{pins:List (Addr×Obj)}{σ:St}{H:Hp}{s:Shared}{a:Addr}{y:V}{u:Value}{A:Around}{E:Value->Shared->Prop}
end
end L2
namespace Zi
open PySem PySem.W PySem.Calls PyProof.Rows
theorem uX{P:Params}{h:Heap}:∀(ns:List Int) (vs:List Value),WellAll P h vs (ns.map WData.int)->IntsAre vs ns:=by
 intro ns
 induction ns with
 |nil =>
  intro vs w
  rw[List.map_nil]at w
  cases w
  exact .nil
 |cons n ns ih =>
  intro vs w
  rw[List.map_cons]at w
  cases w with
  |cons a b =>
   cases a
   exact .cons _ _ (ih _ b)
theorem FU{l:OpenLaw}{n:Nat}(hn:l.most=some n){P:Params}{h:Heap}{args:List WData}{vals:List Value}
  (hpre:l.row.toRowW.claim.pre args=true) (hwl:WellAll P h vals args) :
  ∃a vs ns,vals=[Value.ref a]/\args=[WData.list (ns.map WData.int)]/\h.get? a=some { cls:=.type "list",data:=.seq vs.toArray }/\IntsAre vs ns/\ns.length<=n:=by
 have hsh:WShape.hasAll [] args [.list .int]=true:=(pre_splitW hpre).1
 have hc:l.pre.holds [] { args:=args }=true:=(pre_splitW hpre).2
 obtain⟨d,r,rfl,h1,h2⟩:=hasAllW_cons hsh
 obtain rfl:=hasAllW_nil h2
 obtain⟨xs,rfl,h3⟩:=hasW_list h1
 obtain⟨ns,rfl⟩:=items_int h3
 have hlen:ns.length<=n:=by
  unfold OpenLaw.pre at hc
  have h4:(WTm.not (.lt (.lit (.int (n:Int))) (.len (.arg 0)))).holds [] { args:=[.list (ns.map .int)] }=true:=by
   have h4:=(holds_andW hc).1
   rw[hn]at h4
   exact h4
  have h5:=condW_of h4 (w_not (w_lt w_lit (w_len_list (w_arg rfl))))
  rw[List.length_map]at h5
  refine Nat.le_of_not_lt λq=>?_
  have q':(n:Int)<((ns.length:Nat):Int):=by omega
  first
   |(rw[decide_eq_true q']at h5;exact absurd h5 (by decide))
   |(simp at h5;omega)
 cases hwl with
 |cons w1 w2 =>
  cases w2
  cases w1 with
  |list ho hall=>exact⟨_,_,ns,rfl,rfl,ho,uX ns _ hall,hlen⟩
theorem F1(l:OpenLaw)(args:List WData):l.row.toRowW.claim.post args (.bool true) args=true :=
 postW_of (r:=l.row.toRowW) (X:=(true==true))
  (show WShape.has [] (.bool true) .bool=true by first|rfl|decide|simp[WShape.has,WShape.arms,WShape.armsAll])
  (show(WTm.eq .res (.lit (.bool true))).value [] { args:=args,res:=some (.bool true),after:=args }=some (.bool (true==true)) from w_eq_bool (w_res rfl) w_lit) rfl
theorem Cw{l:OpenLaw}{n:Nat}{q:Program}{loose:List Str}{XP:(Str->Option Value)->Heap->Prop}{YP:World->Heap->Prop}{d:DefRec}
  (hn:l.most=some n) (hdf:d.params.defaults=[])
  (call:∀(w:World) (s₀ s₁:Shared) (mg mb:Str->Option Value) (fa:Addr) (o:Obj) (pm cd doc:Value) (a:Addr) (vs:List Value) (ns:List Int),
   Ground q loose [] XP w s₀ mg mb s₁.heap->YP w s₁.heap →
   s₁.heap.get? fa=some o->o.data= .func (docDef d.name d.params d.body d.scope pm cd doc)->s₁.heap.CodeRec cd d.name->mg d.name=some (.ref fa) →
   s₁.heap.get? a=some { cls:=.type "list",data:=.seq vs.toArray }->IntsAre vs ns->ns.length<=n->s₁.gens= #[] →
   codeAny (model l.prog w) callerA (.call (.ref fa) ⟨[.ref a],[]⟩) (λr s'=>r= .ok (.ret (.bool true))/\OldK s₁.heap s'.heap/\s'.os=s₁.os/\AllBare s'.gens) s₁) :
  WalkO q loose XP YP l.row.toRowW d [] (λf vs=>PySem.call f vs):=by
 intro w s₀ s₁ mg mb G Y fa o pm cd doc dV kV ho hd hcd hD hmg hg args vals as hpre hlay hrd hwl hlo
 obtain rfl:dV= .none:=Dflts.none hD hdf
 obtain rfl:kV= .none:=Dflts.noKw hD
 obtain⟨a,vs,ns,rfl,rfl,hobj,hints,hlen⟩:=FU hn hpre hwl
 refine enter_call (codeAny_mono (call w s₀ s₁ mg mb fa o pm cd doc a vs ns G Y ho (fd_plain hd) hcd hmg hobj hints hlen hg) λr s' hq=>?_)
 obtain⟨rfl,h2,h3,h4⟩:=hq
 exact⟨.inl ⟨.bool true,.bool true,[],rfl,λ_=>rfl,.bool true,F1 l _,λ_=>⟨List.Pairwise.nil,λ_ hm=>(nomatch hm)⟩⟩,h2,h3,h4⟩
section
variable{prog:Program}{w:World}{A:Around}{E:Value->Shared->Prop}{s:Shared}{K:Frag}
end
end Zi
namespace L2
open PySem PySem.Spec PyProof.Rows
theorem yE:∀{vs:List Value} {ns:List Int},IntsAre vs ns->Vals (ns.map V.int) vs
 |_,_,.nil=>.nil
 |_,_,.cons n t h=>.cons ⟨t,rfl⟩ (yE h)
end L2
namespace L2
open PySem PySem.Spec PyProof.Rows
end L2
namespace L2
open PySem PySem.Spec PyProof.Rows
def inClass(s:Stmt)(j:Nat):Stmt:=match s with
 | .ClassDef _ _ _ body _ _ _ _ _ _ _=>body.getD j (.Pass ⟨0,0,0,0⟩)
 |_=>.Pass ⟨0,0,0,0⟩
def fK(s:Stmt):Arguments:=match s with
 | .FunctionDef _ a _ _ _ _ _ _ _ _=>a
 |_=>{ posonlyargs:=[],args:=[],vararg:=none,kwonlyargs:=[],kw_defaults:=[],kwarg:=none,defaults:=[] }
def dI(s:Stmt):List Stmt:=match s with
 | .FunctionDef _ _ b _ _ _ _ _ _ _=>b
 |_=>[]
def ay(s:Stmt):Scope:=match s with
 | .FunctionDef _ _ _ _ _ _ sc _ _ _=>sc
 |_=>{ kind:=.function,names:=[],isGenerator:=false,isCoroutine:=false }
abbrev cD:G3:=λ_ _ _ _ _ _=>False
abbrev E0:XK:=λ_ _ _=>False
theorem aR{X:Cx}:Passes cD X E0:=λ_ _ _ _ _ _ _ h=>h.elim
structure JO(K:PySem.W.Frag)(x qual:Str)(st:Stmt)(f:Addr)(fd:FuncData):Prop where
 ex:∃(oc:Value) (od:Option Addr) (dV kV doc pm:Value) (an:Option Addr) (cdv ct:Value) (osl:Array (Option Value)),
  fd=PySem.W.fnOf x qual (fK st) (dI st) (ay st) dV kV doc pm an cdv ct/\K.lookup f=some ⟨oc,od,.func fd,osl⟩/\PySem.W.codeIn K cdv qual=true
 kp:PySem.W.keepIn K (.ref f)=true
section
variable{P:Program}{w:World}{K:PySem.W.Frag}{mg:Str->Option Value}{base:Heap}
theorem JO.ok{x qual:Str}{st:Stmt}{f:Addr}{fd:FuncData}{N ps:List Str}{k:Nat}{sp:Sp}(F:JO K x qual st f fd)(S:aH N ps (ay st))(len:∀vs H Q E,sp vs H Q E->vs.length=ps.length)
  (hbody:∀(cdv:Value) (A:Around) (outer:List Env) (s:Shared) (H:Hp) (vs:List V) (Q:VK) (E:XK),jE k (A.deeper (envOfC qual (ay st) s.heap.objs.size f cdv))->sp vs H Q E →
   ∃t,zu (sM cD P w K mg base N qual (ay st) f cdv A outer s H E).OA (dI st) t/\t { nx:=λ_ H'=>Q .i9 H',rt:=Q } (start N vs) H):aK P w K mg base cD (k+1) f fd ps sp:=by
 obtain⟨oc,od,dV,kV,doc,pm,an,cdv,ct,osl,rfl,lk,hcd⟩:=F.ex
 refine Jg lk hcd S len λA outer s H vs Q E hr Fj=>?_
 obtain⟨t,h,q⟩:=hbody cdv A outer s H vs Q E hr Fj
 exact⟨t,h.OA,q⟩
theorem ua{x qual:Str}{st:Stmt}{f:Addr}{oc:Value}{od an:Option Addr}{osl:Array (Option Value)}{dV kV doc pm cdv ct:Value}(l:K.lookup f=some ⟨oc,od,.func (PySem.W.fnOf x qual (fK st) (dI st) (ay st) dV kV doc pm an cdv ct),osl⟩)
  (c:PySem.W.codeIn K cdv qual=true) (k:PySem.W.keepIn K (.ref f)=true):JO K x qual st f (PySem.W.fnOf x qual (fK st) (dI st) (ay st) dV kV doc pm an cdv ct):=⟨⟨oc,od,dV,kV,doc,pm,an,cdv,ct,osl,rfl,l,c⟩,k⟩
end
theorem B6{A:Around}{k:Nat}(hr:jE k A):A.units+1<cLine:=Nat.lt_of_le_of_lt (Nat.add_le_add_left (by decide:1<=64) _) hr.units
section
variable{X:Cx}
theorem pv (i:Nat) {x:Str} {pos:Pos} (hN:X.N[i]? =some x:=by rfl) (hv:T7 X.env.scope x:=by first|exact Or.inl rfl|exact Or.inr (Or.inl rfl)|exact Or.inr (Or.inr rfl)) (hd:(x==("__debug__" :Str))=false:=by decide)
  (hcd:(x==("__classdict__" :Str))=false:=by decide):PE X (.Name x pos) (Qt i):=Ou hN hv hd hcd
end
theorem iy{A B:Prop}(h:B):if false=true then A else B:=by
 rw[if_neg Bool.false_ne_true]
 exact h
theorem pL{A B:Prop}(h:A):if true=true then A else B:=by
 rw[if_pos rfl]
 exact h
def ak(H H':Hp):Prop:=∀b o,H b=some o->H' b=some o
theorem ak.refl(H:Hp):ak H H:=λ_ _ h=>h
theorem ak.trans{H H1 H2:Hp}(a:ak H H1)(b:ak H1 H2):ak H H2:=λc o h=>b c o (a c o h)
theorem ak.free{H H':Hp}(e:ak H H'){l:Addr}(h:H' l=Option.none):H l=Option.none:=by
 cases q:H l with
 |none=>rfl
 |some o =>
  rw[e l o q]at h
  cases h
theorem ak.seq{K:PySem.W.Frag}{H H':Hp}{a:Addr}{xs:List V}(e:ak H H')(h:cS K H a xs):cS K H' a xs:=by
 rcases h with(h|⟨o,h⟩)|h
 ·exact .inl (.inl (e _ _ h))
 ·exact .inl (.inr ⟨o,e _ _ h⟩)
 ·exact .inr h
section
variable{κ:Type}[DecidableEq κ]
end
end L2
namespace GP
theorem KR{α:Type}:∀{l:List α},l.length=1->∃a,l=[a]
 |[a],_=>⟨a,rfl⟩
theorem BZ{α:Type}{n:Nat}:∀{l:List α},l.length=n+1->∃a r,l=a::r/\r.length=n
 |a::r,h=>⟨a,r,rfl,Nat.succ.inj h⟩
theorem OL{α:Type}{l:List α}(h:l.length=2):∃a b,l=[a,b]:=by
 obtain⟨a,r,rfl,k⟩:=BZ h
 obtain⟨b,rfl⟩:=KR k
 exact⟨a,b,rfl⟩
theorem IP{α:Type}{l:List α}(h:l.length=3):∃a b c,l=[a,b,c]:=by
 obtain⟨a,r,rfl,k⟩:=BZ h
 obtain⟨b,c,rfl⟩:=OL k
 exact⟨a,b,c,rfl⟩
theorem KQ{α:Type}{l:List α}(h:l.length=4):∃a b c d,l=[a,b,c,d]:=by
 obtain⟨a,r,rfl,k⟩:=BZ h
 obtain⟨b,c,d,rfl⟩:=IP k
 exact⟨a,b,c,d,rfl⟩
theorem IM{α:Type}{l:List α}(h:l.length=5):∃a b c d e,l=[a,b,c,d,e]:=by
 obtain⟨a,r,rfl,k⟩:=BZ h
 obtain⟨b,c,d,e,rfl⟩:=KQ k
 exact⟨a,b,c,d,e,rfl⟩
theorem Rk{α:Type}{l:List α}(h:l.length=6):∃a b c d e f,l=[a,b,c,d,e,f]:=by
 obtain⟨a,r,rfl,k⟩:=BZ h
 obtain⟨b,c,d,e,f,rfl⟩:=IM k
 exact⟨a,b,c,d,e,f,rfl⟩
end GP
namespace L2
open PySem PySem.Spec PyProof.Rows
section
variable{X:Cx}
theorem zh:∀{bs:List Bool} {us:List Value},Vals (bs.map V.bl) us->∀(i:Nat) (v:Value),us[i]? =some v->∃b,bs[i]? =some b/\v= .bool b
 |[],_,r,i,v,e=>by
  cases r
  simp at e
 |b::bs,_,r,i,v,e=>by
  cases r with
  |cons r1 r2 =>
   cases i with
   |zero =>
    simp at e
    subst e
    exact⟨b,rfl,r1⟩
   |succ i =>
    obtain⟨c,h1,h2⟩:=zh r2 i v (by simpa using e)
    exact⟨c,by simpa using h1,h2⟩
theorem Dz(bs:List Bool):((List.range bs.length).all λi=>(bs[i]?).getD true)=bs.all id:=by
 rw[Bool.eq_iff_iff,List.all_eq_true,List.all_eq_true]
 constructor
 ·intro h b hb
  obtain⟨i,hi,rfl⟩:=List.getElem_of_mem hb
  have:=h i (List.mem_range.mpr hi)
  simpa only[List.getElem?_eq_getElem hi,Option.getD_some,id]using this
 ·intro h i hi
  have hi':=List.mem_range.mp hi
  simpa only[List.getElem?_eq_getElem hi',Option.getD_some,id]using h _ (List.getElem_mem hi')
theorem uG(hc:X.calm=true):lA X (.builtin "all") (λxs H Q=>∃(l:Addr) (bs:List Bool),xs=[.ref l]/\cS X.K H l (bs.map V.bl)/\Q (.bl (bs.all id)) H):=by
 intro pins s σ H xs us Q I r h
 obtain⟨l,bs,rfl,hl,q⟩:=h
 obtain⟨u,rfl,ru⟩:=vals1 r
 cases ru
 obtain⟨its,rv,p,hz⟩:=I.list hl
 have pl:s.heap.IsList l its.toArray:=p.isList
 have hlt:l<s.heap.objs.size:=by obtain⟨_,e,_⟩:=pl;exact Heap.lt_size e
 have hlen:bs.length=its.length:=by rw[←rv.length,List.length_map]
 refine TK.bO (Nat.le_refl s.toks) ?_
 refine call_all_walk (wpAny_pyIter_list pl ?_)
 refine⟨s.heap.objs.size,[s.heap.objs.size,l],[s.heap.objs.size],its.toArray.size,_,_,λi=>(bs[i]?).getD true,rfl,Walks.list (A:=X.A.in1) (I.ok.hd hc) _ l (Nat.ne_of_lt hlt) its.toArray,
  ⟨⟨_,Heap.get?_push_size _ rfl,rfl,rfl⟩,pl.push _⟩,λi v s' Q' E' hP hQ=>?_,λh' tk hk hup=>?_⟩
 ·obtain⟨b,e,rfl⟩:=zh rv i v (by simpa using hP)
  simp only[e,Option.getD_some]at hQ
  exact wpAny_truthy_bool hQ
 ·have e:((List.range its.toArray.size).all λi=>(bs[i]?).getD true)=bs.all id:=by
   rw[List.size_toArray,←hlen];exact Dz bs
  rw[e]
  refine⟨.bl (bs.all id),H,I.kept (t':=tk) (λb x e=>hk b x (λhm=>?_) (Heap.get?_push_of_some _ e)),rfl,q⟩
  rw[List.mem_singleton.mp hm]at e
  exact Nat.lt_irrefl _ (Heap.lt_size e)
end
theorem EX{X:Cx}{K':PySem.W.Frag}{es:List Expr}{k:Nat}{t:Mr}{n:Nat}{pos:Pos}(hK:X.K=K')(hc:X.calm=true)(h:SN X es t)
  (hn:(assignEach es X.env).length=n:=by rfl) (hst:(assignEach es X.env).findIdx? (·.1)=none:=by rfl):PG X (.Tuple es k pos) (Sq K' n t):=by
 subst hK
 exact oi hc h hn hst
def VJ(t u:TS):TS:=λD σ H=>∃Mid:St->Hp->Prop,t { D with nx:=Mid } σ H/\∀ σ' H',Mid σ' H'->u D σ' H'
theorem bI{X:Cx}{st:Stmt}{rest:List Stmt}{t u:TS}(h1:PS X st t)(h2:zu X rest u):zu X (st::rest) (VJ t u):=by
 intro pins s σ H D I h
 obtain⟨Mid,h,hm⟩:=h
 refine wpAny_execs_cons (dJ (h1 pins s σ H { D with nx:=Mid } I h) λf s1 q=>?_)
 cases f with
 |next =>
  obtain⟨σ',H',I',q⟩:=q
  exact h2 pins s1 σ' H' D I' (hm σ' H' q)
 |ret v=>exact q
 |brk=>exact q
 |cont=>exact q
def gZ(X:Cx)(scope:Scope)(cl:List (Str×Addr))(C:Addr)(N:List Str)(s:Shared)(H:Hp)(ex:List Addr)(pn:List (Addr×Obj))(E:Value->Shared->Prop):Cx :=
 { X with N:=N,s₀:=s,H₀:=H,env:=compEnvC scope cl C X.env,outer:=X.stack,ex:=ex,fn:=λx=>scope.names.lookup x==some .cell,pn:=pn,xe:=E }
structure c6(X:Cx)(scope:Scope)(cl:List (Str×Addr))(N:List Str)(mK:St->St):Prop where
 clos:closureFor scope X.env=pure cl
 kind:scope.kind= .function
 cell:∀y∈scope.names,y.2= .cell->cl.lookup y.1=none
 names:∀y∈scope.names,y.2= .local->scope.names.lookup y.1=some .local
 sub:∀x c,cl.lookup x=some c->X.env.cells.lookup x=some c
 has:∀x,((relabel scope X.env).names.lookup x=some .cell\/(relabel scope X.env).names.lookup x=some .free)->scope.names.lookup x=some .cell\/∃c,cl.lookup x=some c
 len:∀ σ,(mK σ).length=N.length
 fv:∀(σ:St) (i:Nat) (x:Str) (v:V),N[i]? =some x->(mK σ)[i]? =some (some v)->T7 (relabel scope X.env) x →
  ∃(j:Nat) (c:Addr),X.N[j]? =some x/\σ[j]? =some (some v)/\X.env.kindOf x=some .cell/\((relabel scope X.env).names.lookup x=some .cell\/(relabel scope X.env).names.lookup x=some .free)/\cl.lookup x=some c
structure JI(cl Ao:List (Str×Addr))(scope:Scope)(n:Nat)(h₁:Heap):Prop where
 look:∀x c,Ao.lookup x=some c->(n<c/\h₁.IsCell c none)\/cl.lookup x=some c
 inj:∀x y c,n<c->Ao.lookup x=some c->Ao.lookup y=some c->(∀x,cl.lookup x≠some c)->x=y
 keep:∀x c,cl.lookup x=some c->Ao.lookup x=some c
 own:∀x,scope.names.lookup x=some .cell->∃c,Ao.lookup x=some c
theorem gX:∀(names:List (Str×NameKind)) (n:Nat) (acc:List (Str×Addr)),cellsFrom n names acc=cellsFrom n names []++acc
 |[],_,_=>rfl
 |(y,k)::r,n,acc=>by
  unfold cellsFrom
  split
  ·rw[gX r _ ((y,n)::acc),gX r _ [(y,n)],List.append_assoc];rfl
  ·exact gX r n acc
theorem nG:∀(names:List (Str×NameKind)) (n:Nat) (acc:List (Str×Addr)) (x:Str) (c:Addr),(x,c)∈cellsFrom n names acc->(x,NameKind.cell)∈names\/(x,c)∈acc
 |[],_,_,_,_,h=>.inr h
 |(y,k)::r,n,acc,x,c,h=>by
  unfold cellsFrom at h
  split at h
  next hk =>
   rcases nG r _ _ x c h with z|z
   ·exact .inl (List.mem_cons_of_mem _ z)
   ·rcases List.mem_cons.mp z with e|e
    ·cases e
     have hk':k= .cell:=by simpa using hk
     rw[hk']
     exact .inl List.mem_cons_self
    ·exact .inr e
  next=>exact(nG r _ _ x c h).imp (List.mem_cons_of_mem _) id
theorem Ct{X:Cx}{scope:Scope}{cl:List (Str×Addr)}{N:List Str}{mK:St->St}(S:c6 X scope cl N mK){M:Model}{A:Around}{E:Value->Shared->Prop}{s:Shared}{Q:Env->Shared->Prop}
  (h:∀Ao h₁,JI cl Ao scope s.heap.objs.size h₁->h₁.Ns s.heap.objs.size (λ_=>none)->(∀b o,s.heap.get? b=some o->h₁.get? b=some o)->Q { compEnvC scope Ao s.heap.objs.size X.env with scope:=scope } { s with heap:=h₁ }) :
  wpAny M A (newFunctionEnv scope X.env.globals cl [] X.env.qual none .none (some X.env)) Q E s:=by
 simp only[newFunctionEnv,Option.isSome_some,if_true]
 refine wpAny_bind (wpAny_alloc ?_)
 refine wpAny_bind (wpAny_layCells _ (λname kind cells=>by cases hkc:kind==NameKind.cell<;>simp[hkc]) _ _ _ _ ?_)
 have hz:(s.heap.push { cls:=.type "dict",data:=.dict #[] }).objs.size=s.heap.objs.size+1:=Heap.size_push ..
 have ok:=cellsFrom_ok scope.names (s.heap.push { cls:=.type "dict",data:=.dict #[] }) (s.heap.objs.size+1) [] ⟨λ_ _ hm=>(nomatch hm),List.Pairwise.nil⟩ (by rw[hz];exact Nat.le_refl _)
 simp only[List.forIn_nil]
 refine wpAny_bind (wpAny_pure (wpAny_pure (h (cellsFrom (s.heap.push { cls:=.type "dict",data:=.dict #[] }).objs.size scope.names cl) _ ⟨λx c e=>?_,λx y c _ ex ey hn=>?_,λx c e=>?_,λx e=>?_⟩ ((Heap.Ns.new s.heap (.type "dict")).keeps λb o e=>pushCells_keeps _ _ _ _ e) λb o e=>pushCells_keeps _ _ _ _ (Heap.get?_push_of_some _ e))))
 ·rw[gX,List.lookup_append]at e
  cases q:(cellsFrom (s.heap.push { cls:=.type "dict",data:=.dict #[] }).objs.size scope.names []).lookup x with
  |none=>rw[q]at e;exact .inr e
  |some d =>
   rw[q]at e
   cases e
   exact .inl ((ok.empty x c (mem_of_lookup q)).symm)
 ·rw[gX,List.lookup_append]at ex ey
  cases qx:(cellsFrom (s.heap.push { cls:=.type "dict",data:=.dict #[] }).objs.size scope.names []).lookup x with
  |none=>rw[qx]at ex;exact absurd ex (hn x)
  |some d =>
   rw[qx]at ex
   cases ex
   cases qy:(cellsFrom (s.heap.push { cls:=.type "dict",data:=.dict #[] }).objs.size scope.names []).lookup y with
   |none=>rw[qy]at ey;exact absurd ey (hn y)
   |some d =>
    rw[qy]at ey
    cases ey
    exact name_of_addr ok.apart (mem_of_lookup qx) (mem_of_lookup qy)
 ·rw[gX,List.lookup_append]
  cases q:(cellsFrom (s.heap.push { cls:=.type "dict",data:=.dict #[] }).objs.size scope.names []).lookup x with
  |none=>exact e
  |some d =>
   rcases nG _ _ _ _ _ (mem_of_lookup q)with z|z
   ·rw[S.cell _ z rfl]at e;cases e
   ·cases z
 ·exact Option.isSome_iff_exists.mp (PySem.W.cellsFrom_some _ _ _ (.inl e))
theorem c6.plain{X:Cx}{scope:Scope}{N:List Str}(hfree:∀x∈scope.names,x.2≠ .free)(kind:scope.kind= .function)(_:∀y∈scope.names,y.2= .cell->(y.1,NameKind.free)∉scope.names)
  (names:∀y∈scope.names,y.2= .local->scope.names.lookup y.1=some .local):c6 X scope [] N (λ_=>List.replicate N.length none):=by
 have hr:(relabel scope X.env).names=scope.names:=by
  unfold relabel
  exact map_eq_self λx hx=>by
   obtain⟨n,k⟩:=x
   have:(k==NameKind.free)=false:=by simpa using hfree _ hx
   simp[this]
 refine⟨closureFor_none hfree,kind,λ_ _ _=>rfl,names,λx c e=>by simp at e,λx hx=>?_,λσ=>List.length_replicate,λσ i x v _ e _=>?_⟩
 ·rw[hr]at hx
  rcases hx with hx|hx
  ·exact .inl hx
  ·exact absurd rfl (hfree _ (PySem.mem_of_lookup hx))
 ·rw[List.getElem?_replicate]at e
  split at e
  ·cases e
  ·cases e
def nQ(look:Str->Option Addr):List (Str×NameKind)->List (Str×Addr)->List (Str×Addr)
 |[],acc=>acc
 |(n,k)::r,acc=>if(k==NameKind.free)=true then(match look n with|some a=>nQ look r ((n,a)::acc)|none=>nQ look r acc)else nQ look r acc
theorem oG{env:Env}:∀(names:List (Str×NameKind)) (acc:List (Str×Addr)),(∀x∈names,x.2= .free->∃a,env.cells.lookup x.1=some a) →
  (forIn names acc (λ(x:Str×NameKind) (r:List (Str×Addr))=>match x with|(name,kind)=>if(kind==NameKind.free)=true then do let c ←cellOf env name;pure (ForInStep.yield ((name,c)::r))else pure (ForInStep.yield r)):Sem (List (Str×Addr)))=pure (nQ (env.cells.lookup ·) names acc)
 |[],acc,_=>rfl
 |(n,k)::r,acc,h=>by
  rw[List.forIn_cons]
  dsimp only
  unfold nQ
  by_cases hk:(k==NameKind.free)=true
  ·obtain⟨a,ha⟩:=h (n,k) List.mem_cons_self (by simpa using hk)
   have ha':env.cells.lookup n=some a:=ha
   rw[if_pos hk,if_pos hk,ha']
   have hc:cellOf env n=pure a:=by unfold cellOf;rw[ha']
   rw[hc]
   exact oG r _ λx hx=>h x (List.mem_cons_of_mem _ hx)
  ·rw[if_neg hk,if_neg hk]
   exact oG r _ λx hx=>h x (List.mem_cons_of_mem _ hx)
theorem sN{look:Str->Option Addr}:∀(names:List (Str×NameKind)) (acc:List (Str×Addr)),(∀x c,acc.lookup x=some c->look x=some c)->∀x c,(nQ look names acc).lookup x=some c->look x=some c
 |[],acc,h=>h
 |(n,k)::r,acc,h=>by
  unfold nQ
  by_cases hk:(k==NameKind.free)=true
  ·rw[if_pos hk]
   cases e:look n with
   |none=>exact sN r acc h
   |some a =>
    refine sN r _ λx c q=>?_
    rw[List.lookup_cons]at q
    by_cases hx:(x==n)=true
    ·rw[hx]at q
     have:x=n:=by simpa using hx
     rw[this,e]
     exact q
    ·have hx':(x==n)=false:=by simpa using hx
     rw[hx']at q
     exact h x c q
  ·rw[if_neg hk]
   exact sN r acc h
theorem oH{look:Str->Option Addr}:∀(names:List (Str×NameKind)) (acc:List (Str×Addr)) (x:Str),(∃c,acc.lookup x=some c)->∃c,(nQ look names acc).lookup x=some c
 |[],_,_,h=>h
 |(n,k)::r,acc,x,h=>by
  unfold nQ
  by_cases hk:(k==NameKind.free)=true
  ·rw[if_pos hk]
   cases e:look n with
   |none=>exact oH r acc x h
   |some a =>
    refine oH r _ x ?_
    rw[List.lookup_cons]
    cases hx:x==n with
    |true=>exact⟨a,rfl⟩
    |false=>exact h
  ·rw[if_neg hk]
   exact oH r acc x h
theorem pR{look:Str->Option Addr}:∀(names:List (Str×NameKind)) (acc:List (Str×Addr)) (x:Str),(x,NameKind.free)∈names->(∃a,look x=some a)->∃c,(nQ look names acc).lookup x=some c
 |[],_,_,h,_=>by cases h
 |(n,k)::r,acc,x,h,ha=>by
  unfold nQ
  rcases List.mem_cons.mp h with e|e
  ·obtain⟨a,ha⟩:=ha
   have e1:x=n:=congrArg Prod.fst e
   have e2:k=NameKind.free:=(congrArg Prod.snd e).symm
   subst e1 e2
   rw[if_pos (by decide),ha]
   refine oH r _ x ⟨a,?_⟩
   rw[List.lookup_cons]
   simp
  ·by_cases hk:(k==NameKind.free)=true
   ·rw[if_pos hk]
    cases e2:look n with
    |none=>exact pR r acc x e ha
    |some a=>exact pR r _ x e ha
   ·rw[if_neg hk]
    exact pR r acc x e ha
theorem sO{look:Str->Option Addr}:∀(names:List (Str×NameKind)) (acc:List (Str×Addr)) (x:Str) (c:Addr),(nQ look names acc).lookup x=some c->(x,NameKind.free)∈names\/acc.lookup x=some c
 |[],_,_,_,h=>.inr h
 |(n,k)::r,acc,x,c,h=>by
  unfold nQ at h
  by_cases hk:(k==NameKind.free)=true
  ·rw[if_pos hk]at h
   cases e:look n with
   |none=>rw[e]at h;exact(sO r acc x c h).imp (List.mem_cons_of_mem _) id
   |some a =>
    rw[e]at h
    rcases sO r _ x c h with z|z
    ·exact .inl (List.mem_cons_of_mem _ z)
    ·rw[List.lookup_cons]at z
     cases hx:x==n with
     |true =>
      have e1:x=n:=by simpa using hx
      have e2:k= .free:=by simpa using hk
      rw[e1,e2]
      exact .inl List.mem_cons_self
     |false=>rw[hx]at z;exact .inr z
  ·rw[if_neg hk]at h
   exact(sO r acc x c h).imp (List.mem_cons_of_mem _) id
theorem n9{env:Env}:∀{names:List (Str×NameKind)} {x:Str} {k:NameKind},
  (names.map λ(n,k)=>if(k==NameKind.free&&env.scope.kind== .function&&env.kindOf n==some .cell)then(n,NameKind.cell)else(n,k)).lookup x=some k →
  (k= .cell\/k= .free)->names.lookup x=some .cell\/(x,NameKind.free)∈names
 |[],_,_,h,_=>by simp at h
 |(n,j)::r,x,k,h,hk=>by
  rw[List.map_cons,List.lookup_cons]at h
  rw[List.lookup_cons]
  by_cases hj:(j==NameKind.free&&env.scope.kind== .function&&env.kindOf n==some .cell)=true
  ·simp only[hj,if_true]at h
   by_cases hx:(x==n)=true
   ·have e:x=n:=by simpa using hx
    have ej:j= .free:=by
     rw[Bool.and_eq_true,Bool.and_eq_true]at hj
     simpa using hj.1.1
    rw[e,←ej]
    exact .inr List.mem_cons_self
   ·have hx':(x==n)=false:=by simpa using hx
    rw[hx']at h ⊢
    exact(n9 h hk).imp id (List.mem_cons_of_mem _)
  ·simp only[hj]at h
   by_cases hx:(x==n)=true
   ·have e:x=n:=by simpa using hx
    rw[e]at h
    simp at h
    subst h
    rw[hx]
    rcases hk with q|q
    ·rw[q];exact .inl rfl
    ·rw[e,←q]
     exact .inr List.mem_cons_self
   ·have hx':(x==n)=false:=by simpa using hx
    simp[hx']at h
    rw[hx']
    exact(n9 (by simpa using h) hk).imp id (List.mem_cons_of_mem _)
def Ti(nt:Nat)(ix:List Nat)(σ:St):St:=List.replicate nt none++ix.map λj=>(σ[j]?).join
theorem c6.free{X:Cx}{scope:Scope}{N:List Str}{nt:Nat}{ix:List Nat}(kind:scope.kind= .function)(cell:∀y∈scope.names,y.2= .cell->(y.1,NameKind.free)∉scope.names)
  (names:∀y∈scope.names,y.2= .local->scope.names.lookup y.1=some .local) (hf:∀y∈scope.names,y.2= .free->X.env.kindOf y.1=some .cell)
  (hl:N.length=nt+ix.length) (hx:∀(k j:Nat),ix[k]? =some j->∃x,N[nt+k]? =some x/\X.N[j]? =some x/\(x,NameKind.free)∈scope.names/\(relabel scope X.env).names.lookup x=some .cell) (ok:X.Ok) :
  ∃cl,c6 X scope cl N (Ti nt ix):=by
 have hcl:∀y∈scope.names,y.2= .free->∃a,X.env.cells.lookup y.1=some a:=λy hy hk=>ok.has y.1 (.inl (hf y hy hk))
 refine⟨nQ (X.env.cells.lookup ·) scope.names [],?_,kind,λy hy hk=>?_,names,sN scope.names [] (λx c e=>by simp at e),λx h=>?_,λσ=>?_,λσ i x v e1 e2 e3=>?_⟩
 ·have z:=oG scope.names [] hcl
  unfold closureFor
  dsimp only
  rw[z]
  rfl
 ·cases q:(nQ (X.env.cells.lookup ·) scope.names []).lookup y.1 with
  |none=>rfl
  |some c =>
   rcases sO _ _ _ _ q with z|z
   ·exact absurd z (cell y hy hk)
   ·cases z
 ·have hm:scope.names.lookup x=some .cell\/(x,NameKind.free)∈scope.names:=by
   rcases h with h|h
   ·exact n9 h (.inl rfl)
   ·exact n9 h (.inr rfl)
  exact hm.imp id λhm=>pR scope.names [] x hm (hcl _ hm rfl)
 ·unfold Ti
  rw[List.length_append,List.length_replicate,List.length_map,hl]
 ·unfold Ti at e2
  by_cases hi:i<nt
  ·rw[List.getElem?_append_left (by rw[List.length_replicate];exact hi),List.getElem?_replicate]at e2
   split at e2
   ·cases e2
   ·cases e2
  ·rw[List.getElem?_append_right (by rw[List.length_replicate];omega),List.length_replicate,List.getElem?_map]at e2
   cases ej:ix[i-nt]? with
   |none=>rw[ej]at e2;cases e2
   |some j =>
    rw[ej]at e2
    have T5:(σ[j]?).join=some v:=Option.some.inj e2
    obtain⟨x',n1,n2,n3,n4⟩:=hx (i-nt) j ej
    rw[show nt+(i-nt)=i by omega,e1]at n1
    cases n1
    obtain⟨c,hc⟩:=pR (look:=(X.env.cells.lookup ·)) scope.names [] x n3 (hcl _ n3 rfl)
    refine⟨j,c,n2,?_,hf _ n3 rfl,.inl n4,hc⟩
    cases es:σ[j]? with
    |none=>rw[es]at T5;cases T5
    |some o=>rw[es]at T5;rw[show o=some v from T5]
def Kp(a b:St):Prop:=∀(i:Nat) (v:V),a[i]? =some (some v)->b[i]? =some (some v)
theorem Kp.rep(n:Nat)(b:St):Kp (List.replicate n none) b:=λi v e=>by
 rw[List.getElem?_replicate]at e
 split at e
 ·cases e
 ·cases e
def HB(wi:TI)(g:TG)(te:TE)(mK:St->St):TE:=λσ H Q=>wi σ H λJ H1=>∀l,H1 l=none->∃W:Nat->Nat->List V->Hp->Prop,(∃m,W 0 m [] (upd H1 l (.lst []))) ∧
 ∀i m ys H2,W i m ys H2->(J.stop i H2/\Q (.ref l) H2) ∨
  (J.go i H2/\∀x H3,J.AS i H2 x H3->g x (mK σ) H3 λyx H4=>Kp (mK σ) yx/\te yx H4 λy H5=>H5 l=some (.lst ys)/\ys.length<sizeLine/\∃m',m'<m/\W (i+1) m' (ys++[y]) (upd H5 l (.lst (ys++[y]))))
theorem Inv.Hu{X:Cx}{pins:List (Addr×Obj)}{σ:St}{H:Hp}{s:Shared}(I:Inv X pins σ H s):Inv X [] σ H s:=I.zO λ_ hp=>nomatch hp
theorem mj.but{P:Program}{w:World}{H:Hp}{h h':Heap}{C:Addr}(x:mj P w H h)(hC:H C=none)(sb:Heap.SameBut C h h'):mj P w H h':=λb u e =>
 (x b u e).stay (λc v hc q=>(sb.2 c (by
  rintro rfl
  rcases hc with z|z
  ·rw[z,e]at hC;cases hC
  ·rw[hC]at z;cases z)).trans q) (λ_ q=>q) λ_ _ q=>q
section
variable{X:Cx}{pins:List (Addr×Obj)}{σ:St}{H:Hp}{s:Shared}{scope:Scope}{cl:List (Str×Addr)}{N:List Str}{mK:St->St}{fp:List Addr}{h₁:Heap}{m:Str->Option Value}{E:Value->Shared->Prop}
theorem B4{Ao:List (Str×Addr)}(S:c6 X scope cl N mK)(G:JI cl Ao scope s.heap.objs.size h₁)(I:Inv X pins σ H s)(hf:∀b∈fp,oU X pins H b/\b<s.heap.objs.size)(kp:∀b o,s.heap.get? b=some o->h₁.get? b=some o)(hns:h₁.Ns s.heap.objs.size m)(t':Nat)(ht:s.toks<=t':=by first|exact Nat.le_refl _|exact Nat.le_succ _|assumption|omega):
  Inv (gZ X scope Ao s.heap.objs.size N s H fp (X.pn++pins) E) [] (mK σ) H { s with heap:=h₁,toks:=t' }:=by
 have Q7:∀b,b≠X.env.locals->b∉X.fs->b∉frs X.stack:=λb h1 h2 z=>by
  rcases List.mem_cons.mp (I.qN b z)with q|q
  ·exact h1 q
  ·exact h2 q
 have Lr:∀x c,cl.lookup x=some c->c<s.heap.objs.size:=λx c e=>by
  obtain⟨v,o,ho,_⟩:=I.cell x c (S.sub x c e)
  exact Heap.lt_size ho
 refine⟨⟨I.mod,S.kind,I.ok.glob,I.ok.blt,Nat.le_refl _,λx y c a b=>?_,λx h=>(S.has x h).elim (G.own x) λ⟨c,e⟩=>⟨c,G.keep x c e⟩,λx c z e=>?_,I.ok.hd,I.ok.frames,.inl rfl,λb hb=>?_,I.bs,Nat.le_trans I.ok.Jw I.sz,λb o e hb=>?_,λb hb=>?_,I.stack,I.zC,I.tk⟩,
  rfl,I.bare,Un.kept kp,⟨m,hns,λi x v e1 e2 e3=>?_⟩,λx c e=>?_,I.hok.fresh (Nat.le_refl _),λx c e=>(G.look x c e).elim (λz=>I.hok.fresh (Nat.le_of_lt z.1)) λz=>I.jV x c (S.sub x c z),λp hp=>?_,I.hok.kept kp,S.len σ,ht⟩
 ·by_cases hc:s.heap.objs.size<c
  ·exact G.inj x y c hc a b λz e=>Nat.lt_asymm hc (Lr z c e)
  ·exact I.ok.inj x y c (S.sub x c ((G.look x c a).elim (λz=>absurd z.1 hc) id)) (S.sub y c ((G.look y c b).elim (λz=>absurd z.1 hc) id))
 ·rcases G.look x c e with q|q
  ·exact Nat.le_of_lt q.1
  ·have z2:(scope.names.lookup x==some NameKind.cell)=true:=z
   have z':scope.names.lookup x=some .cell:=by simpa using z2
   rw[S.cell _ (mem_of_lookup z') rfl]at q
   cases q
 ·obtain⟨⟨_,_,_,_,f4,_⟩,lt⟩:=hf b hb
  exact⟨Nat.ne_of_lt lt,λx c e=>(G.look x c e).elim (λz=>Nat.ne_of_gt (Nat.lt_trans lt z.1)) λz=>f4 x c (S.sub x c z)⟩
 ·obtain⟨⟨f0,_,_,f3,_⟩,_⟩:=hf b hb
  rcases f3 with z|z
  ·exact I.ok.DP b o e z
  ·exact absurd (Nat.lt_of_lt_of_le (Heap.lt_size e) (Nat.le_trans I.ok.Jw z)) (Nat.lt_irrefl _)
 ·obtain⟨⟨_,f1,f2,_⟩,_⟩:=hf b hb
  exact Q7 b f1 f2
 ·obtain⟨j,c,n1,n2,n3,n4,n5⟩:=S.fv σ i x v e1 e2 e3
  obtain⟨mX,_,hl⟩:=I.loc
  obtain⟨u,r,l⟩:=hl j x v n1 n2 (.inr (.inl n3))
  refine⟨u,r,.inr ⟨n4,c,G.keep x c n5,?_⟩⟩
  rcases l with⟨k,_⟩|⟨_,c',ec,o,ho,hd⟩
  ·have k':X.env.scope.names.lookup x=some .local:=k
   have Yq:X.env.scope.names.lookup x=some .cell:=n3
   rw[k']at Yq;cases Yq
  ·have q:=S.sub x c n5
   rw[q]at ec;cases ec
   exact⟨o,kp _ _ ho,hd⟩
 ·rcases G.look x c e with z|z
  ·exact⟨none,z.2⟩
  ·obtain⟨v,o,ho,hd⟩:=I.cell x c (S.sub x c z)
   exact⟨v,o,kp _ _ ho,hd⟩
 ·have TL:p∈X.pn++pins:=by
   rcases List.mem_append.mp hp with z|z
   ·exact z
   ·cases z
  obtain⟨a,b,c,d,e⟩:=I.pin p TL
  exact⟨kp _ _ a,b,Nat.ne_of_lt (Heap.lt_size a),Q7 _ c d,e⟩
end
end L2
namespace L2
open PySem PySem.Spec PyProof.Rows
inductive Cp where
 |lst (a:Addr)|tup (a:Addr)|txt (x:Str)
def eL(x:Str):List V:=x.cps.toList.map λc=>V.str ⟨#[c]⟩
def Cp.val:Cp->V
 | .lst a=>.ref a
 | .tup a=>.ref a
 | .txt x=>.str x
def Cp.at(K:PySem.W.Frag)(H:Hp):Cp->List V->Prop
 | .lst a=>cS K H a
 | .tup a=>cT K H a
 | .txt x=>λxs=>xs=eL x
def Cp.C0(h:Heap)(it:Addr)(i:Nat):Cp->Prop
 | .lst a=>h.IsListIter it a i
 | .tup a=>h.IsTupleIter it a i
 | .txt x=>∃t,h.IsStrIter it (strIterType x) x t i
def Cp.src(h:Heap):Cp->List V->Prop
 | .lst a=>λxs=>∃its,Vals xs its/\h.IsList a its.toArray
 | .tup a=>λxs=>∃its,Vals xs its/\h.IsTuple a its.toArray
 | .txt x=>λxs=>xs=eL x
def Cp.off(b:Addr):Cp->Prop
 | .lst a=>a≠b
 | .tup a=>a≠b
 | .txt _=>True
section
variable{X:Cx}{pins:List (Addr×Obj)}{σ:St}{H:Hp}{s:Shared}{c d:Cp}{xs ys:List V}
theorem Cp.nV(I:Inv X pins σ H s)(h:c.at X.K H xs):c.src s.heap xs:=by
 cases c with
 |lst a=>obtain⟨its,r,p,_⟩:=I.list h;exact⟨its,r,p.isList⟩
 |tup a=>obtain⟨its,r,p,_⟩:=I.tuple h;exact⟨its,r,p⟩
 |txt x=>exact h
theorem Cp.En(I:Inv X pins σ H s)(h:c.at X.K H xs)(h':c.at X.K H ys):xs=ys:=by
 cases c with
 |lst a=>exact I.wH h h'
 |tup a=>exact I.yH h h'
 |txt x=>exact(show xs=eL x from h).trans (show ys=eL x from h').symm
theorem Cp.nB {h:Heap} {b:Addr} {o:Obj} {T:String} (hs:c.src h xs) (hb:h.get? b=some o) (hc:o.cls= .type T) (n1:T≠ "list") (n2:T≠ "tuple"):c.off b:=by
 cases c with
 |lst a =>
  obtain⟨its,_,o',ho,hc',_⟩:=hs
  intro e
  rw[e,hb]at ho
  cases ho
  rw[hc]at hc'
  injection hc' with q
  exact n1 q
 |tup a =>
  obtain⟨its,_,o',ho,hc',_⟩:=hs
  intro e
  rw[e,hb]at ho
  cases ho
  rw[hc]at hc'
  injection hc' with q
  exact n2 q
 |txt x=>trivial
theorem Cp.E5{h:Heap}{b:Addr}(hs:c.src h xs)(hb:h.objs.size<=b):c.off b:=by
 cases c with
 |lst a =>
  obtain⟨its,_,o',ho,_⟩:=hs
  exact Nat.ne_of_lt (Nat.lt_of_lt_of_le (Heap.lt_size ho) hb)
 |tup a =>
  obtain⟨its,_,o',ho,_⟩:=hs
  exact Nat.ne_of_lt (Nat.lt_of_lt_of_le (Heap.lt_size ho) hb)
 |txt x=>trivial
theorem Cp.kF{h h':Heap}{b:Addr}(hs:c.src h xs)(hx:Heap.ExtBut b h h')(ho:c.off b):c.src h' xs:=by
 cases c with
 |lst a=>obtain⟨its,r,p⟩:=hs;exact⟨its,r,p.extBut hx ho⟩
 |tup a=>obtain⟨its,r,p⟩:=hs;exact⟨its,r,p.extBut hx ho⟩
 |txt x=>exact hs
theorem Cp.HE{h h':Heap}(hs:c.src h xs)(hx:∀b o,h.get? b=some o->h'.get? b=some o):c.src h' xs:=by
 cases c with
 |lst a=>obtain⟨its,r,o,ho,q⟩:=hs;exact⟨its,r,o,hx _ _ ho,q⟩
 |tup a=>obtain⟨its,r,o,ho,q⟩:=hs;exact⟨its,r,o,hx _ _ ho,q⟩
 |txt x=>exact hs
theorem Cp.jT{h:Heap}{it:Addr}{i:Nat}(q:c.C0 h it i):∃o T vs,h.get? it=some o/\o.cls= .type T/\o.data= .fields vs/\T≠ "list" /\T≠ "tuple" :=by
 cases c with
 |lst a=>obtain⟨o,ho,hc,hd⟩:=q;exact⟨o,_,_,ho,hc,hd,by decide,by decide⟩
 |tup a=>obtain⟨o,ho,hc,hd⟩:=q;exact⟨o,_,_,ho,hc,hd,by decide,by decide⟩
 |txt x =>
  obtain⟨t,o,ho,hc,hd⟩:=q
  refine⟨o,_,_,ho,hc,hd,?_,?_⟩
  ·unfold strIterType;split<;>decide
  ·unfold strIterType;split<;>decide
theorem Cp.ja{h h':Heap}{it:Addr}{i:Nat}(q:c.C0 h it i)(e:∀o,h.get? it=some o->h'.get? it=some o):c.C0 h' it i:=by
 cases c with
 |lst a=>obtain⟨o,ho,r⟩:=q;exact⟨o,e _ ho,r⟩
 |tup a=>obtain⟨o,ho,r⟩:=q;exact⟨o,e _ ho,r⟩
 |txt x=>obtain⟨t,o,ho,r⟩:=q;exact⟨t,o,e _ ho,r⟩
end
section
variable{prog:Program}{w:World}{A:Around}{E:Value->Shared->Prop}{s:Shared}{c d:Cp}{xs ys:List V}
theorem sy{it t:Addr}{i:Nat}{items}{x:Value}{Q:Value->Shared->Prop}(hit:s.heap.IsTupleIter it t i)
  (ht:s.heap.IsTuple t items) (hx:items[i]? =some x)
  (hQ:∀h',h'.IsTupleIter it t (i+1)->Heap.SameBut it s.heap h'->Q x { s with heap:=h' }) :
  wpAny (model prog w) A (Builtin.SmallTypes.nextOf (.ref it)) Q E s:=by
 obtain⟨o,ho,hc,hd⟩:=id hit
 obtain⟨ol,I0,_,nl,hdl⟩:=ht
 unfold Builtin.SmallTypes.nextOf
 refine wpAny_bind (wpAny_callSpecial?_slot (name:=Str.ofString "__next__") hit.typeIs F.slot_tuple_iterator_next
  (wpAny_call_entry F.slot_tuple_iterator_next hit.typeIs F.entry_tuple_iterator_next ?_ (F.args_tuple_iterator_next_1 _)))
 show wpAny _ _ (field (.ref it) 0 >>= _) _ _ s
 refine wpAny_bind (wpAny_field ho hd (x:=.ref t) rfl ?_)
 show wpAny _ _ (if(Value.ref t==Value.none)=true then _ else _) _ _ s
 rw[if_neg (show ¬((Value.ref t==Value.none)=true) from Bool.false_ne_true)]
 show wpAny _ _ (field (.ref it) 1 >>= _) _ _ s
 refine wpAny_bind (wpAny_field ho hd (x:=.int i 0) rfl ?_)
 show wpAny _ _ (seqItems? (.ref t) >>= _) _ _ s
 refine wpAny_bind (wpAny_seqItems I0 hdl ?_)
 simp only[Int.toNat_natCast,hx]
 refine wpAny_bind (wpAny_setField ho hd (by simp) (wpAny_pure ⟨x,rfl,wpAny_pure (hQ _ ?_ (Heap.SameBut.update ..))⟩))
 exact⟨_,Heap.get?_update_self _ ho (Obj.isFreed_of_fields (Obj.data_mapFields hd _)),(Obj.cls_mapFields ..).trans hc,by
  rw[Obj.data_mapFields hd];simp[rawInt]⟩
theorem tU{it t:Addr}{i:Nat}{items}{Q:Value->Shared->Prop}(hh:A.handled=none)
  (hit:s.heap.IsTupleIter it t i) (ht:s.heap.IsTuple t items) (hx:items[i]? =none)
  (hE:∀h' e,Heap.ExtBut it s.heap h'->(∃o,h'.get? e=some o/\o.cls= .type "StopIteration")->E (.ref e) { s with heap:=h' }) :
  wpAny (model prog w) A (Builtin.SmallTypes.nextOf (.ref it)) Q E s:=by
 obtain⟨o,ho,hc,hd⟩:=id hit
 obtain⟨ol,I0,_,nl,hdl⟩:=ht
 unfold Builtin.SmallTypes.nextOf
 refine wpAny_bind (wpAny_callSpecial?_slot (name:=Str.ofString "__next__") hit.typeIs F.slot_tuple_iterator_next
  (wpAny_call_entry F.slot_tuple_iterator_next hit.typeIs F.entry_tuple_iterator_next ?_ (F.args_tuple_iterator_next_1 _)))
 show wpAny _ _ (field (.ref it) 0 >>= _) _ _ s
 refine wpAny_bind (wpAny_field ho hd (x:=.ref t) rfl ?_)
 show wpAny _ _ (if(Value.ref t==Value.none)=true then _ else _) _ _ s
 rw[if_neg (show ¬((Value.ref t==Value.none)=true) from Bool.false_ne_true)]
 show wpAny _ _ (field (.ref it) 1 >>= _) _ _ s
 refine wpAny_bind (wpAny_field ho hd (x:=.int i 0) rfl ?_)
 show wpAny _ _ (seqItems? (.ref t) >>= _) _ _ s
 refine wpAny_bind (wpAny_seqItems I0 hdl ?_)
 simp only[Int.toNat_natCast,hx]
 refine wpAny_bind (wpAny_rule (wpAny_bind (wpAny_setField ho hd (by simp) ?_)))
 show wpAny _ _ (newExc (.type "StopIteration") [] >>= _) _ _ _
 refine wpAny_bind ?_
 simp only[newExc,newTuple]
 refine wpAny_bind (wpAny_newObj_type ?_ (by size_fits))
 refine wpAny_bind (m:=firstArgMember _ _) (wpAny_of_eq (a:=Value.none) (by first|rfl|(simp only[firstArgMember];rfl)) ?_)
 refine wpAny_newObj_type ?_ (by size_fits)
 simp only[raiseNew]
 refine wpAny_bind (wpAny_handled ?_)
 first|rw[show A.in1.handled=none from hh]|rw[hh]
 refine wpAny_bind (wpAny_pure (wpAny_throw ?_))
 exact hE _ _ (((Heap.SameBut.update ..).extBut.push _).push _) ⟨_,Heap.get?_push_size _ rfl,rfl⟩
theorem signs_get{x:Str}{i:Nat}{v:V}(h:(eL x)[i]? =some v):∃k,x.cps[i]? =some k/\v= .str ⟨#[k]⟩:=by
 unfold eL at h
 rw[List.getElem?_map]at h
 cases e:x.cps.toList[i]? with
 |none=>rw[e]at h;cases h
 |some k =>
  rw[e]at h
  exact⟨k,by simpa using e,(Option.some.inj h).symm⟩
theorem FT{x:Str}{i:Nat}(h:(eL x)[i]? =none):x.cps[i]? =none:=by
 unfold eL at h
 rw[List.getElem?_map]at h
 cases e:x.cps.toList[i]? with
 |none=>simpa using e
 |some k=>rw[e]at h;cases h
theorem Cp.item{it:Addr}{i:Nat}{x:V}{Q:Value->Shared->Prop}(hit:c.C0 s.heap it i)(hs:c.src s.heap xs)(hx:xs[i]? =some x)
  (hQ:∀u h' tk,RelV x u->c.C0 h' it (i+1)->Heap.SameBut it s.heap h'->Q u { s with heap:=h',toks:=tk }) :
  wpAny (model prog w) A (Builtin.SmallTypes.nextOf (.ref it)) Q E s:=by
 cases c with
 |lst a =>
  obtain⟨its,r,p⟩:=hs
  obtain⟨u,hu,ru⟩:=r.get hx
  exact wpAny_nextOf_list_item hit p (x:=u) (by simpa using hu) λh' q sb=>hQ u h' s.toks ru q sb
 |tup a =>
  obtain⟨its,r,p⟩:=hs
  obtain⟨u,hu,ru⟩:=r.get hx
  exact sy hit p (x:=u) (by simpa using hu) λh' q sb=>hQ u h' s.toks ru q sb
 |txt x' =>
  obtain⟨t,q⟩:=hit
  rw[show xs=eL x' from hs]at hx
  obtain⟨k,hk,rfl⟩:=signs_get hx
  unfold strIterType at q
  by_cases ha:(x'.cps.all (·<128))=true
  ·rw[if_pos ha]at q
   exact wpAny_nextOf_ascii_item q hk λh' q' sb=>hQ _ h' _ ⟨_,rfl⟩ ⟨t,by unfold strIterType;rw[if_pos ha];exact q'⟩ sb
  ·rw[if_neg ha]at q
   exact wpAny_nextOf_wide_item q hk λh' q' sb=>hQ _ h' _ ⟨_,rfl⟩ ⟨t,by unfold strIterType;rw[if_neg ha];exact q'⟩ sb
theorem Cp.fin{it:Addr}{i:Nat}{Q:Value->Shared->Prop}(hh:A.handled=none)(hit:c.C0 s.heap it i)(hs:c.src s.heap xs)(hx:xs[i]? =none)
  (hE:∀h' e,Heap.ExtBut it s.heap h'->(∃o,h'.get? e=some o/\o.cls= .type "StopIteration")->E (.ref e) { s with heap:=h' }) :
  wpAny (model prog w) A (Builtin.SmallTypes.nextOf (.ref it)) Q E s:=by
 cases c with
 |lst a =>
  obtain⟨its,r,p⟩:=hs
  exact wpAny_nextOf_list_end hh hit p (by simpa using r.none_of hx) hE
 |tup a =>
  obtain⟨its,r,p⟩:=hs
  exact tU hh hit p (by simpa using r.none_of hx) hE
 |txt x' =>
  obtain⟨t,q⟩:=hit
  rw[show xs=eL x' from hs]at hx
  have hk:=FT hx
  unfold strIterType at q
  by_cases ha:(x'.cps.all (·<128))=true
  ·rw[if_pos ha]at q
   exact wpAny_nextOf_ascii_end hh q hk hE
  ·rw[if_neg ha]at q
   exact wpAny_nextOf_wide_end hh q hk hE
structure xg(z TI TO i1 i2:Addr):Prop where
 TIz:TI≠z
 TOz:TO≠z
 i1z:i1≠z
 i2z:i2≠z
 TITO:TI≠TO
 TIi1:TI≠i1
 TIi2:TI≠i2
 TOi1:TO≠i1
 TOi2:TO≠i2
 i12:i1≠i2
structure FF(h:Heap)(z TI TO i1 i2:Addr)(c d:Cp)(f0:Value)(i:Nat):Prop where
 zz:IsZip h z TI TO f0
 ti:IsPair h TI (.ref i1) (.ref i2)
 to:∃a b,IsPair h TO a b
 h1:c.C0 h i1 i
 h2:d.C0 h i2 i
 c1:c.off TO
 c2:d.off TO
theorem Hh{z TI TO i1 i2:Addr}{i:Nat}{x y:V}{Q:Option Value->Shared->Prop}(D:xg z TI TO i1 i2)(Z:FF s.heap z TI TO i1 i2 c d .none i)
  (sc:c.src s.heap xs) (sd:d.src s.heap ys) (hx:xs[i]? =some x) (hy:ys[i]? =some y)
  (hQ:∀u v h' tk,RelV x u->RelV y v->FF h' z TI TO i1 i2 c d (rawInt s.heap.objs.size) (i+1)->IsPair h' s.heap.objs.size u v →
   (∀b o,b≠z->b≠TO->b≠i1->b≠i2->s.heap.get? b=some o->h'.get? b=some o)->Q (some (.ref s.heap.objs.size)) { s with heap:=h',toks:=tk }) :
  wpAny (model prog w) A (pyNext (.ref z)) Q E s:=by
 obtain⟨hz,hTI,⟨a,b,hTO⟩,h1,h2,c1,c2⟩:=id Z
 have hT:s.TypeIs (.ref z) "zip" :=⟨_,hz,rfl⟩
 obtain⟨V6,T1,_,hi1,SE,_,Ra,L5⟩:=Cp.jT h1
 obtain⟨Yh,T2,_,hi2,ci2,_,n21,n22⟩:=Cp.jT h2
 have cz:c.off z:=Cp.nB sc hz rfl (by decide) (by decide)
 have dz:d.off z:=Cp.nB sd hz rfl (by decide) (by decide)
 have ci:c.off i1:=Cp.nB sc hi1 SE Ra L5
 have di:d.off i1:=Cp.nB sd hi1 SE Ra L5
 unfold pyNext
 refine wpAny_bind (wpAny_attempt (wpAny_callSpecial?_slot (name:=Str.ofString "__next__") hT F.slot_zip_next
  (wpAny_call_entry F.slot_zip_next hT F.entry_zip_next ?_ (F.args_zip_next_1 _))))
 show wpAny _ _ (field (.ref z) 2 >>= _) _ _ _
 refine wpAny_bind (wpAny_field hz rfl (x:=.bool false) rfl ?_)
 show wpAny _ _ (field (.ref z) 3 >>= _) _ _ _
 refine wpAny_bind (wpAny_field hz rfl (x:=.ref TI) rfl ?_)
 refine wpAny_bind (wpAny_seqItems hTI rfl ?_)
 show wpAny _ _ (Builtin.SmallTypes.ownedTupleIsFree (.ref z) >>= _) _ _ _
 refine wpAny_bind ?_
 unfold Builtin.SmallTypes.ownedTupleIsFree
 refine wpAny_bind (wpAny_field hz rfl (x:=.none) rfl (wpAny_pure ?_))
 simp only[if_true]
 refine wpAny_bind (wpAny_rule ?_)
 refine wpAny_bind (wpAny_field hz rfl (x:=.ref TO) rfl ?_)
 refine wpAny_bind (wpAny_setField_rec hz (by simp) λh₁ uz hs₁=>?_)
 replace uz:IsZip h₁ z TI TO .ellipsis:=uz
 refine wpAny_bind ?_
 simp only[List.zipIdx_cons,List.zipIdx_nil,List.forIn_cons,List.forIn_nil]
 refine wpAny_bind (wpAny_bind (wpAny_onRaise ?_))
 show wpAny _ _ (Builtin.SmallTypes.nextOf (.ref i1) >>= _) _ _ _
 refine wpAny_bind (Cp.item (c:=c) (Cp.ja h1 λo e=>hs₁.extBut _ _ D.i1z e) (Cp.kF sc hs₁.extBut cz) hx λu h₂ tk₂ ru Mm hs₂=>wpAny_pure ?_)
 have wL:IsPair h₂ TO a b:=hs₂.extBut _ _ D.TOi1 (hs₁.extBut _ _ D.TOz hTO)
 refine wpAny_bind (wpAny_seqItems wL rfl ?_)
 refine wpAny_bind (wpAny_updateSeq_pair wL λh₃ Ah m8=>?_)
 replace Ah:IsPair h₃ TO u b:=Ah
 refine wpAny_bind (wpAny_letGo (wpAny_pure ?_))
 refine wpAny_bind (wpAny_bind (wpAny_onRaise ?_))
 show wpAny _ _ (Builtin.SmallTypes.nextOf (.ref i2) >>= _) _ _ _
 refine wpAny_bind (Cp.item (c:=d) (Cp.ja h2 λo e=>m8.extBut _ _ D.TOi2.symm (hs₂.extBut _ _ D.i12.symm (hs₁.extBut _ _ D.i2z e))) (Cp.kF (Cp.kF (Cp.kF sd hs₁.extBut dz) hs₂.extBut di) m8.extBut c2) hy λv h₄ tk₄ rv Sn uB=>wpAny_pure ?_)
 have Jb:IsPair h₄ TO u b:=uB.extBut _ _ D.TOi2 Ah
 refine wpAny_bind (wpAny_seqItems Jb rfl ?_)
 refine wpAny_bind (wpAny_updateSeq_pair Jb λh₅ Ag uA=>?_)
 replace Ag:IsPair h₅ TO u v:=Ag
 refine wpAny_bind (wpAny_letGo (wpAny_pure (wpAny_pure ?_)))
 refine wpAny_bind (wpAny_seqItems Ag rfl ?_)
 refine wpAny_bind (wpAny_newTuple ?_)
 have hsz:h₅.objs.size=s.heap.objs.size:=by rw[uA.1,uB.1,m8.1,hs₂.1,hs₁.1]
 have Ma:IsZip h₅ z TI TO .ellipsis:=uA.extBut _ _ D.TOz.symm (uB.extBut _ _ D.i2z.symm (m8.extBut _ _ D.TOz.symm (hs₂.extBut _ _ D.i1z.symm uz)))
 have Mi:∀e o,e≠z->e≠TO->e≠i1->e≠i2->s.heap.get? e=some o->h₅.get? e=some o:=λe o e1 e2 e3 e4 q =>
  uA.extBut _ _ e2 (uB.extBut _ _ e4 (m8.extBut _ _ e2 (hs₂.extBut _ _ e3 (hs₁.extBut _ _ e1 q))))
 have So:c.C0 h₅ i1 (i+1):=Cp.ja Mm λo e=>uA.extBut _ _ D.TOi1.symm (uB.extBut _ _ D.i12 (m8.extBut _ _ D.TOi1.symm e))
 have Sl:d.C0 h₅ i2 (i+1):=Cp.ja Sn λo e=>uA.extBut _ _ D.TOi2.symm e
 have RS:z<h₅.objs.size:=Heap.lt_size Ma
 show wpAny _ _ (Builtin.SmallTypes.ownedTupleHandOut (.ref z) (.ref h₅.objs.size) >>= _) _ _ _
 refine wpAny_bind ?_
 unfold Builtin.SmallTypes.ownedTupleHandOut
 have RQ:IsZip (h₅.push { cls:=.type "tuple",data:=.seq #[u,v] }) z TI TO .ellipsis:=Heap.get?_push_of_some _ Ma
 refine wpAny_bind (wpAny_setField_rec RQ (by simp) λWz IW Mg=>?_)
 replace IW:IsZip Wz z TI TO (rawInt h₅.objs.size):=IW
 refine wpAny_setField_rec IW (by simp) λK6 Fg Mf=>?_
 replace Fg:IsZip K6 z TI TO (rawInt h₅.objs.size):=Fg
 have up:∀e o,e≠z->h₅.get? e=some o->K6.get? e=some o:=λe o e1 q=>Mf.extBut _ _ e1 (Mg.extBut _ _ e1 (Heap.get?_push_of_some _ q))
 have Ml:IsPair K6 h₅.objs.size u v:=Mf.extBut _ _ (Nat.ne_of_gt RS) (Mg.extBut _ _ (Nat.ne_of_gt RS) (Heap.get?_push_size _ rfl))
 rw[hsz]at Fg Ml
 refine wpAny_pure ⟨_,rfl,wpAny_pure ?_⟩
 show Q (some (.ref h₅.objs.size)) _
 rw[hsz]
 exact hQ u v K6 _ ru rv ⟨Fg,up _ _ D.TIz (Mi _ _ D.TIz D.TITO D.TIi1 D.TIi2 hTI),⟨_,_,up _ _ D.TOz Ag⟩,Cp.ja So λo e=>up _ o D.i1z e,Cp.ja Sl λo e=>up _ o D.i2z e,c1,c2⟩ Ml
  λe o e1 e2 e3 e4 q=>up e o e1 (Mi e o e1 e2 e3 e4 q)
theorem JQ{z TI TO i1 i2:Addr}{i:Nat}{Q:Option Value->Shared->Prop}(hh:A.handled=none)(D:xg z TI TO i1 i2)(Z:FF s.heap z TI TO i1 i2 c d .none i)
  (sc:c.src s.heap xs) (sd:d.src s.heap ys) (hend:xs[i]? =none\/ys[i]? =none)
  (hQ:∀h' tk,(∀b o,b≠z->b≠TO->b≠i1->b≠i2->s.heap.get? b=some o->h'.get? b=some o)->Q none { s with heap:=h',toks:=tk }) :
  wpAny (model prog w) A (pyNext (.ref z)) Q E s:=by
 obtain⟨hz,hTI,⟨a,b,hTO⟩,h1,h2,c1,c2⟩:=id Z
 have hT:s.TypeIs (.ref z) "zip" :=⟨_,hz,rfl⟩
 obtain⟨V6,T1,_,hi1,SE,_,Ra,L5⟩:=Cp.jT h1
 have cz:c.off z:=Cp.nB sc hz rfl (by decide) (by decide)
 have dz:d.off z:=Cp.nB sd hz rfl (by decide) (by decide)
 have ci:c.off i1:=Cp.nB sc hi1 SE Ra L5
 have di:d.off i1:=Cp.nB sd hi1 SE Ra L5
 have stop:∀(h':Heap) (e:Addr) (tk:Nat),(∃o,h'.get? e=some o/\o.cls= .type "StopIteration")->(∀b o,b≠z->b≠TO->b≠i1->b≠i2->s.heap.get? b=some o->h'.get? b=some o) →
   wpAny (model prog w) A (isInstance (.ref e) (.type "StopIteration") >>= λb=>if b=true then pure (none:Option Value)else throw (.ref e)) Q E { s with heap:=h',toks:=tk }:=by
  intro h' e tk he hk
  obtain⟨o,ho,hc⟩:=he
  refine wpAny_bind (wpAny_isInstance (T:= "StopIteration") (b:=true) ⟨o,ho,hc⟩ isSubtype_stop ?_)
  exact wpAny_pure (hQ _ _ hk)
 unfold pyNext
 refine wpAny_bind (wpAny_attempt (wpAny_callSpecial?_slot (name:=Str.ofString "__next__") hT F.slot_zip_next
  (wpAny_call_entry F.slot_zip_next hT F.entry_zip_next ?_ (F.args_zip_next_1 _))))
 show wpAny _ _ (field (.ref z) 2 >>= _) _ _ _
 refine wpAny_bind (wpAny_field hz rfl (x:=.bool false) rfl ?_)
 show wpAny _ _ (field (.ref z) 3 >>= _) _ _ _
 refine wpAny_bind (wpAny_field hz rfl (x:=.ref TI) rfl ?_)
 refine wpAny_bind (wpAny_seqItems hTI rfl ?_)
 show wpAny _ _ (Builtin.SmallTypes.ownedTupleIsFree (.ref z) >>= _) _ _ _
 refine wpAny_bind ?_
 unfold Builtin.SmallTypes.ownedTupleIsFree
 refine wpAny_bind (wpAny_field hz rfl (x:=.none) rfl (wpAny_pure ?_))
 simp only[if_true]
 refine wpAny_bind (wpAny_rule ?_)
 refine wpAny_bind (wpAny_field hz rfl (x:=.ref TO) rfl ?_)
 refine wpAny_bind (wpAny_setField_rec hz (by simp) λh₁ uz hs₁=>?_)
 replace uz:IsZip h₁ z TI TO .ellipsis:=uz
 refine wpAny_bind ?_
 simp only[List.zipIdx_cons,List.zipIdx_nil,List.forIn_cons,List.forIn_nil]
 refine wpAny_bind (wpAny_bind (wpAny_onRaise ?_))
 show wpAny _ _ (Builtin.SmallTypes.nextOf (.ref i1) >>= _) _ _ _
 cases hx:xs[i]? with
 |none =>
  refine wpAny_bind (Cp.fin (c:=c) hh (Cp.ja h1 λo e=>hs₁.extBut _ _ D.i1z e) (Cp.kF sc hs₁.extBut cz) hx λh₂ e hs₂ he=>?_)
  obtain⟨oe,O2,hce⟩:=he
  have Mc:IsZip h₂ z TI TO .ellipsis:=hs₂ _ _ D.i1z.symm uz
  have W7:e≠z:=λx=>by subst x;rw[Mc]at O2;cases O2;simp at hce
  refine wpAny_setField_rec Mc (by simp) λh₃ _ m8=>?_
  exact stop h₃ e _ ⟨oe,m8.extBut _ _ W7 O2,hce⟩ λk o c1 _ c3 _ x=>m8.extBut _ _ c1 (hs₂ _ _ c3 (hs₁.extBut _ _ c1 x))
 |some x =>
  have hy:ys[i]? =none:=by rcases hend with h|h;rw[hx]at h;cases h;exact h
  refine wpAny_bind (Cp.item (c:=c) (Cp.ja h1 λo e=>hs₁.extBut _ _ D.i1z e) (Cp.kF sc hs₁.extBut cz) hx λu h₂ tk₂ ru Mm hs₂=>wpAny_pure ?_)
  have wL:IsPair h₂ TO a b:=hs₂.extBut _ _ D.TOi1 (hs₁.extBut _ _ D.TOz hTO)
  refine wpAny_bind (wpAny_seqItems wL rfl ?_)
  refine wpAny_bind (wpAny_updateSeq_pair wL λh₃ Ah m8=>?_)
  refine wpAny_bind (wpAny_letGo (wpAny_pure ?_))
  refine wpAny_bind (wpAny_bind (wpAny_onRaise ?_))
  show wpAny _ _ (Builtin.SmallTypes.nextOf (.ref i2) >>= _) _ _ _
  refine wpAny_bind (Cp.fin (c:=d) hh (Cp.ja h2 λo e=>m8.extBut _ _ D.TOi2.symm (hs₂.extBut _ _ D.i12.symm (hs₁.extBut _ _ D.i2z e))) (Cp.kF (Cp.kF (Cp.kF sd hs₁.extBut dz) hs₂.extBut di) m8.extBut c2) hy λh₄ e uB he=>?_)
  obtain⟨oe,O2,hce⟩:=he
  have Mb:IsZip h₄ z TI TO .ellipsis:=uB _ _ D.i2z.symm (m8.extBut _ _ D.TOz.symm (hs₂.extBut _ _ D.i1z.symm uz))
  have W7:e≠z:=λx=>by subst x;rw[Mb]at O2;cases O2;simp at hce
  refine wpAny_setField_rec Mb (by simp) λh₅ _ uA=>?_
  exact stop h₅ e _ ⟨oe,uA.extBut _ _ W7 O2,hce⟩ λk o c1 c2 c3 c4 x=>uA.extBut _ _ c1 (uB _ _ c4 (m8.extBut _ _ c2 (hs₂.extBut _ _ c3 (hs₁.extBut _ _ c1 x))))
def Cp.dw(t:Tok):Cp->Obj
 | .lst a=>{ cls:=.type "list_iterator",data:=.fields #[.ref a,.int 0 0] }
 | .tup a=>{ cls:=.type "tuple_iterator",data:=.fields #[.ref a,.int 0 0] }
 | .txt x=>{ cls:=.type (strIterType x),data:=.fields #[.str x t,.int 0 0] }
def Cp.value(t:Tok):Cp->Value
 | .lst a=>.ref a
 | .tup a=>.ref a
 | .txt x=>.str x t
theorem Cp.value_of{u:Value}(r:RelV c.val u):∃t,u=c.value t:=by
 cases c with
 |lst a=>exact⟨0,r⟩
 |tup a=>exact⟨0,r⟩
 |txt x=>exact r
theorem Cp.iter{t:Tok}{Q:Value->Shared->Prop}(hs:c.src s.heap xs)(hQ:Q (.ref s.heap.objs.size) { s with heap:=s.heap.push (c.dw t) }):wpAny (model prog w) A (pyIter (c.value t)) Q E s:=by
 cases c with
 |lst a=>obtain⟨its,_,p⟩:=hs;exact wpAny_pyIter_list p hQ
 |tup a=>obtain⟨its,_,p⟩:=hs;exact wpAny_pyIter_tuple p hQ
 |txt x=>exact wpAny_pyIter_strU hQ
theorem Cp.Fc{t:Tok}{h:Heap}{it:Addr}(e:h.get? it=some (c.dw t)):c.C0 h it 0:=by
 cases c with
 |lst a=>exact⟨_,e,rfl,rfl⟩
 |tup a=>exact⟨_,e,rfl,rfl⟩
 |txt x=>exact⟨t,_,e,rfl,rfl⟩
abbrev Td(h:Heap)(o1:Obj):Heap:=h.push o1
abbrev Tc(h:Heap)(o1 o2:Obj):Heap:=(Td h o1).push o2
abbrev S9(h:Heap)(o1 o2:Obj):Heap:=(Tc h o1 o2).push { cls:=.type "tuple",data:=.seq #[.ref h.objs.size,.ref (Td h o1).objs.size] }
abbrev S8(h:Heap)(o1 o2:Obj):Heap:=(S9 h o1 o2).push { cls:=.type "tuple",data:=.seq #[.none,.none] }
abbrev PL(h:Heap)(o1 o2:Obj):Heap:=(S8 h o1 o2).push { cls:=.type "zip",data:=.fields #[.none,.bool false,.bool false,.ref (Tc h o1 o2).objs.size,.ref (S9 h o1 o2).objs.size] }
theorem Gn(c d:Cp)(t1 t2:Tok)(xs ys:List V):
  Meets (Builtin.«zip.__new__» ⟨[.type "zip",c.value t1,d.value t2],[]⟩) (λ_ R s=>c.src s.heap xs/\d.src s.heap ys ∧
   R (.ok (.ret (.ref (S8 s.heap (c.dw t1) (d.dw t2)).objs.size))) { s with heap:=PL s.heap (c.dw t1) (d.dw t2) }) :=
 .of_wp λprog w A R s h=>by
  obtain⟨hp,g,dd,tk,os⟩:=s;obtain⟨hl1,hl2,h⟩:=h
  have hsub:=sub_zip
  have Qg:c.src (Shared.heap ⟨hp,g,dd,tk,os⟩) xs:=hl1
  have Qf:d.src (Shared.heap ⟨hp.push (c.dw t1),g,dd,tk,os⟩) ys:=Cp.HE hl2 λb o e=>Heap.get?_push_of_some _ e
  wp_walk using Cp.iter (t:=t1) Qg,Cp.iter (t:=t2) Qf
  exact⟨_,rfl,h⟩
theorem GJ{t1 t2:Tok}{Q:Value->Shared->Prop}(sc:c.src s.heap xs)(sd:d.src s.heap ys)
  (h:∀h',IsZip h' (s.heap.objs.size+4) (s.heap.objs.size+2) (s.heap.objs.size+3) .none->IsPair h' (s.heap.objs.size+2) (.ref s.heap.objs.size) (.ref (s.heap.objs.size+1)) →
   IsPair h' (s.heap.objs.size+3) .none .none->c.C0 h' s.heap.objs.size 0->d.C0 h' (s.heap.objs.size+1) 0->(∀b o,s.heap.get? b=some o->h'.get? b=some o)->Q (.ref (s.heap.objs.size+4)) { s with heap:=h' }) :
  wpAny (model prog w) A (call (.type "zip") [c.value t1,d.value t2]) Q E s:=by
 refine callType_new F.called_zip (by decide) (F.typeCall_zip_2 _ _) (F.newCall_zip_2 _ _) (λobj=>F.args_object_init_3 obj _ _) F.entry_zip_new
  (Gn c d t1 t2 xs ys) ⟨sc,sd,?_⟩
 have z1:(Td s.heap (c.dw t1)).objs.size=s.heap.objs.size+1:=Heap.size_push ..
 have z2:(Tc s.heap (c.dw t1) (d.dw t2)).objs.size=s.heap.objs.size+2:=by rw[Heap.size_push,z1]
 have z3:(S9 s.heap (c.dw t1) (d.dw t2)).objs.size=s.heap.objs.size+3:=by rw[Heap.size_push,z2]
 have z4:(S8 s.heap (c.dw t1) (d.dw t2)).objs.size=s.heap.objs.size+4:=by rw[Heap.size_push,z3]
 have ZY:(c.dw t1).isFreed=false:=by cases c<;>rfl
 have ZX:(d.dw t2).isFreed=false:=by cases d<;>rfl
 have g5:(PL s.heap (c.dw t1) (d.dw t2)).get? (S8 s.heap (c.dw t1) (d.dw t2)).objs.size=some _:=Heap.get?_push_size _ rfl
 have g4:(PL s.heap (c.dw t1) (d.dw t2)).get? (S9 s.heap (c.dw t1) (d.dw t2)).objs.size=some _:=Heap.get?_push_of_some _ (Heap.get?_push_size _ rfl)
 have g3:(PL s.heap (c.dw t1) (d.dw t2)).get? (Tc s.heap (c.dw t1) (d.dw t2)).objs.size=some _:=Heap.get?_push_of_some _ (Heap.get?_push_of_some _ (Heap.get?_push_size _ rfl))
 have g2:(PL s.heap (c.dw t1) (d.dw t2)).get? (Td s.heap (c.dw t1)).objs.size=some _:=Heap.get?_push_of_some _ (Heap.get?_push_of_some _ (Heap.get?_push_of_some _ (Heap.get?_push_size _ ZX)))
 have g1:(PL s.heap (c.dw t1) (d.dw t2)).get? s.heap.objs.size=some _:=Heap.get?_push_of_some _ (Heap.get?_push_of_some _ (Heap.get?_push_of_some _ (Heap.get?_push_of_some _ (Heap.get?_push_size _ ZY))))
 show _/\_
 rw[z2,z3,z4]at g5
 rw[z1,z2]at g3
 rw[z3]at g4
 rw[z1]at g2
 rw[z4]
 exact⟨⟨_,g5,rfl⟩,h _ g5 g3 g4 (Cp.Fc g1) (Cp.Fc g2) λb o x =>
  Heap.get?_push_of_some _ (Heap.get?_push_of_some _ (Heap.get?_push_of_some _ (Heap.get?_push_of_some _ (Heap.get?_push_of_some _ x))))⟩
end
section
variable{X:Cx}{pins:List (Addr×Obj)}{σ:St}{H:Hp}{s:Shared}
theorem Inv.moved{h':Heap}{t':Nat}{ch:List Addr}(I:Inv X pins σ H s)(k:∀b o,b∉ch->s.heap.get? b=some o->h'.get? b=some o)(hf:∀b∈ch,oU X pins H b)(ht:s.toks<=t':=by first|exact Nat.le_refl _|exact Nat.le_succ _|assumption|omega):Inv X pins σ H { s with heap:=h',toks:=t' }:=by
 have L4:∀b u,H b=some u->b∉ch:=λb u e z=>by rw[(hf b z).1]at e;cases e
 refine I.step (g':=s.gens) (d':=s.drawn) (ch:=ch) (λb hb=>?_) (λb o _ _ hc e _=>k b o hc e) (λb o _ _ hc e _=>⟨o.slots,k b o hc e⟩) (λ_ _ _ _ n=>n)
  (λb o hc e=>⟨o,k b o hc e⟩) (λ_ _ e=>e) (λ_ _ _ e=>e) (λb ps e=>⟨#[],by rw[e];simp⟩) (λm hm=>?_) (λb u e=>?_) I.bare (Nat.le_trans I.up ht)
 ·obtain⟨_,h1,_,h3,h4,h5⟩:=hf b hb
  exact⟨h3,h1,h4,h5⟩
 ·obtain⟨o,es,ep,ho,r⟩:=hm
  exact⟨o,es,ep,k _ o (λz=>(hf _ z).2.1 rfl) ho,r⟩
 ·refine(I.hok b u e).stay (λc v hc q=>k c v ?_ q) (λ_ q=>q) λ_ _ q=>q
  rcases hc with z|z
  ·rw[z];exact L4 b u e
  ·exact L4 c _ z
theorem Inv.LG{a:Addr}{o:HO}(I:Inv X pins σ H s)(hf:oU X pins H a)(new:bM X.prog X.w (upd H a o) s.heap a o):Inv X pins σ (upd H a o) s:=by
 have hn:=hf.1
 have e:s={ s with heap:=s.heap,gens:=s.gens,drawn:=s.drawn,toks:=s.toks }:=rfl
 rw[e]
 refine I.step (ch:=[a]) (λb hb=>?_) (λ_ _ _ _ _ e _=>e) (λ_ o _ _ _ e _=>⟨o.slots,e⟩) (λb _ hc _ n=>?_)
  (λ_ o _ e=>⟨o,e⟩) (λb _ e=>?_) (λb _ _ e=>?_) (λb ps e=>⟨#[],?_⟩) (λ_ hm=>hm) (λb u q=>?_) I.bare I.up
 ·have eb:b=a:=by simpa using hb
  subst eb
  obtain⟨_,h1,_,h3,h4,h5⟩:=hf
  exact⟨h3,h1,h4,h5⟩
 ·rw[au (λz=>hc (by simp[z]))];exact n
 ·rw[au (aM e hn)];exact e
 ·rw[au (aM e hn)];exact e
 ·rw[au (aM e hn),e];simp
 ·by_cases hb:b=a
  ·subst hb;rw[ah]at q;cases q;exact new
  ·rw[au hb]at q
   exact(I.hok b u q).stay (λc v _ r=>r) (λc r=>by rw[au (aM r hn)];exact r) λc xs r=>by rw[au (aM r hn)];exact r
def SW(K:PySem.W.Frag)(c d:Cp):It :=
 ⟨λi H=>∃xs ys x y,c.at K H xs/\d.at K H ys/\xs[i]? =some x/\ys[i]? =some y,
  λi H v H'=>∃p x y,v= .ref p/\H p=none/\H'=upd H p (.tup [x,y])/\∀xs ys,c.at K H xs->d.at K H ys->xs[i]? =some x/\ys[i]? =some y,
  λi H=>∃xs ys,c.at K H xs/\d.at K H ys/\(xs.length<=i\/ys.length<=i)⟩
theorem Hx{P:Program}{w:World}{K:PySem.W.Frag}{elts:List Expr}{k:Nat}{pos:Pos}{c d:Cp}{z TI TO i1 i2:Addr}(D:xg z TI TO i1 i2):
  Turn P w K (.Tuple elts k pos) (SW K c d) [z,TI,TO,i1,i2] z (λi h=>FF h z TI TO i1 i2 c d .none i) where
 mem:=by simp
 obj:=λi h Z b hb=>by
  obtain⟨hz,hTI,⟨a,b',hTO⟩,h1,h2,_,_⟩:=Z
  obtain⟨V6,T1,v1,hi1,_,d1,_⟩:=Cp.jT h1
  obtain⟨Yh,T2,v2,hi2,_,d2,_⟩:=Cp.jT h2
  simp only[List.mem_cons,List.not_mem_nil,or_false]at hb
  rcases hb with rfl|rfl|rfl|rfl|rfl
  ·exact⟨_,hz,λv q=>by cases q⟩
  ·exact⟨_,hTI,λv q=>by cases q⟩
  ·exact⟨_,hTO,λv q=>by cases q⟩
  ·exact⟨_,hi1,λv q=>by rw[d1]at q;cases q⟩
  ·exact⟨_,hi2,λv q=>by rw[d2]at q;cases q⟩
 keep:=λi h h' Z kp=>by
  obtain⟨hz,hTI,⟨a,b',hTO⟩,h1,h2,o1,o2⟩:=Z
  exact⟨kp z (by simp) _ hz,kp TI (by simp) _ hTI,⟨a,b',kp TO (by simp) _ hTO⟩,Cp.ja h1 λo e=>kp i1 (by simp) o e,Cp.ja h2 λo e=>kp i2 (by simp) o e,o1,o2⟩
 item:=by
  intro X hP hw hK hc i pins s σ H E I hf Z hg
  subst hP hw hK
  obtain⟨xs,ys,x,y,hx,hy,ex,ey⟩:=hg
  have sc:=Cp.nV I hx
  have sd:=Cp.nV I hy
  refine TK.bO (Nat.le_refl s.toks) (Hh D Z sc sd ex ey λu v h' tk ru rv Z' hp kk hup=>⟨_,rfl,?_⟩)
  refine wpAny_letOwnedTupleGo_zip Z'.zz λh'' WB sb=>?_
  have hnz:s.heap.objs.size≠z:=Nat.ne_of_gt (Heap.lt_size Z.zz)
  have k2:∀b o,b∉[z,TI,TO,i1,i2]->s.heap.get? b=some o->h''.get? b=some o:=λb o hb e=>by
   simp only[List.mem_cons,List.not_mem_nil,or_false,not_or]at hb
   exact sb.extBut _ _ hb.1 (kk b o hb.1 hb.2.2.1 hb.2.2.2.1 hb.2.2.2.2 e)
  have I1:Inv X pins σ H { s with heap:=h'',toks:=tk }:=I.moved k2 hf
  have hn:H s.heap.objs.size=none:=I.fresh
  have Xv:oU X pins H s.heap.objs.size:=I.uY (Nat.le_refl _) hn
  have hp2:IsPair h'' s.heap.objs.size u v:=sb.extBut _ _ hnz hp
  have I2:Inv X pins σ (upd H s.heap.objs.size (.tup [x,y])) { s with heap:=h'',toks:=tk } :=
   I1.LG Xv ⟨by show 2<=sizeLine;decide,[u,v],.cons ru (.cons rv .nil),⟨_,hp2,rfl,_,rfl⟩⟩
  refine⟨.ref s.heap.objs.size,_,I2,rfl,⟨_,x,y,rfl,hn,rfl,λxs' ys' hx' hy'=>?_⟩,?_,λb hb=>?_⟩
  ·rw[Cp.En I hx' hx,Cp.En I hy' hy];exact⟨ex,ey⟩
  ·obtain⟨_,hTI,⟨a,b',hTO⟩,h1,h2,o1,o2⟩:=Z'
   exact⟨WB,sb.extBut _ _ D.TIz hTI,⟨a,b',sb.extBut _ _ D.TOz hTO⟩,Cp.ja h1 λo e=>sb.extBut _ _ D.i1z e,Cp.ja h2 λo e=>sb.extBut _ _ D.i2z e,o1,o2⟩
  ·have lt:b<s.heap.objs.size:=by
    obtain⟨hz,hTI,⟨a,b',hTO⟩,h1,h2,_,_⟩:=Z
    obtain⟨V6,T1,v1,hi1,_,d1,_⟩:=Cp.jT h1
    obtain⟨Yh,T2,v2,hi2,_,d2,_⟩:=Cp.jT h2
    simp only[List.mem_cons,List.not_mem_nil,or_false]at hb
    rcases hb with rfl|rfl|rfl|rfl|rfl
    ·exact Heap.lt_size hz
    ·exact Heap.lt_size hTI
    ·exact Heap.lt_size hTO
    ·exact Heap.lt_size hi1
    ·exact Heap.lt_size hi2
   rw[au (Nat.ne_of_lt lt)]
   exact(hf b hb).1
 done:=by
  intro X hP hw hK hc i pins s σ H E I hf Z hg
  subst hP hw hK
  obtain⟨xs,ys,hx,hy,he⟩:=hg
  refine TK.bO (Nat.le_refl s.toks) (JQ (I.ok.hd hc) D Z (Cp.nV I hx) (Cp.nV I hy) (he.imp (λq=>List.getElem?_eq_none q) λq=>List.getElem?_eq_none q) λh' tk kk hup=>⟨rfl,?_⟩)
  exact I.moved (λb o hb e=>by
   simp only[List.mem_cons,List.not_mem_nil,or_false,not_or]at hb
   exact kk b o hb.1 hb.2.2.1 hb.2.2.2.1 hb.2.2.2.2 e) hf
 self:=λ_ _ _ _ _ Z h=>wpAny_pyIter_zip Z.zz h
theorem C4(n:Nat):xg (n+4) (n+2) (n+3) n (n+1):=by
 have ne:∀{a b:Nat},a<b->a≠b:=λh=>Nat.ne_of_lt h
 exact⟨ne (by omega),ne (by omega),ne (by omega),ne (by omega),ne (by omega),(ne (by omega)).symm,(ne (by omega)).symm,(ne (by omega)).symm,(ne (by omega)).symm,ne (by omega)⟩
def Wv(K:PySem.W.Frag)(ta:TA):TI:=λσ H R=>ta σ H λvs H1=>∃c d xs ys,vs=[c.val,d.val]/\c.at K H1 xs/\d.at K H1 ys/\R (SW K c d) H1
theorem DE {a b:Expr} {ta:TA} {p pos:Pos} {elts:List Expr} {k:Nat} {tpos:Pos} (hc:X.calm=true) (hg:Gl X "zip") (hm:X.mg "zip" =none) (ha:PA X [a,b] ta)
  (hs:starEach [a,b] X.env=[(false,eval a X.env),(false,eval b X.env)]:=by rfl) (hs2:starEach [b] X.env=[(false,eval b X.env)]:=by rfl) :
  PI X (.Tuple elts k tpos) (.Call (.Name "zip" p) [a,b] [] pos) (Wv X.K ta):=by
 intro pins s σ H R I h
 refine Call_ (pH I hg hm boot_zip (PyProof.Rows.callWith_type1 (dJ (ha pos pins s σ H _ I h) λus s1 ⟨vs,H1,I1,r1,q1⟩=>?_) (by rw[hs,hs2]) (by rw[hs2];rfl)))
 obtain⟨c,d,xs,ys,e,hx,hy,q⟩:=q1
 subst e
 obtain⟨u,v,rfl,ru,rv⟩:=vals2 r1
 obtain⟨t1,rfl⟩:=Cp.value_of ru
 obtain⟨t2,rfl⟩:=Cp.value_of rv
 have sc:=Cp.nV I1 hx
 have sd:=Cp.nV I1 hy
 refine GJ sc sd λh' hz hTI hTO h1 h2 kk=>wpAny_pyIter_zip hz ?_
 have D:xg (s1.heap.objs.size+4) (s1.heap.objs.size+2) (s1.heap.objs.size+3) s1.heap.objs.size (s1.heap.objs.size+1) :=
  C4 _
 refine⟨_,[s1.heap.objs.size+4,s1.heap.objs.size+2,s1.heap.objs.size+3,s1.heap.objs.size,s1.heap.objs.size+1],_,_,H1,rfl,I1.kept (t':=s1.toks) kk,Hx D,
  ⟨hz,hTI,⟨_,_,hTO⟩,h1,h2,Cp.E5 sc (Nat.le_add_right _ 3),Cp.E5 sd (Nat.le_add_right _ 3)⟩,λb hb=>?_,q⟩
 have le:s1.heap.objs.size<=b:=by
  simp only[List.mem_cons,List.not_mem_nil,or_false]at hb
  rcases hb with rfl|rfl|rfl|rfl|rfl
  ·exact Nat.le_add_right _ _
  ·exact Nat.le_add_right _ _
  ·exact Nat.le_add_right _ _
  ·exact Nat.le_refl _
  ·exact Nat.le_add_right _ _
 exact I1.uY le (I1.hok.fresh le)
end
end L2
namespace L2
open PySem PySem.Spec PyProof.Rows
def SY(x:Str):It:=⟨λi _=>i<x.cps.size,λi H v H'=>H'=H/\∃k,x.cps[i]? =some k/\v= .str ⟨#[k]⟩,λi _=>x.cps.size<=i⟩
section
variable{prog:Program}{w:World}{A:Around}{E:Value->Shared->Prop}{s:Shared}
theorem oN{it:Addr}{x:Str}{t:Tok}{i k:Nat}{Q:Option Value->Shared->Prop}(hit:s.heap.IsStrIter it (strIterType x) x t i)(hx:x.cps[i]? =some k)
  (hQ:∀h',h'.IsStrIter it (strIterType x) x t (i+1)->Heap.SameBut it s.heap h'->Q (some (.str ⟨#[k]⟩ s.toks)) { s with heap:=h',toks:=s.toks+1 }):wpAny (model prog w) A (pyNext (.ref it)) Q E s:=by
 unfold strIterType at hit hQ
 by_cases ha:(x.cps.all (·<128))=true
 ·rw[if_pos ha]at hit hQ
  exact wpAny_pyNext_ascii_item hit hx hQ
 ·rw[if_neg ha]at hit hQ
  exact wpAny_pyNext_wide_item hit hx hQ
theorem o6{it:Addr}{x:Str}{t:Tok}{i:Nat}{Q:Option Value->Shared->Prop}(hh:A.handled=none)(hit:s.heap.IsStrIter it (strIterType x) x t i)(hx:x.cps[i]? =none)
  (hQ:∀h',Heap.ExtBut it s.heap h'->Q none { s with heap:=h' }):wpAny (model prog w) A (pyNext (.ref it)) Q E s:=by
 unfold strIterType at hit
 by_cases ha:(x.cps.all (·<128))=true
 ·rw[if_pos ha]at hit
  exact wpAny_pyNext_ascii_end hh hit hx hQ
 ·rw[if_neg ha]at hit
  exact wpAny_pyNext_wide_end hh hit hx hQ
theorem o7{it:Addr}{x:Str}{t:Tok}{i:Nat}{Q:Value->Shared->Prop}(hit:s.heap.IsStrIter it (strIterType x) x t i)(h:Q (.ref it) s):wpAny (model prog w) A (pyIter (.ref it)) Q E s:=by
 unfold strIterType at hit
 by_cases ha:(x.cps.all (·<128))=true
 ·rw[if_pos ha]at hit
  exact wpAny_pyIter_striter_ascii hit h
 ·rw[if_neg ha]at hit
  exact wpAny_pyIter_striter_wide hit h
end
theorem tF(x:Str):["enumerate","zip","dict_itemiterator","dict_reverseitemiterator","odict_iterator","itertools.zip_longest","itertools.pairwise"].contains (strIterType x)=false:=by
 unfold strIterType
 split<;>decide
theorem A4{P:Program}{w:World}{K:PySem.W.Frag}{tg:Expr}(x:Str)(t:Tok)(it:Addr):Turn P w K tg (SY x) [it] it (λi h=>h.IsStrIter it (strIterType x) x t i) where
 mem:=by simp
 obj:=λi h st b hb=>by
  have e:b=it:=by simpa using hb
  subst e
  obtain⟨o,e,c,d⟩:=st
  exact⟨o,e,λv z=>by rw[d]at z;cases z⟩
 keep:=λi h h' st k=>by
  obtain⟨o,e,r⟩:=st
  exact⟨o,k it (by simp) o e,r⟩
 item:=by
  intro X hP hw hK hc i pins s σ H E I hf st hg
  subst hP hw hK
  have hi:i<x.cps.size:=hg
  obtain⟨f0,f1,f2,f3,f4,f5⟩:=hf it (by simp)
  refine oN st (k:=x.cps[i]) (by simp[hi]) λh' st' sb=>?_
  have I1:Inv X pins σ H { s with heap:=h',toks:=s.toks+1 }:=I.turned (λb o hb e=>(sb.2 b hb).trans e) f0 f1 f3 f4 f5
  obtain⟨o,e,c,d⟩:=id st'
  exact⟨_,rfl,Cb (s:={ s with heap:=h',toks:=s.toks+1 }) e c d (tF x) ⟨.str ⟨#[x.cps[i]]⟩,H,I1,⟨_,rfl⟩,⟨rfl,_,by simp[hi],rfl⟩,st',λb hb=>(hf b hb).1⟩⟩
 done:=by
  intro X hP hw hK hc i pins s σ H E I hf st hg
  subst hP hw hK
  have hi:x.cps.size<=i:=hg
  obtain⟨f0,f1,f2,f3,f4,f5⟩:=hf it (by simp)
  exact o6 (I.ok.hd hc) st (by simp[hi]) λh' eb=>⟨rfl,I.turned (t':=s.toks) (λb o hb e=>eb b o hb e) f0 f1 f3 f4 f5⟩
 self:=λ_ _ _ _ _ st h=>o7 st h
section
variable{X:Cx}{tg:Expr}
def Ww(tl:TE):TI:=λσ H R=>tl σ H λv H1=>∃x,v= .str x/\R (SY x) H1
theorem DF{l:Expr}{tl:TE}(hl:PE X l tl):PI X tg l (Ww tl):=by
 intro pins s σ H R I h
 refine dJ (hl pins s σ H _ I h) λv s1 ⟨y,H1,I1,r1,q1⟩=>?_
 obtain⟨x,e,q⟩:=q1
 subst e
 obtain⟨t,rfl⟩:=r1
 refine wpAny_pyIter_strU ?_
 refine⟨s1.heap.objs.size,[s1.heap.objs.size],_,_,H1,rfl,I1.kept (t':=s1.toks) λb o e=>Heap.get?_push_of_some _ e,A4 x t _,⟨_,Heap.get?_push_size _ rfl,rfl,rfl⟩,λb hb=>?_,q⟩
 have e:b=s1.heap.objs.size:=by simpa using hb
 subst e
 exact I1.uY (Nat.le_refl _) (I1.hok.fresh (Nat.le_refl _))
theorem Li{x:Str}{g:TG}{tb:TS}{D:Ends}{σ:St}{H:Hp}(Pv:Nat->St->Hp->Prop)(h0:Pv 0 σ H)
  (hs:∀i k σ H,x.cps[i]? =some k->Pv i σ H->g (.str ⟨#[k]⟩) σ H λσ2 H2=>tb { D with nx:=Pv (i+1),ct:=Pv (i+1),bk:=D.nx } σ2 H2) (hd:∀ σ H,Pv x.cps.size σ H->D.nx σ H) :
  ∃W:Nat->Nat->St->Hp->Prop,(∃m,W 0 m σ H)/\∀i m σ H,W i m σ H →
   ((SY x).stop i H/\D.nx σ H)\/((SY x).go i H/\∃N:St->Hp->Prop,(∀ σ' H',N σ' H'->∃m',m'<m/\W (i+1) m' σ' H')/\∀y H',(SY x).AS i H y H'->g y σ H' λσ2 H2=>tb { D with nx:=N,ct:=N,bk:=D.nx } σ2 H2):=by
 refine⟨λi m σ H=>m=x.cps.size-i/\i<=x.cps.size/\Pv i σ H,⟨x.cps.size,by simp,Nat.zero_le _,h0⟩,?_⟩
 rintro i m σ H ⟨rfl,hi,p⟩
 by_cases hlt:i<x.cps.size
 ·refine .inr ⟨hlt,Pv (i+1),λσ' H' p'=>⟨x.cps.size-(i+1),by omega,rfl,hlt,p'⟩,λy H' q=>?_⟩
  obtain⟨e,k,ek,rfl⟩:=q
  subst e
  exact hs i k σ _ ek p
 ·have e:i=x.cps.size:=by omega
  subst e
  exact .inl ⟨Nat.le_refl _,hd σ H p⟩
theorem Fo{K:PySem.W.Frag}{c d:Cp}{xs ys:List V}{g:TG}{tb:TS}{D:Ends}{σ:St}{H:Hp}(Pv:Nat->St->Hp->Prop)(h0:Pv 0 σ H)(hl:∀i σ H,i<=min xs.length ys.length->Pv i σ H->c.at K H xs/\d.at K H ys)
  (hs:∀i x y p σ H,xs[i]? =some x->ys[i]? =some y->H p=none->Pv i σ H->g (.ref p) σ (upd H p (.tup [x,y])) λσ2 H2=>tb { D with nx:=Pv (i+1),ct:=Pv (i+1),bk:=D.nx } σ2 H2)
  (hd:∀ σ H,Pv (min xs.length ys.length) σ H->D.nx σ H) :
  ∃W:Nat->Nat->St->Hp->Prop,(∃m,W 0 m σ H)/\∀i m σ H,W i m σ H →
   ((SW K c d).stop i H/\D.nx σ H)\/((SW K c d).go i H/\∃N:St->Hp->Prop,(∀ σ' H',N σ' H'->∃m',m'<m/\W (i+1) m' σ' H')/\∀y H',(SW K c d).AS i H y H'->g y σ H' λσ2 H2=>tb { D with nx:=N,ct:=N,bk:=D.nx } σ2 H2):=by
 refine⟨λi m σ H=>m=min xs.length ys.length-i/\i<=min xs.length ys.length/\Pv i σ H,⟨min xs.length ys.length,by simp,Nat.zero_le _,h0⟩,?_⟩
 rintro i m σ H ⟨rfl,hi,p⟩
 obtain⟨zx,zy⟩:=hl i σ H hi p
 by_cases hlt:i<min xs.length ys.length
 ·have h1:i<xs.length:=by omega
  have h2:i<ys.length:=by omega
  refine .inr ⟨⟨xs,ys,xs[i],ys[i],zx,zy,by simp[h1],by simp[h2]⟩,Pv (i+1),λσ' H' p'=>⟨min xs.length ys.length-(i+1),by omega,rfl,hlt,p'⟩,λv H' q=>?_⟩
  obtain⟨a,x,y,rfl,ha,rfl,e⟩:=q
  obtain⟨e1,e2⟩:=e xs ys zx zy
  exact hs i x y a σ H e1 e2 ha p
 ·have e:i=min xs.length ys.length:=by omega
  subst e
  refine .inl ⟨⟨xs,ys,zx,zy,?_⟩,hd σ H p⟩
  rcases Nat.le_total xs.length ys.length with q|q
  ·exact .inl (by rw[Nat.min_eq_left q];exact Nat.le_refl _)
  ·exact .inr (by rw[Nat.min_eq_right q];exact Nat.le_refl _)
end
end L2
namespace L2
open PySem PySem.Spec PyProof.Rows
def Cp.adr:Cp->List Addr
 | .lst a=>[a]
 | .tup a=>[a]
 | .txt _=>[]
theorem Cp.Kz{c:Cp}{b:Addr}(h:c.off b):b∉c.adr:=by
 cases c with
 |lst a =>
  intro z
  have q:b=a:=by simpa[Cp.adr]using z
  exact h q.symm
 |tup a =>
  intro z
  have q:b=a:=by simpa[Cp.adr]using z
  exact h q.symm
 |txt x=>intro z;cases z
theorem Cp.Kf{c:Cp}{xs:List V}{h h':Heap}(hs:c.src h xs)(k:∀b∈c.adr,∀o,h.get? b=some o->h'.get? b=some o):c.src h' xs:=by
 cases c with
 |lst a=>obtain⟨its,r,o,ho,q⟩:=hs;exact⟨its,r,o,k a (by simp[Cp.adr]) _ ho,q⟩
 |tup a=>obtain⟨its,r,o,ho,q⟩:=hs;exact⟨its,r,o,k a (by simp[Cp.adr]) _ ho,q⟩
 |txt x=>exact hs
theorem Cp.draws{prog:Program}{w:World}{A:Around}{c:Cp}{xs:List V}(hh:A.handled=none)(it:Addr):
  Draws prog w A it (it::c.adr) xs.length (λi v=>∃x,xs[i]? =some x/\RelV x v) (λi h=>c.C0 h it i/\c.src h xs) where
 live:=λi h st=>by
  obtain⟨o,_,_,ho,_⟩:=Cp.jT st.1
  exact⟨o,ho⟩
 frame:=λi h h' st k=>⟨Cp.ja st.1 λo e=>k it (by simp) o e,Cp.Kf st.2 λb hb o e=>k b (List.mem_cons_of_mem _ hb) o e⟩
 item:=λi s Q E hi st hQ=>by
  obtain⟨o,T,_,ho,hc,_,n1,n2⟩:=Cp.jT st.1
  have off:c.off it:=Cp.nB st.2 ho hc n1 n2
  refine Cp.item st.1 st.2 (x:=xs[i]) (by simp[hi]) λu h' tk ru q sb=>?_
  exact hQ u h' tk ⟨_,by simp[hi],ru⟩ ⟨q,Cp.kF st.2 sb.extBut off⟩ sb
 done:=λs Q E st hE=>Cp.fin hh st.1 st.2 (by simp) hE
def S1(K:PySem.W.Frag)(c:Cp):It :=
 ⟨λi H=>∃xs x,c.at K H xs/\xs[i]? =some x,
  λi H v H'=>∃p x,v= .ref p/\H p=none/\H'=upd H p (.tup [.int (i:Int),x])/\∀xs,c.at K H xs->xs[i]? =some x,
  λi H=>∃xs,c.at K H xs/\xs.length<=i⟩
theorem FP{P:Program}{w:World}{K:PySem.W.Frag}{elts:List Expr}{k:Nat}{pos:Pos}{c:Cp}{e it:Addr}(hei:e≠it):
  Turn P w K (.Tuple elts k pos) (S1 K c) [e,it] e (λi h=>(∃old,IsEnum h e it i old)/\c.C0 h it i) where
 mem:=by simp
 obj:=λi h Z b hb=>by
  obtain⟨⟨old,he⟩,hi⟩:=Z
  obtain⟨o,_,vs,ho,_,d,_⟩:=Cp.jT hi
  simp only[List.mem_cons,List.not_mem_nil,or_false]at hb
  rcases hb with rfl|rfl
  ·exact⟨_,he,λv q=>by cases q⟩
  ·exact⟨_,ho,λv q=>by rw[d]at q;cases q⟩
 keep:=λi h h' Z kp=>by
  obtain⟨⟨old,he⟩,hi⟩:=Z
  exact⟨⟨old,kp e (by simp) _ he⟩,Cp.ja hi λo q=>kp it (by simp) o q⟩
 item:=by
  intro X hP hw hK hc i pins s σ H E I hf Z hg
  subst hP hw hK
  obtain⟨xs,x,hx,ex⟩:=hg
  obtain⟨⟨old,he⟩,hi⟩:=id Z
  have sc:=Cp.nV I hx
  have V7:c.off e:=Cp.nB sc he rfl (by decide) (by decide)
  have hlt:i<xs.length:=(List.getElem?_eq_some_iff.mp ex).1
  have hh:X.A.in1.handled=none:=I.ok.hd hc
  refine TK.bO (Nat.le_refl s.toks) (wpAny_pyNext_enum_itemD (Cp.draws (c:=c) (xs:=xs) hh it) he ⟨hi,sc⟩ hlt hei (λz=>?_) λu h' tk hP ho st' hT hsz kk hup=>⟨_,rfl,?_⟩)
  ·rcases List.mem_cons.mp z with q|q
   ·exact hei q
   ·exact Cp.Kz V7 q
  ·obtain⟨x',ex',ru⟩:=hP
   rw[ex]at ex'
   cases ex'
   refine wpAny_letOwnedTupleGo_enum ho λh'' W9 sb=>?_
   have hne:s.heap.objs.size≠e:=Nat.ne_of_gt (Heap.lt_size he)
   have k2:∀b o,b∉[e,it]->s.heap.get? b=some o->h''.get? b=some o:=λb o hb q=>by
    simp only[List.mem_cons,List.not_mem_nil,or_false,not_or]at hb
    exact sb.extBut _ _ hb.1 (kk b o hb.1 hb.2 q)
   have I1:Inv X pins σ H { s with heap:=h'',toks:=tk+1 }:=I.moved k2 hf (by have z:s.toks<=tk+1:=hup;exact z)
   have hn:H s.heap.objs.size=none:=I.fresh
   have Xv:oU X pins H s.heap.objs.size:=I.uY (Nat.le_refl _) hn
   have hp2:h''.get? s.heap.objs.size=some { cls:=.type "tuple",data:=.seq #[.int i tk,u] }:=sb.extBut _ _ hne hT
   have I2:Inv X pins σ (upd H s.heap.objs.size (.tup [.int (i:Int),x])) { s with heap:=h'',toks:=tk+1 } :=
    I1.LG Xv ⟨by show 2<=sizeLine;decide,[.int i tk,u],.cons ⟨_,rfl⟩ (.cons ru .nil),⟨_,hp2,rfl,_,rfl⟩⟩
   refine⟨.ref s.heap.objs.size,_,I2,rfl,⟨_,x,rfl,hn,rfl,λxs' hx'=>?_⟩,⟨⟨_,W9⟩,Cp.ja st'.1 λo q=>sb.extBut _ _ (Ne.symm hei) q⟩,λb hb=>?_⟩
   ·rw[Cp.En I hx' hx];exact ex
   ·obtain⟨o,_,vs,hoi,_⟩:=Cp.jT hi
    have lt:b<s.heap.objs.size:=by
     have hb':=hb
     simp only[List.mem_cons,List.not_mem_nil,or_false]at hb'
     rcases hb' with rfl|rfl
     ·exact Heap.lt_size he
     ·exact Heap.lt_size hoi
    rw[au (Nat.ne_of_lt lt)]
    exact(hf b hb).1
 done:=by
  intro X hP hw hK hc i pins s σ H E I hf Z hg
  subst hP hw hK
  obtain⟨xs,hx,hle⟩:=hg
  obtain⟨⟨old,he⟩,hi⟩:=Z
  have hh:X.A.in1.handled=none:=I.ok.hd hc
  have hT:s.TypeIs (.ref e) "enumerate" :=⟨_,he,rfl⟩
  unfold pyNext
  refine wpAny_bind (wpAny_attempt (wpAny_callSpecial?_slot (name:=Str.ofString "__next__") hT F.slot_enumerate_next
   (wpAny_call_entry F.slot_enumerate_next hT F.entry_enumerate_next ?_ (F.args_enumerate_next_1 _))))
  show wpAny _ _ (field (.ref e) 2 >>= _) _ _ _
  refine wpAny_bind (wpAny_field he rfl (x:=.ref it) rfl ?_)
  refine wpAny_bind (Cp.fin hh hi (Cp.nV I hx) (List.getElem?_eq_none hle) λh' y eb hy=>?_)
  obtain⟨o,ho,hcl⟩:=hy
  refine wpAny_bind (wpAny_isInstance (T:= "StopIteration") (b:=true) ⟨o,ho,hcl⟩ isSubtype_stop ?_)
  refine wpAny_pure ⟨rfl,I.moved (t':=s.toks) (ch:=[e,it]) (λb o hb q=>eb b o ?_ q) hf⟩
  simp only[List.mem_cons,List.not_mem_nil,or_false,not_or]at hb
  exact hb.2
 self:=λ_ _ _ _ _ Z h=>by
  obtain⟨⟨old,he⟩,_⟩:=Z
  exact wpAny_pyIter_enum he h
section
variable{prog:Program}{w:World}{A:Around}{E:Value->Shared->Prop}{s:Shared}
set_option maxHeartbeats 1000000 in
theorem wC(l:Addr)(items:Array Value)(n:Nat)(dct:Option Addr)(sl:Array (Option Value)):
  Meets (Builtin.«enumerate.__new__» ⟨[.type "enumerate",.ref l],[]⟩) (λ_ R s=>s.heap.get? l=some { cls:=.type "tuple",dict:=dct,data:=.seq items n,slots:=sl } ∧
   R (.ok (.ret (.ref (s.heap.push { cls:=.type "tuple_iterator",data:=.fields #[.ref l,.int 0 0] }).objs.size)))
    { s with heap:=(s.heap.push { cls:=.type "tuple_iterator",data:=.fields #[.ref l,.int 0 0] }).push { cls:=.type "enumerate",data:=.fields #[.none,.bool false,.ref s.heap.objs.size,rawInt 0,.none,.none] } }) :=
 .of_wp λprog w A R s h=>by
  obtain⟨hp,g,d,tk,os⟩:=s;obtain⟨hl,h⟩:=h
  have hsub:=sub_enumerate
  have hL:Heap.IsTuple (Shared.heap ⟨hp,g,d,tk,os⟩) l items:=⟨_,hl,rfl,n,rfl⟩
  wp_walk using AutoSeq1.wpAny_loadPart' hl
  refine wpAny_stack_any λst=>wpAny_pure ?_
  split
  ·rename_i c _ _ _ _ _
   cases (c==Value.type "enumerate")
   ·wp_walk using AutoSeq1.wpAny_loadPart' hl,wpAny_pyIter_tuple hL
    exact⟨_,rfl,h⟩
   ·wp_walk using AutoSeq1.wpAny_loadPart' hl,wpAny_pyIter_tuple hL
    exact⟨_,rfl,h⟩
  ·wp_walk using AutoSeq1.wpAny_loadPart' hl,wpAny_pyIter_tuple hL
   exact⟨_,rfl,h⟩
theorem ye{l:Addr}{items:Array Value}{Q:Value->Shared->Prop}(hL:s.heap.IsTuple l items)
  (h:∀h',IsEnum h' (s.heap.objs.size+1) s.heap.objs.size 0 .none->h'.IsTupleIter s.heap.objs.size l 0 →
   (∀b o,s.heap.get? b=some o->h'.get? b=some o)->Q (.ref (s.heap.objs.size+1)) { s with heap:=h' }) :
  wpAny (model prog w) A (call (.type "enumerate") [.ref l]) Q E s:=by
 obtain⟨⟨c,dct,dt,sl⟩,hl,hc,n,hd⟩:=hL
 replace hc:c= .type "tuple" :=hc
 replace hd:dt= .seq items n:=hd
 subst hc hd
 refine callType_new F.called_enumerate (by decide) (F.typeCall_enumerate_1 _) (F.newCall_enumerate_1 _) (λobj=>F.args_object_init_2 obj _) F.entry_enumerate_new
  (wC l items n dct sl) ⟨hl,?_⟩
 have hz:(s.heap.push { cls:=.type "tuple_iterator",data:=.fields #[.ref l,.int 0 0] }).objs.size=s.heap.objs.size+1:=Heap.size_push ..
 show _/\_
 rw[hz]
 have he:IsEnum ((s.heap.push { cls:=.type "tuple_iterator",data:=.fields #[.ref l,.int 0 0] }).push
   { cls:=.type "enumerate",data:=.fields #[.none,.bool false,.ref s.heap.objs.size,rawInt 0,.none,.none] }) (s.heap.objs.size+1) s.heap.objs.size 0 .none:=by
  have:=Heap.get?_push_size (s.heap.push { cls:=.type "tuple_iterator",data:=.fields #[.ref l,.int 0 0] })
   (o:={ cls:=.type "enumerate",data:=.fields #[.none,.bool false,.ref s.heap.objs.size,rawInt 0,.none,.none] }) rfl
  rw[hz]at this;exact this
 exact⟨⟨_,he,rfl⟩,h _ he ⟨_,Heap.get?_push_of_some _ (Heap.get?_push_size _ rfl),rfl,rfl⟩ λb o x=>Heap.get?_push_of_some _ (Heap.get?_push_of_some _ x)⟩
theorem El{c:Cp}{xs:List V}{t:Tok}{Q:Value->Shared->Prop}(sc:c.src s.heap xs)
  (h:∀h',IsEnum h' (s.heap.objs.size+1) s.heap.objs.size 0 .none->c.C0 h' s.heap.objs.size 0->(∀b o,s.heap.get? b=some o->h'.get? b=some o)->Q (.ref (s.heap.objs.size+1)) { s with heap:=h' }) :
  wpAny (model prog w) A (call (.type "enumerate") [c.value t]) Q E s:=by
 cases c with
 |lst a=>obtain⟨its,_,p⟩:=sc;exact call_enumerate_list p λh' a b _ k=>h h' a b k
 |tup a=>obtain⟨its,_,p⟩:=sc;exact ye p λh' a b k=>h h' a b k
 |txt x=>exact call_enumerate_str λh' a b _ k=>h h' a ⟨t,b⟩ k
end
section
variable{X:Cx}
def RP(K:PySem.W.Frag)(ta:TA):TI:=λσ H R=>ta σ H λvs H1=>∃c xs,vs=[c.val]/\c.at K H1 xs/\R (S1 K c) H1
theorem EW {a:Expr} {ta:TA} {p pos:Pos} {elts:List Expr} {k:Nat} {tpos:Pos} (hg:Gl X "enumerate") (hm:X.mg "enumerate" =none) (ha:PA X [a] ta)
  (hs:starEach [a] X.env=[(false,eval a X.env)]:=by rfl):PI X (.Tuple elts k tpos) (.Call (.Name "enumerate" p) [a] [] pos) (RP X.K ta):=by
 intro pins s σ H R I h
 refine Call_ (pH I hg hm boot_enumerate (PyProof.Rows.callWith_type1 (dJ (ha pos pins s σ H _ I h) λus s1 ⟨vs,H1,I1,r1,q1⟩=>?_) hs rfl))
 obtain⟨c,xs,e,hx,q⟩:=q1
 subst e
 obtain⟨u,rfl,ru⟩:=vals1 r1
 obtain⟨t,rfl⟩:=Cp.value_of ru
 have sc:=Cp.nV I1 hx
 refine El sc λh' he hi kk=>wpAny_pyIter_enum he ?_
 have hei:s1.heap.objs.size+1≠s1.heap.objs.size:=Nat.ne_of_gt (Nat.lt_succ_self _)
 refine⟨_,[s1.heap.objs.size+1,s1.heap.objs.size],_,_,H1,rfl,I1.kept (t':=s1.toks) kk,FP hei,⟨⟨_,he⟩,hi⟩,λb hb=>?_,q⟩
 have le:s1.heap.objs.size<=b:=by
  simp only[List.mem_cons,List.not_mem_nil,or_false]at hb
  rcases hb with rfl|rfl
  ·exact Nat.le_add_right _ _
  ·exact Nat.le_refl _
 exact I1.uY le (I1.hok.fresh le)
theorem Cf{K:PySem.W.Frag}{c:Cp}{xs:List V}{g:TG}{tb:TS}{D:Ends}{σ:St}{H:Hp}(Pv:Nat->St->Hp->Prop)(h0:Pv 0 σ H)(hl:∀i σ H,i<=xs.length->Pv i σ H->c.at K H xs)
  (hs:∀(i:Nat) x p σ H,xs[i]? =some x->H p=none->Pv i σ H->g (.ref p) σ (upd H p (.tup [.int (i:Int),x])) λσ2 H2=>tb { D with nx:=Pv (i+1),ct:=Pv (i+1),bk:=D.nx } σ2 H2)
  (hd:∀ σ H,Pv xs.length σ H->D.nx σ H) :
  ∃W:Nat->Nat->St->Hp->Prop,(∃m,W 0 m σ H)/\∀i m σ H,W i m σ H →
   ((S1 K c).stop i H/\D.nx σ H)\/((S1 K c).go i H/\∃N:St->Hp->Prop,(∀ σ' H',N σ' H'->∃m',m'<m/\W (i+1) m' σ' H')/\∀y H',(S1 K c).AS i H y H'->g y σ H' λσ2 H2=>tb { D with nx:=N,ct:=N,bk:=D.nx } σ2 H2):=by
 refine⟨λi m σ H=>m=xs.length-i/\i<=xs.length/\Pv i σ H,⟨xs.length,by simp,Nat.zero_le _,h0⟩,?_⟩
 rintro i m σ H ⟨rfl,hi,p⟩
 have zx:=hl i σ H hi p
 by_cases hlt:i<xs.length
 ·refine .inr ⟨⟨xs,xs[i],zx,by simp[hlt]⟩,Pv (i+1),λσ' H' p'=>⟨xs.length-(i+1),by omega,rfl,hlt,p'⟩,λv H' q=>?_⟩
  obtain⟨a,x,rfl,ha,rfl,e⟩:=q
  exact hs i x a σ H (e xs zx) ha p
 ·have e:i=xs.length:=by omega
  subst e
  exact .inl ⟨⟨xs,zx,Nat.le_refl _⟩,hd σ H p⟩
end
end L2
namespace L2
open PySem PySem.Spec PyProof.Rows
set_option maxRecDepth 100000
def met(val:Nat->Str)(i:Nat):List Str:=((List.range i).map val).foldl step_dedup []
theorem wz(val:Nat->Str):met val 0=[]:=rfl
theorem pD(val:Nat->Str)(i:Nat):met val (i+1)=step_dedup (met val i) (val i):=by
 unfold met;rw[List.range_succ,List.map_append,List.foldl_append];rfl
theorem qC(val:Nat->Str):∀i,(met val i).length<=i
 | 0=>by rw[wz];exact Nat.le_refl _
 |i+1=>by
  rw[pD]
  have ih:=qC val i
  unfold step_dedup
  split
  ·omega
  ·rw[List.length_append,List.length_singleton];omega
theorem sD(σ:List Str)(v k:Str):(step_dedup σ v).any (·==k)=(σ.any (·==k)||decide (k=v)):=by
 unfold step_dedup
 by_cases h:σ.any (·==v)=true
 ·rw[if_pos h]
  by_cases e:k=v
  ·subst e;rw[h];simp
  ·simp[e]
 ·rw[if_neg h,List.any_append]
  by_cases e:k=v
  ·subst e;simp
  ·have hb:(v==k)=false:=by simpa[beq_iff_eq]using(λh':v=k=>e h'.symm)
   simp[hb,e]
theorem oQ(σ:List Str)(v:Str):(step_dedup σ v).length=if σ.any (·==v)then σ.length else σ.length+1:=by
 unfold step_dedup;split<;>simp
section
variable{prog:Program}{w:World}{A:Around}{R:Result->Shared->Prop}{I:Addr}{fp wr:List Addr}{G:Array GenState->Array GenState->Prop}{n:Nat}{P:Nat->Value->Prop}{St:Nat->Shared->Prop}
theorem zH(W:WalksS prog w A.in1 I fp wr G n P St)(S:Addr)(hSf:S∉fp)(val:Nat->Str)(hval:∀i v,P i v->∃t,v= .str (val i) t)(hb:n+1<scanBound):
  ∀(k i:Nat) (s:Shared),n-i=k->i<=n->St i s->s.heap.SetOf (strKind prog w) S (λk'=>(met val i).any (·==k')) (met val i).length →
   (∀s',Moved (S::wr) G s s'->s'.heap.SetOf (strKind prog w) S (λk'=>(met val n).any (·==k')) (met val n).length->R (.ok (.ret .none)) s') →
   codeAny (model prog w) A (.builtin "set.update.loop" ⟨[.ref S,.ref I],[]⟩) R s:=by
 have YS:S∉wr:=λh=>hSf (W.sub _ h)
 have hsub:∀b∈wr,b∈S::wr:=λb hb=>List.mem_cons_of_mem _ hb
 intro k
 induction k with
 |zero =>
  intro i s hk hi hst hS hR
  have hin:i=n:=by omega
  subst hin
  refine codeAny_builtin PyProof.Rows.F.entry_set_update_loop ?_
  rw[Around.under_plainId PyProof.Rows.F.plain_set_update_loop _]
  show wpAny _ A.in1 (pyNext (.ref I) >>= _) _ _ s
  refine wpAny_bind (W.done s _ _ hst λs' hm=>?_)
  show wpAny _ A.in1 (ret Value.none) _ _ s'
  exact wpAny_pure (hR s' (hm.mono hsub) (by
   obtain⟨o,es,ep,t,ho,rest⟩:=hS
   exact⟨o,es,ep,t,hm.heap S _ YS ho,rest⟩))
 |succ k ih =>
  intro i s hk hi hst hS hR
  have hlt:i<n:=by omega
  refine codeAny_builtin PyProof.Rows.F.entry_set_update_loop ?_
  rw[Around.under_plainId PyProof.Rows.F.plain_set_update_loop _]
  show wpAny _ A.in1 (pyNext (.ref I) >>= _) _ _ s
  refine wpAny_bind (W.item i s _ _ hlt hst λv s' hP WK hm=>?_)
  obtain⟨t,rfl⟩:=hval i v hP
  have hS':s'.heap.SetOf (strKind prog w) S (λk'=>(met val i).any (·==k')) (met val i).length:=by
   obtain⟨o,es,ep,tb,ho,rest⟩:=hS
   exact⟨o,es,ep,tb,hm.heap S _ YS ho,rest⟩
  show wpAny _ A.in1 (holding [Value.str (val i) t] (setAdd S (.str (val i) t)) >>= _) _ _ s'
  refine wpAny_bind (wpAny_holding ?_)
  unfold setAdd
  refine wpAny_holding ?_
  refine wpAny_bind ((strKind prog w).pyHash (k:=val i) (strKind_is _ _ _ _) ?_)
  have hroom:(met val i).length+1<scanBound:=by have:=qC val i;omega
  refine wpAny_setAddHashed_of (knd:=strKind prog w) (s:={ s' with toks:=s'.toks+1 }) (strKind_is _ _ _ _) rfl hS' hroom λh' RZ Xh=>?_
  have hSi:h'.SetOf (strKind prog w) S (λk'=>(met val (i+1)).any (·==k')) (met val (i+1)).length :=
   SetOf_congr Xh (λk'=>by rw[pD,sD]) (by rw[pD,oQ])
  refine wpAny_pure ⟨plainId_quiet PyProof.Rows.F.plain_set_update_loop _,ih (i+1) _ (by omega) hlt (W.frame _ s' _ _ WK (Nat.le_succ _) λb hb o e=>?_) hSi λs'' WT Xi=>?_⟩
  ·rw[RZ.2 b (λh:b=S=>hSf (by rw[←h];exact hb))];exact e
  ·refine hR s'' (Moved.trans W.gtrans ((hm.mono hsub).then_heap (Nat.le_succ _) λb o hb e=>?_) WT) Xi
   rw[RZ.2 b (λh:b=S=>hb (by rw[h];exact List.mem_cons_self))];exact e
end
def lH(x:Str)(i:Nat):Str:=⟨#[x.cps.getD i 0]⟩
theorem FN{prog:Program}{w:World}{A:Around}(hh:A.handled=none)(I:Addr)(x:Str)(t:Tok):
  Walks prog w A I [I] [I] x.cps.size (λi v=>∃u,v= .str (lH x i) u) (λi h=>h.IsStrIter I (strIterType x) x t i) where
 sub:=λ_ hb=>hb
 frame:=λ_ _ _ st hk=>let ⟨o,ho,r⟩:=st;⟨o,hk I (by simp) o ho,r⟩
 item:=λi s Q E hi st hQ=>by
  refine oN st (k:=x.cps.getD i 0) (by simp[hi]) λh' Gz hs'=>?_
  exact hQ _ h' (s.toks+1) ⟨_,rfl⟩ Gz λb o hb e=>hs'.extBut b o (λh=>hb (by simp[h])) e
 done:=λs Q E st hQ=>o6 hh st (by simp) λh' he'=>hQ h' s.toks λb o hb e=>he' b o (λh=>hb (by simp[h])) e
 self:=λ_ _ _ _ st hQ=>o7 st hQ
theorem zB:isSubtype (.type "str") (.type "set")=pure false:=by rw[isSubtype_type];kernel_rfl
theorem qM:isSubtype (.type "str") (.type "frozenset")=pure false:=by rw[isSubtype_type];kernel_rfl
section
variable{prog:Program}{w:World}{A:Around}{E:Value->Shared->Prop}{s:Shared}
set_option maxHeartbeats 3200000 in
theorem Aq{x:Str}{t:Tok}{Q:Value->Shared->Prop}(hh:A.handled=none)(hb:x.cps.size+1<scanBound)
  (h:∀(h':Heap) (tk:Nat),h'.SetOf (strKind prog w) s.heap.objs.size (λk'=>(met (lH x) x.cps.size).any (·==k')) (met (lH x) x.cps.size).length →
   (∀b o,b<s.heap.objs.size->s.heap.get? b=some o->h'.get? b=some o)->Q (.ref s.heap.objs.size) { s with heap:=h',toks:=tk }) :
  wpAny (model prog w) A (call (.type "set") [.str x t]) Q E s:=by
 obtain⟨c,tl,aaf⟩:=F.called_set.mro
 have hmade:=F.called_set.made
 have hsub:=F.called_set.sub
 refine wpAny_call (codeAny_of_tree ?_)
 show wpAny _ _ (callAny (.type "set") _) _ _ _
 refine wpAny_pure ⟨Code.quiet_builtin _ (by decide +kernel),codeAny_builtin F.entry_type_call ?_⟩
 rw[Around.under_plain (weight_type_call_type "set" [.str x t] []) rfl]
 have h1:=F.called_set.notType
 have h2:=F.called_set.canCreate
 have hct:=F.typeCall_set_1 (.str x t)
 repeat (any_goals (first|assumption|wp_step))
 refine codeAny_mono (code_set_new_1 (.str x t) (E:=E) (Q₁:=λobj s₁=>∃led:Bool,obj= .ref s.heap.objs.size/\s₁={ s with heap:=s.heap.push { cls:=.type "set",dict:=none,data:=.set #[] 0 (.fresh 0 0 led) } }) λled=>⟨led,rfl,rfl⟩) λr s₁ hr=>?_
 cases r with
 |error e=>exact hr
 |ok fl =>
  cases fl with
  |ret obj =>
   obtain⟨led,rfl,rfl⟩:=hr
   have hS:(s.heap.push { cls:=.type "set",dict:=none,data:=.set #[] 0 (.fresh 0 0 led) }).get? s.heap.objs.size=some { cls:=.type "set",dict:=none,data:=.set #[] 0 (.fresh 0 0 led) }:=Heap.get?_push_size _ rfl
   have hT:Shared.TypeIs { s with heap:=s.heap.push { cls:=.type "set",dict:=none,data:=.set #[] 0 (.fresh 0 0 led) } } (.ref s.heap.objs.size) "set" :=⟨_,hS,rfl⟩
   have hli:=F.called_set.init.lookup
   have hbi:=F.called_set.init.bind (.ref s.heap.objs.size)
   repeat (any_goals (first|assumption|wp_step))
   refine codeAny_mono (codeAny_call_builtin (R:=wants (λr s₂=>r= .none/\∃h' tk,s₂={ s with heap:=h',toks:=tk } ∧
     h'.SetOf (strKind prog w) s.heap.objs.size (λk'=>(met (lH x) x.cps.size).any (·==k')) (met (lH x) x.cps.size).length ∧
     (∀b o,b<s.heap.objs.size->s.heap.get? b=some o->h'.get? b=some o)) E) F.called_set.init.plain F.entry_set_init (check_set_init_1 hT ?_)) λr₂ s₂ IZ=>?_
   ·have Z5:=zB
    have Z6:=qM
    have hne:(Value.type "str" ==Value.type "dict")=false:=by decide
    unfold Builtin.«set.__init__» noKeywords Builtin.Frozenset.updateFrom
    generalize hPI:pyIter=PI
    wp_walk
    subst hPI
    refine wpAny_pyIter_strU ?_
    refine wpAny_bind (wpAny_runValue ?_)
    have hh3:A.in1.in1.in1.handled=none:=by simp[hh]
    have hSf:s.heap.objs.size∉[(s.heap.push { cls:=.type "set",dict:=none,data:=.set #[] 0 (.fresh 0 0 led) }).objs.size]:=by
     rw[Heap.size_push];simp only[List.mem_singleton]
     exact Nat.ne_of_lt (Nat.lt_succ_self _)
    refine zH ((FN hh3 _ x t).toS) s.heap.objs.size hSf (lH x) (λi v hv=>hv) hb (x.cps.size-0) 0 _ (by omega) (Nat.zero_le _)
     ⟨_,Heap.get?_push_size _ rfl,rfl,rfl⟩ ?hS0 ?hR
    case hS0 =>
     have hget:((s.heap.push { cls:=.type "set",dict:=none,data:=.set #[] 0 (.fresh 0 0 led) }).push { cls:=.type (strIterType x),data:=.fields #[.str x t,.int 0 0] }).get? s.heap.objs.size
       = some { cls:=.type "set",dict:=none,data:=.set #[] 0 (.fresh 0 0 led) }:=Heap.get?_push_of_some _ hS
     exact SetOf_congr ((setObjOf_fresh (knd:=strKind prog w) led).setOf hget (by unfold scanBound;omega)) (λ_=>rfl) rfl
    case hR =>
     intro s' hm hS'
     obtain⟨h',g',d',tk',os'⟩:=s'
     have eg:g'=s.gens:=hm.gens
     have ed:d'=s.drawn:=hm.drawn
     have eo:os'=s.os:=hm.os
     subst eg;subst ed;subst eo
     show wpAny _ _ _ _ _ _
     refine wpAny_pure ?_
     show wpAny _ _ (ret Value.none) _ _ _
     refine wpAny_pure ⟨rfl,h',tk',rfl,hS',λb o hb e=>?_⟩
     have hb1:b≠s.heap.objs.size:=Nat.ne_of_lt hb
     have hb2:b≠(s.heap.push { cls:=.type "set",dict:=none,data:=.set #[] 0 (.fresh 0 0 led) }).objs.size:=by
      rw[Heap.size_push];exact Nat.ne_of_lt (Nat.lt_succ_of_lt hb)
     exact hm.heap b o (by simp only[List.mem_cons,List.mem_singleton,List.not_mem_nil,or_false,not_or];exact⟨hb1,hb2⟩) (Heap.get?_push_of_some _ (Heap.get?_push_of_some _ e))
   ·cases r₂ with
    |error e=>exact IZ
    |ok Sv =>
     cases Sv with
     |ret r =>
      obtain⟨rfl,h',tk,rfl,hS',hk'⟩:=IZ
      repeat (any_goals (first|assumption|wp_step))
      exact h _ _ hS' hk'
     |_=>exact IZ.elim
  |_=>exact hr.elim
end
end L2
namespace L2
open PySem PySem.Spec PyProof.Rows
def QL(P:Program)(w:World)(a:Addr)(n:Nat):HO:=.ext λh=>∃S,h.SetOf (strKind P w) a S n
section
variable{X:Cx}
theorem GK(hc:X.calm=true):lA X (.type "set") (λxs H Q=>∃x,xs=[.str x]/\x.cps.size+1<scanBound/\∀p,H p=none->Q (.ref p) (upd H p (QL X.prog X.w p (met (lH x) x.cps.size).length))):=by
 intro pins s σ H xs us Q I r h
 obtain⟨x,rfl,hb,q⟩:=h
 obtain⟨u,rfl,t,rfl⟩:=vals1 r
 refine TK.bO (Nat.le_refl s.toks) (Aq (I.ok.hd hc) hb λh' tk hS kk hup=>?_)
 have hn:H s.heap.objs.size=none:=I.fresh
 have k:∀b o,s.heap.get? b=some o->h'.get? b=some o:=λb o e=>kk b o (Heap.lt_size e) e
 refine⟨.ref s.heap.objs.size,_,I.laid (t':=tk) k (Nat.le_refl _) ?_,rfl,q _ hn⟩
 refine⟨⟨_,hS⟩,?_,λh1 h2 p e=>?_⟩
 ·obtain⟨o,_,_,_,ho,_⟩:=hS
  exact⟨o,ho⟩
 ·obtain⟨S,o,es,ep,t,ho,rest⟩:=p
  exact⟨S,o,es,ep,t,e o ho,rest⟩
theorem yc:lA X (.builtin "len") (λxs H Q=>∃p n,xs=[.ref p]/\H p=some (QL X.prog X.w p n)/\Q (.int (n:Nat)) H):=by
 intro pins s σ H xs us Q I r h
 obtain⟨p,n,rfl,hp,q⟩:=h
 obtain⟨u,rfl,ru⟩:=vals1 r
 cases ru
 obtain⟨⟨S,o,es,ep,t,ho,hex,hd,_,_,hz,hf,hn⟩,_⟩:=I.hok p _ hp
 subst hn
 have:es.size<4096:=hz
 exact call_len_set ho hex hd hf (by omega) ⟨.int es.size,H,I.tok _,⟨_,rfl⟩,q⟩
def Bg(i:Int):Prop:=i.natAbs<2 ^ 9000
theorem Bg.log{i:Int}(h:Bg i):i.natAbs.log2<9000:=by
 rcases Nat.eq_zero_or_pos i.natAbs with h0|hp
 ·rw[h0];decide
 ·exact(Nat.log2_lt (by omega)).mpr h
theorem Bg.bits{i:Int}(h:Bg i):Builtin.Int.intBits i<=2 ^ 20:=by
 have:=h.log
 unfold Builtin.Int.intBits
 split
 ·exact Nat.zero_le _
 ·exact Nat.le_trans (show i.natAbs.log2+1<=9000 by omega) (by decide)
theorem Ky:ug X (binaryOp .Mult) (rI (λi j=>Bg i/\Bg j) λi j=>.int (i*j)):=Q4 λ_ _ _ _ _ _ _ hc q=>mul_int q (IntMulOk.of_bits hc.1.bits hc.2.bits)
end
end L2
namespace L2
open PySem PySem.Spec PyProof.Rows
def T8(K:PySem.W.Frag)(c:Cp):It :=
 ⟨λi H=>∃xs x,c.at K H xs/\xs[i]? =some x,λi H x H'=>H'=H/\∀xs,c.at K H xs->xs[i]? =some x,λi H=>∃xs,c.at K H xs/\xs.length<=i⟩
theorem Turn.conv{P:Program}{w:World}{K:PySem.W.Frag}{tg:Expr}{J J':It}{fp:List Addr}{it:Addr}{tn:Nat->Heap->Prop}(T:Turn P w K tg J fp it tn)
  (hg:∀i H,J'.go i H->J.go i H) (hy:∀i H x H',J.AS i H x H'->J'.AS i H x H') (hs:∀i H,J'.stop i H->J.stop i H):Turn P w K tg J' fp it tn where
 mem:=T.mem
 obj:=T.obj
 keep:=T.keep
 item:=λX hP hw hK hc i pins s σ H E I hf st g=>wpAny_mono (T.item X hP hw hK hc i pins s σ H E I hf st (hg i H g)) (λr s1 ⟨u,hr,h⟩=>⟨u,hr,wpAny_mono h (λ_ s2 ⟨x,H',I',r',y,t',n'⟩=>⟨x,H',I',r',hy i H x H' y,t',n'⟩) λ_ _ z=>z⟩) λ_ _ z=>z
 done:=λX hP hw hK hc i pins s σ H E I hf st g=>T.done X hP hw hK hc i pins s σ H E I hf st (hs i H g)
 self:=T.self
theorem signs_length(x:Str):(eL x).length=x.cps.size:=by simp[eL]
theorem signs_at{x:Str}{i k:Nat}(h:x.cps[i]? =some k):(eL x)[i]? =some (.str ⟨#[k]⟩):=by
 unfold eL
 rw[List.getElem?_map]
 have e:x.cps.toList[i]? =some k:=by simpa using h
 rw[e]
 rfl
section
variable{X:Cx}{tg:Expr}
def ZZ(K:PySem.W.Frag)(tl:TE):TI:=λσ H R=>tl σ H λv H1=>∃c xs,v=Cp.val c/\c.at K H1 xs/\R (T8 K c) H1
theorem BE{l:Expr}{tl:TE}(hl:PE X l tl):PI X tg l (ZZ X.K tl):=by
 intro pins s σ H R I h
 refine dJ (hl pins s σ H _ I h) λv s1 ⟨y,H1,I1,r1,q1⟩=>?_
 obtain⟨c,xs,e,hq,q⟩:=q1
 subst e
 have Xu:∀b∈[s1.heap.objs.size],oU X pins H1 b:=λb hb=>by
  have e:b=s1.heap.objs.size:=by simpa using hb
  subst e
  exact I1.uY (Nat.le_refl _) (I1.hok.fresh (Nat.le_refl _))
 cases c with
 |lst a =>
  cases (show v=Value.ref a from r1)
  obtain⟨its,rv,p,hz⟩:=I1.list hq
  refine wpAny_pyIter_list p.isList ?_
  exact⟨s1.heap.objs.size,[s1.heap.objs.size],_,_,H1,rfl,I1.kept (t':=s1.toks) λb o e=>Heap.get?_push_of_some _ e,yG a _,⟨_,Heap.get?_push_size _ rfl,rfl,rfl⟩,Xu,q⟩
 |tup a =>
  cases (show v=Value.ref a from r1)
  obtain⟨its,rv,p,hz⟩:=I1.tuple hq
  refine wpAny_pyIter_tuple (show s1.heap.IsTuple a its.toArray from p) ?_
  exact⟨s1.heap.objs.size,[s1.heap.objs.size],_,_,H1,rfl,I1.kept (t':=s1.toks) λb o e=>Heap.get?_push_of_some _ e,vG a _,⟨_,Heap.get?_push_size _ rfl,rfl,rfl⟩,Xu,q⟩
 |txt x =>
  obtain⟨t,rfl⟩:=(show ∃t,v=Value.str x t from r1)
  refine wpAny_pyIter_strU ?_
  refine⟨s1.heap.objs.size,[s1.heap.objs.size],_,_,H1,rfl,I1.kept (t':=s1.toks) λb o e=>Heap.get?_push_of_some _ e,(A4 x t _).conv ?_ ?_ ?_,⟨_,Heap.get?_push_size _ rfl,rfl,rfl⟩,Xu,q⟩
  ·rintro i H ⟨xs,y,hx,e⟩
   rw[show xs=eL x from hx]at e
   have:=(List.getElem?_eq_some_iff.mp e).1
   rw[signs_length]at this
   exact this
  ·rintro i H y H' ⟨rfl,k,e,rfl⟩
   refine⟨rfl,λxs hx=>?_⟩
   rw[show xs=eL x from hx]
   exact signs_at e
  ·rintro i H ⟨xs,hx,e⟩
   rw[show xs=eL x from hx,signs_length]at e
   exact e
theorem Jf{K:PySem.W.Frag}{c:Cp}{xs:List V}{g:TG}{tb:TS}{D:Ends}{σ:St}{H:Hp}(Pv:Nat->St->Hp->Prop)(h0:Pv 0 σ H)(hl:∀i σ H,i<=xs.length->Pv i σ H->c.at K H xs)
  (hs:∀i x σ H,xs[i]? =some x->Pv i σ H->g x σ H λσ2 H2=>tb { D with nx:=Pv (i+1),ct:=Pv (i+1),bk:=D.nx } σ2 H2) (hd:∀ σ H,Pv xs.length σ H->D.nx σ H) :
  ∃W:Nat->Nat->St->Hp->Prop,(∃m,W 0 m σ H)/\∀i m σ H,W i m σ H →
   ((T8 K c).stop i H/\D.nx σ H)\/((T8 K c).go i H/\∃N:St->Hp->Prop,(∀ σ' H',N σ' H'->∃m',m'<m/\W (i+1) m' σ' H')/\∀x H',(T8 K c).AS i H x H'->g x σ H' λσ2 H2=>tb { D with nx:=N,ct:=N,bk:=D.nx } σ2 H2):=by
 refine⟨λi m σ H=>m=xs.length-i/\i<=xs.length/\Pv i σ H,⟨xs.length,by simp,Nat.zero_le _,h0⟩,?_⟩
 rintro i m σ H ⟨rfl,hi,p⟩
 have q:=hl i σ H hi p
 by_cases hlt:i<xs.length
 ·refine .inr ⟨⟨xs,xs[i],q,by simp[hlt]⟩,Pv (i+1),λσ' H' p'=>⟨xs.length-(i+1),by omega,rfl,hlt,p'⟩,λx H' y=>?_⟩
  obtain⟨e,y⟩:=y
  subst e
  exact hs i x σ _ (y xs q) p
 ·have e:i=xs.length:=by omega
  subst e
  exact .inl ⟨⟨xs,q,Nat.le_refl _⟩,hd σ H p⟩
end
end L2
namespace xG
def lo(a b:Int):Int×Int:=(a / (Int.gcd a b:Int),b / (Int.gcd a b:Int))
theorem oA(a:Int){b:Int}(hb:0<b):0<(Int.gcd a b:Int):=by
 have:0<Int.gcd a b:=Int.gcd_pos_of_ne_zero_right a (by omega)
 omega
theorem D9(a:Int){b:Int}(hb:0<b):(Int.gcd a b:Int)<=b:=Int.le_of_dvd hb (Int.gcd_dvd_right ..)
theorem IG(a:Int){b:Int}(hb:0<b):0<(lo a b).2 :=
 Int.ediv_pos_of_pos_of_dvd hb (Int.le_of_lt (oA a hb)) (Int.gcd_dvd_right ..)
theorem lo_le(a:Int){b:Int}(hb:0<b):(lo a b).2<=b:=by
 have h:=oA a hb
 exact Int.ediv_le_self _ (Int.le_of_lt hb)
theorem II(a:Int){b:Int}(hb:0<b):Int.gcd (lo a b).1 (lo a b).2=1 :=
 Int.gcd_ediv_gcd_ediv_gcd (Int.gcd_pos_of_ne_zero_right a (by omega))
theorem D4(a b:Int):(lo a b).1*(Int.gcd a b:Int)=a:=Int.ediv_mul_cancel (Int.gcd_dvd_left ..)
theorem IF(a b:Int):(lo a b).2*(Int.gcd a b:Int)=b:=Int.ediv_mul_cancel (Int.gcd_dvd_right ..)
theorem IJ(a b:Int):(lo a b).1*b=a*(lo a b).2:=by
 have h1:=D4 a b
 have h2:=IF a b
 generalize (lo a b).1=x at *
 generalize (lo a b).2=y at *
 generalize (Int.gcd a b:Int)=g at *
 rw[←h1,←h2,Int.mul_assoc,Int.mul_comm y g]
theorem Jc(a b:Int):Int.gcd b (a % b)=Int.gcd a b:=by
 have e:a=a % b+b*(a / b):=(Int.emod_add_mul_ediv a b).symm
 have h:Int.gcd (a % b+b*(a / b)) b=Int.gcd (a % b) b:=Int.gcd_add_mul_left_left ..
 rw[←e]at h
 rw[h,Int.gcd_comm]
theorem Lg(a:Int):(if a<0 then -a else a)=(Int.gcd a 0:Int):=by
 rw[Int.gcd_zero_right]
 split<;>omega
end xG
namespace GP
open PySem L2 xG
abbrev cG:=Int×Int
def j0(f:cG):cG:=lo f.1 f.2
theorem ak.upd{H:Hp}{q:Addr}{o:HO}(h:H q=none):ak H (L2.upd H q o):=λb u e=>by rw[au (aM e h)];exact e
theorem ak.at{H H2:Hp}{t:Addr}{o:HO}(e:ak H H2)(h:H t=none):ak H (L2.upd H2 t o):=λb u q=>by rw[au (aM q h)];exact e b u q
theorem ak.tup{K:PySem.W.Frag}{H H':Hp}{a:Addr}{xs:List V}(e:ak H H')(h:cT K H a xs):cT K H' a xs:=by
 rcases h with(h|⟨o,h⟩)|h
 ·exact .inl (.inl (e _ _ h))
 ·exact .inl (.inr ⟨o,e _ _ h⟩)
 ·exact .inr h
theorem ak.cp{K:PySem.W.Frag}{H H':Hp}{c:Cp}{xs:List V}(e:ak H H')(h:c.at K H xs):c.at K H' xs:=by
 cases c with
 |lst a=>exact ak.seq e h
 |tup a=>exact ak.tup e h
 |txt x=>exact h
def jY(K:PySem.W.Frag)(H:Hp)(p:Addr)(f:cG):Prop:=cT K H p [.int f.1,.int f.2]
theorem jY.same{K:PySem.W.Frag}{H H':Hp}{p:Addr}{f:cG}(e:ak H H')(h:jY K H p f):jY K H' p f:=ak.tup e h
def jW(K:PySem.W.Frag)(H:Hp)(c:Cp)(fs:List cG):Prop:=∃ps:List Addr,c.at K H (ps.map V.ref)/\Paired (jY K H) ps fs
theorem jW.same{K:PySem.W.Frag}{H H':Hp}{c:Cp}{fs:List cG}(e:ak H H')(h:jW K H c fs):jW K H' c fs:=by
 obtain⟨ps,a,b⟩:=h
 exact⟨ps,ak.cp e a,Paired.iK b λ_ _ z=>z.same e⟩
def Mu(K:PySem.W.Frag)(H:Hp)(c:Cp)(rows:List (List cG)):Prop:=∃cs:List Cp,c.at K H (cs.map Cp.val)/\Paired (jW K H) cs rows
theorem Paired.at{α β:Type}{F:α->β->Prop}:∀{l₁:List α} {l₂:List β} {i:Nat} {x:α},Paired F l₁ l₂->l₁[i]? =some x->∃y,l₂[i]? =some y/\F x y
 |_,_,i,_,.nil,e=>by simp at e
 |_,_,0,_,.cons r _,e=>by simp at e;subst e;exact⟨_,rfl,r⟩
 |_,_,i+1,x,.cons _ t,e=>by
  obtain⟨y,h1,h2⟩:=Paired.at (i:=i) (x:=x) t (by simpa using e)
  exact⟨y,by simpa using h1,h2⟩
theorem Paired.len{α β:Type}{F:α->β->Prop}{l₁:List α}{l₂:List β}(h:Paired F l₁ l₂):l₁.length=l₂.length:=Paired.length h
theorem Paired.snoc{α β:Type}{F:α->β->Prop}{x:α}{y:β}:∀{l₁:List α} {l₂:List β},Paired F l₁ l₂->F x y->Paired F (l₁++[x]) (l₂++[y])
 |_,_,.nil,h=>.cons h .nil
 |_,_,.cons r t,h=>.cons r (Paired.snoc t h)
theorem take_snoc{α:Type}{l:List α}{i:Nat}{x:α}(h:l[i]? =some x):l.take (i+1)=l.take i++[x]:=by
 rw[List.take_add_one,h];rfl
theorem qD{α β:Type}{l:List α}{f:α->β}{i:Nat}{x:α}(h:l[i]? =some x):(l.map f).take (i+1)=(l.map f).take i++[f x]:=take_snoc (by rw[List.getElem?_map,h];rfl)
theorem rz{i j:Int}{A B:Prop}(h1:i≠j->A)(h2:i=j->B):if(!decide (V.int i=V.int j))=true then A else B:=by
 by_cases h:i=j
 ·rw[oF,if_neg (by simp[h])];exact h2 h
 ·rw[oF,if_pos (by simp[h])];exact h1 h
theorem nF{i j:Int}{A B:Prop}(h1:i=j->A)(h2:i≠j->B):if(decide (V.int i=V.int j))=true then A else B:=by
 by_cases h:i=j
 ·rw[oF,if_pos (by simp[h])];exact h1 h
 ·rw[oF,if_neg (by simp[h])];exact h2 h
theorem fJ{p:Prop}[Decidable p]{A B:Prop}(h1:p->A)(h2:¬p->B):if(decide p)=true then A else B:=by
 by_cases h:p
 ·rw[if_pos (decide_eq_true h)];exact h1 h
 ·rw[if_neg (by rw[decide_eq_false h];exact Bool.false_ne_true)];exact h2 h
theorem Fd{A B:Prop}(h:A):if(!false)=true then A else B:=by
 rw[if_pos (show(!false)=true from rfl)];exact h
theorem lE{A B:Prop}(h:B):if(!true)=true then A else B:=by
 rw[if_neg (by decide)];exact h
structure Dn(K:PySem.W.Frag)(mg:Str->Option Value)(x:Str)(st:Stmt)(ps:List Str)(f:Addr)(fd:FuncData):Prop where
 fn:JO K x x st f fd
 b:Binds K fd ps []
 m:mg x=some (.ref f)
def EM:Sp:=λvs H Q _=>∃a b:Int,vs=[.int a,.int b]/\0<=b/\Q (.int (Int.gcd a b)) H
def lm(a b:Int):Int:=a / (Int.gcd a b:Int)*b
def LP(K:PySem.W.Frag):Sp:=λvs H Q _=>∃(p:Addr) (f:cG),vs=[.ref p]/\jY K H p f/\0<f.2/\f.2<1073741824 ∧
 ∀q,H q=none->Q (.ref q) (L2.upd H q (.tup [.int (j0 f).1,.int (j0 f).2]))
def CK(f:cG):Prop:=1<=f.2/\f.2<1073741824
def qP(K:PySem.W.Frag):Sp:=λvs H Q _=>∃(p:Addr) (f:cG),vs=[.ref p]/\jY K H p f/\CK f ∧
 ∀q,H q=none->Q (.ref q) (L2.upd H q (.tup [.int (j0 f).1,.int (j0 f).2]))
def uq(K:PySem.W.Frag):Sp:=λvs H Q _=>∃(c:Cp) (fs:List cG),vs=[c.val]/\jW K H c fs/\(∀f∈fs,CK f)/\fs.length<=1000 ∧
 ∀q H',ak H H'->H q=none->jW K H' (.tup q) (fs.map j0)->Q (.ref q) H'
def cF(o m:Int)(rows:List (List cG)):Int:=(rows.flatten.map (·.2)).foldl lm (lm o m)
def kX(fo fm:cG)(rows:List (List cG)):List Int:=fo.2::fm.2::rows.flatten.map (·.2)
def Bd(K:PySem.W.Frag):Sp:=λvs H Q _=>∃(P o m:Addr) (rows:List (List cG)) (fo fm:cG),vs=[.ref P,.ref o,.ref m]/\Mu K H (.tup P) rows/\jY K H o fo/\jY K H m fm ∧
 rows.length<=12/\(∀r∈rows,r.length<=12)/\∀l H',ak H H'->H l=none->H' l=some (.lst ((kX fo fm rows).map V.int))->Q (.ref l) H'
def qk(p:List Int×Int)(b:Int):List Int×Int:=if b / (Int.gcd p.2 b:Int)>1 then(p.1++[b / (Int.gcd p.2 b:Int)],p.2*(b / (Int.gcd p.2 b:Int)))else p
def nO(ns:List Int):List Int×Int:=ns.foldl qk ([],1)
def nH(n:Int):Prop:=0<n/\n<1073741824
def yL(K:PySem.W.Frag):Sp:=λvs H Q _=>∃(l:Addr) (ns:List Int),vs=[.ref l]/\cS K H l (ns.map V.int)/\ns.length<=1000/\(∀n∈ns,nH n) ∧
 ∀q H',ak H H'->H q=none->H' q=some (.lst ((nO ns).1.map V.int))->Q (.ref q) H'
def qw(fs:List Int):Int:=fs.foldl (·*·) 1
def HJ(K:PySem.W.Frag):Sp:=λvs H Q _=>∃(l:Addr) (fs:List Int),vs=[.ref l]/\cS K H l (fs.map V.int)/\(∀n∈fs,nH n)/\Q (.int (qw fs)) H
def vI(K:PySem.W.Frag):Sp:=λvs H Q _=>∃(p:Addr) (f:cG) (u:Int),vs=[.ref p,.int u]/\jY K H p f/\CK f/\Bg f.1/\Bg (u / f.2)/\Q (.int (f.1*(u / f.2))) H
theorem OI{b:Int}:lm 1 b=b:=by
 unfold lm
 rw[Int.gcd_one_left]
 simp
theorem OJ{a b:Int}:lm a b=a*(b / (Int.gcd a b:Int)):=by
 unfold lm
 rw[←Int.mul_ediv_assoc' b (Int.gcd_dvd_left a b),Int.mul_ediv_assoc a (Int.gcd_dvd_right a b)]
structure CW(p:List Int×Int)(ns:List Int):Prop where
 small:∀f∈p.1,nH f
 prod:qw p.1=p.2
 unit:p.2=ns.foldl lm 1
 pos:0<p.2
 len:p.1.length<=ns.length
theorem qU(fs:List Int)(f:Int):qw (fs++[f])=qw fs*f:=by
 unfold qw
 rw[List.foldl_append]
 rfl
theorem Fq{u b:Int}(hb:nH b):0<b / (Int.gcd u b:Int)/\b / (Int.gcd u b:Int)<=b:=by
 have g1:=oA u hb.1
 exact⟨Int.ediv_pos_of_pos_of_dvd hb.1 (Int.le_of_lt g1) (Int.gcd_dvd_right u b),Int.ediv_le_self _ (Int.le_of_lt hb.1)⟩
theorem CW.step{p:List Int×Int}{ns:List Int}{b:Int}(h:CW p ns)(hb:nH b):CW (qk p b) (ns++[b]):=by
 obtain⟨d1,d2⟩:=Fq (u:=p.2) hb
 have e:(ns++[b]).foldl lm 1=p.2*(b / (Int.gcd p.2 b:Int)):=by
  rw[List.foldl_append,←h.unit]
  exact OJ
 unfold qk
 split
 ·next h1 =>
  refine⟨λf hf=>?_,?_,e.symm,Int.mul_pos h.pos d1,?_⟩
  ·rcases List.mem_append.mp hf with hf|hf
   ·exact h.small f hf
   ·rw[List.mem_singleton.mp hf]
    exact⟨d1,Int.lt_of_le_of_lt d2 hb.2⟩
  ·rw[qU,h.prod]
  ·rw[List.length_append,List.length_append]
   exact Nat.add_le_add_right h.len 1
 ·next h1 =>
  have e1:b / (Int.gcd p.2 b:Int)=1:=by omega
  refine⟨h.small,h.prod,?_,h.pos,?_⟩
  ·rw[e,e1,Int.mul_one]
  ·rw[List.length_append]
   exact Nat.le_trans h.len (Nat.le_add_right _ _)
theorem wR(ns:List Int)(b:Int):nO (ns++[b])=qk (nO ns) b:=by
 unfold nO
 rw[List.foldl_append]
 rfl
theorem uc{ns:List Int}(h:∀n∈ns,nH n):∀i,i<=ns.length->CW (nO (ns.take i)) (ns.take i)
 | 0,_=>by
  rw[List.take_zero]
  exact⟨λf hf=>(by cases hf),rfl,rfl,(by decide),Nat.le_refl _⟩
 |i+1,hi=>by
  have e:=List.getElem?_eq_getElem (l:=ns) (i:=i) hi
  rw[take_snoc e,wR]
  exact(uc h i (Nat.le_of_lt hi)).step (h _ (List.getElem_mem hi))
theorem Ll{ns:List Int}(h:∀n∈ns,nH n):CW (nO ns) ns:=by
 have z:=uc h ns.length (Nat.le_refl _)
 rw[List.take_length]at z
 exact z
theorem A3(fo fm:cG)(rows:List (List cG)):(kX fo fm rows).foldl lm 1=cF fo.2 fm.2 rows:=by
 unfold kX cF
 rw[List.foldl_cons,List.foldl_cons,OI]
end GP
namespace GP
open PySem L2 xG
structure Dm(K:PySem.W.Frag)(x qual:Str)(st:Stmt)(ps:List Str)(f:Addr)(fd:FuncData):Prop where
 fn:JO K x qual st f fd
 b:Binds K fd ps []
def Dat(H H':Hp):Prop:=∀b u,(∀C dx fs,u≠HO.ins C dx fs)->H b=some u->H' b=some u
theorem Dat.of{H H':Hp}(e:ak H H'):Dat H H':=λb u _ h=>e b u h
theorem Dat.trans{H H' Mw:Hp}(e:Dat H H')(f:Dat H' Mw):Dat H Mw:=λb u n h=>f b u n (e b u n h)
theorem Dat.set{H:Hp}{x C dx:Addr}{fs fs':List (Str×V)}(h:H x=some (.ins C dx fs)):Dat H (L2.upd H x (.ins C dx fs')):=λb u n e=>by
 rw[au (λz=>by subst z;rw[h]at e;cases e;exact n _ _ _ rfl)];exact e
theorem Dat.tup{K:PySem.W.Frag}{H H':Hp}{a:Addr}{xs:List V}(e:Dat H H')(h:cT K H a xs):cT K H' a xs:=by
 rcases h with(h|⟨o,h⟩)|h
 ·exact .inl (.inl (e _ _ (λ_ _ _ z=>by cases z) h))
 ·exact .inl (.inr ⟨o,e _ _ (λ_ _ _ z=>by cases z) h⟩)
 ·exact .inr h
theorem Dat.lst{K:PySem.W.Frag}{H H':Hp}{a:Addr}{xs:List V}(e:Dat H H')(h:cS K H a xs):cS K H' a xs:=by
 rcases h with(h|⟨o,h⟩)|h
 ·exact .inl (.inl (e _ _ (λ_ _ _ z=>by cases z) h))
 ·exact .inl (.inr ⟨o,e _ _ (λ_ _ _ z=>by cases z) h⟩)
 ·exact .inr h
theorem Dat.cp{K:PySem.W.Frag}{H H':Hp}{c:Cp}{xs:List V}(e:Dat H H')(h:c.at K H xs):c.at K H' xs:=by
 cases c with
 |lst a=>exact Dat.lst e h
 |tup a=>exact Dat.tup e h
 |txt x=>exact h
theorem jY.dat{K:PySem.W.Frag}{H H':Hp}{p:Addr}{f:cG}(e:Dat H H')(h:jY K H p f):jY K H' p f:=Dat.tup e h
theorem jW.dat{K:PySem.W.Frag}{H H':Hp}{c:Cp}{fs:List cG}(e:Dat H H')(h:jW K H c fs):jW K H' c fs:=by
 obtain⟨ps,a,b⟩:=h
 exact⟨ps,Dat.cp e a,Paired.iK b λ_ _ z=>z.dat e⟩
def Aw(K:PySem.W.Frag)(H:Hp)(P:Addr)(rows:List (List cG)):Prop:=∃qs:List Addr,cT K H P (qs.map V.ref)/\Paired (λq r=>jW K H (.tup q) r) qs rows
theorem Aw.dat{K:PySem.W.Frag}{H H':Hp}{P:Addr}{rows:List (List cG)}(e:Dat H H')(h:Aw K H P rows):Aw K H' P rows:=by
 obtain⟨cs,a,b⟩:=h
 exact⟨cs,Dat.tup e a,Paired.iK b λ_ _ z=>z.dat e⟩
theorem qV{α β γ:Type}{F:γ->β->Prop}{g:α->γ}:∀{l₁:List α} {l₂:List β},Paired (λa b=>F (g a) b) l₁ l₂->Paired F (l₁.map g) l₂
 |_,_,.nil=>.nil
 |_,_,.cons r t=>.cons r (qV t)
theorem Aw.ZT{K:PySem.W.Frag}{H:Hp}{P:Addr}{rows:List (List cG)}(h:Aw K H P rows):Mu K H (.tup P) rows:=by
 obtain⟨qs,a,b⟩:=h
 refine⟨qs.map Cp.tup,?_,qV b⟩
 rw[List.map_map]
 exact a
theorem Jr{K:PySem.W.Frag}{H:Hp}{c:Cp}{xs:List V}(h:c.at K H xs)(hx:∀x,c≠ .txt x):PD K c.val H xs.length:=by
 cases c with
 |lst a=>exact .inl ⟨_,h,rfl⟩
 |tup a=>exact .inr ⟨_,h,rfl⟩
 |txt x=>exact absurd rfl (hx x)
theorem jW.len{K:PySem.W.Frag}{H:Hp}{c:Cp}{fs:List cG}(h:jW K H c fs)(hx:∀x,c≠ .txt x):PD K c.val H fs.length:=by
 obtain⟨ps,a,b⟩:=h
 have z:=Jr a hx
 rw[List.length_map,Paired.len b]at z
 exact z
def oq(n:Nat):Bool:=(decide ((32:Int)<=(n:Int))&&decide ((n:Int)<=126))&& !K5 (.int n) [.int 34,.int 37,.int 45]
def zp(x:Str):Prop:=0<x.cps.size/\x.cps.size<=100/\(∀c∈x.cps.toList,oq c=true)/\x.cps.toList.Nodup
theorem oZ{x:Str}(h:x.cps.toList.Nodup){i j a b:Nat}(hi:x.cps[i]? =some a)(hj:x.cps[j]? =some b)(hij:i≠j):a≠b:=by
 intro z
 subst z
 rw[←Array.getElem?_toList]at hi hj
 exact hij ((List.getElem?_inj (List.getElem?_eq_some_iff.mp hi).1 h).mp (hi.trans hj.symm))
theorem E8(val:Nat->Str)(k:Str):∀i,(met val i).any (·==k)=true->∃j,j<i/\val j=k
 | 0,h=>by rw[wz]at h;cases h
 |i+1,h=>by
  rw[pD,sD,Bool.or_eq_true]at h
  rcases h with h|h
  ·obtain⟨j,h1,h2⟩:=E8 val k i h
   exact⟨j,by omega,h2⟩
  ·exact⟨i,by omega,(of_decide_eq_true h).symm⟩
theorem BY{val:Nat->Str}{n:Nat}(h:∀i j,i<n->j<n->i≠j->val i≠val j):∀i,i<=n->(met val i).length=i
 | 0,_=>by rw[wz];rfl
 |i+1,hi=>by
  rw[pD,oQ]
  have e:¬((met val i).any (·==val i)=true):=λz=>by
   obtain⟨j,h1,h2⟩:=E8 val _ i z
   exact h j i (by omega) (by omega) (by omega) h2
  rw[if_neg e,BY h i (by omega)]
theorem Gm{x:Str}(h:x.cps.toList.Nodup):(met (lH x) x.cps.size).length=x.cps.size:=by
 refine BY (n:=x.cps.size) (λi j hi hj hij z=>?_) _ (Nat.le_refl _)
 unfold lH at z
 have e1:x.cps[i]? =some (x.cps.getD i 0):=by simp[hi]
 have e2:x.cps[j]? =some (x.cps.getD j 0):=by simp[hj]
 refine oZ h e1 e2 hij ?_
 have z2: #[x.cps.getD i 0]= #[x.cps.getD j 0]:=congrArg Str.cps z
 simpa using z2
def Bm:Sp:=λvs H Q _=>∃c:Nat,vs=[.str ⟨#[c]⟩]/\Q (.bl (oq c)) H
def vJ:Sp:=λvs H Q _=>∃x:Str,vs=[.str x]/\x.cps.size<=1000/\∀H',ak H H'->Q (.bl (x.cps.toList.all oq)) H'
def rP:Sp:=λvs H Q _=>∃x:Str,vs=[.str x]/\zp x/\∀H',ak H H'->Q .i9 H'
def Mt(c:Cp):Prop:=∀x,c≠ .txt x
def GZ(K:PySem.W.Frag)(H:Hp)(c:Cp)(rows:List (List cG)):Prop:=Mt c/\∃cs:List Cp,(∀d∈cs,Mt d)/\c.at K H (cs.map Cp.val)/\Paired (jW K H) cs rows
theorem GZ.dat{K:PySem.W.Frag}{H H':Hp}{c:Cp}{rows:List (List cG)}(e:Dat H H')(h:GZ K H c rows):GZ K H' c rows:=by
 obtain⟨n,cs,m,a,b⟩:=h
 exact⟨n,cs,m,Dat.cp e a,Paired.iK b λ_ _ z=>z.dat e⟩
def JM(n:Nat)(rows:List (List cG)):Prop:=rows.length=n/\∀r∈rows,r.length=n
def oY(K:PySem.W.Frag):Sp:=λvs H Q _=>∃(x:Str) (c:Cp) (rows:List (List cG)),vs=[.str x,c.val]/\GZ K H c rows/\x.cps.size<=100/\JM x.cps.size rows/\Q .i9 H
def JP(rows:List (List cG))(i j:Nat)(f:cG):Prop:=∃r,rows[i]? =some r/\r[j]? =some f
def keyOf(a b:Nat):List Key:=[.inr ⟨#[a]⟩,.inr ⟨#[b]⟩]
def EB(kvs:List (List Key×V))(x:Str)(rows:List (List cG))(u:Int):Prop :=
 ∀i j a b f,x.cps[i]? =some a->x.cps[j]? =some b->JP rows i j f->lF kvs (keyOf a b)=some (.int (f.1*(u / f.2)))
def Sm(i:Int):Prop:=i.natAbs<2 ^ 200
def Bu(i:Int):Prop:=i.natAbs<=2 ^ 4380
theorem Sm.bg{i:Int}(h:Sm i):Bg i:=Nat.lt_of_lt_of_le h (Nat.pow_le_pow_right (by decide) (by decide))
theorem Bu.bg{i:Int}(h:Bu i):Bg i:=Nat.lt_of_le_of_lt h (Nat.pow_lt_pow_right (by decide) (by decide))
def SQ(u:Int)(f:cG):Prop:=CK f/\Sm f.1/\Bu (u / f.2)
def EO(K:PySem.W.Frag):Sp:=λvs H Q _=>∃(x:Str) (P:Addr) (u:Int) (rows:List (List cG)),vs=[.str x,.ref P,.int u]/\Aw K H P rows/\x.cps.size<=100/\x.cps.toList.Nodup/\JM x.cps.size rows/\(∀r∈rows,∀f∈r,SQ u f) ∧
 ∀d H' kvs,ak H H'->H d=none->H' d=some (.dT kvs)->EB kvs x rows u->Q (.ref d) H'
def jd(x:Str)(P o m:Addr)(u:Int)(d:Addr×Addr):List (Str×V) :=
 aF "costs" (.ref d.1) (aF "unit" (.int u) (aF "factors" (.ref d.2) (aF "more" (.ref m) (aF "opening" (.ref o) (aF "pairs" (.ref P) (aF "signs" (.str x) []))))))
theorem Cj{x:Str}{P o m:Addr}{u:Int}{d:Addr×Addr}:(jd x P o m u d).lookup ("signs" :Str)=some (.str x):=by
 unfold jd
 rw[av,if_neg (by decide +kernel),av,if_neg (by decide +kernel),av,if_neg (by decide +kernel),av,if_neg (by decide +kernel),av,if_neg (by decide +kernel),av,if_neg (by decide +kernel),av,if_pos rfl]
theorem ya{x:Str}{P o m:Addr}{u:Int}{d:Addr×Addr}:(jd x P o m u d).lookup ("opening" :Str)=some (.ref o):=by
 unfold jd
 rw[av,if_neg (by decide +kernel),av,if_neg (by decide +kernel),av,if_neg (by decide +kernel),av,if_neg (by decide +kernel),av,if_pos rfl]
theorem Ed{x:Str}{P o m:Addr}{u:Int}{d:Addr×Addr}:(jd x P o m u d).lookup ("more" :Str)=some (.ref m):=by
 unfold jd
 rw[av,if_neg (by decide +kernel),av,if_neg (by decide +kernel),av,if_neg (by decide +kernel),av,if_pos rfl]
theorem yb{x:Str}{P o m:Addr}{u:Int}{d:Addr×Addr}:(jd x P o m u d).lookup ("factors" :Str)=some (.ref d.2):=by
 unfold jd
 rw[av,if_neg (by decide +kernel),av,if_neg (by decide +kernel),av,if_pos rfl]
theorem wN{x:Str}{P o m:Addr}{u:Int}{d:Addr×Addr}:(jd x P o m u d).lookup ("unit" :Str)=some (.int u):=by
 unfold jd
 rw[av,if_neg (by decide +kernel),av,if_pos rfl]
theorem Ck{x:Str}{P o m:Addr}{u:Int}{d:Addr×Addr}:(jd x P o m u d).lookup ("costs" :Str)=some (.ref d.1):=by
 unfold jd
 rw[av,if_pos rfl]
def vc(x:Str)(P o m:Addr)(u:Int)(d:Addr×Addr)(ou mu:Int):List (Str×V) :=
 aF "more_units" (.int mu) (aF "opening_units" (.int ou) (jd x P o m u d))
theorem wM {x:Str} {P o m:Addr} {u:Int} {d:Addr×Addr} {ou mu:Int} {f:Str} (h1:¬f= "more_units") (h2:¬f= "opening_units"):(vc x P o m u d ou mu).lookup f=(jd x P o m u d).lookup f:=by
 unfold vc
 rw[av,if_neg h1,av,if_neg h2]
theorem oB{x:Str}{P o m:Addr}{u:Int}{d:Addr×Addr}{ou mu:Int}:(vc x P o m u d ou mu).lookup ("signs" :Str)=some (.str x):=(wM (by decide +kernel) (by decide +kernel)).trans Cj
theorem oE{x:Str}{P o m:Addr}{u:Int}{d:Addr×Addr}{ou mu:Int}:(vc x P o m u d ou mu).lookup ("factors" :Str)=some (.ref d.2):=(wM (by decide +kernel) (by decide +kernel)).trans yb
theorem Ec{x:Str}{P o m:Addr}{u:Int}{d:Addr×Addr}{ou mu:Int}:(vc x P o m u d ou mu).lookup ("costs" :Str)=some (.ref d.1):=(wM (by decide +kernel) (by decide +kernel)).trans Ck
theorem qI {x:Str} {P o m:Addr} {u:Int} {d:Addr×Addr} {v:V} {f:Str} (h2:¬f= "opening_units"):(aF "opening_units" v (jd x P o m u d)).lookup f=(jd x P o m u d).lookup f:=by
 rw[av,if_neg h2]
theorem rH{x:Str}{P o m:Addr}{u:Int}{d:Addr×Addr}{ou mu:Int}:(vc x P o m u d ou mu).lookup ("opening_units" :Str)=some (.int ou):=by
 unfold vc
 rw[av,if_neg (by decide +kernel),av,if_pos rfl]
theorem uZ{x:Str}{P o m:Addr}{u:Int}{d:Addr×Addr}{ou mu:Int}:(vc x P o m u d ou mu).lookup ("more_units" :Str)=some (.int mu):=by
 unfold vc
 rw[av,if_pos rfl]
theorem IA{x:Str}{P o m:Addr}:(aF "more" (.ref m) (aF "opening" (.ref o) (aF "pairs" (.ref P) (aF "signs" (.str x) []))):List (Str×V)).lookup ("pairs" :Str)=some (.ref P):=by
 rw[av,if_neg (by decide +kernel),av,if_neg (by decide +kernel),av,if_pos rfl]
theorem DV{x:Str}{P o m:Addr}:(aF "more" (.ref m) (aF "opening" (.ref o) (aF "pairs" (.ref P) (aF "signs" (.str x) []))):List (Str×V)).lookup ("opening" :Str)=some (.ref o):=by
 rw[av,if_neg (by decide +kernel),av,if_pos rfl]
theorem KI{x:Str}{P o m:Addr}:(aF "more" (.ref m) (aF "opening" (.ref o) (aF "pairs" (.ref P) (aF "signs" (.str x) []))):List (Str×V)).lookup ("more" :Str)=some (.ref m):=by
 rw[av,if_pos rfl]
theorem DW{x:Str}{P o m fl:Addr}:(aF "factors" (.ref fl) (aF "more" (.ref m) (aF "opening" (.ref o) (aF "pairs" (.ref P) (aF "signs" (.str x) [])))):List (Str×V)).lookup ("factors" :Str)=some (.ref fl):=by
 rw[av,if_pos rfl]
theorem Iz{x:Str}{P o m fl:Addr}{u:Int}:(aF "unit" (.int u) (aF "factors" (.ref fl) (aF "more" (.ref m) (aF "opening" (.ref o) (aF "pairs" (.ref P) (aF "signs" (.str x) []))))):List (Str×V)).lookup ("signs" :Str)=some (.str x):=by
 rw[av,if_neg (by decide +kernel),av,if_neg (by decide +kernel),av,if_neg (by decide +kernel),av,if_neg (by decide +kernel),av,if_neg (by decide +kernel),av,if_pos rfl]
theorem Ge{x:Str}{P o m fl:Addr}{u:Int}:(aF "unit" (.int u) (aF "factors" (.ref fl) (aF "more" (.ref m) (aF "opening" (.ref o) (aF "pairs" (.ref P) (aF "signs" (.str x) []))))):List (Str×V)).lookup ("pairs" :Str)=some (.ref P):=by
 rw[av,if_neg (by decide +kernel),av,if_neg (by decide +kernel),av,if_neg (by decide +kernel),av,if_neg (by decide +kernel),av,if_pos rfl]
theorem KH{x:Str}{P o m fl:Addr}{u:Int}:(aF "unit" (.int u) (aF "factors" (.ref fl) (aF "more" (.ref m) (aF "opening" (.ref o) (aF "pairs" (.ref P) (aF "signs" (.str x) []))))):List (Str×V)).lookup ("unit" :Str)=some (.int u):=by
 rw[av,if_pos rfl]
theorem aX{f:Str}{v:V}{fs:List (Str×V)}{n:Nat}(h:fs.length<=n):(aF f v fs).length<=n+1:=by
 have:=pG f v fs
 omega
structure mO(K:PySem.W.Frag)(C:Addr)(H:Hp)(x:Addr)(sg:Str)(rows:List (List cG))(fo fm:cG):Prop where
 sig:zp sg
 X5:JM sg.cps.size rows
 ok:∀r∈rows,∀f∈r,SQ (cF fo.2 fm.2 rows) f
 Il:SQ (cF fo.2 fm.2 rows) fo
 Im:SQ (cF fo.2 fm.2 rows) fm
 pos:0<cF fo.2 fm.2 rows
 big:Bu (cF fo.2 fm.2 rows)
 ob:∃dx P o m,∃d:Addr×Addr,∃kvs,H x=some (.ins C dx (vc sg P o m (cF fo.2 fm.2 rows) d (fo.1*(cF fo.2 fm.2 rows / fo.2)) (fm.1*(cF fo.2 fm.2 rows / fm.2))))/\Aw K H P rows/\jY K H o fo/\jY K H m fm/\H d.1=some (.dT kvs)/\EB kvs sg rows (cF fo.2 fm.2 rows) ∧
  ∃fs:List Int,(∀f∈fs,nH f)/\qw fs=cF fo.2 fm.2 rows/\H d.2=some (.lst (fs.map V.int))
theorem mO.same{K:PySem.W.Frag}{C:Addr}{H H':Hp}{x:Addr}{sg:Str}{rows:List (List cG)}{fo fm:cG}(e:ak H H')(h:mO K C H x sg rows fo fm):mO K C H' x sg rows fo fm:=by
 obtain⟨a,b,c,d,f,g,i,dx,P,o,m,dd,kvs,h1,h2,h3,h4,h5,h6,fs,h7,h8,h9⟩:=h
 exact⟨a,b,c,d,f,g,i,dx,P,o,m,dd,kvs,e _ _ h1,h2.dat (Dat.of e),h3.same e,h4.same e,e _ _ h5,h6,fs,h7,h8,e _ _ h9⟩
def JC(H:Hp)(x c:Addr):Prop:=∀C dx fs,H x=some (.ins C dx fs)->fs.lookup ("factors" :Str)≠some (.ref c)
def SO(f:cG):Prop:=CK f/\Sm f.1
def x6(rows:List (List cG)):List (List cG):=rows.map λr=>r.map j0
def HP(K:PySem.W.Frag)(C:Addr):Sp:=λvs H Q _=>∃(x dx o m:Addr) (sg:Str) (c:Cp) (rows:List (List cG)) (fo fm:cG),vs=[.ref x,.str sg,c.val,.ref o,.ref m]/\H x=some (.ins C dx [])/\zp sg/\sg.cps.size<=12 ∧
 GZ K H c rows/\JM sg.cps.size rows/\(∀r∈rows,∀f∈r,SO f)/\jY K H o fo/\SO fo/\jY K H m fm/\SO fm ∧
 ∀H',mO K C H' x sg (x6 rows) (j0 fo) (j0 fm)->(∀b u,H b=some u->b≠x->H' b=some u)->(∀c,H c≠none->JC H' x c)->Q .i9 H'
def qO(K:PySem.W.Frag)(C:Addr):Sp:=λvs H Q _=>∃(x:Addr) (sg:Str) (rows:List (List cG)) (fo fm:cG) (i j a b:Nat) (f:cG),vs=[.ref x,.str ⟨#[a]⟩,.str ⟨#[b]⟩]/\mO K C H x sg rows fo fm ∧
 sg.cps[i]? =some a/\sg.cps[j]? =some b/\JP rows i j f/\∀H',ak H H'->Q (.int (f.1*(cF fo.2 fm.2 rows / f.2))) H'
def tH(K:PySem.W.Frag)(C:Addr):Sp:=λvs H Q _=>∃(x:Addr) (sg:Str) (rows:List (List cG)) (fo fm:cG),vs=[.ref x]/\mO K C H x sg rows fo fm/\Q (.int (fo.1*(cF fo.2 fm.2 rows / fo.2))) H
def Dq(K:PySem.W.Frag)(C:Addr):Sp:=λvs H Q _=>∃(x:Addr) (sg:Str) (rows:List (List cG)) (fo fm:cG),vs=[.ref x]/\mO K C H x sg rows fo fm/\Q (.int (fm.1*(cF fo.2 fm.2 rows / fm.2))) H
def tK(K:PySem.W.Frag)(C:Addr):Sp:=λvs H Q _=>∃(x:Addr) (n:Int) (sg:Str) (rows:List (List cG)) (fo fm:cG),vs=[.ref x,.int n]/\mO K C H x sg rows fo fm ∧
 ∀q H',ak H H'->H q=none->H' q=some (.tup [.int (j0 (n,cF fo.2 fm.2 rows)).1,.int (j0 (n,cF fo.2 fm.2 rows)).2])->Q (.ref q) H'
end GP
namespace GP
open PySem L2 xG
theorem mF{α β:Type}{l:List α}{g:α->β}{i:Nat}{y:β}(h:(l.map g)[i]? =some y):∃x,l[i]? =some x/\y=g x:=by
 rw[List.getElem?_map]at h
 cases e:l[i]? with
 |none=>rw[e]at h;cases h
 |some x=>rw[e]at h;exact⟨x,rfl,(Option.some.inj h).symm⟩
def kC(kvs:List (List Key×V))(x:Str)(rows:List (List cG))(u:Int)(n m:Nat):Prop :=
 ∀i j a b f,(i<n\/(i=n/\j<m))->x.cps[i]? =some a->x.cps[j]? =some b->JP rows i j f->lF kvs (keyOf a b)=some (.int (f.1*(u / f.2)))
theorem kC.nil(x:Str)(rows:List (List cG))(u:Int):kC [] x rows u 0 0:=λi j a b f h=>by omega
theorem Gr{a b c d:Nat}(h:keyOf a b=keyOf c d):a=c/\b=d:=by
 unfold keyOf at h
 have h1:=(List.cons.inj h).1
 have h2:=(List.cons.inj (List.cons.inj h).2).1
 have e1:(⟨#[a]⟩:Str)=⟨#[c]⟩:=Sum.inr.inj h1
 have e2:(⟨#[b]⟩:Str)=⟨#[d]⟩:=Sum.inr.inj h2
 have z1: #[a]= #[c]:=congrArg Str.cps e1
 have z2: #[b]= #[d]:=congrArg Str.cps e2
 exact⟨by simpa using z1,by simpa using z2⟩
theorem kC.put{kvs:List (List Key×V)}{x:Str}{rows:List (List cG)}{u:Int}{n m a b:Nat}{f:cG}(nd:x.cps.toList.Nodup)(h:kC kvs x rows u n m)(ha:x.cps[n]? =some a)(hb:x.cps[m]? =some b)(hf:JP rows n m f):
  kC (putK kvs (keyOf a b) (.int (f.1*(u / f.2)))) x rows u n (m+1):=by
 intro i j c d g hij hc hd hg
 rw[A0]
 by_cases e:i=n/\j=m
 ·obtain⟨rfl,rfl⟩:=e
  rw[ha]at hc
  rw[hb]at hd
  cases hc
  cases hd
  obtain⟨r,r1,r2⟩:=hf
  obtain⟨r',r3,r4⟩:=hg
  rw[r1]at r3
  cases r3
  rw[r2]at r4
  cases r4
  rw[if_pos rfl]
 ·have hne:¬keyOf c d=keyOf a b:=λz=>by
   obtain⟨z1,z2⟩:=Gr z
   subst z1 z2
   refine e ⟨?_,?_⟩
   ·exact Decidable.byContradiction λq=>oZ nd hc ha q rfl
   ·exact Decidable.byContradiction λq=>oZ nd hd hb q rfl
  rw[if_neg hne]
  exact h i j c d g (by omega) hc hd hg
theorem kC.row{kvs:List (List Key×V)}{x:Str}{rows:List (List cG)}{u:Int}{n m:Nat}(hm:x.cps.size<=m)(h:kC kvs x rows u n m):kC kvs x rows u (n+1) 0:=by
 intro i j a b f hij ha hb hf
 refine h i j a b f ?_ ha hb hf
 have:j<x.cps.size:=by
  rw[←Array.getElem?_toList]at hb
  have:=(List.getElem?_eq_some_iff.mp hb).1
  simpa using this
 omega
theorem kC.all{kvs:List (List Key×V)}{x:Str}{rows:List (List cG)}{u:Int}{n:Nat}(hn:x.cps.size<=n)(h:kC kvs x rows u n 0):EB kvs x rows u:=by
 intro i j a b f ha hb hf
 refine h i j a b f (.inl ?_) ha hb hf
 have:i<x.cps.size:=by
  rw[←Array.getElem?_toList]at ha
  have:=(List.getElem?_eq_some_iff.mp ha).1
  simpa using this
 omega
theorem IK{a b:Int}(ha:0<a)(hb:0<b):0<lm a b:=by
 have h:=oA a hb
 have:=Int.ediv_pos_of_pos_of_dvd ha (Int.le_of_lt h) (Int.gcd_dvd_left a b)
 exact Int.mul_pos this hb
theorem rJ(a g:Int):(a / g).natAbs<=a.natAbs:=Int.natAbs_ediv_le_natAbs a g
theorem IL(a b:Int):(lm a b).natAbs<=a.natAbs*b.natAbs:=by
 unfold lm
 rw[Int.natAbs_mul]
 exact Nat.mul_le_mul_right _ (rJ a _)
theorem Cg:∀(l:List Int) {u:Int},0<u->(∀b∈l,0<b)->0<l.foldl lm u
 |[],_,h,_=>h
 |b::l,_,h,hb=>Cg l (IK h (hb b List.mem_cons_self)) λc hc=>hb c (List.mem_cons_of_mem _ hc)
theorem Ci{B:Nat}:∀(l:List Int) {u:Int},(∀b∈l,b.natAbs<=B)->(l.foldl lm u).natAbs<=u.natAbs*B ^ l.length
 |[],_,_=>by simp
 |b::l,u,h=>by
  have h1:=Ci (B:=B) l (u:=lm u b) λc hc=>h c (List.mem_cons_of_mem _ hc)
  have h2:=IL u b
  have h3:=h b List.mem_cons_self
  show(l.foldl lm (lm u b)).natAbs<=_
  refine Nat.le_trans h1 ?_
  rw[List.length_cons,Nat.pow_succ,Nat.mul_comm (B ^ l.length) B,←Nat.mul_assoc]
  exact Nat.mul_le_mul_right _ (Nat.le_trans h2 (Nat.mul_le_mul_left _ h3))
theorem wO{n:Nat}:∀{rows:List (List cG)},(∀r∈rows,r.length=n)->rows.flatten.length=rows.length*n
 |[],_=>by simp
 |r::rows,h=>by
  rw[List.flatten_cons,List.length_append,h r List.mem_cons_self,wO λr' hr=>h r' (List.mem_cons_of_mem _ hr),List.length_cons,Nat.succ_mul,Nat.add_comm]
theorem CK.abs{f:cG}(h:CK f):f.2.natAbs<=2 ^ 30:=by
 obtain⟨h1,h2⟩:=h
 have:(2:Nat) ^ 30=1073741824:=by decide
 omega
theorem Hv{rows:List (List cG)}{fo fm:cG}(ho:CK fo)(hm:CK fm)(h:∀r∈rows,∀f∈r,CK f):0<cF fo.2 fm.2 rows:=by
 refine Cg _ (IK (by have:=ho.1;omega) (by have:=hm.1;omega)) λb hb=>?_
 obtain⟨f,hf,rfl⟩:=List.mem_map.mp hb
 obtain⟨r,hr,hfr⟩:=List.mem_flatten.mp hf
 have:=(h r hr f hfr).1
 omega
theorem Hw{n:Nat}{rows:List (List cG)}{fo fm:cG}(hn:n<=12)(hs:JM n rows)(ho:CK fo)(hm:CK fm)(h:∀r∈rows,∀f∈r,CK f):Bu (cF fo.2 fm.2 rows):=by
 have h1:(cF fo.2 fm.2 rows).natAbs<=(lm fo.2 fm.2).natAbs*(2 ^ 30) ^ (rows.flatten.map (·.2)).length:=by
  refine Ci _ λb hb=>?_
  obtain⟨f,hf,rfl⟩:=List.mem_map.mp hb
  obtain⟨r,hr,hfr⟩:=List.mem_flatten.mp hf
  exact(h r hr f hfr).abs
 have h2:(lm fo.2 fm.2).natAbs<=2 ^ 30*2 ^ 30:=Nat.le_trans (IL _ _) (Nat.mul_le_mul ho.abs hm.abs)
 have h3:(rows.flatten.map (·.2)).length<=144:=by
  rw[List.length_map,wO hs.2,hs.1]
  exact Nat.le_trans (Nat.mul_le_mul hn hn) (by decide)
 have h4:(2 ^ 30:Nat) ^ (rows.flatten.map (·.2)).length<=(2 ^ 30) ^ 144:=Nat.pow_le_pow_right (by decide) h3
 have h5:(2 ^ 30:Nat)*2 ^ 30*(2 ^ 30) ^ 144<=2 ^ 4380:=by
  rw[←Nat.pow_mul,←Nat.pow_add,←Nat.pow_add]
  exact Nat.pow_le_pow_right (by decide) (by decide)
 exact Nat.le_trans h1 (Nat.le_trans (Nat.mul_le_mul h2 h4) h5)
theorem pF{f:cG}(h:CK f):CK (j0 f):=by
 obtain⟨h1,h2⟩:=h
 have h0:0<f.2:=by omega
 have p:=IG f.1 h0
 have l:=lo_le f.1 h0
 exact⟨by show 1<=(lo f.1 f.2).2;omega,by show(lo f.1 f.2).2<_;omega⟩
theorem KP{f:cG}(h:Sm f.1):Sm (j0 f).1:=Nat.lt_of_le_of_lt (rJ _ _) h
theorem Bu.div{u:Int}(h:Bu u)(g:Int):Bu (u / g):=Nat.le_trans (rJ _ _) h
theorem KL{n:Nat}{rows:List (List cG)}(h:JM n rows):JM n (x6 rows):=by
 refine⟨by unfold x6;rw[List.length_map];exact h.1,λr hr=>?_⟩
 obtain⟨r',h',rfl⟩:=List.mem_map.mp hr
 rw[List.length_map]
 exact h.2 r' h'
theorem Ac{p:cG->Prop}{rows:List (List cG)}(h:∀r∈rows,∀f∈r,p (j0 f)):∀r∈x6 rows,∀f∈r,p f:=by
 intro r hr f hf
 obtain⟨r',h',rfl⟩:=List.mem_map.mp hr
 obtain⟨f',hf',rfl⟩:=List.mem_map.mp hf
 exact h r' h' f' hf'
theorem JP.mem{rows:List (List cG)}{i j:Nat}{f:cG}(h:JP rows i j f):∃r∈rows,f∈r:=by
 obtain⟨r,h1,h2⟩:=h
 exact⟨r,List.mem_of_getElem? h1,List.mem_of_getElem? h2⟩
end GP
namespace GP
open PySem L2 xG
theorem cT.off{K:PySem.W.Frag}{H:Hp}{l a:Addr}{ys xs:List V}{o:HO}(hl:H l=some (.lst ys))(h:cT K H a xs):cT K (L2.upd H l o) a xs:=by
 rcases h with(h|⟨u,h⟩)|h
 ·exact .inl (.inl (by rw[au (pq h hl (by intro z;cases z))];exact h))
 ·exact .inl (.inr ⟨u,by rw[au (pq h hl (by intro z;cases z))];exact h⟩)
 ·exact .inr h
theorem jW.off{K:PySem.W.Frag}{H:Hp}{l q:Addr}{ys:List V}{fs:List cG}{o:HO}(hl:H l=some (.lst ys))(h:jW K H (.tup q) fs):jW K (L2.upd H l o) (.tup q) fs:=by
 obtain⟨ps,a,b⟩:=h
 exact⟨ps,cT.off hl a,Paired.iK b λ_ _ z=>cT.off hl z⟩
def Off(x:Addr)(H H':Hp):Prop:=∀b u,H b=some u->b≠x->H' b=some u
theorem Off.of{x:Addr}{H H':Hp}(e:ak H H'):Off x H H':=λb u h _=>e b u h
theorem Off.trans{x:Addr}{H H' Mw:Hp}(e:Off x H H')(f:Off x H' Mw):Off x H Mw:=λb u h n=>f b u (e b u h n) n
theorem Off.set{x:Addr}{H:Hp}{o:HO}:Off x H (L2.upd H x o):=λb u h n=>by rw[au n];exact h
theorem Off.dat{x C dx:Addr}{fs:List (Str×V)}{H H':Hp}(hx:H x=some (.ins C dx fs))(e:Off x H H'):Dat H H':=λb u n h=>e b u h λz=>by
 subst z
 rw[hx]at h
 cases h
 exact n _ _ _ rfl
theorem Yb{a:Str}{x:V}:(aF a x []).length<1000:=Nat.lt_of_le_of_lt (aX (Nat.le_refl 0)) (by decide)
theorem ZJ{a b:Str}{x y:V}:(aF a x (aF b y [])).length<1000:=Nat.lt_of_le_of_lt (aX (aX (Nat.le_refl 0))) (by decide)
theorem ZI{a b c:Str}{x y z:V}:(aF a x (aF b y (aF c z []))).length<1000:=Nat.lt_of_le_of_lt (aX (aX (aX (Nat.le_refl 0)))) (by decide)
theorem ZH{a b c d:Str}{x y z w:V}:(aF a x (aF b y (aF c z (aF d w [])))).length<1000:=Nat.lt_of_le_of_lt (aX (aX (aX (aX (Nat.le_refl 0))))) (by decide)
theorem ZG{a b c d e:Str}{x y z w v:V}:(aF a x (aF b y (aF c z (aF d w (aF e v []))))).length<1000:=Nat.lt_of_le_of_lt (aX (aX (aX (aX (aX (Nat.le_refl 0)))))) (by decide)
theorem ZF{a b c d e g:Str}{x y z w v t:V}:(aF a x (aF b y (aF c z (aF d w (aF e v (aF g t [])))))).length<1000:=Nat.lt_of_le_of_lt (aX (aX (aX (aX (aX (aX (Nat.le_refl 0))))))) (by decide)
theorem ZE{x:Str}{P o m:Addr}{u:Int}{d:Addr×Addr}:(jd x P o m u d).length<1000:=Nat.lt_of_le_of_lt (aX (aX (aX (aX (aX (aX (aX (Nat.le_refl 0)))))))) (by decide)
theorem ZD{x:Str}{P o m:Addr}{u:Int}{d:Addr×Addr}{a:Str}{v:V}:(aF a v (jd x P o m u d)).length<1000:=Nat.lt_of_le_of_lt (aX (aX (aX (aX (aX (aX (aX (aX (Nat.le_refl 0))))))))) (by decide)
end GP
namespace GP
open PySem L2 xG
theorem Fx{a b c:Int}(h:Int.gcd a b=1)(d:a∣b*c):a∣c:=by
 have d':a.natAbs∣b.natAbs*c.natAbs:=by rw[←Int.natAbs_mul];exact Int.natAbs_dvd_natAbs.mpr d
 have h':Nat.Coprime a.natAbs b.natAbs:=h
 exact Int.natAbs_dvd_natAbs.mp (h'.dvd_of_dvd_mul_left d')
theorem IE{x y x' y':Int}(hy:0<y)(hy':0<y')(h:Int.gcd x y=1)(h':Int.gcd x' y'=1)(e:x*y'=x'*y):x=x'/\y=y':=by
 have d1:y∣y':=Fx (b:=x) (by rw[Int.gcd_comm];exact h) (by rw[e];exact Int.dvd_mul_left _ _)
 have d2:y'∣y:=Fx (b:=x') (by rw[Int.gcd_comm];exact h') (by rw[←e];exact Int.dvd_mul_left _ _)
 have ey:=Int.dvd_antisymm (Int.le_of_lt hy) (Int.le_of_lt hy') d1 d2
 subst ey
 exact⟨Int.eq_of_mul_eq_mul_right (Int.ne_of_gt hy) e,rfl⟩
theorem Js{ov un b:Int}(hb:0<b)(hg:Int.gcd ov un=1):Int.gcd (ov / (Int.gcd ov b:Int)) (un*(b / (Int.gcd ov b:Int)))=1:=by
 have h1:Int.gcd (ov / (Int.gcd ov b:Int)) (b / (Int.gcd ov b:Int))=1:=II ov hb
 have h2:Int.gcd (ov / (Int.gcd ov b:Int)) un=1:=by
  refine Nat.dvd_one.mp ?_
  rw[←hg]
  refine Int.dvd_gcd (Int.dvd_trans (Int.gcd_dvd_left ..) ?_) (Int.gcd_dvd_right ..)
  exact⟨_,(D4 ov b).symm⟩
 have z:Nat.Coprime (ov / (Int.gcd ov b:Int)).natAbs (un.natAbs*(b / (Int.gcd ov b:Int)).natAbs):=Nat.Coprime.mul_right h2 h1
 rw[←Int.natAbs_mul]at z
 exact z
theorem Ei{ov un b n p:Int}(he:ov*p=n*un):ov / (Int.gcd ov b:Int)*(p*b)=n*(un*(b / (Int.gcd ov b:Int))):=by
 have h1:=D4 ov b
 have h2:=IF ov b
 unfold lo at h1 h2
 dsimp only at h1 h2
 generalize ov / (Int.gcd ov b:Int)=x at *
 generalize b / (Int.gcd ov b:Int)=y at *
 generalize (Int.gcd ov b:Int)=g at *
 rw[←Int.mul_assoc n,←he,←h1,←h2]
 ac_rfl
theorem Rc{n U ov un:Int}(hU:0<U)(hun:0<un)(hg:Int.gcd ov un=1)(he:ov*U=n*un):j0 (n,U)=(ov,un):=by
 have c:=IJ n U
 have e:(lo n U).1*un=ov*(lo n U).2:=by
  refine Int.eq_of_mul_eq_mul_right (Int.ne_of_gt hU) ?_
  calc (lo n U).1*un*U=(lo n U).1*U*un:=by ac_rfl
   _=n*un*(lo n U).2:=by rw[c];ac_rfl
   _=ov*(lo n U).2*U:=by rw[←he];ac_rfl
 obtain⟨z1,z2⟩:=IE (IG n hU) hun (II n hU) hg e
 show lo n U=(ov,un)
 rw[←z1,←z2]
end GP
namespace L2
open PySem PySem.Spec PyProof.Rows
def uC(scope:Scope)(X:Cx):Bool:=scope.names.all λy=>(y.2 != NameKind.free)||(X.env.scope.names.lookup y.1==some NameKind.cell)
def ZW(scope:Scope)(X:Cx)(N:List Str)(nt:Nat)(ix:List Nat):Bool:=(List.range ix.length).all λk=>match N[nt+k]?,ix[k]? with
 |some x,some j=>(X.N[j]? ==some x)&&(scope.names.contains (x,NameKind.free))&&((relabel scope X.env).names.lookup x==some NameKind.cell)
 |_,_=>false
theorem c6.uC{X:Cx}{scope:Scope}{N:List Str}{nt:Nat}{ix:List Nat}(kind:scope.kind= .function)(cell:∀y∈scope.names,y.2= .cell->(y.1,NameKind.free)∉scope.names)
  (names:∀y∈scope.names,y.2= .local->scope.names.lookup y.1=some .local) (hf:L2.uC scope X=true) (hl:N.length=nt+ix.length) (hx:ZW scope X N nt ix=true) (ok:X.Ok) :
  ∃cl,c6 X scope cl N (Ti nt ix):=by
 refine c6.free kind cell names (λy hy hk=>?_) hl (λk j hj=>?_) ok
 ·have z:=List.all_eq_true.mp hf y hy
  rw[hk]at z
  have z2:X.env.scope.names.lookup y.1=some NameKind.cell:=by simpa using z
  exact z2
 ·have hk:k<ix.length:=(List.getElem?_eq_some_iff.mp hj).1
  have z:=List.all_eq_true.mp hx k (List.mem_range.mpr hk)
  have hn:nt+k<N.length:=by omega
  rw[List.getElem?_eq_getElem hn,hj]at z
  simp only[Bool.and_eq_true]at z
  obtain⟨⟨z1,z2⟩,z3⟩:=z
  exact⟨_,List.getElem?_eq_getElem hn,by simpa using z1,by simpa using z2,by simpa using z3⟩
theorem Kp.HV{r:St}{v:Option V}:Kp (none::r) ((none::r).set 0 v):=λi x e=>by
 cases i with
 |zero=>cases e
 |succ i=>exact e
theorem bA{X:Cx}:lA X (.builtin "isinstance") (λxs H Q=>∃x n t b,xs=[x,.ty n]/\(rK X.K H x t\/∃a ys,x= .ref a/\cT X.K H a ys/\t= .type "tuple")/\PySem.W.kitOne X.K t (.type n)=some b/\Q (.bl b) H):=by
 intro pins s σ H xs us Q I r h
 obtain⟨x,n,t,b,rfl,ty,e,q⟩:=h
 obtain⟨u,w',rfl,rx,rn⟩:=vals2 r
 cases rn
 rcases ty with ty|⟨a,ys,rfl,hs,rfl⟩
 ·exact TK.bO (Nat.le_refl s.toks) (Gw I rx ty e λtk hup=>⟨.bl b,H,I.tok _,rfl,q⟩)
 ·cases (show u=Value.ref a from rx)
  obtain⟨its,_,⟨o,h1,h2,_⟩,_⟩:=I.tuple hs
  exact TK.bO (Nat.le_refl s.toks) (PySem.W.kia_one PySem.W.kitx_tuple I.nR ⟨o,h1,h2⟩ e (λz=>nomatch z) λtk hup=>⟨.bl b,H,I.tok _,rfl,q⟩)
end L2
namespace GP
open PySem L2 xG
theorem gz{K:PySem.W.Frag}{t:Value}:PySem.W.kitOne K t t=some true:=by unfold PySem.W.kitOne;rw[if_pos (by simp)]
theorem sH{K:PySem.W.Frag}:PySem.W.kitOne K (.type "int") (.type "bool")=some false:=by kernel_rfl
theorem sG{K:PySem.W.Frag}:PySem.W.kitOne K (.type "int") (.type "list")=some false:=by kernel_rfl
theorem qH{K:PySem.W.Frag}:PySem.W.kitOne K (.type "int") (.type "tuple")=some false:=by kernel_rfl
theorem ux{K:PySem.W.Frag}:PySem.W.kitOne K (.type "int") (.type "str")=some false:=by kernel_rfl
theorem mG{K:PySem.W.Frag}:PySem.W.kitOne K (.type "tuple") (.type "list")=some false:=by kernel_rfl
def Wo(t:Addr)(H:Hp):Hp:=λb=>if b=t then none else H b
theorem Wo.sub{t:Addr}{H:Hp}:ak (Wo t H) H:=λb u h=>by
 unfold Wo at h
 by_cases e:b=t
 ·rw[if_pos e]at h;cases h
 ·rw[if_neg e]at h;exact h
theorem Wo.ne{t:Addr}{H:Hp}{b:Addr}{u:HO}(h:Wo t H b=some u):b≠t:=λe=>by
 unfold Wo at h
 rw[if_pos e]at h;cases h
theorem Wo.in{t:Addr}{H:Hp}{b:Addr}{u:HO}(n:b≠t)(h:H b=some u):Wo t H b=some u:=by
 unfold Wo
 rw[if_neg n];exact h
theorem Wo.free{t:Addr}{H:Hp}{b:Addr}(h:H b=none):Wo t H b=none:=by
 unfold Wo
 split
 ·rfl
 ·exact h
theorem Wo.set{t:Addr}{H:Hp}{o:HO}:Wo t (L2.upd H t o)=Wo t H:=by
 funext b
 unfold Wo
 by_cases e:b=t
 ·rw[if_pos e,if_pos e]
 ·rw[if_neg e,if_neg e,au e]
theorem Wo.same{t:Addr}{H H':Hp}(e:ak H H'):ak (Wo t H) (Wo t H'):=λb u h=>Wo.in (Wo.ne h) (e b u (Wo.sub b u h))
theorem Wo.upd{t:Addr}{H:Hp}{o:HO}:ak (Wo t H) (L2.upd H t o):=λb u h=>by rw[au (Wo.ne h)];exact Wo.sub b u h
theorem vD{H:Hp}{t r:Addr}{o:HO}(h:L2.upd H t o r=none):H r=none:=by
 by_cases e:r=t
 ·rw[e,ah]at h;cases h
 ·rw[au e]at h;exact h
structure tE(K:PySem.W.Frag)(H:Hp)(s t:Addr)(ns:List Int)(k:Int):Prop where
 sq:cS K (Wo t H) s (ns.map V.int)
 len:ns.length<=63
 at_:H t=some (.lst [.int k])
 k0:0<=k
theorem tE.Zs{K:PySem.W.Frag}{H:Hp}{s t:Addr}{ns:List Int}{k:Int}(c:tE K H s t ns k):cS K H s (ns.map V.int):=ak.seq Wo.sub c.sq
theorem tE.QM{K:PySem.W.Frag}{H:Hp}{s t:Addr}{ns:List Int}{k:Int}(c:tE K H s t ns k)(o:HO):cS K (L2.upd H t o) s (ns.map V.int):=ak.seq Wo.upd c.sq
theorem tE.same{K:PySem.W.Frag}{H H':Hp}{s t:Addr}{ns:List Int}{k:Int}(c:tE K H s t ns k)(e:ak H H'):tE K H' s t ns k:=⟨ak.seq (Wo.same e) c.sq,c.len,e _ _ c.at_,c.k0⟩
theorem tE.step{K:PySem.W.Frag}{H:Hp}{s t:Addr}{ns:List Int}{k k':Int}(c:tE K H s t ns k)(h:0<=k'):tE K (L2.upd H t (.lst [.int k'])) s t ns k':=⟨by rw[Wo.set];exact c.sq,c.len,ah,h⟩
theorem tE.off{K:PySem.W.Frag}{H H':Hp}{s t:Addr}{ns:List Int}{k k':Int}(c:tE K H s t ns k)(e:ak (Wo t H) (Wo t H'))(h:H' t=some (.lst [.int k']))(h0:0<=k'):tE K H' s t ns k':=⟨ak.seq e c.sq,c.len,h,h0⟩
theorem wZ{c:Int}(h1: -(10 ^ 40)<=c)(h2:c<=10 ^ 40):Sm c:=by
 have h:c.natAbs<=10 ^ 40:=by omega
 have h3:(10:Nat) ^ 40<2 ^ 200:=by decide
 exact Nat.lt_of_le_of_lt h h3
def JN(f:cG):Prop:=1<=f.2/\f.2<=999/\Sm f.1
theorem JN.h{f:cG}(h:JN f):SO f:=⟨⟨h.1,by have:=h.2.1;omega⟩,h.2.2⟩
def nW(K:PySem.W.Frag):Sp:=λvs H Q _=>∃(s t:Addr) (ns:List Int) (k:Int),vs=[.ref s,.ref t]/\tE K H s t ns k/\k<=100000 ∧
 ∀m:Int,0<=m->m<1999999973->Q (.int m) (L2.upd H t (.lst [.int (k+1)]))
structure sV(K:PySem.W.Frag)(H:Hp)(l:Addr)(rs:List Addr)(rows:List (List cG)):Prop where
 len:rs.length=rows.length
 at_:H l=some (.lst (rs.map V.ref))
 nd:rs.Nodup
 nl:l∉rs
 row:∀(i:Nat) r row,rs[i]? =some r->rows[i]? =some row->∃ps:List Addr,H r=some (.lst (ps.map V.ref))/\Paired (jY K H) ps row
theorem sV.same{K:PySem.W.Frag}{H H':Hp}{l:Addr}{rs:List Addr}{rows:List (List cG)}(e:ak H H')(h:sV K H l rs rows):sV K H' l rs rows :=
 ⟨h.len,e _ _ h.at_,h.nd,h.nl,λi r row h1 h2=>by
  obtain⟨ps,a,b⟩:=h.row i r row h1 h2
  exact⟨ps,e _ _ a,Paired.iK b λ_ _ z=>z.same e⟩⟩
theorem tP{α β:Type}{F:α->β->Prop}:∀{l₁:List α} {l₂:List β},l₁.length=l₂.length->(∀(i:Nat) x y,l₁[i]? =some x->l₂[i]? =some y->F x y)->Paired F l₁ l₂
 |[],[],_,_=>.nil
 |x::l₁,y::l₂,hl,h=>.cons (h 0 x y rfl rfl) (tP (by simpa using hl) λi a b h1 h2=>h (i+1) a b h1 h2)
theorem sV.Wj{K:PySem.W.Frag}{H:Hp}{l:Addr}{rs:List Addr}{rows:List (List cG)}(h:sV K H l rs rows):GZ K H (.lst l) rows:=by
 refine⟨λx z=>(by cases z),rs.map Cp.lst,λd hd x z=>?_,?_,?_⟩
 ·obtain⟨q,_,e⟩:=List.mem_map.mp hd
  rw[←e]at z
  cases z
 ·rw[List.map_map]
  exact cS.of h.at_
 ·refine qV (tP h.len λi r row h1 h2=>?_)
  obtain⟨ps,a,b⟩:=h.row i r row h1 h2
  exact⟨ps,cS.of a,b⟩
end GP
namespace L2
open PySem PySem.Spec PyProof.Rows
set_option maxHeartbeats 2000000 in
theorem zd{X:Cx}{elt tg iter:Expr}{scope:Scope}{pos pos':Pos}{wi:TI}{g:TG}{te:TE}{N:List Str}{mK:St->St}(hc:X.calm=true)(hS:X.Ok->∃cl,c6 X scope cl N mK)(hi:PI X tg iter wi)
  (hg:∀cl C s H ex pn E,PG (gZ X scope cl C N s H ex pn E) tg g) (he:∀cl C s H ex pn E,PE (gZ X scope cl C N s H ex pn E) elt te) (hs:∀x,foldedSetIterable iter X.env x=pure x)
  {pins:List (Addr×Obj)} {s:Shared} {σ:St} {H:Hp} {Q:VK} {use:Option (Value->Sem Unit)} {QQ:Value->Shared->Prop} (I:Inv X pins σ H s) (h:HB wi g te mK σ H Q)
  (O6:∀(l C:Addr) (mC:Str->Option Value) (H':Hp) (s':Shared),Inv X pins σ H' s'->oU X pins H' C->s'.heap.Ns C mC->Q (.ref l) H'->compPost (model X.prog X.w) X.A X.xe use QQ (.ref l) C (.ok .next) s') :
  wpAny (model X.prog X.w) X.A (comprehension (.ListComp elt [⟨tg,iter,[],0⟩] scope pos) scope X.env pos' (newList []) false (eval iter X.env) use) QQ X.xe s:=by
 obtain⟨cl,S⟩:=hS I.ok
 refine wpAny_comprehension_free (use:=use) rfl hs S.clos S.kind S.names (dJ (hi pins s σ H _ I h) λv s1 h1=>dJ h1 λitv s2 h2=>?_)
 obtain⟨it,fp,tn,J,H2,e,I2,T,st2,f2,hq⟩:=h2
 subst e
 obtain⟨W,⟨m0,w0⟩,turn⟩:=hq _ I2.fresh
 refine wpAny_newObj_type (Ct S λAo h₁ G D6 kp=>?_)
 have I3:Inv X pins σ (upd H2 s2.heap.objs.size (.lst [])) { s2 with heap:=s2.heap.push { cls:=.type "list",data:=.seq ([]:List Value).toArray } }:=I2.Rj (t':=s2.toks) .nil (Nat.zero_le _)
 have BH:∀b o,s2.heap.get? b=some o->(s2.heap.push { cls:=.type "list",data:=.seq ([]:List Value).toArray }).get? b=some o:=λb o e=>Heap.get?_push_of_some _ e
 have f3:∀b∈fp,oU X pins (upd H2 s2.heap.objs.size (.lst [])) b/\b<(s2.heap.push { cls:=.type "list",data:=.seq ([]:List Value).toArray }).objs.size:=λb hb=>by
  obtain⟨o,ho,_⟩:=T.obj _ _ st2 b hb
  have hlt:=Heap.lt_size ho
  obtain⟨f0,f1⟩:=f2 b hb
  exact⟨⟨by rw[au (Nat.ne_of_lt hlt)];exact f0,f1⟩,Heap.lt_size (BH b o ho)⟩
 have st3:tn 0 h₁:=T.keep _ _ _ st2 λb _ o e=>kp b o (BH b o e)
 generalize hR:(λr s'=>compPost (model X.prog X.w) X.A X.xe use QQ (.ref s2.heap.objs.size) (s2.heap.push { cls:=.type "list",data:=.seq ([]:List Value).toArray }).objs.size r s')=R
 generalize qu:gZ X scope Ao (s2.heap.push { cls:=.type "list",data:=.seq ([]:List Value).toArray }).objs.size N { s2 with heap:=s2.heap.push { cls:=.type "list",data:=.seq ([]:List Value).toArray } }
  (upd H2 s2.heap.objs.size (.lst [])) fp (X.pn++pins) (notedBy (model X.prog X.w) X.A (compEnvC scope Ao (s2.heap.push { cls:=.type "list",data:=.seq ([]:List Value).toArray }).objs.size X.env) λe s'=>R (.error e) s')=X'
 have I4:Inv X' [] (mK σ) (upd H2 s2.heap.objs.size (.lst [])) { s2 with heap:=h₁ }:=by
  subst qu
  exact B4 (s:={ s2 with heap:=s2.heap.push { cls:=.type "list",data:=.seq ([]:List Value).toArray } }) S G I3 f3 kp D6 s2.toks
 have XR:PG X' tg g:=by subst qu;exact hg _ _ _ _ _ _ _
 have XS:PE X' elt te:=by subst qu;exact he _ _ _ _ _ _ _
 have stat:∀{H':Hp},(∀b∈fp,H' b=none)->∀b∈fp,oU X' [] H' b:=λhn b hb=>by
  subst qu
  obtain⟨⟨_,f1,fn,_,f4,f5⟩,lt⟩:=f3 b hb
  refine⟨hn b hb,Nat.ne_of_lt lt,λz=>?_,.inl hb,λx c e=>(G.look x c e).elim (λz=>Nat.ne_of_gt (Nat.lt_trans lt z.1)) λz=>f4 x c (S.sub x c z),λp hp=>f5 p ?_⟩
  ·rcases List.mem_cons.mp (I3.qN b z)with q|q
   ·exact f1 q
   ·exact fn q
  ·rcases List.mem_append.mp hp with z|z
   ·exact z
   ·cases z
 have hp1:X'.prog=X.prog:=by subst qu;rfl
 have hp2:X'.w=X.w:=by subst qu;rfl
 have hp3:X'.K=X.K:=by subst qu;rfl
 have R1:X'.calm=true:=by subst qu;exact hc
 have Hf:X'.A=X.A:=by subst qu;rfl
 have O1:X'.env=compEnvC scope Ao (s2.heap.push { cls:=.type "list",data:=.seq ([]:List Value).toArray }).objs.size X.env:=by subst qu;rfl
 have Mh:X'.xe=notedBy (model X.prog X.w) X.A X'.env λe s'=>R (.error e) s':=by subst qu;rfl
 have fin:∀{H':Hp} {s':Shared},Inv X' [] (mK σ) H' s'->Q (.ref s2.heap.objs.size) H'->R (.ok .next) s':=by
  intro H' s' I5 q
  subst hR
  obtain⟨mC,R6,_⟩:=I5.loc
  rw[O1]at R6
  have hok:mj X.prog X.w H' s'.heap:=by
   have z:=I5.hok
   rw[hp1,hp2]at z
   exact z
  have u:Un (frs X.stack) fp (upd H2 s2.heap.objs.size (.lst [])) H' (s2.heap.push { cls:=.type "list",data:=.seq ([]:List Value).toArray }) s'.heap:=by
   have z:=I5.base
   subst qu
   exact z
  have hC:H' (s2.heap.push { cls:=.type "list",data:=.seq ([]:List Value).toArray }).objs.size=none:=by
   have zf:=I5.free
   rw[O1]at zf
   exact zf
  refine O6 _ _ mC H' s' (I3.Jv (ch:=fp) (s':=s') (by have z:=I5.os;subst qu;exact z) u hok I5.bare (λb hb=>?_) (by have z:=I5.up;subst qu;exact Nat.le_trans I3.up z)) (I3.uY (Nat.le_refl _) hC) R6 q
  obtain⟨⟨_,f1,_,Xx,f4,f5⟩,_⟩:=f3 b hb
  exact⟨Xx,f1,f4,f5⟩
 have loop:∀s3:Shared,Inv X' [] (mK σ) (upd H2 s2.heap.objs.size (.lst [])) s3->tn 0 s3.heap →
   codeAny (model X.prog X.w) X.A (.compLoop (.ListComp elt [⟨tg,iter,[],0⟩] scope pos) 0 (.ref it) (.ref s2.heap.objs.size) X'.env) R s3:=by
  intro s3 J3 t3
  refine codeAny_loop rfl (λn s'=>∃i ys H',Inv X' [] (mK σ) H' s'/\tn i s'.heap/\(∀b∈fp,H' b=none)/\W i n ys H') ?_ m0 ⟨0,[],_,J3,t3,λb hb=>(f3 b hb).1.1,w0⟩
  rintro n s4 ⟨i,ys,H4,J4,t4,n4,w4⟩
  show wpAny _ _ ((compTurn (.ListComp elt [⟨tg,iter,[],0⟩] scope pos) 0 (.ref it) (.ref s2.heap.objs.size) X'.env).onRaise (λx=>do noteFrame x X'.env;theTreesLotGoes x)) _ _ s4
  refine wpAny_noted ?_
  rw[compTurn_list1]
  refine wpAny_bind (wpAny_standAt (wpAny_bind ?_))
  rcases turn i n ys H4 w4 with⟨stop,q⟩|⟨go,step⟩
  ·have z:=T.done X' hp1 hp2 hp3 R1 i [] s4 (mK σ) H4 (notedBy (model X.prog X.w) X.A X'.env λe s'=>R (.error e) s') J4 (stat n4) t4 stop
   rw[Hf]at z
   refine wpAny_mono z (λr s5 ⟨hr,J5⟩=>?_) λ_ _ x=>x
   subst hr
   exact wpAny_pure (fin J5 q)
  ·have z:=T.item X' hp1 hp2 hp3 R1 i [] s4 (mK σ) H4 (notedBy (model X.prog X.w) X.A X'.env λe s'=>R (.error e) s') J4 (stat n4) t4 go
   rw[Hf]at z
   refine wpAny_mono z (λr s5 ⟨u,hr,h5⟩=>?_) λ_ _ x=>x
   subst hr
   refine wpAny_bind (wpAny_mono h5 (λ_ s6 ⟨x,H6,J6,r6,y6,t6,n6⟩=>?_) λ_ _ x=>x)
   have XU:=J6.pinned (stat n6) (T.obj _ _ t6)
   have zg:=XR _ s6 (mK σ) H6 x u _ XU r6 (step x H6 y6)
   rw[hp1,hp2,Hf,Mh]at zg
   refine wpAny_bind (wpAny_mono zg (λ_ s7 ⟨AR,H7,J7,k7,q7⟩=>?_) λ_ _ x=>x)
   have ze:=XS _ s7 AR H7 _ J7 q7
   rw[hp1,hp2,Hf,Mh]at ze
   refine wpAny_bind (wpAny_bind (wpAny_mono ze (λyv s8 ⟨y,H8,J8,r8,e8,z8,m',hm,w8⟩=>?_) λ_ _ x=>x))
   have za:=iJ (X:=X') _ s8 AR H8 (.ref s2.heap.objs.size) [y] (.ref s2.heap.objs.size) [yv] (λ_ H9=>H9=upd H8 s2.heap.objs.size (.lst (ys++[y]))) J8 rfl (.cons r8 .nil) ⟨_,ys,y,rfl,rfl,e8,z8,rfl⟩
   rw[hp1,hp2,Hf,Mh]at za
   refine wpAny_bind (wpAny_mono za (λ_ s9 ⟨_,H9,J9,_,e9⟩=>?_) λ_ _ x=>x)
   subst e9
   refine wpAny_pure (wpAny_pure ⟨rfl,m',hm,i+1,ys++[y],_,?_,?_,?_,w8⟩)
   ·refine J9.Hu.weak ?_ ?_
    ·rw[S.len,J9.len]
     subst qu
     rfl
    ·exact k7
   ·exact T.keep _ _ _ t6 λb hb o e=>(J9.pin (b,o) (List.mem_append_right _ (List.mem_append_right _ (iw hb e)))).1
   ·intro b hb
    obtain⟨o,e,d⟩:=T.obj _ _ t6 b hb
    exact(J9.pin (b,o) (List.mem_append_right _ (List.mem_append_right _ (iw hb e)))).2.1
 have l0:=loop _ I4 st3
 have l1:=codeAny_compStart_list l0 (T.self X.A 0 _ _ _ st3 l0)
 rw[O1]at l1
 subst hR
 exact l1
theorem oj{X:Cx}{elt tg iter:Expr}{scope:Scope}{pos:Pos}{wi:TI}{g:TG}{te:TE}{N:List Str}{mK:St->St}(hc:X.calm=true)(hS:X.Ok->∃cl,c6 X scope cl N mK)(hi:PI X tg iter wi)
  (hg:∀cl C s H ex pn E,PG (gZ X scope cl C N s H ex pn E) tg g) (he:∀cl C s H ex pn E,PE (gZ X scope cl C N s H ex pn E) elt te)
  (hs:∀x,foldedSetIterable iter X.env x=pure x:=by intro _;rfl):PE X (.ListComp elt [⟨tg,iter,[],0⟩] scope pos) (HB wi g te mK):=by
 intro pins s σ H Q I h
 rw[eval_ListComp]
 refine zd (use:=none) (QQ:=EP X pins σ Q) hc hS hi hg he hs I h ?_
 intro l C mC H' s' I' fp hn q
 exact⟨mC,hn,λh' sb=>⟨.ref l,H',I'.moved (ch:=[C]) (t':=s'.toks) (λb o hb e=>(sb.2 b (by simpa using hb)).trans e) (λb hb=>by rw[List.mem_singleton.mp hb];exact fp),rfl,q⟩⟩
theorem vR{X:Cx}{i:Nat}{y:Str}{py spos:Pos}{elt tg iter:Expr}{scope:Scope}{pos:Pos}{wi:TI}{g:TG}{te:TE}{N:List Str}{mK:St->St}(hN:X.N.Nodup)(hi:X.N[i]? =some y)(hx:Loc X.env.scope y)
  (hc:X.calm=true) (hS:X.Ok->∃cl,c6 X scope cl N mK) (hit:PI X tg iter wi)
  (hg:∀cl C s H ex pn E,PG (gZ X scope cl C N s H ex pn E) tg g) (he:∀cl C s H ex pn E,PE (gZ X scope cl C N s H ex pn E) elt te)
  (hsw:swapsWith (.ListComp elt [⟨tg,iter,[],0⟩] scope pos) (some (.Name y py)) spos.line X.env=pure true:=by rfl)
  (hf:X.fn y=true\/X.env.scope.names.lookup y=some .local:=by first|exact .inl rfl|exact .inr rfl|assumption)
  (hs:∀x,foldedSetIterable iter X.env x=pure x:=by intro _;rfl):PS X (.Assign [.Name y py] (.ListComp elt [⟨tg,iter,[],0⟩] scope pos) spos) (Ke (HB wi g te mK) (Fl i)):=by
 intro pins s σ H D I h
 rw[exec_Assign_Name_used _ _ _ _ hsw]
 refine wpAny_bind (wpAny_standAt (wpAny_bind ?_))
 show wpAny _ X.A (do let _ ←comprehension (.ListComp elt [⟨tg,iter,[],0⟩] scope pos) scope X.env _ (newList []) false (eval iter X.env) (some (assign (.Name y py) X.env))) _ _ s
 refine wpAny_bind (wpAny_mono (zd (use:=some (assign (.Name y py) X.env)) (QQ:=λ_ s'=>SP X pins D .next s') hc hS hit hg he hs I h ?_) (λ_ s' hq=>wpAny_pure (wpAny_pure hq)) λ_ _ e=>e)
 intro l C mC H' s' I' fp hn q
 show wpAny _ X.A (assign (.Name y py) X.env (.ref l)) _ _ _
 refine wpAny_assign_Name (tG I' hN hi hx (v:=.ref l) rfl (λs2 I2 sb=>?_) hf)
 obtain⟨a,sb,ha⟩:=sb
 have nC:C≠a:=by
  obtain⟨_,f1,_,_,f4,_⟩:=fp
  rcases ha with z|z
  ·rw[z];exact f1
  ·exact λe=>f4 y a z e.symm
 refine⟨mC,hn.sameBut sb nC,λh' VU=>?_⟩
 refine⟨_,H',I2.moved (ch:=[C]) (t':=s2.toks) (λb o hb e=>(VU.2 b (by simpa using hb)).trans e) (λb hb=>?_),q⟩
 rw[List.mem_singleton.mp hb]
 exact fp
end L2
namespace L2
open PySem PySem.Spec PyProof.Rows
theorem K2{X:Cx}{K':PySem.W.Frag}(hK:X.K=K'):SV X (QZ K'):=by subst hK;exact bR
end L2
namespace GP
open PySem L2 xG
theorem Wo.au{t q:Addr}{H:Hp}{o:HO}(n:q≠t):Wo t (L2.upd H q o)=L2.upd (Wo t H) q o:=by
 funext b
 by_cases e:b=q
 ·subst e
  rw[L2.ah]
  unfold Wo
  rw[if_neg n,L2.ah]
 ·rw[L2.au e]
  unfold Wo
  split
  ·rfl
  ·rw[L2.au e]
theorem Wo.step{t:Addr}{H H':Hp}{o:HO}(e:ak (L2.upd H t o) H'):ak (Wo t H) (Wo t H'):=by
 have z:=Wo.same (t:=t) e
 rw[Wo.set]at z
 exact z
theorem Wo.back{t r:Addr}{H H':Hp}{o:HO}(e:ak (Wo t H) (Wo t H'))(ht:H' t=some o)(h:H' r=none):H r=none:=by
 cases q:H r with
 |none=>rfl
 |some u =>
  have n:r≠t:=λz=>by rw[z,ht]at h;cases h
  have z:=Wo.sub _ _ (e r u (Wo.in n q))
  rw[h]at z
  cases z
theorem Paired.QK{α β:Type}{F:α->β->Prop}{x:α}{y:β}:∀{l₁:List α} {l₂:List β} (j:Nat),Paired F l₁ l₂->F x y->Paired F (l₁.set j x) (l₂.set j y)
 |_,_,_,.nil,_=>.nil
 |_,_,0,.cons r t,h=>.cons h t
 |_,_,j+1,.cons r t,h=>.cons r (Paired.QK j t h)
theorem sV.put{K:PySem.W.Frag}{H:Hp}{l r p:Addr}{rs ps:List Addr}{rows:List (List cG)}{row:List cG}{i j:Nat}{f:cG}(h:sV K H l rs rows)(hr:rs[i]? =some r)(OX:rows[i]? =some row)
  (hps:H r=some (.lst (ps.map V.ref))) (hp:Paired (jY K H) ps row) (hf:jY K H p f):sV K (L2.upd H r (.lst ((ps.map V.ref).set j (.ref p)))) l rs (rows.set i (row.set j f)):=by
 have Tr:l≠r:=λz=>h.nl (z▸List.mem_of_getElem? hr)
 refine⟨by rw[List.length_set];exact h.len,by rw[L2.au Tr];exact h.at_,h.nd,h.nl,λi' r' Oi h1 h2=>?_⟩
 have hi:i<rows.length:=(List.getElem?_eq_some_iff.mp OX).1
 by_cases e:i=i'
 ·subst e
  rw[hr]at h1
  cases h1
  rw[List.getElem?_set,if_pos rfl,if_pos hi]at h2
  cases h2
  refine⟨ps.set j p,by rw[L2.ah,List.map_set],?_⟩
  exact Paired.iK (Paired.QK j hp hf) λ_ _ z=>cT.off hps z
 ·rw[List.getElem?_set,if_neg e]at h2
  obtain⟨ps',a,b⟩:=h.row i' r' Oi h1 h2
  have n:r'≠r:=λz=>by
   subst z
   exact e ((List.getElem?_inj (List.getElem?_eq_some_iff.mp hr).1 h.nd).mp (hr.trans h1.symm))
  exact⟨ps',by rw[L2.au n];exact a,Paired.iK b λ_ _ z=>cT.off hps z⟩
theorem sV.snoc{K:PySem.W.Frag}{H H':Hp}{l r:Addr}{rs ps:List Addr}{rows:List (List cG)}{row:List cG}(h:sV K H l rs rows)(e:ak H H')(hr:H r=none)(hps:H' r=some (.lst (ps.map V.ref)))(hp:Paired (jY K H') ps row):
  sV K (L2.upd H' l (.lst (rs.map V.ref++[.ref r]))) l (rs++[r]) (rows++[row]):=by
 have hl':=e _ _ h.at_
 have Tr:r≠l:=λz=>by rw[z,h.at_]at hr;cases hr
 have ZP:r∉rs:=λz=>by
  obtain⟨i,hi,ei⟩:=List.getElem_of_mem z
  have hi2:i<rows.length:=by rw[←h.len];exact hi
  obtain⟨ps',a,_⟩:=h.row i r rows[i] (by rw[List.getElem?_eq_getElem hi,ei]) (List.getElem?_eq_getElem hi2)
  rw[hr]at a
  cases a
 refine⟨by rw[List.length_append,List.length_append,h.len];rfl,by rw[L2.ah,List.map_append];rfl,?_,?_,λi r' Oi h1 h2=>?_⟩
 ·refine List.nodup_append.mpr ⟨h.nd,(by simp),λx hx y hy z=>?_⟩
  rw[List.mem_singleton.mp hy]at z
  exact ZP (z▸hx)
 ·intro z
  rcases List.mem_append.mp z with z|z
  ·exact h.nl z
  ·exact Tr (List.mem_singleton.mp z).symm
 ·by_cases q:i<rs.length
  ·rw[List.getElem?_append_left q]at h1
   rw[List.getElem?_append_left (by rw[←h.len];exact q)]at h2
   obtain⟨ps',a,b⟩:=h.row i r' Oi h1 h2
   have n:r'≠l:=λz=>h.nl (z▸List.mem_of_getElem? h1)
   exact⟨ps',by rw[L2.au n];exact e _ _ a,Paired.iK b λ_ _ z=>cT.off hl' (z.same e)⟩
  ·have q':rs.length<=i:=Nat.le_of_not_lt q
   rw[List.getElem?_append_right q']at h1
   rw[List.getElem?_append_right (by rw[←h.len];exact q')]at h2
   have z:i-rs.length=0:=by
    have:=(List.getElem?_eq_some_iff.mp h1).1
    simp at this
    omega
   rw[z]at h1
   rw[←h.len,z]at h2
   cases h1
   cases h2
   exact⟨ps,by rw[L2.au Tr];exact hps,Paired.iK hp λ_ _ z=>cT.off hl' z⟩
end GP
namespace GP
open PySem L2 xG
section
variable{K:PySem.W.Frag}{C:Addr}{H0 H H':Hp}{t l x o m:Addr}{rs:List Addr}{sg:Str}{rows:List (List cG)}{fo fm:cG}{k:Int}
end
end GP
namespace L2
open PySem PySem.Spec PyProof.Rows
section
variable{X:Cx}
end
end L2
namespace GP
open PySem L2 xG
def TupAt(H:Hp)(q:Addr)(f:cG):Prop:=H q=some (.tup [.int f.1,.int f.2])
theorem TupAt.same{H H':Hp}{q:Addr}{f:cG}(e:ak H H')(h:TupAt H q f):TupAt H' q f:=e _ _ h
theorem TupAt.fr{K:PySem.W.Frag}{H:Hp}{q:Addr}{f:cG}(h:TupAt H q f):jY K H q f:=cT.of h
def Of(sg x:Str):Prop:=∀c∈x.cps.toList,c∈sg.cps.toList
theorem Ph{x:Str}{i c:Nat}(h:x.cps[i]? =some c):i<x.cps.size:=by
 rw[←Array.getElem?_toList]at h
 have:=(List.getElem?_eq_some_iff.mp h).1
 simpa using this
theorem ng{x:Str}{i c:Nat}(h:x.cps[i]? =some c):c∈x.cps.toList:=by
 rw[←Array.getElem?_toList]at h
 exact List.mem_of_getElem? h
theorem je{x:Str}{i c:Nat}(h:x.cps[i]? =some c):x.cps.toList[i]? =some c:=by
 rw[Array.getElem?_toList];exact h
theorem An{x:Str}{i:Nat}(h:i<x.cps.size):∃c,x.cps[i]? =some c:=⟨x.cps[i],by simp[h]⟩
def Q2(sg:Str)(rows:List (List cG))(u:Int)(a b:Nat):Int :=
 match (rows[sg.cps.toList.idxOf a]?).bind (·[sg.cps.toList.idxOf b]?)with
 |some f=>f.1*(u / f.2)
 |none=>0
theorem Ik{sg:Str}{rows:List (List cG)}{u:Int}{a b:Nat}(sq:JM sg.cps.size rows)(ha:a∈sg.cps.toList)(hb:b∈sg.cps.toList):
  ∃i j f,sg.cps[i]? =some a/\sg.cps[j]? =some b/\JP rows i j f/\Q2 sg rows u a b=f.1*(u / f.2):=by
 have hi:=List.idxOf_lt_length_iff.mpr ha
 have hj:=List.idxOf_lt_length_iff.mpr hb
 have ei:sg.cps.toList[sg.cps.toList.idxOf a]? =some a:=by rw[List.getElem?_eq_getElem hi,List.getElem_idxOf hi]
 have ej:sg.cps.toList[sg.cps.toList.idxOf b]? =some b:=by rw[List.getElem?_eq_getElem hj,List.getElem_idxOf hj]
 have hi':sg.cps.toList.idxOf a<rows.length:=by rw[sq.1];simpa using hi
 have hj':sg.cps.toList.idxOf b<(rows[sg.cps.toList.idxOf a]).length:=by rw[sq.2 _ (List.getElem_mem hi')];simpa using hj
 refine⟨_,_,(rows[sg.cps.toList.idxOf a])[sg.cps.toList.idxOf b],by rw[←Array.getElem?_toList];exact ei,by rw[←Array.getElem?_toList];exact ej,⟨_,List.getElem?_eq_getElem hi',List.getElem?_eq_getElem hj'⟩,?_⟩
 unfold Q2
 rw[List.getElem?_eq_getElem hi']
 show(match (rows[sg.cps.toList.idxOf a])[sg.cps.toList.idxOf b]? with|some f=>f.1*(u / f.2)|none=>0)=_
 rw[List.getElem?_eq_getElem hj']
def jF(u:Int)(f:cG):Int:=f.1*(u / f.2)
def ER(K:PySem.W.Frag)(C:Addr):Sp:=λvs H Q _=>∃(x:Addr) (sg:Str) (rows:List (List cG)) (fo fm:cG) (a b:Str),vs=[.ref x,.str a,.str b]/\mO K C H x sg rows fo fm ∧
 Q (.int (if a=b then jF (cF fo.2 fm.2 rows) fm else jF (cF fo.2 fm.2 rows) fo+jF (cF fo.2 fm.2 rows) fm)) H
end GP
namespace GP
open PySem L2 xG
theorem cT.wo{K:PySem.W.Frag}{H:Hp}{t a:Addr}{ys xs:List V}(ht:H t=some (.lst ys))(h:cT K H a xs):cT K (Wo t H) a xs:=by
 rcases h with(h|⟨u,h⟩)|h
 ·exact .inl (.inl (Wo.in (pq h ht (by intro z;cases z)) h))
 ·exact .inl (.inr ⟨u,Wo.in (pq h ht (by intro z;cases z)) h⟩)
 ·exact .inr h
theorem mO.wo{K:PySem.W.Frag}{C:Addr}{H:Hp}{t x:Addr}{ys:List V}{sg:Str}{rows:List (List cG)}{fo fm:cG}(ht:H t=some (.lst ys))(nf:JC H x t)(h:mO K C H x sg rows fo fm):mO K C (Wo t H) x sg rows fo fm:=by
 obtain⟨a,b,c,d,f,g,i,dx,P,o,m,dd,kvs,h1,⟨qs,h2,h2'⟩,h3,h4,h5,h6,fs,h7,h8,h9⟩:=h
 have n:dd.2≠t:=λz=>nf _ _ _ h1 (by rw[oE,z])
 refine⟨a,b,c,d,f,g,i,dx,P,o,m,dd,kvs,Wo.in (pq h1 ht (by intro z;cases z)) h1,⟨qs,cT.wo ht h2,Paired.iK h2' λq r z=>?_⟩,cT.wo ht h3,cT.wo ht h4,Wo.in (pq h5 ht (by intro z;cases z)) h5,h6,fs,h7,h8,Wo.in n h9⟩
 obtain⟨ps,z1,z2⟩:=z
 exact⟨ps,cT.wo ht z1,Paired.iK z2 λ_ _ y=>cT.wo ht y⟩
end GP
namespace L2
open PySem PySem.Spec PyProof.Rows
def Ez(h:Heap)(φ:Addr->Prop)(ea:Addr)(cls:Value)(od:Option Addr):Prop :=
 φ ea/\∃vs sl,h.get? ea=some ⟨cls,od,.fields vs,sl⟩/\(od=none->vs[2]? =some .none)/\(vs[1]? =some .none ∨
  ∃T oT ts,vs[1]? =some (.ref T)/\T≠ea/\φ T/\h.get? T=some oT/\oT.data= .fields ts/\3<ts.size)
def yw(h:Heap)(φ:Addr->Prop)(ea:Addr)(cls:Value)(od:Option Addr):Prop :=
 φ ea/\∃vs sl,h.get? ea=some ⟨cls,od,.fields vs,sl⟩/\(od=none->vs[2]? =some .none) ∧
  ∃T oT ts,vs[1]? =some (.ref T)/\T≠ea/\φ T/\h.get? T=some oT/\oT.data= .fields ts/\3<ts.size
theorem yw.n{h:Heap}{φ:Addr->Prop}{ea:Addr}{cls:Value}{od:Option Addr}(x:yw h φ ea cls od):Ez h φ ea cls od:=by
 obtain⟨p,vs,sl,e,c2,t⟩:=x
 exact⟨p,vs,sl,e,c2,.inr t⟩
theorem Ez.to{h:Heap}{φ ψ:Addr->Prop}{ea:Addr}{cls:Value}{od:Option Addr}(x:Ez h φ ea cls od)(m:∀b,φ b->ψ b):Ez h ψ ea cls od:=by
 obtain⟨p,vs,sl,e,c2,t⟩:=x
 refine⟨m _ p,vs,sl,e,c2,?_⟩
 rcases t with t|⟨T,oT,ts,a,b,c,d⟩
 ·exact .inl t
 ·exact .inr ⟨T,oT,ts,a,b,m _ c,d⟩
structure nh(fr:List Addr)(φ:Addr->Prop)(h h':Heap):Prop where
 keep:∀b o,h.get? b=some o->¬ φ b->b∉fr->h'.get? b=some o
 slot:∀b o,h.get? b=some o->¬ φ b->∃sl,h'.get? b=some { o with slots:=sl }
 there:∀b o,h.get? b=some o->∃o',h'.get? b=some o'
 size:h.objs.size<=h'.objs.size
theorem nh.refl{fr:List Addr}{φ:Addr->Prop}{h:Heap}:nh fr φ h h:=⟨λ_ _ e _ _=>e,λ_ o e _=>⟨o.slots,e⟩,λ_ o e=>⟨o,e⟩,Nat.le_refl _⟩
theorem nh.trans{fr:List Addr}{φ:Addr->Prop}{h h1 h2:Heap}(a:nh fr φ h h1)(b:nh fr φ h1 h2):nh fr φ h h2 where
 keep:=λc o e n f=>b.keep c o (a.keep c o e n f) n f
 slot:=λc o e n=>by
  obtain⟨sl,e1⟩:=a.slot c o e n
  obtain⟨G4,e2⟩:=b.slot c _ e1 n
  exact⟨G4,e2⟩
 there:=λc o e=>by
  obtain⟨o',e1⟩:=a.there c o e
  exact b.there c o' e1
 size:=Nat.le_trans a.size b.size
section
variable{M:Model}{A:Around}{E:Value->Shared->Prop}{s:Shared}{base:Heap}{env e0:Env}{r:List Env}{L ea:Addr}{φ:Addr->Prop}{cls:Value}{od:Option Addr}
theorem Cd{Q:Value->Shared->Prop}(hs:A.frames=some (e0::r))(hl:s.heap.FunFrames base (e0::r))(h0:e0.frame=some L)(he:env.frame=some L)
  (h:∀h',Heap.SlotsOnly ((e0::r).filterMap (·.frame)) s.heap h'->Q (.ref L) { s with heap:=h' }):wpAny M A (PySem.frameOf env) Q E s:=by
 unfold PySem.frameOf
 refine wpAny_bind (wpAny_frameEnvs hs ?_)
 rw[show((e0::r).dropWhile λx=>x.frame != env.frame)=e0::r by simp[List.dropWhile,h0,he]]
 unfold frameObject
 refine wpAny_bind (wpAny_bind (wpAny_readyFrames_fun hl λh1 k1=>wpAny_pure ?_))
 rw[h0]
 exact wpAny_pure (h h1 k1)
theorem y9{vs:Array Value}{sl:Array (Option Value)}{head:Value}{hadNext:Bool}{Q:Unit->Shared->Prop}(hs:A.frames=some (e0::r))(hl:s.heap.FunFrames base (e0::r))(h0:e0.frame=some L)(hf:env.frame=some L)
  (pe:φ ea) (he:s.heap.get? ea=some ⟨cls,od,.fields vs,sl⟩) (h1:1<vs.size) (h2:od=none->vs[2]? =some .none) (new:∀b,s.heap.objs.size<=b->φ b)
  (q:∀h',nh (frs (e0::r)) φ s.heap h'->yw h' φ ea cls od->Q () { s with heap:=h' }) :
  wpAny M A (do let a ←PySem.frameOf env;let pl ←entryPlaceOf L hadNext;let b ←EntryCells.newEntry head a .none (rawInt L) .none pl;setField (.ref ea) 1 b) Q E s:=by
 have ZQ:ea∉(e0::r).filterMap (·.frame):=λhm=>by
  obtain⟨_,o,ho,nf⟩:=hl.mem hm
  rw[he]at ho
  cases ho
  exact nf vs rfl
 refine wpAny_bind (Cd hs hl h0 hf λg k=>?_)
 refine wpAny_bind (wpAny_entryPlaceOf λpl pk=>?_)
 simp only[EntryCells.newEntry,newFields]
 refine wpAny_bind (wpAny_newObj_type ?_ (pk.sizeOk5 _ _ _ _ _))
 have e1:g.get? ea=some ⟨cls,od,.fields vs,sl⟩:=(k.2.1 ea ZQ).trans he
 have ne:g.objs.size≠ea:=Nat.ne_of_gt (Heap.lt_size e1)
 generalize hob:({ cls:=.type "traceback",dict:=none,data:=.fields ([head,.ref L,.none,rawInt L,.none]++(if pl.isEmpty then List.replicate 6 Value.none else pl)).toArray }:Obj)=ob
 have e2:=Heap.get?_push_of_some (h:=g) ob e1
 refine wpAny_setField e2 rfl h1 (q _ ⟨λb o e n f=>?_,λb o e n=>?_,λb o e=>?_,?_⟩ ⟨pe,_,sl,Heap.get?_update_self _ e2 rfl,λz=>(Array.getElem?_setIfInBounds_ne (by decide)).trans (h2 z),g.objs.size,ob,_,?_,ne,new _ (Nat.le_of_eq k.1.symm),?_,by subst hob;rfl,?_⟩)
 ·have be:b≠ea:=λz=>n (z▸pe)
  rw[Heap.get?_update_other _ _ (Ne.symm be)]
  exact Heap.get?_push_of_some _ ((k.2.1 b f).trans e)
 ·have be:b≠ea:=λz=>n (z▸pe)
  obtain⟨G4,e'⟩:=k.2.2 b o e
  refine⟨G4,?_⟩
  rw[Heap.get?_update_other _ _ (Ne.symm be)]
  exact Heap.get?_push_of_some _ e'
 ·by_cases be:b=ea
  ·subst be
   exact⟨_,Heap.get?_update_self _ e2 rfl⟩
  ·obtain⟨G4,e'⟩:=k.2.2 b o e
   exact⟨{ o with slots:=G4 },(Heap.get?_update_other _ _ (Ne.symm be)).trans (Heap.get?_push_of_some _ e')⟩
 ·rw[Heap.size_after_update,Heap.size_push,k.1]
  exact Nat.le_succ _
 ·simp[h1]
 ·rw[Heap.get?_update_other _ _ (Ne.symm ne)]
  exact Heap.get?_push_size _ (by subst hob;rfl)
 ·rw[List.size_toArray,List.length_append]
  exact Nat.lt_of_lt_of_le (by decide:3<5) (Nat.le_add_right _ _)
theorem BR{Q:Unit->Shared->Prop}(hs:A.frames=some (e0::r))(hl:s.heap.FunFrames base (e0::r))(h0:e0.frame=some L)(hf:env.frame=some L)
  (x:Ez s.heap φ ea cls od) (new:∀b,s.heap.objs.size<=b->φ b) (q:∀h',nh (frs (e0::r)) φ s.heap h'->yw h' φ ea cls od->Q () { s with heap:=h' }) :
  wpAny M A (noteFrame (.ref ea) env) Q E s:=by
 obtain⟨pe,vs,sl,he,c2,hv⟩:=x
 unfold noteFrame
 simp only[hf]
 rcases hv with h1|⟨T,oT,ts,h1,ne,pT,hT,hd,h3⟩
 ·refine wpAny_bind (wpAny_field he rfl h1 ?_)
  rw[if_neg (by decide)]
  exact y9 hs hl h0 hf pe he (Array.getElem?_eq_some_iff.mp h1).1 c2 new q
 ·have g3:ts[3]? =some ts[3]:=Array.getElem?_eq_getElem h3
  refine wpAny_bind (wpAny_field he rfl h1 ?_)
  rw[if_pos (show(Value.ref T != Value.none)=true by simp)]
  refine wpAny_bind (wpAny_field hT hd g3 ?_)
  by_cases e3:(ts[3]==rawInt L)=true
  ·rw[if_pos e3]
   exact wpAny_pure (q s.heap nh.refl ⟨pe,vs,sl,he,c2,T,oT,ts,h1,ne,pT,hT,hd,h3⟩)
  ·rw[if_neg e3]
   refine wpAny_bind (wpAny_setField hT hd h3 ?_)
   have other:∀b,b≠T->(s.heap.update T (Obj.mapFields (·.setIfInBounds 3 Value.none))).get? b=s.heap.get? b:=λb z=>Heap.get?_update_other _ _ (Ne.symm z)
   have n1:nh (frs (e0::r)) φ s.heap (s.heap.update T (Obj.mapFields (·.setIfInBounds 3 Value.none))):=by
    refine⟨λb o e n f=>(other b λz=>n (z▸pT)).trans e,λb o e n=>⟨o.slots,(other b λz=>n (z▸pT)).trans e⟩,λb o e=>?_,Nat.le_of_eq (Heap.size_after_update ..).symm⟩
    by_cases z:b=T
    ·subst z
     exact⟨_,Heap.get?_update_self _ hT (Obj.isFreed_of_fields (Obj.data_mapFields hd _))⟩
    ·exact⟨o,(other b z).trans e⟩
   refine y9 (s:={ s with heap:=s.heap.update T (Obj.mapFields (·.setIfInBounds 3 Value.none)) }) hs (hl.of_keeps λb o e nf=>⟨o,(other b λz=>?_).trans e,rfl⟩) h0 hf pe ((other ea (Ne.symm ne)).trans he) (Array.getElem?_eq_some_iff.mp h1).1 c2
    (λb hb=>new b (Nat.le_trans n1.size hb)) λh' n2 x2=>q h' (n1.trans n2) x2
   subst z
   rw[hT]at e
   cases e
   exact nf ts hd
theorem rG{fl:Option Addr}{fr:List Addr}{Q:Unit->Shared->Prop}(x:yw s.heap φ ea cls od)(q:∀h',nh fr φ s.heap h'->yw h' φ ea cls od->Q () { s with heap:=h' }):
  wpAny M A (setFlight (.ref ea) fl) Q E s:=by
 obtain⟨pe,vs,sl,he,c2,T,oT,ts,h1,ne,pT,hT,hd,h3⟩:=x
 unfold setFlight
 refine wpAny_bind (wpAny_field he rfl h1 ?_)
 rw[if_pos (show(Value.ref T != Value.none)=true by simp)]
 have other:∀(f:Obj->Obj) b,b≠T->(s.heap.update T f).get? b=s.heap.get? b:=λf b z=>Heap.get?_update_other _ _ (Ne.symm z)
 refine wpAny_setField hT hd h3 (q _ ⟨λb o e n f=>(other _ b λz=>n (z▸pT)).trans e,λb o e n=>⟨o.slots,(other _ b λz=>n (z▸pT)).trans e⟩,λb o e=>?_,Nat.le_of_eq (Heap.size_after_update ..).symm⟩
  ⟨pe,vs,sl,(other _ ea (Ne.symm ne)).trans he,c2,T,_,_,h1,ne,pT,Heap.get?_update_self _ hT (Obj.isFreed_of_fields (Obj.data_mapFields hd _)),Obj.data_mapFields hd _,by simp[h3]⟩)
 by_cases z:b=T
 ·subst z
  exact⟨_,Heap.get?_update_self _ hT (Obj.isFreed_of_fields (Obj.data_mapFields hd _))⟩
 ·exact⟨o,(other _ b z).trans e⟩
end
end L2
namespace L2
open PySem PySem.Spec PyProof.Rows
section
variable{X:Cx}{pins:List (Addr×Obj)}{σ:St}{H H':Hp}{s:Shared}
def Lw(X:Cx)(pins:List (Addr×Obj))(H:Hp)(b:Addr):Prop :=
 H b=none/\b≠X.env.locals/\b∉X.fs/\(X.s₀.heap.get? b=none\/b∈X.ex)/\(∀x c,X.env.cells.lookup x=some c->c≠b)/\∀p∈X.pn++pins,p.1≠b
theorem Inv.Te{b:Addr}(I:Inv X pins σ H s)(hn:s.heap.get? b=none)(hH:H' b=none):Lw X pins H' b:=by
 refine⟨hH,λz=>?_,λz=>?_,?_,λx c e z=>?_,λp hp z=>?_⟩
 ·obtain⟨m,⟨o,_,_,ho,_⟩,_⟩:=I.loc
  rw[←z,hn]at ho
  cases ho
 ·obtain⟨_,o,ho,_⟩:=I.rD.mem z
  rw[hn]at ho
  cases ho
 ·by_cases hx:b∈X.ex
  ·exact .inr hx
  ·left
   cases q:X.s₀.heap.get? b with
   |none=>rfl
   |some o =>
    obtain⟨o',e⟩:=I.base.there b o q hx
    rw[hn]at e
    cases e
 ·obtain⟨v,o,ho,_⟩:=I.cell x c e
  rw[z,hn]at ho
  cases ho
 ·have q:=(I.pin p hp).1
  rw[z,hn]at q
  cases q
theorem Inv.Qq{b:Addr}(I:Inv X pins σ H s)(hb:s.heap.objs.size<=b):Lw X pins H b:=I.Te (Heap.get?_none_of_le hb) (I.hok.fresh hb)
theorem Un.noted{fs fr ex:List Addr}{H₀:Hp}{h₀ h h':Heap}{φ:Addr->Prop}(u:Un fs ex H₀ H h₀ h)(n:nh fr φ h h')(new:∀b o,h₀.get? b=some o->b∉ex->¬ φ b)(hf:∀b o,h₀.get? b=some o->b∈fr->b∈fs):Un fs ex H₀ H h₀ h' where
 keep:=λb o e hn nf nx=>n.keep b o (u.keep b o e hn nf nx) (new b o e nx) λz=>nf (hf b o e z)
 slot:=λb o e hn hb nx=>by
  obtain⟨sl,e1⟩:=u.slot b o e hn hb nx
  obtain⟨G4,e2⟩:=n.slot b _ e1 (new b o e nx)
  exact⟨G4,e2⟩
 free:=u.free
 there:=λb o e nx=>by
  obtain⟨o',e1⟩:=u.there b o e nx
  exact n.there b o' e1
 tups:=u.tups
 rE:=u.rE
 rO:=u.rO
theorem mj.noted{P:Program}{w:World}{h h':Heap}{fr:List Addr}{φ:Addr->Prop}(x:mj P w H h)(n:nh fr φ h h')(hφ:∀b,φ b->H b=none)(hf:∀b∈fr,H b=none):mj P w H h':=λa u e =>
 (x a u e).stay (λb v hb q=>by
  have nb:H b≠none:=λz=>by
   rcases hb with y|y
   ·rw[y,e]at z;cases z
   ·rw[y]at z;cases z
  exact n.keep b v q (λz=>nb (hφ b z)) λz=>nb (hf b z)) (λ_ q=>q) λ_ _ q=>q
theorem Inv.noted{h':Heap}(I:Inv X pins σ H s)(n:nh (frs X.stack) (Lw X pins H) s.heap h'):Inv X pins σ H { s with heap:=h' }:=by
 have cellK:∀x c,X.env.cells.lookup x=some c->∀v,s.heap.IsCell c v->h'.IsCell c v:=λx c e v ⟨o,ho,hd⟩=>by
  obtain⟨sl,q⟩:=n.slot c o ho λk=>k.2.2.2.2.1 x c e rfl
  exact⟨_,q,hd⟩
 refine⟨I.ok,I.os,I.bare,I.base.noted n (λb o e nx k=>?_) (λb o e z=>?_),?_,λx c e=>?_,I.free,I.jV,λp hp=>?_,I.hok.noted n (λb k=>k.1) I.zC,I.len,I.up⟩
 ·rcases k.2.2.2.1 with z|z
  ·rw[e]at z;cases z
  ·exact nx z
 ·rcases List.mem_cons.mp (I.qN b z)with q|q
  ·subst q
   exact absurd (Nat.lt_of_lt_of_le (Heap.lt_size e) I.ok.above) (Nat.lt_irrefl _)
  ·exact q
 ·obtain⟨m,⟨o,es,ep,ho,rr⟩,hl⟩:=I.loc
  obtain⟨sl,q⟩:=n.slot _ o ho λk=>k.2.1 rfl
  refine⟨m,⟨_,es,ep,q,rr⟩,λi x v e1 e2 e3=>?_⟩
  obtain⟨u,rv,l⟩:=hl i x v e1 e2 e3
  refine⟨u,rv,?_⟩
  rcases l with l|⟨k,c,e,z⟩
  ·exact .inl l
  ·exact .inr ⟨k,c,e,cellK x c e _ z⟩
 ·obtain⟨v,z⟩:=I.cell x c e
  exact⟨v,cellK x c e v z⟩
 ·obtain⟨e,hn,ne,nf,d⟩:=I.pin p hp
  refine⟨n.keep p.1 p.2 e (λk=>k.2.2.2.2.2 p hp rfl) λz=>?_,hn,ne,nf,d⟩
  rcases List.mem_cons.mp (I.qN _ z)with q|q
  ·exact ne q
  ·exact nf q
end
theorem Un.same{fs ex:List Addr}{H₀ H:Hp}{h₀ h h':Heap}(u:Un fs ex H₀ H h₀ h)(k:∀b o,h₀.get? b=some o->h'.get? b=h.get? b):Un fs ex H₀ H h₀ h' where
 keep:=λb o e hn nf nx=>(k b o e).trans (u.keep b o e hn nf nx)
 slot:=λb o e hn hb nx=>by
  obtain⟨sl,e1⟩:=u.slot b o e hn hb nx
  exact⟨sl,(k b o e).trans e1⟩
 free:=u.free
 there:=λb o e nx=>by
  obtain⟨o',e1⟩:=u.there b o e nx
  exact⟨o',(k b o e).trans e1⟩
 tups:=u.tups
 rE:=u.rE
 rO:=u.rO
def vq(P:Program)(w:World):G3:=λouter H s E e s'=>∃ea cls od H',e= .ref ea/\s'.os=s.os/\AllBare s'.gens/\s.toks<=s'.toks/\Un (frs outer) [] H H' s.heap s'.heap/\mj P w H' s'.heap ∧
 Ez s'.heap (λb=>s.heap.get? b=none/\H' b=none) ea cls od/\E cls od H'
def Lets(X:Cx)(E:St->XK):Prop:=∀(pins:List (Addr×Obj)) (σ:St) (H:Hp) (s:Shared) (ea:Addr) (cls:Value) (od:Option Addr),Inv X pins σ H s->Ez s.heap (Lw X pins H) ea cls od->E σ cls od H->X.xe (.ref ea) s
theorem Lets.pass{X:Cx}{E:St->XK}{pins:List (Addr×Obj)}{σ:St}{H:Hp}{s s':Shared}{e:Value}(L:Lets X E)(I:Inv X pins σ H s)(h:vq X.prog X.w X.stack H s (E σ) e s'):X.xe e s':=by
 obtain⟨ea,cls,od,H',rfl,os,bare,tt,un,hok,x,hE⟩:=h
 have I2:Inv X pins σ H' s':=I.Jv (ch:=[]) os un hok bare (λb z=>nomatch z) (Nat.le_trans I.up tt)
 exact L pins σ H' s' ea cls od I2 (x.to λb k=>I.Te k.1 k.2) hE
theorem Lets.passes{X:Cx}{E:XK}(L:Lets X λ_=>E):Passes (vq X.prog X.w) X E:=λ_ _ _ _ _ _ I h=>L.pass I h
section
variable{P:Program}{w:World}{K:PySem.W.Frag}{mg:Str->Option Value}{base:Heap}
theorem qj{N:List Str}{qual:Str}{scope:Scope}{f:Addr}{cd:Value}{A:Around}{outer:List Env}{s:Shared}{H:Hp}{E:XK}:Lets (sM (vq P w) P w K mg base N qual scope f cd A outer s H E) λ_=>E:=by
 intro pins σ H' s' ea cls od I x hE
 show wpAny _ _ (leaving _ (.ref ea)) _ _ s'
 unfold leaving
 refine wpAny_bind (BR I.ok.frames I.stack rfl rfl x (λb hb=>I.Qq hb) λh1 n1 x1=>?_)
 refine rG (fr:=frs (sM (vq P w) P w K mg base N qual scope f cd A outer s H E).stack) x1 λh2 n2 x2=>?_
 have I2:=I.noted (n1.trans n2)
 refine⟨ea,cls,od,H',rfl,I2.os,I2.bare,I2.up,I2.base,I2.hok,x2.n.to λb k=>⟨?_,k.1⟩,hE⟩
 rcases k.2.2.2.1 with z|z
 ·exact z
 ·exact nomatch z
theorem rV{N:List Str}{qual:Str}{scope:Scope}{f:Addr}{cd:Value}{A:Around}{outer:List Env}{s:Shared}{H:Hp}{E:XK}:
  PassesOwn (model P w) (sM (vq P w) P w K mg base N qual scope f cd A outer s H E).A (sM (vq P w) P w K mg base N qual scope f cd A outer s H E).env (sM (vq P w) P w K mg base N qual scope f cd A outer s H E).xe:=PassesOwn.leaving
theorem JO.PM{x qual:Str}{st:Stmt}{f:Addr}{fd:FuncData}{N ps:List Str}{k:Nat}{sp:Sp}(F:JO K x qual st f fd)(S:aH N ps (ay st))(len:∀vs H Q E,sp vs H Q E->vs.length=ps.length)
  (hbody:∀(cdv:Value) (A:Around) (outer:List Env) (s:Shared) (H:Hp) (vs:List V) (Q:VK) (E:XK),jE k (A.deeper (envOfC qual (ay st) s.heap.objs.size f cdv))->sp vs H Q E →
   ∃t,zu (sM (vq P w) P w K mg base N qual (ay st) f cdv A outer s H E) (dI st) t/\t { nx:=λ_ H'=>Q .i9 H',rt:=Q } (start N vs) H):aK P w K mg base (vq P w) (k+1) f fd ps sp:=by
 obtain⟨oc,od,dV,kV,doc,pm,an,cdv,ct,osl,rfl,lk,hcd⟩:=F.ex
 exact Jg lk hcd S len λA outer s H vs Q E hr Fj=>hbody cdv A outer s H vs Q E hr Fj
end
theorem bM.got{P:Program}{w:World}{H:Hp}{h:Heap}{a:Addr}{o:HO}(x:bM P w H h a o):h.get? a≠none:=by
 cases o with
 |lst xs=>obtain⟨_,_,_,_,e⟩:=x;rw[e];exact λz=>nomatch z
 |tup xs=>obtain⟨_,_,_,ob,e,_⟩:=x;rw[e];exact λz=>nomatch z
 |dK kvs=>obtain⟨_,_,_,_,o,_,_,e,_⟩:=x;rw[e];exact λz=>nomatch z
 |dT kvs=>obtain⟨_,_,_,_,o,_,_,e,_⟩:=x;rw[e];exact λz=>nomatch z
 |set S n=>obtain⟨o,_,_,_,e,_⟩:=x;rw[e];exact λz=>nomatch z
 |ins C dx fs=>obtain⟨_,_,_,e,_⟩:=x;rw[e];exact λz=>nomatch z
 |own y=>obtain⟨_,e⟩:=x;rw[e];exact λz=>nomatch z
 |xd fs=>obtain⟨_,⟨_,_,_,e,_⟩,_⟩:=x;rw[e];exact λz=>nomatch z
 |Tn lo hi=>obtain⟨_,_,_,e⟩:=x;rw[e];exact λz=>nomatch z
 |Eb ob u=>obtain⟨e,_⟩:=x;rw[e];exact λz=>nomatch z
 |LI ps=>have e:h.get? a=some _:=x;rw[e];exact λz=>nomatch z
 |met f y=>have e:h.get? a=some _:=x;rw[e];exact λz=>nomatch z
 |ext φ=>obtain⟨_,⟨_,e⟩,_⟩:=x;rw[e];exact λz=>nomatch z
theorem mj.none_of{P:Program}{w:World}{H:Hp}{h:Heap}{a:Addr}(x:mj P w H h)(e:h.get? a=none):H a=none:=by
 cases q:H a with
 |none=>rfl
 |some o=>exact absurd e (x a o q).got
set_option genInjectivity false in
structure XP where
 nm:Str
 q:Str
 N:Addr
 bs:List Value
 bm:List Value
 hdct:Bool
 sn:List Str
 sub:List Value
 ab:Bool
 col:Option Bool
 dd:Option Addr
 k0:Option Value
 k1:Option Value
 k2:Option Value
 k3:Option Value
 k5:Option Value
 mN:Str->Option Value
abbrev XP.obj(d:XP)(C:Addr)(newId:String):Obj:=excClassObj d.nm d.q C d.N d.bs d.bm d.hdct d.sn d.sub d.ab d.col d.dd d.k0 d.k1 d.k2 d.k3 d.k5 newId
structure XO(K:PySem.W.Frag)(C:Addr)(Bn B newId inN nid initId:String)(bmN bmB:List Value):Prop where
 fn:ExcBaseFacts Bn newId inN bmN
 has:bmB.contains (.type Bn)=true
 fb:ExcBaseFacts B nid initId bmB
 obj:∀h:Heap,K.In h->∃d:XP,h.get? C=some (d.obj C newId)/\h.Ns d.N d.mN/\d.mN "__init__" =none/\OwnTail h bmB d.bm
def JA(K:PySem.W.Frag)(C:Addr):Prop:=∃Bn B newId inN nid initId bmN bmB,XO K C Bn B newId inN nid initId bmN bmB
theorem JR {K:PySem.W.Frag} {C:Addr} (q:PySem.W.excIn K C [.type "ValueError",.type "Exception",.type "BaseException",.type "object"] "ValueError.__new__" =true):JA K C:=by
 refine⟨_,_,_,_,_,_,_,_,PySem.F.excBase_ValueError,PySem.F.excBase_ValueError.hasB,PySem.F.excBase_ValueError,λh k=>?_⟩
 unfold PySem.W.excIn at q
 split at q
 ·rename_i dd cd sl hob
  split at q
  ·rename_i C' bm k0 k1 k2 k3 nn k5 hmr IY
   simp only[Bool.and_eq_true,beq_iff_eq,Bool.not_eq_true']at q
   obtain⟨⟨⟨⟨⟨e1,e2⟩,e3⟩,e4⟩,e5⟩,e6⟩:=q
   subst e1 e2
   obtain⟨nm,bs,mro,ns,qn,hd,sn,sub,ab,col,del⟩:=cd
   dsimp only at hmr e3 e5 e6
   subst hmr e3
   have hsl:sl= #[k0,k1,k2,k3,some (.builtin "ValueError.__new__"),k5]:=by
    obtain⟨l⟩:=sl
    simp only at IY
    rw[IY]
   subst hsl
   exact⟨⟨nm,qn,ns,bs,bm,hd,sn,sub,ab,col,dd,k0,k1,k2,k3,k5,_⟩,k _ _ hob,.of_isNs (PySem.W.isNs_of_in k e5),PySem.W.nsMap_none_of_in k e5 e6,PySem.W.tail_of_in k e4⟩
  ·cases q
 ·cases q
def N6(C:Addr)(E:St->XK)(t:TA):TS:=λ_ σ H=>t σ H λvs H1=>vs.length<=sizeLine/\E σ (.ref C) none H1
theorem Ia{X:Cx}{E:St->XK}{C:Addr}{x:Str}{np cpos pos:Pos}{e:Expr}{es:List Expr}{t:TA}(L:Lets X E)(OE:JA X.K C)(hc:X.calm=true)
  (hg:Gl X x) (hm:X.mg x=some (.ref C)) (ha:PA X (e::es) t) (hdb:(x==("__debug__" :Str))=false:=by decide) (he:starEach (e::es) X.env=(false,eval e X.env)::starEach es X.env:=by rfl)
  (hpl:(backTo cpos (starEach es X.env)).any (·.1)=false:=by rfl):PS X (.Raise (some (.Call (.Name x np) (e::es) [] cpos)) none pos) (N6 C E t):=by
 intro pins s σ H D I h
 obtain⟨Bn,B,newId,inN,nid,initId,bmN,bmB,O⟩:=OE
 obtain⟨d,hC,hN,hni,T⟩:=O.obj X.base I.ok.mod.L8
 refine wpAny_Raise_call_subU (C:=C) (nm:=d.nm) (q:=d.q) (N:=d.N) (bs:=d.bs) (bm:=d.bm) (hdct:=d.hdct) (sn:=d.sn) (sub:=d.sub) (ab:=d.ab) (col:=d.col) (dd:=d.dd) (k0:=d.k0) (k1:=d.k1) (k2:=d.k2) (k3:=d.k3) (k5:=d.k5) O.fn O.has O.fb
  (mN:=d.mN) (T.hasType O.fb.hasBase) (I.ok.hd hc) (by rw[he];show(false||(backTo cpos (starEach es X.env)).any (·.1))=false;rw[hpl];rfl) hni (m7 I hg hm ⟨rfl,?_⟩ hdb)
 have z:=ha cpos pins s σ H _ I h
 rw[he]at z ⊢
 refine Calls.evalArgs_plain (dJ z λus s2 ⟨vs,H2,I2,r,hl,q2⟩=>⟨rfl,?_,I2.bk _ _ hC,hN.keeps I2.bk,T.keeps I2.bk,λh' ea hm=>?_⟩)
 ·show us.length<=sizeLine
  rw[←r.length]
  exact hl
 ·obtain⟨t',ht,_,_⟩:=hm.there
  exact L pins σ H2 _ ea (.ref C) none (I2.kept (t':=s2.toks) hm.keeps) ⟨I2.Te hm.new (I2.hok.none_of hm.new),_,_,ht,λ_=>rfl,.inl rfl⟩ q2
end L2
namespace L2
open PySem PySem.Spec PyProof.Rows
def Fm(X:Cx):Prop:=∃e0 r L,X.stack=e0::r/\e0.frame=some L/\X.env.frame=some L
theorem Pc{CX:G3}{P:Program}{w:World}{K:PySem.W.Frag}{mg:Str->Option Value}{base:Heap}{N:List Str}{qual:Str}{scope:Scope}{f:Addr}{cd:Value}{A:Around}{outer:List Env}{s:Shared}{H:Hp}{E:XK}:
  Fm (sM CX P w K mg base N qual scope f cd A outer s H E).OA:=⟨_,_,_,rfl,rfl,rfl⟩
abbrev Cx.w9(X:Cx)(pn:List (Addr×Obj))(xe:Value->Shared->Prop):Cx:={ X with pn:=pn,xe:=xe }
theorem Cx.Ok.w9{X:Cx}(ok:X.Ok)(pn:List (Addr×Obj))(xe:Value->Shared->Prop):(X.w9 pn xe).Ok :=
 ⟨ok.mod,ok.kind,ok.glob,ok.blt,ok.above,ok.inj,ok.has,ok.Lr,ok.hd,ok.frames,ok.stk,ok.T4,ok.bs,ok.Jw,ok.DP,ok.GD,ok.rD,ok.Lh,ok.tk⟩
section
variable{X:Cx}{pins ps:List (Addr×Obj)}{σ:St}{H:Hp}{s:Shared}{xe:Value->Shared->Prop}
theorem Inv.w9(I:Inv X pins σ H s):Inv (X.w9 (X.pn++pins) xe) [] σ H s :=
 ⟨I.ok.w9 _ _,I.os,I.bare,I.base,I.loc,I.cell,I.free,I.jV,λp hp=>I.pin p (by simpa using hp),I.hok,I.len,I.up⟩
theorem Inv.qK(ok:X.Ok)(I:Inv (X.w9 (X.pn++pins) xe) ps σ H s):Inv X pins σ H s :=
 ⟨ok,I.os,I.bare,I.base,I.loc,I.cell,I.free,I.jV,λp hp=>I.pin p (List.mem_append_left _ hp),I.hok,I.len,I.up⟩
theorem Lw.qK{b:Addr}(k:Lw (X.w9 (X.pn++pins) xe) ps H b):Lw X pins H b :=
 ⟨k.1,k.2.1,k.2.2.1,k.2.2.2.1,k.2.2.2.2.1,λp hp=>k.2.2.2.2.2 p (List.mem_append_left _ hp)⟩
theorem yw.to{h:Heap}{φ ψ:Addr->Prop}{ea:Addr}{cls:Value}{od:Option Addr}(x:yw h φ ea cls od)(m:∀b,φ b->ψ b):yw h ψ ea cls od:=by
 obtain⟨p,vs,sl,e,c2,T,oT,ts,a,b,c,d⟩:=x
 exact⟨m _ p,vs,sl,e,c2,T,oT,ts,a,b,m _ c,d⟩
end
abbrev TH:=Value->Option Addr->TS
def PH(X:Cx)(hs:List ExceptHandler)(th:TH):Prop :=
 ∀(pins:List (Addr×Obj)) (s:Shared) (σ:St) (H:Hp) (D:Ends) (ea:Addr) (cls:Value) (od:Option Addr),Inv X pins σ H s->yw s.heap (Lw X pins H) ea cls od->th cls od D σ H →
  wpAny (model X.prog X.w) X.A (handleBy (.ref ea) X.env hs) (SP X pins D) X.xe s
def VC(tb:(St->XK)->TS)(th:TH):TS:=λD σ H=>tb (λσ' cls od H'=>th cls od D σ' H') D σ H
theorem Ol{X:Cx}{body:List Stmt}{h₀:ExceptHandler}{hs:List ExceptHandler}{pos:Pos}{tb:(St->XK)->TS}{th:TH}(F:Fm X)
  (hb:∀(E:St->XK) (pn:List (Addr×Obj)) (xe:Value->Shared->Prop),Lets (X.w9 pn xe) E->PassesOwn (model X.prog X.w) X.A X.env xe->zu (X.w9 pn xe) body (tb E)) (hh:PH X (h₀::hs) th) :
  PS X (.Try body (h₀::hs) [] [] pos) (VC tb th):=by
 intro pins s σ H D I h
 obtain⟨e0,r,L,hst,h0,hf⟩:=F
 refine wpAny_Try_except ?_
 generalize WC:(λe s₁=>wpAny (model X.prog X.w) X.A (noteFrame e X.env) (λ_ s₂=>wpAny (model X.prog X.w) X.A (setFlight e none) (λ_ s₃=>wpAny (model X.prog X.w) X.A (handleBy e X.env (h₀::hs)) (SP X pins D) X.xe s₃) X.xe s₂) X.xe s₁)=xe
 have LX:Lets (X.w9 (X.pn++pins) xe) λσ' cls od H'=>th cls od D σ' H':=by
  intro ps σ' H' s' ea cls od J x q
  show xe (.ref ea) s'
  subst WC
  have fr:=J.ok.frames
  have sf:=J.stack
  refine BR (s:=s') (e0:=e0) (r:=r) (by rw[←hst];exact fr) (by rw[←hst];exact sf) h0 hf x (λb hb=>J.Qq hb) λh1 n1 x1=>?_
  refine rG (fr:=frs (e0::r)) x1 λh2 n2 x2=>?_
  have L5:=n1.trans n2
  rw[←hst]at L5
  have J2:=J.noted L5
  exact hh pins _ σ' H' D ea cls od (J2.qK I.ok) (x2.to λb k=>k.qK) q
 have po:PassesOwn (model X.prog X.w) X.A X.env xe:=by
  subst WC
  exact PassesOwn.looking
 refine wpAny_mono (hb _ _ xe LX po [] s σ H D I.w9 h) (λf s1 q=>?_) λe s1 q=>?_
 ·cases f with
  |next =>
   obtain⟨σ',H',J,q⟩:=q
   exact wpAny_execs_nil ⟨σ',H',J.qK I.ok,q⟩
  |brk =>
   obtain⟨σ',H',J,q⟩:=q
   exact⟨σ',H',J.qK I.ok,q⟩
  |cont =>
   obtain⟨σ',H',J,q⟩:=q
   exact⟨σ',H',J.qK I.ok,q⟩
  |ret u =>
   obtain⟨v,σ',H',J,rv,q⟩:=q
   exact⟨v,σ',H',J.qK I.ok,rv,q⟩
 ·have q':xe e s1:=q
  subst WC
  exact q'
abbrev Cx.within(X:Cx)(ea:Addr):Cx:={ X with A:=X.A.mark (some (.ref ea)),calm:=false,xe:=λ_ _=>False }
theorem Cx.Ok.within{X:Cx}(ok:X.Ok)(ea:Addr):(X.within ea).Ok :=
 ⟨ok.mod,ok.kind,ok.glob,ok.blt,ok.above,ok.inj,ok.has,ok.Lr,(λz=>nomatch z),ok.frames,ok.stk,ok.T4,ok.bs,ok.Jw,ok.DP,ok.GD,ok.rD,ok.Lh,ok.tk⟩
section
variable{X:Cx}{pins:List (Addr×Obj)}{σ:St}{H:Hp}{s:Shared}{ea:Addr}
theorem Inv.within(I:Inv X pins σ H s)(ea:Addr):Inv (X.within ea) pins σ H s:=⟨I.ok.within ea,I.os,I.bare,I.base,I.loc,I.cell,I.free,I.jV,I.pin,I.hok,I.len,I.up⟩
theorem Inv.behind(ok:X.Ok)(I:Inv (X.within ea) pins σ H s):Inv X pins σ H s:=⟨ok,I.os,I.bare,I.base,I.loc,I.cell,I.free,I.jV,I.pin,I.hok,I.len,I.up⟩
end
def Ft(ea:Addr)(cls:Value)(od:Option Addr):HO:=.ext λh=>∃vs sl,h.get? ea=some ⟨cls,od,.fields vs,sl⟩
def Ends.un(D:Ends)(i:Nat):Ends:={ nx:=λσ H=>D.nx (σ.set i none) H,rt:=D.rt,bk:=λσ H=>D.bk (σ.set i none) H,ct:=λσ H=>D.ct (σ.set i none) H }
theorem Inv.Hz{X:Cx}{pins:List (Addr×Obj)}{σ:St}{H:Hp}{s:Shared}{a:Addr}{o:HO}(I:Inv X pins σ H s)(k:Lw X pins H a)(new:bM X.prog X.w (upd H a o) s.heap a o):Inv X pins σ (upd H a o) s:=by
 obtain⟨hn,k1,k2,k3,k4,k5⟩:=k
 refine⟨I.ok,I.os,I.bare,⟨I.base.keep,I.base.slot,λb ob q n hx=>?_,I.base.there,λb xs q=>?_,λb ob u q=>?_,λb ps q=>?_⟩,I.loc,I.cell,?_,λx c e=>?_,λp hp=>?_,λb u q=>?_,I.len,I.up⟩
 ·have ne:b≠a:=λz=>by
   rcases k3 with y|y
   ·rw[←z,q]at y;cases y
   ·exact hx (z▸y)
  rw[au ne]
  exact I.base.free b ob q n hx
 ·have q':=I.base.tups b xs q
  rw[au (aM q' hn)];exact q'
 ·have q':=I.base.rE b ob u q
  rw[au (aM q' hn)];exact q'
 ·obtain⟨more,q'⟩:=I.base.rO b ps q
  exact⟨more,by rw[au (aM q' hn)];exact q'⟩
 ·rw[au (Ne.symm k1)];exact I.free
 ·rw[au (k4 x c e)];exact I.jV x c e
 ·obtain⟨e,n,r⟩:=I.pin p hp
  exact⟨e,by rw[au (k5 p hp)];exact n,r⟩
 ·by_cases hb:b=a
  ·subst hb;rw[ah]at q;cases q;exact new
  ·rw[au hb]at q
   exact(I.hok b u q).stay (λc v _ r=>r) (λc r=>by rw[au (aM r hn)];exact r) λc xs r=>by rw[au (aM r hn)];exact r
structure XB(K:PySem.W.Frag)(D:Addr):Prop where
 hd:PySem.W.hasDictIn K D=true
 ty:PySem.W.typeIn K (.ref D)=some (.type "type")
 be:PySem.W.mroIn K D (.type "BaseException")=some true
theorem GF{M:Model}{A:Around}{E:Value->Shared->Prop}{s:Shared}{K:PySem.W.Frag}{Q:Bool->Shared->Prop}{ea C D:Addr}{o:Obj}{b:Bool}(k:K.In s.heap)(he:s.heap.get? ea=some o)(hc:o.cls= .ref C)
  (h0:PySem.W.subIn K (.ref C) (.ref D)=some b) (h2:XB K D) (q:Q b s):wpAny M A (excMatches (.ref ea) (.ref D)) Q E s:=by
 have h1:PySem.W.kitCls K (.ref C) (.ref D)=some b:=by
  obtain⟨cd,hcd,_⟩:=PySem.W.any_some h2.hd
  show(if((PySem.W.clsIn K D).isSome&&PySem.W.typeIn K (.ref D)==some (.type "type"))=true then PySem.W.subIn K (.ref C) (.ref D)else none)=some b
  rw[if_pos (by rw[hcd,h2.ty];simp)]
  exact h0
 obtain⟨lt,li,ls⟩:=PySem.W.kit_cls (M:=M) k h1
 have lb:=PySem.W.looks_mroIn (M:=M) k h2.be
 have le:PySem.W.Looks M s.heap (typeOf (.ref ea)) (.ref C):=by
  intro A' Q' E' s' kk qq
  unfold typeOf
  exact wpAny_bind (wpAny_loadPart (kk _ _ he) (wpAny_pure (by rw[hc];exact qq)))
 have l0:PySem.W.Looks M s.heap (isInstance (.ref D) (.type "tuple")) false:=lt.andThen (PySem.W.Looks.of_pure tc_notTuple)
 have l1:PySem.W.Looks M s.heap (isExcClass (.ref D)) true:=by
  unfold isExcClass
  exact li.andThen lb
 unfold excMatches
 refine wpAny_bind (l0.here (wpAny_bind ?_))
 simp only[Bool.false_eq_true,if_false]
 refine wpAny_pure ?_
 rw[List.forIn_cons]
 refine wpAny_bind (wpAny_bind (wpAny_bind (l1.here ?_)))
 simp only[Bool.not_true,Bool.false_eq_true,if_false]
 refine wpAny_pure (wpAny_pure ?_)
 refine wpAny_bind (le.here (wpAny_bind ?_))
 rw[List.forIn_cons]
 refine wpAny_bind (wpAny_bind (ls.here ?_))
 cases b with
 |true =>
  simp only[if_true]
  exact wpAny_pure (wpAny_pure (wpAny_pure q))
 |false =>
  simp only[Bool.false_eq_true,if_false]
  exact wpAny_pure (wpAny_pure (wpAny_pure q))
theorem name_goes{X:Cx}{pins:List (Addr×Obj)}{σ:St}{H:Hp}{s:Shared}{M:Model}{A:Around}{E:Value->Shared->Prop}{Q:Unit->Shared->Prop}{i:Nat}{n:Str}{pos:Pos}(I:Inv X pins σ H s)(hN:X.N.Nodup)(hi:X.N[i]? =some n)(hl:X.env.scope.names.lookup n=some .local)
  (h:∀s',Inv X pins (σ.set i none) H s'->Q () s'):wpAny M A (do bindName X.env n .none;unbindBehindTheSuite X.env n pos) Q E s:=by
 obtain⟨m,hn,hlk⟩:=I.loc
 refine wpAny_nameGoes_keeps hl hn (by rw[I.ok.kind];rfl) λh' v hn' sb=>h _ ?_
 have cellK:∀x c,X.env.cells.lookup x=some c->∀v,s.heap.IsCell c v->h'.IsCell c v:=λx c e v ⟨o,ho,hd⟩=>⟨o,(sb.2 c (I.Mn x c e)).trans ho,hd⟩
 refine⟨I.ok,I.os,I.bare,I.base.same λb o e=>sb.2 b (Nat.ne_of_lt (Nat.lt_of_lt_of_le (Heap.lt_size e) I.ok.above)),⟨_,hn',λj y u e1 e2 e3=>?_⟩,λx c e=>?_,I.free,I.jV,λp hp=>?_,I.hok.but I.free sb,by rw[List.length_set];exact I.len,Nat.le_succ_of_le I.up⟩
 ·have ji:i≠j:=λz=>by
   subst z
   rw[List.getElem?_set_self (by rw[I.len];exact(List.getElem?_eq_some_iff.mp hi).1)]at e2
   cases e2
  rw[List.getElem?_set_ne ji]at e2
  obtain⟨w,rv,l⟩:=hlk j y u e1 e2 e3
  refine⟨w,rv,?_⟩
  rcases l with⟨k1,k2⟩|⟨k,c,e,z⟩
  ·refine .inl ⟨k1,?_⟩
   have ne:y≠n:=λz=>ji (wk hN hi (z▸e1))
   show(if y=n then v else m y)=some w
   rw[if_neg ne]
   exact k2
  ·exact .inr ⟨k,c,e,cellK y c e _ z⟩
 ·obtain⟨v,z⟩:=I.cell x c e
  exact⟨v,cellK x c e v z⟩
 ·obtain⟨e,hh,ne,r⟩:=I.pin p hp
  exact⟨(sb.2 _ ne).trans e,hh,ne,r⟩
def Zq(K:PySem.W.Frag)(C:Addr)(i:Nat)(ts:TS)(th:TH):TH:=λcls od D σ H=>∃Ce b,cls= .ref Ce/\PySem.W.subIn K (.ref Ce) (.ref C)=some b ∧
 if b=true then ∀ea,H ea=none->ts (D.un i) (σ.set i (some (.ref ea))) (upd H ea (Ft ea cls od))else th cls od D σ H
theorem LW{X:Cx}{i:Nat}{n x:Str}{C:Addr}{b₀:Stmt}{suite:List Stmt}{np pos:Pos}{rest:List ExceptHandler}{ts:TS}{th:TH}(hN:X.N.Nodup)(hi:X.N[i]? =some n)(hl:X.env.scope.names.lookup n=some .local)(hg:Gl X x)(hm:X.mg x=some (.ref C))
  (Ja:XB X.K C) (Z4:∀ea,zu (X.within ea) (b₀::suite) ts) (hr:PH X rest th) (hdb:(x==("__debug__" :Str))=false:=by decide) :
  PH X (.ExceptHandler (some (.Name x np)) (some n) (b₀::suite) pos::rest) (Zq X.K C i ts th):=by
 intro pins s σ H D ea cls od I x h
 obtain⟨Ce,b,rfl,hk,h⟩:=h
 obtain⟨pe,vs,sl,he,hT⟩:=id x
 refine wpAny_handleBy_cons (codeAny_handlers_test (m7 (X:=X.within ea) (I.within ea) hg hm ?_ hdb)) (by intro q;cases q)
 refine GF I.nR he rfl hk Ja ?_
 cases b with
 |false=>exact hr pins s σ H D ea _ od I x h
 |true =>
  refine codeAny_handlers_suite_as ?_
  refine rG (fr:=frs X.stack) x λh1 n1 x1=>?_
  have I1:=I.noted n1
  obtain⟨Yc,Zl,VT,TU,_⟩:=id x1
  have I2:Inv X pins σ (upd H ea (Ft ea (.ref Ce) od)) { s with heap:=h1 }:=I1.Hz Yc ⟨⟨Zl,VT,TU⟩,⟨_,TU⟩,λh1 h2 ⟨v,s',e⟩ k=>⟨v,s',k _ e⟩⟩
  refine oW (X:=X.within ea) (I2.within ea) hN hi (.inl hl) (v:=.ref ea) rfl (λs2 I3=>?_) (.inr hl)
  have z:=Z4 ea pins s2 _ _ (D.un i) I3 (h ea Yc.1)
  refine wpAny_mono z (λf s3 q=>?_) λ_ _ z=>False.elim z
  cases f with
  |next =>
   obtain⟨σ',H',J,q⟩:=q
   exact name_goes (J.behind I.ok) hN hi hl λs4 J4=>⟨_,_,J4,q⟩
  |brk =>
   obtain⟨σ',H',J,q⟩:=q
   exact name_goes (J.behind I.ok) hN hi hl λs4 J4=>⟨_,_,J4,q⟩
  |cont =>
   obtain⟨σ',H',J,q⟩:=q
   exact name_goes (J.behind I.ok) hN hi hl λs4 J4=>⟨_,_,J4,q⟩
  |ret u =>
   obtain⟨v,σ',H',J,rv,q⟩:=q
   exact name_goes (J.behind I.ok) hN hi hl λs4 J4=>⟨v,_,_,J4,rv,q⟩
theorem Ot{X:Cx}:PH X [] λ_ _ _ _ _=>False:=λ_ _ _ _ _ _ _ _ _ _ h=>False.elim h
def N9(sp:Sp)(dvs:List V)(E:St->XK)(t:TA):TE:=λσ H Q=>t σ H λvs H1=>sp (vs++dvs) H1 Q (E σ)
section
variable{X:Cx}{k:Nat}{f C:Addr}{fd:FuncData}{ps:List Str}{sp:Sp}{dvs:List V}{ds:List Value}{E:St->XK}{x:Str}{p pos:Pos}{e:Expr}{es:List Expr}{t:TA}
theorem Ij(F:aK X.prog X.w X.K X.mg X.base (vq X.prog X.w) k f fd ps sp)(hr:jE k X.A)(hg:Gl X x)(hm:X.mg x=some (.ref f))(hk:PySem.W.keepIn X.K (.ref f)=true)(hb:Binds X.K fd ps ds)(hd:Vals dvs ds)(LX:Lets X E)
  (ha:PA X (e::es) t) (hdb:(x==("__debug__" :Str))=false:=by decide) (he:starEach (e::es) X.env=(false,eval e X.env)::starEach es X.env:=by rfl) (hpl:(backTo pos (starEach es X.env)).any (·.1)=false:=by rfl) :
  PE X (.Call (.Name x p) (e::es) [] pos) (N9 sp dvs E t):=by
 intro pins s σ H Q I h
 refine wpAny_Call_Name_kw (m7 I hg hm ?_ hdb)
 refine PySem.W.callWith_K (h₀:=X.base) I.ok.mod.L8 hk (dJ (ha pos pins s σ H _ I h) λus s1 ⟨vs,H1,I1,r,q⟩=>⟨I1.nR,?_⟩) he hpl
 have r2:Vals (vs++dvs) (us++ds):=r.append hd
 have hl:(us++ds).length=ps.length:=by rw[←r2.length];exact F.len _ _ _ _ q
 refine wpAny_call (codeAny_mono (F.run X.A X.stack s1 H1 ⟨us,[]⟩ (us++ds) (vs++dvs) Q (E σ) hr I1.Lq (hb s1 us I1.nR hl) r2 q) λrr s' hq=>?_)
 cases rr with
 |error e=>exact LX.pass I1 hq
 |ok fl =>
  cases fl with
  |ret u=>exact I1.after hq
  |next=>exact False.elim hq
  |brk=>exact False.elim hq
  |cont=>exact False.elim hq
end
end L2
namespace L2
open PySem PySem.Spec PyProof.Rows
end L2
namespace L2
open PySem PySem.Spec PyProof.Rows
section
variable{X:Cx}
abbrev TJ:=St->Hp->Str->(Str->Hp->Prop)->Prop
def PJ(X:Cx)(es:List Expr)(tj:TJ):Prop:=∀(pins:List (Addr×Obj)) (s:Shared) (σ:St) (H:Hp) (acc:Str) (R:Str->Hp->Prop),Inv X pins σ H s->tj σ H acc R →
 Joins (model X.prog X.w) X.A X.xe (evalEach es X.env) acc (λout s1=>out.length<=sizeLine/\∃H1,Inv X pins σ H1 s1/\R out H1) s
theorem Ic:PJ X [] (λ_ H acc R=>acc.length<=sizeLine/\R acc H):=λ_ _ _ H _ _ I h=>⟨h.1,H,I,h.2⟩
theorem qi{e:Expr}{es:List Expr}{te:TE}{tj:TJ}(he:PE X e te)(hr:PJ X es tj)(hx:evalEach (e::es) X.env=eval e X.env::evalEach es X.env:=by rfl):
  PJ X (e::es) (λσ H acc R=>te σ H λv H1=>∃y,v= .str y/\(acc++y).length<=sizeLine/\tj σ H1 (acc++y) R):=by
 intro pins s σ H acc R I h
 rw[hx]
 refine dJ (he pins s σ H _ I h) λu s1 ⟨v,H1,I1,r,y,e1,hl,q⟩=>?_
 subst e1
 obtain⟨t,rfl⟩:=r
 exact⟨y,t,rfl,hl,hr pins s1 σ H1 _ R I1 q⟩
theorem yT{M:Model}{A:Around}{E:Value->Shared->Prop}:∀{parts:List (Sem Value)} {acc:Str} {Q Q':Str->Shared->Prop} {s:Shared},Joins M A E parts acc Q s->(∀out s1,Q out s1->Q' out s1)->Joins M A E parts acc Q' s
 |[],_,_,_,_,h,k=>k _ _ h
 |_::_,_,_,_,_,h,k=>dJ h λ_ _ ⟨y,t,e,hl,q⟩=>⟨y,t,e,hl,yT q k⟩
theorem E3{v₁ v₂:Expr}{rest:List Expr}{pos:Pos}{tj:TJ}(h:PJ X (v₁::v₂::rest) tj):PE X (.JoinedStr (v₁::v₂::rest) pos) (λσ H Q=>tj σ H Str.empty λout H1=>Q (.str out) H1):=by
 intro pins s σ H Q I q
 refine wpAny_JoinedStr (yT (h pins s σ H Str.empty _ I q) λout s1 ⟨hl,H1,I1,q1⟩=>⟨hl,.str out,H1,I1.tok _,⟨_,rfl⟩,q1⟩)
theorem Kr{value:Expr}{pos:Pos}{te:TE}(he:PE X value te):PE X (.FormattedValue value 114 none pos) (λσ H Q=>te σ H λv H1=>∃x,v= .str x/\(reprText x).length<=sizeLine/\Q (.str (reprText x)) H1):=by
 intro pins s σ H Q I h
 refine wpAny_FormattedValue_repr (dJ (he pins s σ H _ I h) λu s1 ⟨v,H1,I1,r,x,e,hl,q⟩=>?_)
 subst e
 obtain⟨t,rfl⟩:=r
 refine wpAny_pyReprObj_str (x:=x) ?_ hl
 exact wpAny_formatField_str ⟨.str (reprText x),H1,I1.tok _,⟨_,rfl⟩,q⟩ ⟨.str (reprText x),H1,(I1.tok _).tok _,⟨_,rfl⟩,q⟩ hl
theorem Ig{value:Expr}{pos:Pos}{te:TE}(he:PE X value te):PE X (.FormattedValue value (-1) none pos) (λσ H Q=>te σ H λv H1=>∃i:Int,v= .int i/\i.natAbs.log2<1920/\Q (.str (Str.ofString (toString i))) H1):=by
 intro pins s σ H Q I h
 refine wpAny_FormattedValue_plain (dJ (he pins s σ H _ I h) λu s1 ⟨v,H1,I1,r,i,e,hl,q⟩=>?_)
 subst e
 obtain⟨t,rfl⟩:=r
 exact wpAny_formatField_int hl ⟨.str (Str.ofString (toString i)),H1,I1.tok _ (by show s1.toks<=_;omega),⟨_,rfl⟩,q⟩
end
structure Lv(K:PySem.W.Frag)(C:Addr):Prop where
 ga:PySem.W.findIn K (.ref C) "__getattribute__" =some (some (.builtin "BaseException.__getattribute__"))
 gn:PySem.W.findIn K (.ref C) "__getattr__" =some none
 hd:PySem.W.hasDictIn K C=true
 ha:PySem.W.findIn K (.ref C) "__class__" =some (some (.builtin "object.__class__"))
 hn:PySem.W.specialIn K (.builtin "object.__class__") "__get__" =some (some (.builtin "getset_descriptor.__get__"))
 htk:PySem.W.takesIn K (.builtin "object.__class__")=some true
 hm:PySem.W.mroIn K C (.type "object")=some true
 hb:PySem.W.mroIn K C (.type "BaseException")=some true
theorem GG{prog:Program}{w:World}{A:Around}{E:Value->Shared->Prop}{s:Shared}{K:PySem.W.Frag}{x C:Addr}{ox:Obj}{od:Option Obj}{Q:Option Value->Shared->Prop}(Z:Lv K C)(k:K.In s.heap)(I:PySem.W.InstAt s.heap x ox C od)
  (h:Q (some (.ref C)) { s with toks:=s.toks+1 }):wpAny (model prog w) A (getAttr? (.ref x) "__class__") Q E s:=by
 obtain⟨hh,g,d,t,os⟩:=s
 have L0:=I.type (M:=model prog w)
 have L1:=PySem.W.looks_findIn (M:=model prog w) k Z.ga
 have L2:=PySem.W.looks_findIn (M:=model prog w) k Z.gn
 have LB:=PySem.W.looks_mroIn (M:=model prog w) k Z.hb
 have hf:PySem.W.findObj K C od "__class__" =some (.bind (.builtin "getset_descriptor.__get__") (.builtin "object.__class__")):=by
  obtain⟨cd,hc,_⟩:=PySem.W.any_some Z.hd
  unfold PySem.W.findObj
  rw[hc,Option.bind_some,Z.ha,Option.bind_some]
  simp[Z.hn,Z.htk]
 have LF:=PySem.W.looks_find (M:=model prog w) k I hf
 unfold getAttr? getAttrBy? getAttrBy
 refine wpAny_bind (wpAny_mkText (wpAny_bind (wpAny_attempt (wpAny_holding (wpAny_bind (L0.at (wpAny_bind (L1.at ?_))))))))
 show wpAny _ _ (getAttrByItsOwn _ _ _ _ _ _) _ _ _
 unfold getAttrByItsOwn hookBefore
 refine wpAny_bind (L2.at ?_)
 refine wpAny_bind (wpAny_attempt (wpAny_holding ?_))
 show wpAny _ _ (boundAndCalled _ _ _) _ _ _
 unfold boundAndCalled
 refine wpAny_bind (wpAny_of_eq (PySem.F.attr_ValueError.ga.bind (.ref x)) ?_)
 show wpAny _ _ (call (.builtin "BaseException.__getattribute__") [.ref x,.str "__class__" t]) _ _ _
 refine wpAny_call (codeAny_call_builtin PySem.F.attr_ValueError.ga.plain PySem.F.entry_bexc_ga ?_)
 have c1:builtinKind "BaseException.__getattribute__" =some .slot:=by decide +kernel
 have c2:splitId "BaseException.__getattribute__" =some ("BaseException","__getattribute__"):=by decide +kernel
 have c3:=PySem.F.args_bexc_ga (.ref x) (.str "__class__" t)
 simp only[checkBuiltinCall,c1,c2]
 refine wpAny_bind (wpAny_bind (L0.at (LB.at ?_)))
 simp only[Bool.not_true,Bool.false_eq_true,if_false]
 unfold argsOk at c3
 refine wpAny_of_eq c3 ?_
 unfold Builtin.«object.__getattribute__»
 refine wpAny_bind (wpAny_pure (wpAny_bind (wpAny_pure (wpAny_bind (L0.at (wpAny_bind (LF.at ?_)))))))
 show wpAny _ _ (holding [.builtin "object.__class__"] (call (.builtin "getset_descriptor.__get__") [.builtin "object.__class__",.ref x,.ref C]) >>= ret) _ _ _
 refine wpAny_bind (wpAny_holding (wpAny_call (PySem.W.class_get (ox:=ox) (od:=od) k I Z.hm ?_)))
 refine wpAny_pure ?_
 show wpAny _ _ (handedOut (.ref C)) _ _ _
 exact PySem.W.handed_on rfl (wpAny_pure h)
end L2
namespace L2
open PySem PySem.Spec PyProof.Rows
theorem sE{K:PySem.W.Frag}{x C:Addr}{ox:Obj}{od:Option Obj}(Z:Lv K C):PySem.W.KitX K (.ref x) (.ref C) (λh=>PySem.W.InstAt h x ox C od) where
 ty:=λ_ _ _ I=>I.type
 it:=λ_ _ k _=>by
  obtain⟨cd,hcd,_⟩:=PySem.W.any_some Z.hd
  unfold PySem.W.clsIn at hcd
  split at hcd
  ·rename_i c1 d1 cd1 VT hob
   intro A1 Q1 E1 s1 kk q
   unfold isType loadHead
   exact wpAny_bind (wpAny_loadPart (kk _ _ (k _ _ hob)) (wpAny_pure q))
  ·cases hcd
 ne:=λh tp dd its n sl k htp=>by
  obtain⟨cd,hcd,_⟩:=PySem.W.any_some Z.hd
  refine Bool.eq_false_iff.mpr λq=>?_
  have e:=Value.ref.inj (beq_iff_eq.mp q)
  subst e
  unfold PySem.W.clsIn at hcd
  split at hcd
  ·rename_i c1 d1 cd1 VT hob
   have z:=(k _ _ hob).symm.trans htp
   cases z
  ·cases hcd
 ca:=λk I q=>GG Z k I q
end L2
namespace GP
open PySem L2 xG
theorem Jz{x:Str}(h:x.length<=20)(hz:100<=sizeLine):(Str.empty++x).length<=sizeLine:=by
 rw[strLen_append]
 have:Str.empty.length=0:=rfl
 omega
theorem zo{x y:Str}(h:x.length<=20)(hz:y.length+20<=sizeLine):((Str.empty++x)++y).length<=sizeLine:=by
 rw[strLen_append,strLen_append]
 have:Str.empty.length=0:=rfl
 omega
end GP
namespace L2
open PySem PySem.Spec PyProof.Rows
theorem HU{X:Cx}:XQ X (λx lo hi H Q=>∃y,x= .str y/\y.length<=sizeLine/\Q (.str (Txt.slice y lo hi)) H):=by
 intro pins s σ H x v vl vu lo hi sl Q I rx hs pl pu h
 obtain⟨y,rfl,hz,q⟩:=h
 obtain⟨t,rfl⟩:=rx
 refine⟨"str",_,PySem.F.slot_str_getitem.lookup,typeIs_str _ _ _,?_⟩
 have fin:(Txt.slice y lo hi).length<=sizeLine/\∀t' k,s.toks<=k->EP X pins σ Q (.str (Txt.slice y lo hi) t') { s with toks:=k }:=⟨Nat.le_trans (Txt.slice_le y _ _) hz,λt' k hk=>⟨.str (Txt.slice y lo hi),H,I.tok k hk,⟨_,rfl⟩,q⟩⟩
 refine TK.bO (Nat.le_refl s.toks) ?_
 cases pl with
 |none =>
  cases pu with
  |none=>exact wpAny_getItem_str_slice (l:=none) (u:=none) (st:=none) hs rfl (post_val_or_str fin)
  |int j u=>exact wpAny_getItem_str_slice (l:=none) (u:=some (j,u)) (st:=none) hs rfl (post_val_or_str fin)
 |int i u =>
  cases pu with
  |none=>exact wpAny_getItem_str_slice (l:=some (i,u)) (u:=none) (st:=none) hs rfl (post_val_or_str fin)
  |int j u'=>exact wpAny_getItem_str_slice (l:=some (i,u)) (u:=some (j,u')) (st:=none) hs rfl (post_val_or_str fin)
end L2
namespace GP
open PySem L2 xG
theorem lU{x y:Str}:(x++y).cps.toList=x.cps.toList++y.cps.toList:=by
 show(x.cps++y.cps).toList=_
 exact Array.toList_append ..
end GP
namespace L2
open PySem PySem.Spec PyProof.Rows
section
variable{prog:Program}{w:World}{A:Around}{E:Value->Shared->Prop}{h:Heap}{gs:Array GenState}{dr:Drawn}{tk:Nat}{os:OsState}
variable{nm qn:Str}{C N:Addr}{bs tl bmB bmN:List Value}{hdct:Bool}{sn:List Str}{sub:List Value}{ab:Bool}{col:Option Bool}{dd:Option Addr}{k0 k1 k2 k3 k5:Option Value}{B Bn newId nid initId inN:String}
theorem vF{mN:Str->Option Value}{rest:List Value}{fI:Addr}{oI:Obj}{Q:Fin->Shared->Prop}(Fn:ExcBaseFacts Bn newId inN bmN)(hBn:bmB.contains (.type Bn)=true)(FB:ExcBaseFacts B nid initId bmB)(T:OwnTail h bmB tl)
  (hob:h.get? C=some (excClassObj nm qn C N bs tl hdct sn sub ab col dd k0 k1 k2 k3 k5 newId)) (hns:h.Ns N mN) (O5:mN "__init__" =some (.ref fI)) (hfo:h.get? fI=some oI) (hfc:oI.cls= .type "function")
  (hq:∀h' e,Heap.MadeExcOf h h' e (.ref C) rest->wpAny (model prog w) A (call (.ref fI) (.ref e::rest)) (λr s'=>r= .none/\Q (.done (.ret (.ref e))) s') E ⟨h',gs,dr,tk,os⟩) (hz:rest.length<=sizeLine) :
  wpAny (model prog w) A (Builtin.«type.__call__» ⟨.ref C::rest,[]⟩) Q E ⟨h,gs,dr,tk,os⟩:=by
 repeat (first|with_reducible refine wpAny_loadPart_at hob ?_|with_reducible refine wpAny_madeBy_exc hob ?_|wp_step)
 refine codeAny_call_builtin_code (Code.quiet_builtin _ Fn.quiet) (wpAny_check_new_subU Fn hBn T hob ?_)
 refine codeAny_exc_new_subU Fn hBn FB T hob ?_ hz
 show wpAny _ _ _ _ _ _
 have kp:∀b o,h.get? b=some o->((h.push { cls:=.type "tuple",data:=.seq rest.toArray }).push { cls:=.ref C,data:=.fields #[.ref h.objs.size,.none,.none,.none,.bool false,.none] }).get? b=some o:=λb o e=>Heap.get?_push_of_some _ (Heap.get?_push_of_some _ e)
 have R4:=kp _ _ hob
 have W6:=kp _ _ hfo
 have WR:=hns.keeps kp
 have T1:=T.keeps kp
 have Mj:((h.push { cls:=.type "tuple",data:=.seq rest.toArray }).push { cls:=.ref C,data:=.fields #[.ref h.objs.size,.none,.none,.none,.bool false,.none] }).get? (h.objs.size+1)=some { cls:=.ref C,data:=.fields #[.ref h.objs.size,.none,.none,.none,.bool false,.none] }:=by heap_get
 have hself:(Value.ref C::tl).contains (.ref C)=true:=by simp
 unfold isInstance
 repeat (first|with_reducible refine wpAny_loadPart_at Mj ?_|(with_reducible refine wpAny_isSubtype_exc R4 ?_;rw[hself])|wp_step)
 show wpAny _ _ (typeLookup (.ref C) _) _ _ _
 refine wpAny_typeLookup_tail R4 WR T1 FB.mroIs FB.init.lookup ?_
 rw[O5]
 refine wpAny_holding (wpAny_bind ?_)
 unfold bindSpecial
 refine wpAny_bind (wpAny_typeOf (T:= "function") ⟨_,W6,hfc⟩ ?_)
 rw[if_pos (by decide)]
 have made:Heap.MadeExcOf h ((h.push { cls:=.type "tuple",data:=.seq rest.toArray }).push { cls:=.ref C,data:=.fields #[.ref h.objs.size,.none,.none,.none,.bool false,.none] }) (h.objs.size+1) (.ref C) rest :=
  ⟨kp,Heap.get?_none_of_le (Nat.le_succ _),h.objs.size,Mj,Heap.get?_none_of_le (Nat.le_refl _),Heap.get?_push_of_some _ (Heap.get?_push_at rfl rfl)⟩
 refine wpAny_pure (wpAny_bind (wpAny_mono (hq _ _ made) (λr s' hr=>?_) λ_ _ x=>x))
 obtain⟨rfl,hQ⟩:=hr
 wp_walk
 exact hQ
theorem GO{mN:Str->Option Value}{rest:List Value}{fI:Addr}{oI:Obj}{Q:Value->Shared->Prop}(Fn:ExcBaseFacts Bn newId inN bmN)(hBn:bmB.contains (.type Bn)=true)(FB:ExcBaseFacts B nid initId bmB)(T:OwnTail h bmB tl)
  (hob:h.get? C=some (excClassObj nm qn C N bs tl hdct sn sub ab col dd k0 k1 k2 k3 k5 newId)) (hns:h.Ns N mN) (O5:mN "__init__" =some (.ref fI)) (hfo:h.get? fI=some oI) (hfc:oI.cls= .type "function")
  (hq:∀h' e,Heap.MadeExcOf h h' e (.ref C) rest->wpAny (model prog w) (A.under (.builtin "type.__call__" ⟨.ref C::rest,[]⟩)) (call (.ref fI) (.ref e::rest)) (λr s'=>r= .none/\Q (.ref e) s') E ⟨h',gs,dr,tk,os⟩) (hz:rest.length<=sizeLine) :
  wpAny (model prog w) A (call (.ref C) rest) Q E ⟨h,gs,dr,tk,os⟩:=by
 have l1:=tc_lookup
 have l2:=tc_bind (.ref C)
 have hTy:(⟨h,gs,dr,tk,os⟩:Shared).TypeIs (.ref C) "type" :=⟨_,hob,rfl⟩
 refine wpAny_call (codeAny_of_tree ?_)
 show wpAny _ _ (callAny (.ref C) _) _ _ _
 repeat (any_goals (first|assumption|with_reducible refine wpAny_loadPart_at hob ?_|wp_step))
 refine⟨rfl,codeAny_call_builtin_at (Code.quiet_builtin _ (by decide +kernel)) entry_typeCall (wpAny_check_type_call_sub hob (vF Fn hBn FB T hob hns O5 hfo hfc (λh' e hm=>?_) hz))⟩
 exact hq h' e hm
end
end L2
namespace L2
open PySem PySem.Spec PyProof.Rows
def newX(e C:Addr)(od:Option Addr):HO:=.ext λh=>∃vs sl,h.get? e=some ⟨.ref C,od,.fields vs,sl⟩/\vs[1]? =some .none/\vs[2]? =some .none/\4<vs.size
def yC(dx:Addr)(fs:List (Str×V)):HO:=.ext λh=>∃mA,h.Ns1 dx mA/\(∀f,mL (fs.lookup f) (mA f))/\PySem.Within mA (fs.map (·.1))
section
variable{P:Program}{w:World}{H:Hp}{h:Heap}
theorem Aa{e C:Addr}{od:Option Addr}{vs:Array Value}{sl:Array (Option Value)}(he:h.get? e=some ⟨.ref C,od,.fields vs,sl⟩)(h1:vs[1]? =some .none/\vs[2]? =some .none/\4<vs.size):bM P w H h e (newX e C od) :=
 ⟨⟨vs,sl,he,h1⟩,⟨_,he⟩,λ_ _ ⟨v,s,e,z⟩ k=>⟨v,s,k _ e,z⟩⟩
theorem C9{dx:Addr}{fs:List (Str×V)}{mA:Str->Option Value}(n:h.Ns1 dx mA)(r:∀f,mL (fs.lookup f) (mA f))(wi:PySem.Within mA (fs.map (·.1))):bM P w H h dx (yC dx fs) :=
 ⟨⟨mA,n,r,wi⟩,(let ⟨o,_,_,e,_⟩:=n;⟨o,e⟩),λ_ _ ⟨m,n,r,wi⟩ k=>⟨m,n.at k,r,wi⟩⟩
end
def del(H:Hp)(e:Addr):Hp:=λb=>if b=e then none else H b
theorem pO{H:Hp}{e b:Addr}(h:b≠e):del H e b=H b:=by unfold del;rw[if_neg h]
theorem Cq{H:Hp}{e:Addr}:del H e e=none:=by unfold del;rw[if_pos rfl]
theorem sL{H:Hp}{e b:Addr}(h:H b=none):del H e b=none:=by unfold del;split<;>first|rfl|exact h
theorem MC{H:Hp}{a:Addr}{o:HO}(h:H a=some o):upd H a o=H:=by
 funext b
 unfold upd
 split
 ·rename_i z;rw[z,h]
 ·rfl
section
variable{X:Cx}{pins:List (Addr×Obj)}{σ:St}{H:Hp}{s:Shared}
theorem Inv.drop{e:Addr}{φ:Heap->Prop}(I:Inv X pins σ H s)(he:H e=some (.ext φ)):Inv X pins σ (del H e) s:=by
 have ne:∀{b:Addr} {o:HO},H b=some o->(∀ ψ,o≠ .ext ψ)->b≠e:=λ{b o} hb n z=>by
  subst z
  rw[he]at hb
  exact n _ (Option.some.inj hb).symm
 refine⟨I.ok,I.os,I.bare,⟨I.base.keep,I.base.slot,λb ob q n hx=>sL (I.base.free b ob q n hx),I.base.there,λb xs q=>?_,λb ob u q=>?_,λb ps q=>?_⟩,I.loc,I.cell,sL I.free,λx c q=>sL (I.jV x c q),λp hp=>?_,λb u q=>?_,I.len,I.up⟩
 ·have q':=I.base.tups b xs q
  rw[pO (ne q' λψ z=>by cases z)];exact q'
 ·have q':=I.base.rE b ob u q
  rw[pO (ne q' λψ z=>by cases z)];exact q'
 ·obtain⟨more,q'⟩:=I.base.rO b ps q
  exact⟨more,by rw[pO (ne q' λψ z=>by cases z)];exact q'⟩
 ·obtain⟨a,n,r⟩:=I.pin p hp
  exact⟨a,sL n,r⟩
 ·have hb:b≠e:=λz=>by rw[z,Cq]at q;cases q
  rw[pO hb]at q
  exact(I.hok b u q).stay (λc v _ r=>r) (λc r=>by rw[pO (ne r λψ z=>by cases z)];exact r) λc xs r=>by rw[pO (ne r λψ z=>by cases z)];exact r
end
section
variable{M:Model}{A:Around}{E:Value->Shared->Prop}{env:Env}
variable{nm q:Str}{C N:Addr}{bs bm:List Value}{hdct:Bool}{sn:List Str}{sub:List Value}{ab:Bool}{col:Option Bool}{dd:Option Addr}{k0 k1 k2 k3 k5:Option Value}{newId:String}
theorem DA {s:Shared} {x:Sem Value} {Q:Flow->Shared->Prop} (hbase:bm.contains (.type "BaseException")=true) (hh:A.handled=none)
  (h:wpAny M A x (λv s₁=>∃e od vs sl,v= .ref e/\s₁.heap.get? C=some (excClassObj nm q C N bs bm hdct sn sub ab col dd k0 k1 k2 k3 k5 newId) ∧
   s₁.heap.get? e=some ⟨.ref C,od,.fields vs,sl⟩/\vs[1]? =some .none/\E (.ref e) s₁) E s):wpAny M A (raiseStmt env (some x) none) Q E s:=by
 have hcB:(Value.ref C::bm).contains (.type "BaseException")=true:=by rw[List.contains_cons,hbase,Bool.or_true]
 unfold raiseStmt
 refine wpAny_bind (wpAny_mono h (λv s₁ h₁=>?_) λ_ _ x=>x)
 obtain⟨e,od,vs,sl,rfl,hC,he,hv,hE⟩:=h₁
 obtain⟨hp,g,d,tk,os⟩:=s₁
 repeat (first|with_reducible refine wpAny_loadPart_at he ?_|with_reducible refine wpAny_loadPart_at hC ?_|(with_reducible refine wpAny_isSubtype_exc hC ?_;rw[hcB])|wp_step)
 rw[hv]
 refine wpAny_pure ?_
 rw[if_neg (by decide)]
 exact wpAny_pure (wpAny_raiseNew_none hh hE)
end
def Ht:List Value:=[.type "ValueError",.type "Exception",.type "BaseException",.type "object"]
structure FG(K:PySem.W.Frag)(C fI:Addr):Prop where
 obj:∀h:Heap,K.In h->∃d:XP,h.get? C=some (d.obj C "ValueError.__new__")/\h.Ns d.N d.mN/\d.mN "__init__" =some (.ref fI)/\OwnTail h Ht d.bm
def Eg(K:PySem.W.Frag)(C fI:Addr):Bool:=match K.lookup C with
 |some ⟨.type "type",_,.cls cd,sl⟩=>(match cd.mro,sl.toList with
  | .ref C'::bm,[_,_,_,_,some (.builtin n),_]=>C'==C&&n== "ValueError.__new__" && !cd.hasDel&&PySem.W.tailIn K Ht bm&&PySem.W.nsOkIn K cd.ns&&PySem.W.nsIn K cd.ns "__init__" ==some (some (.ref fI))
  |_,_=>false)
 |_=>false
theorem DN{K:PySem.W.Frag}{h:Heap}{N:Addr}{mg:Str->Option Value}{n:Str}{v:Value}(X:K.In h)(G:h.Ns N mg)(e:PySem.W.nsIn K N n=some (some v)):mg n=some v:=by
 obtain⟨o,es,ep,ho,hd,_,hf⟩:=G
 unfold PySem.W.nsIn at e
 split at e
 ·rename_i c d es' n' sl q
  have:=X _ _ q
  rw[ho]at this
  cases this
  cases hd
  split at e
  ·rename_i he
   cases e
   rw[←hf]
   unfold nsFind findBy
   rw[←Array.find?_toList,he]
   rfl
  ·split at e
   ·cases e
   ·cases e
 ·cases e
theorem AX{K:PySem.W.Frag}{C fI:Addr}(q:Eg K C fI=true):FG K C fI:=by
 refine⟨λh k=>?_⟩
 unfold Eg at q
 split at q
 ·rename_i dd cd sl hob
  split at q
  ·rename_i C' bm k0 k1 k2 k3 nn k5 hmr IY
   simp only[Bool.and_eq_true,beq_iff_eq,Bool.not_eq_true']at q
   obtain⟨⟨⟨⟨⟨e1,e2⟩,e3⟩,e4⟩,e5⟩,e6⟩:=q
   subst e1 e2
   obtain⟨nm,bs,mro,ns,qn,hd,sn,sub,ab,col,del⟩:=cd
   dsimp only at hmr e3 e5 e6
   subst hmr e3
   have hsl:sl= #[k0,k1,k2,k3,some (.builtin "ValueError.__new__"),k5]:=by
    obtain⟨l⟩:=sl
    simp only at IY
    rw[IY]
   subst hsl
   have G:h.Ns ns _:=.of_isNs (PySem.W.isNs_of_in k e5)
   exact⟨⟨nm,qn,ns,bs,bm,hd,sn,sub,ab,col,dd,k0,k1,k2,k3,k5,_⟩,k _ _ hob,G,DN k G e6,PySem.W.tail_of_in k e4⟩
  ·cases q
 ·cases q
structure XBase(K:PySem.W.Frag)(W:Addr):Prop where
 ga:PySem.W.specialIn K (.ref W) "__getattribute__" =some (some (.builtin "type.__getattribute__"))
 rd:PySem.W.readsIn K W (.type "type")=true
 fd:PySem.W.findCls K (.ref W) (.type "type") "__init__" =some (.val (.builtin "ValueError.__init__"))
def qL:List Value->Bool
 |[]=>false
 |v::r=>(v::r)==Ht||match v with| .ref _=>qL r|_=>false
structure SJ(K:PySem.W.Frag)(C:Addr):Prop where
 hd:PySem.W.hasDictIn K C=true
 po:((PySem.W.clsIn K C).any λcd=>qL cd.mro)=true
 sa:PySem.W.findIn K (.ref C) "__setattr__" =some (some (.builtin "object.__setattr__"))
theorem yN(self:Value):∀{l:List Value},qL l=true->refuseLoop self "__setattr__" l=pure ()
 |[],e=>by cases e
 |v::r,e=>by
  unfold qL at e
  rcases Bool.or_eq_true_iff.mp e with q|q
  ·rw[beq_iff_eq.mp q];exact PySem.F.store_ValueError.passes self
  ·split at q
   ·rw[refuseLoop_ref];exact yN self q
   ·cases q
theorem Hs:∀{l:List Value},qL l=true->l.contains (.type "object")=true
 |[],e=>by cases e
 |v::r,e=>by
  unfold qL at e
  rcases Bool.or_eq_true_iff.mp e with q|q
  ·rw[beq_iff_eq.mp q];decide +kernel
  ·split at q
   ·rw[List.contains_cons,Hs q,Bool.or_true]
   ·cases q
end L2
namespace L2
open PySem PySem.Spec PyProof.Rows
def QG(K:PySem.W.Frag)(t:TA):TE:=λσ H Q=>t σ H λvs H1=>∃e C fI od y,vs=[.ref e,y]/\H1 e=some (newX e C od)/\FG K C fI/\Q .i9 H1
theorem Kv {X:Cx} {x:Str} {W:Addr} {np apos cpos:Pos} {a b:Expr} {t:TA} {pl:Sem Bool} (hW:XBase X.K W) (hg:Gl X x) (hm:X.mg x=some (.ref W)) (ha:PA X [a,b] t) (hdb:(x==("__debug__" :Str))=false:=by decide)
  (hev:eval (.Call (.Attribute (.Name x np) "__init__" apos) [a,b] [] cpos) X.env=(do
   let ov ←eval (.Name x np) X.env
   standAt apos.atName
   let (f,first) ←holding [ov] (getMethod ov "__init__" pl)
   callWith cpos f first (backTo cpos (starEach [a,b] X.env)) (backToKw cpos (keywordEach [] X.env))):=by rfl)
  (hs:starEach [a,b] X.env=(false,eval a X.env)::starEach [b] X.env:=by rfl) (hpl:(backTo cpos (starEach [b] X.env)).any (·.1)=false:=by rfl) :
  PE X (.Call (.Attribute (.Name x np) "__init__" apos) [a,b] [] cpos) (QG X.K t):=by
 intro pins s σ H Q I h
 refine PySem.W.methodCall_KW (pl:=pl) (m7 I hg hm ?_ hdb) hev
 refine PySem.W.method_cls I.nR hW.ga (PySem.W.cls_value I.nR hW.rd hW.fd (by decide +kernel) ?_)
 have hA:=ha cpos pins { s with toks:=s.toks+1 } σ H _ (I.tok _) h
 rw[hs]at hA ⊢
 refine Calls.callWith_builtin (by show(false||(backTo cpos (starEach [b] X.env)).any (·.1))=false;rw[hpl]<;>rfl) (Calls.evalArgs_plain ?_)
 refine dJ hA λus s2 ⟨vs,H2,I2,r2,e,C,fI,od,y,e1,hx,O,q⟩=>?_
 subst e1
 obtain⟨u1,u2,rfl,Zv,_⟩:=vals2 r2
 cases (show u1=Value.ref e from Zv)
 obtain⟨⟨vs,sl,he,h1⟩,_,_⟩:=(show bM X.prog X.w H2 s2.heap e (newX e C od) from I2.hok e _ hx)
 obtain⟨d,hC,hN,hni,T⟩:=O.obj s2.heap I2.nR
 have F:=PySem.F.excBase_ValueError
 have I2':=I2
 obtain⟨hh,gs,dr,tk,os⟩:=s2
 show wpAny _ _ (call (.builtin "ValueError.__init__") [.ref e,u2]) _ _ _
 refine wpAny_call (codeAny_call_builtin F.init.plain F.initEntry (wpAny_check_init_subU F T hC he rfl ?_))
 have hv:0<vs.size:=Nat.lt_of_le_of_lt (Nat.zero_le 1) (Array.getElem?_eq_some_iff.mp h1.1).1
 have hv0:vs[0]? =some vs[0]:=Array.getElem?_eq_getElem hv
 wp_walk
 rw[hv0]
 refine wpAny_pure ?_
 have hg:(hh.push { cls:=.type "tuple",data:=.seq #[u2] }).get? e=some ⟨.ref C,od,.fields vs,sl⟩:=Heap.get?_push_of_some _ he
 refine wpAny_bind (wpAny_setField hg rfl hv ?_)
 have hu:=Heap.get?_update_self (Obj.mapFields (·.setIfInBounds 0 (Value.ref hh.objs.size))) hg rfl
 have fin:EP X pins σ Q Value.none ⟨(hh.push { cls:=.type "tuple",data:=.seq #[u2] }).update e (Obj.mapFields (·.setIfInBounds 0 (Value.ref hh.objs.size))),gs,dr,tk,os⟩:=by
  refine⟨.i9,H2,?_,rfl,q⟩
  have J1:=I2'.kept (h':=hh.push { cls:=.type "tuple",data:=.seq #[u2] }) (t':=tk) λb u z=>Heap.get?_push_of_some _ z
  have J2:=J1.write (x:=e) (e:=e) (o:=newX e C od) (t':=tk) (by rw[hx];exact True.intro) (.inl rfl) (λb u hb z=>(Heap.get?_update_other _ _ (Ne.symm hb)).trans z) ⟨_,hu⟩ (Aa hu (by simp[h1]))
  rw[MC hx]at J2
  exact J2
 cases hq:vs[0]with
 |ref t0=>exact wpAny_letGo (wpAny_pure fin)
 |_=>exact wpAny_pure (wpAny_pure fin)
end L2
namespace L2
open PySem PySem.Spec PyProof.Rows
section
variable{prog:Program}{w:World}{A:Around}{E:Value->Shared->Prop}{s:Shared}{K:PySem.W.Frag}{x dx C:Addr}{name:Str}{v:Value}{R:Result->Shared->Prop}
theorem E4{ox:Obj}{od:Option Obj}{tk:Tok}(X:K.In s.heap)(I:PySem.W.InstAt s.heap x ox C od)(S:SJ K C)(ht:PySem.W.takerIn K C name=some none)
  (h:∀b,wpAny (model prog w) A.in1 (Builtin.ObjectAttr.storeInOwnDict (.ref x) (.ref C) (.str name tk) name v b)
   (λfin s'=>match fin with| .done f=>R (.ok f) s'| .again c'=>c'.quiet=true/\codeAny (model prog w) A c' R s') (λe s'=>R (.error e) s') s) :
  codeAny (model prog w) A (.call (.builtin "object.__setattr__") ⟨[.ref x,.str name tk,v],[]⟩) R s:=by
 have SF:=PySem.F.store_object
 obtain⟨cd,hc,ho⟩:=PySem.W.any_some S.po
 have ne:cd.mro.isEmpty=false:=by cases q:cd.mro with|nil=>rw[q]at ho;cases ho|cons _ _=>rfl
 have sub:PySem.W.Looks (model prog w) s.heap (isInstance (.ref x) (.type "object")) true:=I.type.andThen (PySem.W.looks_mroIn X (by unfold PySem.W.mroIn;rw[hc,Option.bind_some,if_neg (by rw[ne];decide),Hs ho]))
 refine codeAny_call_builtin SF.slot.plain SF.entry (@PySem.W.check_slot (model prog w) _ _ s "object.__setattr__" "object" "__setattr__" (.ref x) [.str name tk,v] [] _ SF.kind SF.split sub (SF.args (.ref x) (.str name tk) v) ?_)
 obtain⟨attr,ha,hr⟩:=Option.bind_eq_some_iff.mp ht
 have hm:PySem.W.Looks (model prog w) s.heap (mroOf (.ref C)) cd.mro:=(PySem.W.looks_clsIn X hc).andThen .now
 have L3:PySem.W.Looks (model prog w) s.heap (Builtin.ObjectAttr.storeTaker? attr) none:=by
  cases attr with
  |none=>cases hr;exact .now
  |some a =>
   obtain⟨b,hb,e⟩:=Option.map_eq_some_iff.mp hr
   refine(PySem.W.looks_takesIn X hb).andThen ?_
   cases b with
   |false=>exact .now
   |true=>cases e
 rw[PySem.W.osa_eq,refuse_eq]
 refine wpAny_bind (wpAny_bind (I.type.here (wpAny_bind (hm.here ?_))))
 rw[yN _ ho]
 refine wpAny_pure (wpAny_bind (I.type.here (wpAny_bind ((PySem.W.looks_findIn X ha).here (wpAny_bind (L3.here ?_))))))
 exact h _
theorem Dk{vs:Array Value}{sl:Array (Option Value)}{mA:Str->Option Value}{ns:List Str}{Q:Unit->Shared->Prop}(X:K.In s.heap)(S:SJ K C)(ht:PySem.W.takerIn K C name=some none)
  (he:s.heap.get? x=some ⟨.ref C,some dx,.fields vs,sl⟩) (hn:s.heap.Ns1 dx mA) (hw:PySem.Within mA ns) (hsz:ns.length+1<=sizeLine)
  (h:∀h',h'.Ns1 dx (λy=>if y=name then some v else mA y)->Heap.SameBut dx s.heap h'->Q () { s with heap:=h',toks:=s.toks+2 }):wpAny (model prog w) A (setAttr (.ref x) name v) Q E s:=by
 obtain⟨od,ho,hl⟩:=tW hn
 have J:PySem.W.InstAt s.heap x ⟨.ref C,some dx,.fields vs,sl⟩ C (some od):=⟨he,rfl,rfl,ho⟩
 refine PySem.W.set_plain X J S.sa (E4 (s:={ s with toks:=s.toks+1 }) X J S ht λb=>?_)
 obtain⟨cd,hc,hd'⟩:=PySem.W.any_some S.hd
 refine wpAny_bind (wpAny_pure (wpAny_bind (wpAny_bind (wpAny_loadPart he (wpAny_bind (PySem.W.Looks.here (s:={ s with toks:=s.toks+1 }) (PySem.W.looks_clsIn X hc) ?_))))))
 rw[hd']
 refine wpAny_pure (a:=some dx) (wpAny_bind (wpAny_pure (wpAny_bind ?_)))
 refine wpAny_nsSet1 (s:={ s with toks:=s.toks+1 }) hn λh' hn2 hs2=>?_
 obtain⟨oD,esD,Y6,R5,Sg,Sh⟩:=hn2.count (PySem.Within.cons name v hw)
 refine wpAny_bind (wpAny_lookBehind R5 (by rw[Sg];exact pastItsLine_dict (Nat.le_trans Sh (by rw[List.length_cons];omega))) ?_)
 exact wpAny_pure (h _ hn2 hs2)
theorem Dl{vs:Array Value}{sl:Array (Option Value)}{Q:Unit->Shared->Prop}(X:K.In s.heap)(S:SJ K C)(ht:PySem.W.takerIn K C name=some none)
  (he:s.heap.get? x=some ⟨.ref C,none,.fields vs,sl⟩)
  (h:∀h',h'.Ns1 s.heap.objs.size (λy=>if y=name then some v else none)->Heap.SameBut s.heap.objs.size ((s.heap.push PySem.W.emptyDict).update x λo=>{ o with dict:=some s.heap.objs.size }) h'->Q () { s with heap:=h',toks:=s.toks+2 }):wpAny (model prog w) A (setAttr (.ref x) name v) Q E s:=by
 have J:PySem.W.InstAt s.heap x ⟨.ref C,none,.fields vs,sl⟩ C none:=⟨he,rfl,rfl,trivial⟩
 refine PySem.W.set_plain X J S.sa (E4 (s:={ s with toks:=s.toks+1 }) X J S ht λb=>?_)
 obtain⟨cd,hc,hd'⟩:=PySem.W.any_some S.hd
 refine wpAny_bind (wpAny_pure (wpAny_bind (wpAny_bind (wpAny_loadPart he (wpAny_bind (PySem.W.Looks.here (s:={ s with toks:=s.toks+1 }) (PySem.W.looks_clsIn X hc) ?_))))))
 rw[hd']
 rw[if_neg (by decide)]
 have hxs:x≠s.heap.objs.size:=Nat.ne_of_lt (Heap.lt_size he)
 have RU:(s.heap.push PySem.W.emptyDict).get? x=some ⟨.ref C,none,.fields vs,sl⟩:=Heap.get?_push_of_some _ he
 show wpAny (model prog w) A.in1 (alloc PySem.W.emptyDict >>= λd=>update x (λo=>{ o with dict:=some d }) >>= λ_=>dictMade (.ref C) x d) _ _ _
 refine wpAny_bind (wpAny_alloc (wpAny_bind (wpAny_update RU ?_)))
 refine wpAny_pure ?_
 have hgd:((s.heap.push PySem.W.emptyDict).update x λo=>{ o with dict:=some s.heap.objs.size }).get? s.heap.objs.size=some PySem.W.emptyDict :=
  (Heap.get?_update_ne _ _ _ _ hxs.symm).trans (Heap.get?_push_size _ rfl)
 have hnd:((s.heap.push PySem.W.emptyDict).update x λo=>{ o with dict:=some s.heap.objs.size }).Ns s.heap.objs.size (λ_=>none) :=
  ⟨_,#[],_,hgd,rfl,λe he=>absurd he (by simp),λ_=>rfl⟩
 show wpAny _ _ (Builtin.ObjectAttr.storeInDict s.heap.objs.size (.str name s.toks) name v) _ _ _
 refine wpAny_bind (wpAny_pure (wpAny_bind ?_))
 refine wpAny_nsSet1 (s:={ s with heap:=(s.heap.push PySem.W.emptyDict).update x λo=>{ o with dict:=some s.heap.objs.size },toks:=s.toks+1 }) (Heap.Ns1.of_empty hnd) λh' hn2 hs2=>?_
 obtain⟨oD,esD,Y6,R5,Sg,Sh⟩:=hn2.count (PySem.Within.cons name v PySem.Within.nil)
 refine wpAny_bind (wpAny_lookBehind R5 (by rw[Sg];exact pastItsLine_dict (Nat.le_trans Sh (by rw[List.length_cons,List.length_nil,sizeLine_eq];omega))) ?_)
 exact wpAny_pure (h _ hn2 hs2)
end
end L2
namespace L2
open PySem PySem.Spec PyProof.Rows
theorem Bx{fs:List (Str×V)}{mA:Str->Option Value}{f:Str}{y:V}{u:Value}(r:∀g,mL (fs.lookup g) (mA g))(ry:RelV y u):∀g,mL ((aF f y fs).lookup g) (if g=f then some u else mA g):=λg=>by
 rw[av]
 by_cases q:g=f
 ·rw[if_pos q,if_pos q];exact ry
 ·rw[if_neg q,if_neg q];exact r g
theorem vv{fs:List (Str×V)}{mA:Str->Option Value}{f:Str}{y:V}{u:Value}(wi:PySem.Within mA (fs.map (·.1))):PySem.Within (λg=>if g=f then some u else mA g) ((aF f y fs).map (·.1)):=λg hg=>by
 by_cases q:g=f
 ·rw[q];exact(nM f y fs).1
 ·refine(nM f y fs).2 g (wi g λz=>hg ?_)
  show(if g=f then some u else mA g)=none
  rw[if_neg q];exact z
def QS(K:PySem.W.Frag)(ta tv:TE)(f:Str):TS:=λD σ H=>tv σ H λy H1=>ta σ H1 λx H2=>∃e C,x= .ref e/\SJ K C/\bL K C f ∧
 ((H2 e=some (newX e C none)/\∀dx,H2 dx=none->D.nx σ (upd (upd (upd H2 dx (yC dx [])) e (newX e C (some dx))) dx (yC dx (aF f y [])))) ∨
  ∃dx fs,H2 e=some (newX e C (some dx))/\H2 dx=some (yC dx fs)/\fs.length<1000/\D.nx σ (upd H2 dx (yC dx (aF f y fs))))
theorem EU{X:Cx}{o value:Expr}{f:Str}{pos pos':Pos}{ta tv:TE}(ha:PE X o ta)(hv:PE X value tv)(hs:swapsWith value (some (.Attribute o f pos')) pos.line X.env=pure false):PS X (.Assign [.Attribute o f pos'] value pos) (QS X.K ta tv f):=by
 intro pins s σ H D I h
 refine plainObj_wpAny_Assign_Attribute (dJ (hv pins s σ H _ I h) λu s1 ⟨y,H1,I1,ry,q⟩=>dJ (ha pins s1 σ H1 _ I1 q) λov s2 ⟨x,H2,I2,rx,e,C,ex,S,n,hk⟩=>?_) hs
 subst ex
 obtain rfl:ov=Value.ref e:=rx
 rcases hk with⟨hx,q2⟩|⟨dx,fs,hx,hd,hl,q2⟩
 ·obtain⟨⟨vs,sl,he,h1⟩,_,_⟩:=(show bM X.prog X.w H2 s2.heap e (newX e C none) from I2.hok e _ hx)
  refine Dl I2.nR S n.HA he λh' hn' sb=>?_
  have ne:e≠s2.heap.objs.size:=Nat.ne_of_lt (Heap.lt_size he)
  have e1:(s2.heap.push PySem.W.emptyDict).get? s2.heap.objs.size=some PySem.W.emptyDict:=Heap.get?_push_size _ rfl
  have n1:(s2.heap.push PySem.W.emptyDict).Ns1 s2.heap.objs.size (λ_=>none):=Heap.Ns1.of_empty ⟨_,#[],_,e1,rfl,(λe he=>absurd he (by simp)),λ_=>rfl⟩
  have TU:(s2.heap.push PySem.W.emptyDict).get? e=some ⟨.ref C,none,.fields vs,sl⟩:=Heap.get?_push_of_some _ he
  have YO:=Heap.get?_update_self (λo=>{ o with dict:=some s2.heap.objs.size }) TU rfl
  have J1:=I2.laid (a:=s2.heap.objs.size) (o:=yC s2.heap.objs.size []) (h':=s2.heap.push PySem.W.emptyDict) (t':=s2.toks) (λb u q=>Heap.get?_push_of_some _ q) (Nat.le_refl _) (C9 n1 (λ_=>True.intro) (λy hy=>absurd rfl hy))
  have J2:=J1.write (x:=e) (e:=e) (o:=newX e C (some s2.heap.objs.size)) (t':=s2.toks) (by rw[au ne,hx];exact True.intro) (.inl rfl) (λb u hb q=>(Heap.get?_update_other _ _ (Ne.symm hb)).trans q) ⟨_,YO⟩ (Aa YO h1)
  have J3:=J2.write (x:=s2.heap.objs.size) (e:=s2.heap.objs.size) (o:=yC s2.heap.objs.size (aF f y [])) (h':=h') (t':=s2.toks+2) (by rw[au (Ne.symm ne),ah];exact True.intro) (.inl rfl) (λb u hb q=>(sb.2 b hb).trans q) (let ⟨o,_,_,e,_⟩:=hn';⟨o,e⟩)
   (C9 hn' (Bx (mA:=λ_=>none) (λ_=>True.intro) ry) (vv (mA:=λ_=>none) λy hy=>absurd rfl hy)) (ht:=by show s2.toks<=s2.toks+2;omega)
  exact⟨σ,_,J3,q2 _ (I2.hok.fresh (Nat.le_refl _))⟩
 ·obtain⟨⟨vs,sl,he,h1⟩,_,_⟩:=(show bM X.prog X.w H2 s2.heap e (newX e C (some dx)) from I2.hok e _ hx)
  obtain⟨⟨mA,nA,rA,wA⟩,_,_⟩:=(show bM X.prog X.w H2 s2.heap dx (yC dx fs) from I2.hok dx _ hd)
  refine Dk I2.nR S n.HA he nA wA (by rw[List.length_map,sizeLine_eq];omega) λh' hn' sb=>?_
  have J3:=I2.write (x:=dx) (e:=dx) (o:=yC dx (aF f y fs)) (h':=h') (t':=s2.toks+2) (by rw[hd];exact True.intro) (.inl rfl) (λb u hb q=>(sb.2 b hb).trans q) (let ⟨o,_,_,e,_⟩:=hn';⟨o,e⟩) (C9 hn' (Bx rA ry) (vv wA))
  exact⟨σ,_,J3,q2⟩
structure XN(K:PySem.W.Frag)(C f:Addr):Prop where
 cls:FG K C f
 fn:PySem.W.isFn K (.ref f)=true
 kp:PySem.W.keepIn K (.ref C)=true
def Kc(C:Addr)(sp:Sp)(E:St->XK)(t:TA):TS:=λ_ σ H=>t σ H λvs H1=>vs.length<=sizeLine/\∀e,H1 e=none →
 sp (.ref e::vs) (upd H1 e (newX e C none)) (λv H2=>v= .i9/\∃od,H2 e=some (newX e C od)/\E σ (.ref C) od (del H2 e)) (E σ)
theorem F0{X:Cx}{E:St->XK}{C f:Addr}{x:Str}{np cpos pos:Pos}{k:Nat}{fd:FuncData}{ps:List Str}{sp:Sp}{e:Expr}{es:List Expr}{t:TA}(L:Lets X E)(M:XN X.K C f)
  (F:aK X.prog X.w X.K X.mg X.base (vq X.prog X.w) k f fd ps sp) (hr:jE (k+1) X.A) (hb:Binds X.K fd ps []) (hc:X.calm=true)
  (hg:Gl X x) (hm:X.mg x=some (.ref C)) (ha:PA X (e::es) t) (hdb:(x==("__debug__" :Str))=false:=by decide) (he:starEach (e::es) X.env=(false,eval e X.env)::starEach es X.env:=by rfl)
  (hpl:(backTo cpos (starEach es X.env)).any (·.1)=false:=by rfl):PS X (.Raise (some (.Call (.Name x np) (e::es) [] cpos)) none pos) (Kc C sp E t):=by
 intro pins s σ H D I h
 obtain⟨d,hC,hN,hni,T⟩:=M.cls.obj X.base I.ok.mod.L8
 rw[arm_exec_Raise]
 have FB:=PySem.F.excBase_ValueError
 simp only[evalOpt,Option.map]
 refine wpAny_bind (wpAny_standAt (DA (C:=C) (nm:=d.nm) (q:=d.q) (N:=d.N) (bs:=d.bs) (bm:=d.bm) (hdct:=d.hdct) (sn:=d.sn) (sub:=d.sub) (ab:=d.ab) (col:=d.col) (dd:=d.dd) (k0:=d.k0) (k1:=d.k1) (k2:=d.k2) (k3:=d.k3) (k5:=d.k5) (newId:= "ValueError.__new__") (T.hasType FB.hasBase) (I.ok.hd hc) ?_))
 refine wpAny_bind (dJ (Q:=λv s₁=>∃e od vs sl,v= .ref e/\s₁.heap.get? C=some (d.obj C "ValueError.__new__")/\s₁.heap.get? e=some ⟨.ref C,od,.fields vs,sl⟩/\vs[1]? =some .none/\X.xe (.ref e) s₁) ?_ λv s2 h2=>wpAny_bind (wpAny_standAt (wpAny_pure h2)))
 refine wpAny_Call_Name_kw (m7 I hg hm ?_ hdb)
 refine PySem.W.callWith_K (h₀:=X.base) I.ok.mod.L8 M.kp (dJ (ha cpos pins s σ H _ I h) λus s1 ⟨vs,H1,I1,r,hl,q1⟩=>⟨I1.nR,?_⟩) he hpl
 have hfo:∃o,s1.heap.get? f=some o/\o.cls= .type "function" :=by
  obtain⟨o,ho,hc⟩:=Option.map_eq_some_iff.mp (beq_iff_eq.mp M.fn)
  exact⟨o,I1.nR _ _ ho,hc⟩
 obtain⟨oI,hfo,hfc⟩:=hfo
 have I1':=I1
 obtain⟨hh,gs,dr,tk,os⟩:=s1
 refine GO (N:=d.N) (mN:=d.mN) FB FB.hasB FB (T.keeps I1.bk) (I1.bk _ _ hC) (hN.keeps I1.bk) hni hfo hfc (λh' ea made=>?_) (by show us.length<=sizeLine;rw[←r.length];exact hl)
 obtain⟨t',ht,_,_⟩:=made.there
 have xo:=I1.Te made.new (I1.hok.none_of made.new)
 have J0:Inv X pins σ H1 ⟨h',gs,dr,tk,os⟩:=I1.kept (t':=tk) made.keeps
 have J1:Inv X pins σ (upd H1 ea (newX ea C none)) ⟨h',gs,dr,tk,os⟩:=J0.Hz xo (Aa ht ⟨rfl,rfl,by simp⟩)
 have hq:=q1 ea xo.1
 have r2:Vals (V.ref ea::vs) (Value.ref ea::us):=.cons rfl r
 have hlen:(Value.ref ea::us).length=ps.length:=by rw[←r2.length];exact F.len _ _ _ _ hq
 refine wpAny_call (codeAny_mono (F.run _ X.stack _ _ ⟨Value.ref ea::us,[]⟩ (Value.ref ea::us) _ _ (E σ) (hr.make C us []) (J1.Lq.make C us []) (by have z:=hb _ (Value.ref ea::us) J1.nR (by rw[List.append_nil];exact hlen);rw[List.append_nil]at z;exact z) r2 hq) λrr s' hq'=>?_)
 cases rr with
 |error e=>exact L.pass J1 hq'
 |ok fl =>
  cases fl with
  |ret u =>
   obtain⟨v,H',I3,rv,ev,od,hx,qE⟩:=J1.after hq'
   subst ev
   obtain⟨⟨vs',G4,he',t7⟩,_,_⟩:=(show bM X.prog X.w H' s'.heap ea (newX ea C od) from I3.hok ea _ hx)
   refine⟨rv,ea,od,vs',G4,rfl,I3.bk _ _ hC,he',t7.1,?_⟩
   exact L pins σ (del H' ea) s' ea (.ref C) od (I3.drop hx) ⟨⟨Cq,xo.2⟩,vs',G4,he',λ_=>t7.2.1,.inl t7.1⟩ qE
  |next=>exact False.elim hq'
  |brk=>exact False.elim hq'
  |cont=>exact False.elim hq'
end L2
namespace L2
open PySem PySem.Spec PyProof.Rows
section
variable{X:Cx}{a b c:Expr}{ta tb tc:TE}{pos:Pos}{rest:List Expr}
end
end L2
namespace L2
open PySem PySem.Spec PyProof.Rows
def Dj(wi:TI)(g:TG)(tt:TT)(te:TE)(mK:St->St):TE:=λσ H Q=>wi σ H λJ H1=>∀l,H1 l=none->∃W:Nat->Nat->List V->Hp->Prop,(∃m,W 0 m [] (upd H1 l (.lst []))) ∧
 ∀i m ys H2,W i m ys H2->(J.stop i H2/\Q (.ref l) H2) ∨
  (J.go i H2/\∀x H3,J.AS i H2 x H3->g x (mK σ) H3 λyx H4=>Kp (mK σ) yx/\tt yx H4 λb H5 =>
   if b=true then te yx H5 (λy H6=>H6 l=some (.lst ys)/\ys.length<sizeLine/\∃m',m'<m/\W (i+1) m' (ys++[y]) (upd H6 l (.lst (ys++[y]))))else ∃m',m'<m/\W (i+1) m' ys H5)
theorem RM{A B:Prop}(h:if false=true then A else B):B:=by rw[if_neg Bool.false_ne_true]at h;exact h
theorem RL{A B:Prop}(h:if true=true then A else B):A:=by rw[if_pos rfl]at h;exact h
set_option maxHeartbeats 2000000 in
theorem wU{X:Cx}{elt tg iter test:Expr}{tt:TT}{scope:Scope}{pos pos':Pos}{wi:TI}{g:TG}{te:TE}{N:List Str}{mK:St->St}(hc:X.calm=true)(hS:X.Ok->∃cl,c6 X scope cl N mK)(hi:PI X tg iter wi)
  (hg:∀cl C s H ex pn E,PG (gZ X scope cl C N s H ex pn E) tg g) (he:∀cl C s H ex pn E,PE (gZ X scope cl C N s H ex pn E) elt te) (ht:∀cl C s H ex pn E,PT (gZ X scope cl C N s H ex pn E) test tt) (hs:∀x,foldedSetIterable iter X.env x=pure x)
  {pins:List (Addr×Obj)} {s:Shared} {σ:St} {H:Hp} {Q:VK} {use:Option (Value->Sem Unit)} {QQ:Value->Shared->Prop} (I:Inv X pins σ H s) (h:Dj wi g tt te mK σ H Q)
  (O6:∀(l C:Addr) (mC:Str->Option Value) (H':Hp) (s':Shared),Inv X pins σ H' s'->oU X pins H' C->s'.heap.Ns C mC->Q (.ref l) H'->compPost (model X.prog X.w) X.A X.xe use QQ (.ref l) C (.ok .next) s') :
  wpAny (model X.prog X.w) X.A (comprehension (.ListComp elt [⟨tg,iter,[test],0⟩] scope pos) scope X.env pos' (newList []) false (eval iter X.env) use) QQ X.xe s:=by
 obtain⟨cl,S⟩:=hS I.ok
 refine wpAny_comprehension_free (use:=use) rfl hs S.clos S.kind S.names (dJ (hi pins s σ H _ I h) λv s1 h1=>dJ h1 λitv s2 h2=>?_)
 obtain⟨it,fp,tn,J,H2,e,I2,T,st2,f2,hq⟩:=h2
 subst e
 obtain⟨W,⟨m0,w0⟩,turn⟩:=hq _ I2.fresh
 refine wpAny_newObj_type (Ct S λAo h₁ G D6 kp=>?_)
 have I3:Inv X pins σ (upd H2 s2.heap.objs.size (.lst [])) { s2 with heap:=s2.heap.push { cls:=.type "list",data:=.seq ([]:List Value).toArray } }:=I2.Rj (t':=s2.toks) .nil (Nat.zero_le _)
 have BH:∀b o,s2.heap.get? b=some o->(s2.heap.push { cls:=.type "list",data:=.seq ([]:List Value).toArray }).get? b=some o:=λb o e=>Heap.get?_push_of_some _ e
 have f3:∀b∈fp,oU X pins (upd H2 s2.heap.objs.size (.lst [])) b/\b<(s2.heap.push { cls:=.type "list",data:=.seq ([]:List Value).toArray }).objs.size:=λb hb=>by
  obtain⟨o,ho,_⟩:=T.obj _ _ st2 b hb
  have hlt:=Heap.lt_size ho
  obtain⟨f0,f1⟩:=f2 b hb
  exact⟨⟨by rw[au (Nat.ne_of_lt hlt)];exact f0,f1⟩,Heap.lt_size (BH b o ho)⟩
 have st3:tn 0 h₁:=T.keep _ _ _ st2 λb _ o e=>kp b o (BH b o e)
 generalize hR:(λr s'=>compPost (model X.prog X.w) X.A X.xe use QQ (.ref s2.heap.objs.size) (s2.heap.push { cls:=.type "list",data:=.seq ([]:List Value).toArray }).objs.size r s')=R
 generalize qu:gZ X scope Ao (s2.heap.push { cls:=.type "list",data:=.seq ([]:List Value).toArray }).objs.size N { s2 with heap:=s2.heap.push { cls:=.type "list",data:=.seq ([]:List Value).toArray } }
  (upd H2 s2.heap.objs.size (.lst [])) fp (X.pn++pins) (notedBy (model X.prog X.w) X.A (compEnvC scope Ao (s2.heap.push { cls:=.type "list",data:=.seq ([]:List Value).toArray }).objs.size X.env) λe s'=>R (.error e) s')=X'
 have I4:Inv X' [] (mK σ) (upd H2 s2.heap.objs.size (.lst [])) { s2 with heap:=h₁ }:=by
  subst qu
  exact B4 (s:={ s2 with heap:=s2.heap.push { cls:=.type "list",data:=.seq ([]:List Value).toArray } }) S G I3 f3 kp D6 s2.toks
 have XR:PG X' tg g:=by subst qu;exact hg _ _ _ _ _ _ _
 have XS:PE X' elt te:=by subst qu;exact he _ _ _ _ _ _ _
 have PT':PT X' test tt:=by subst qu;exact ht _ _ _ _ _ _ _
 have stat:∀{H':Hp},(∀b∈fp,H' b=none)->∀b∈fp,oU X' [] H' b:=λhn b hb=>by
  subst qu
  obtain⟨⟨_,f1,fn,_,f4,f5⟩,lt⟩:=f3 b hb
  refine⟨hn b hb,Nat.ne_of_lt lt,λz=>?_,.inl hb,λx c e=>(G.look x c e).elim (λz=>Nat.ne_of_gt (Nat.lt_trans lt z.1)) λz=>f4 x c (S.sub x c z),λp hp=>f5 p ?_⟩
  ·rcases List.mem_cons.mp (I3.qN b z)with q|q
   ·exact f1 q
   ·exact fn q
  ·rcases List.mem_append.mp hp with z|z
   ·exact z
   ·cases z
 have hp1:X'.prog=X.prog:=by subst qu;rfl
 have hp2:X'.w=X.w:=by subst qu;rfl
 have hp3:X'.K=X.K:=by subst qu;rfl
 have R1:X'.calm=true:=by subst qu;exact hc
 have Hf:X'.A=X.A:=by subst qu;rfl
 have O1:X'.env=compEnvC scope Ao (s2.heap.push { cls:=.type "list",data:=.seq ([]:List Value).toArray }).objs.size X.env:=by subst qu;rfl
 have Mh:X'.xe=notedBy (model X.prog X.w) X.A X'.env λe s'=>R (.error e) s':=by subst qu;rfl
 have fin:∀{H':Hp} {s':Shared},Inv X' [] (mK σ) H' s'->Q (.ref s2.heap.objs.size) H'->R (.ok .next) s':=by
  intro H' s' I5 q
  subst hR
  obtain⟨mC,R6,_⟩:=I5.loc
  rw[O1]at R6
  have hok:mj X.prog X.w H' s'.heap:=by
   have z:=I5.hok
   rw[hp1,hp2]at z
   exact z
  have u:Un (frs X.stack) fp (upd H2 s2.heap.objs.size (.lst [])) H' (s2.heap.push { cls:=.type "list",data:=.seq ([]:List Value).toArray }) s'.heap:=by
   have z:=I5.base
   subst qu
   exact z
  have hC:H' (s2.heap.push { cls:=.type "list",data:=.seq ([]:List Value).toArray }).objs.size=none:=by
   have zf:=I5.free
   rw[O1]at zf
   exact zf
  refine O6 _ _ mC H' s' (I3.Jv (ch:=fp) (s':=s') (by have z:=I5.os;subst qu;exact z) u hok I5.bare (λb hb=>?_) (by have z:=I5.up;subst qu;exact Nat.le_trans I3.up z)) (I3.uY (Nat.le_refl _) hC) R6 q
  obtain⟨⟨_,f1,_,Xx,f4,f5⟩,_⟩:=f3 b hb
  exact⟨Xx,f1,f4,f5⟩
 have loop:∀s3:Shared,Inv X' [] (mK σ) (upd H2 s2.heap.objs.size (.lst [])) s3->tn 0 s3.heap →
   codeAny (model X.prog X.w) X.A (.compLoop (.ListComp elt [⟨tg,iter,[test],0⟩] scope pos) 0 (.ref it) (.ref s2.heap.objs.size) X'.env) R s3:=by
  intro s3 J3 t3
  refine codeAny_loop rfl (λn s'=>∃i ys H',Inv X' [] (mK σ) H' s'/\tn i s'.heap/\(∀b∈fp,H' b=none)/\W i n ys H') ?_ m0 ⟨0,[],_,J3,t3,λb hb=>(f3 b hb).1.1,w0⟩
  rintro n s4 ⟨i,ys,H4,J4,t4,n4,w4⟩
  show wpAny _ _ ((compTurn (.ListComp elt [⟨tg,iter,[test],0⟩] scope pos) 0 (.ref it) (.ref s2.heap.objs.size) X'.env).onRaise (λx=>do noteFrame x X'.env;theTreesLotGoes x)) _ _ s4
  refine wpAny_noted ?_
  rw[compTurn_list]
  refine wpAny_bind (wpAny_standAt (wpAny_bind ?_))
  rcases turn i n ys H4 w4 with⟨stop,q⟩|⟨go,step⟩
  ·have z:=T.done X' hp1 hp2 hp3 R1 i [] s4 (mK σ) H4 (notedBy (model X.prog X.w) X.A X'.env λe s'=>R (.error e) s') J4 (stat n4) t4 stop
   rw[Hf]at z
   refine wpAny_mono z (λr s5 ⟨hr,J5⟩=>?_) λ_ _ x=>x
   subst hr
   exact wpAny_pure (fin J5 q)
  ·have z:=T.item X' hp1 hp2 hp3 R1 i [] s4 (mK σ) H4 (notedBy (model X.prog X.w) X.A X'.env λe s'=>R (.error e) s') J4 (stat n4) t4 go
   rw[Hf]at z
   refine wpAny_mono z (λr s5 ⟨u,hr,h5⟩=>?_) λ_ _ x=>x
   subst hr
   refine wpAny_bind (wpAny_mono h5 (λ_ s6 ⟨x,H6,J6,r6,y6,t6,n6⟩=>?_) λ_ _ x=>x)
   have XU:=J6.pinned (stat n6) (T.obj _ _ t6)
   have zg:=XR _ s6 (mK σ) H6 x u _ XU r6 (step x H6 y6)
   rw[hp1,hp2,Hf,Mh]at zg
   refine wpAny_bind (wpAny_mono zg (λ_ s7 ⟨AR,H7,J7,k7,q7⟩=>?_) λ_ _ x=>x)
   have zt:=PT' _ s7 AR H7 _ J7 q7
   rw[hp1,hp2,Hf,Mh]at zt
   refine wpAny_bind (wpAny_mono (wpAny_tests_one zt) (λok Zt h7b=>?_) λ_ _ x=>x)
   obtain⟨H7b,SS,X7⟩:=h7b
   cases ok with
   |false =>
    obtain⟨m',hm,w8⟩:=RM X7
    refine wpAny_pure ⟨rfl,m',hm,i+1,ys,_,?_,?_,?_,w8⟩
    ·refine SS.Hu.weak ?_ ?_
     ·rw[S.len,SS.len]
      subst qu
      rfl
     ·exact k7
    ·exact T.keep _ _ _ t6 λb hb o e=>(SS.pin (b,o) (List.mem_append_right _ (List.mem_append_right _ (iw hb e)))).1
    ·intro b hb
     obtain⟨o,e,d⟩:=T.obj _ _ t6 b hb
     exact(SS.pin (b,o) (List.mem_append_right _ (List.mem_append_right _ (iw hb e)))).2.1
   |true =>
    have ze:=XS _ Zt AR H7b _ SS (RL X7)
    rw[hp1,hp2,Hf,Mh]at ze
    refine wpAny_bind (wpAny_bind (wpAny_mono ze (λyv s8 h8=>?_) λ_ _ x=>x))
    obtain⟨y,H8,J8,r8,e8,z8,m',hm,w8⟩:=h8
    have za:=iJ (X:=X') _ s8 AR H8 (.ref s2.heap.objs.size) [y] (.ref s2.heap.objs.size) [yv] (λ_ H9=>H9=upd H8 s2.heap.objs.size (.lst (ys++[y]))) J8 rfl (.cons r8 .nil) ⟨_,ys,y,rfl,rfl,e8,z8,rfl⟩
    rw[hp1,hp2,Hf,Mh]at za
    refine wpAny_bind (wpAny_mono za (λ_ s9 h9=>?_) λ_ _ x=>x)
    obtain⟨_,H9,J9,_,e9⟩:=h9
    subst e9
    refine wpAny_pure (wpAny_pure ⟨rfl,m',hm,i+1,ys++[y],_,?_,?_,?_,w8⟩)
    ·refine J9.Hu.weak ?_ ?_
     ·rw[S.len,J9.len]
      subst qu
      rfl
     ·exact k7
    ·exact T.keep _ _ _ t6 λb hb o e=>(J9.pin (b,o) (List.mem_append_right _ (List.mem_append_right _ (iw hb e)))).1
    ·intro b hb
     obtain⟨o,e,d⟩:=T.obj _ _ t6 b hb
     exact(J9.pin (b,o) (List.mem_append_right _ (List.mem_append_right _ (iw hb e)))).2.1
 have l0:=loop _ I4 st3
 have l1:=codeAny_compStart_list l0 (T.self X.A 0 _ _ _ st3 l0)
 rw[O1]at l1
 subst hR
 exact l1
theorem Ih{X:Cx}{elt tg iter test:Expr}{tt:TT}{scope:Scope}{pos:Pos}{wi:TI}{g:TG}{te:TE}{N:List Str}{mK:St->St}(hc:X.calm=true)(hS:X.Ok->∃cl,c6 X scope cl N mK)(hi:PI X tg iter wi)
  (hg:∀cl C s H ex pn E,PG (gZ X scope cl C N s H ex pn E) tg g) (he:∀cl C s H ex pn E,PE (gZ X scope cl C N s H ex pn E) elt te) (ht:∀cl C s H ex pn E,PT (gZ X scope cl C N s H ex pn E) test tt)
  (hs:∀x,foldedSetIterable iter X.env x=pure x:=by intro _;rfl):PE X (.ListComp elt [⟨tg,iter,[test],0⟩] scope pos) (Dj wi g tt te mK):=by
 intro pins s σ H Q I h
 rw[eval_ListComp]
 refine wU (use:=none) (QQ:=EP X pins σ Q) hc hS hi hg he ht hs I h ?_
 intro l C mC H' s' I' fp hn q
 exact⟨mC,hn,λh' sb=>⟨.ref l,H',I'.moved (ch:=[C]) (t':=s'.toks) (λb o hb e=>(sb.2 b (by simpa using hb)).trans e) (λb hb=>by rw[List.mem_singleton.mp hb];exact fp),rfl,q⟩⟩
end L2
namespace GP
open PySem L2 xG
theorem yR{n:Nat}(h:n<=100000):((n:Nat):Int).natAbs.log2<1920:=by
 rw[Int.natAbs_natCast]
 by_cases z:n=0
 ·subst z;decide
 ·rw[Nat.log2_lt z]
  exact Nat.lt_of_le_of_lt h (Nat.lt_of_lt_of_le (show 100000<2 ^ 20 by decide) (Nat.pow_le_pow_right (by decide) (by decide)))
theorem Al{a b:Str}{m n:Nat}(h1:a.length<=m)(h2:b.length<=n):(a++b).length<=m+n:=by rw[strLen_append];omega
theorem pP{i j:Int}:decide (V.int i=V.int j)=decide (i=j):=by
 by_cases h:i=j
 ·subst h;simp
 ·rw[decide_eq_false h,decide_eq_false (λz=>h (V.int.inj z))]
theorem ite_str{i j:Str}{A B:Prop}(h1:i=j->A)(h2:¬i=j->B):if(decide (V.str i=V.str j))=true then A else B:=by
 by_cases h:i=j
 ·rw[if_pos (by rw[h];simp)];exact h1 h
 ·rw[if_neg (by rw[decide_eq_false (λz=>h (V.str.inj z))];exact Bool.false_ne_true)];exact h2 h
def Bj(C:Addr):Sp:=λvs H Q _=>∃(e:Addr) (i j:Nat),vs=[.ref e,.int i,.int j]/\H e=some (newX e C none)/\i<=100000/\j<=100000 ∧
 ∀dx H',(∀b u,H b=some u->b≠e->H' b=some u)->H dx=none->H' e=some (newX e C (some dx))->H' dx=some (yC dx (aF "place" (.int j) (aF "row" (.int i) [])))->Q .i9 H'
def E9:List V:=[.str (Str.ofString "whole"),.str (Str.ofString "within"),.str (Str.ofString "over"),.str (Str.ofString "stretch")]
def jU(m:Str):Bool:=K5 (.str m) E9
def oX(C:Addr):Sp:=λvs H Q E=>∃m:Str,vs=[.str m]/\(jU m=true->Q .i9 H)/\(jU m=false->(reprText m).length<=20/\E (.ref C) none H)
def xZ(m:Str)(q:cG):Bool :=
 if m=Str.ofString "whole" then decide (q.1=0)&&decide (q.2=0)else if m=Str.ofString "within" then decide (q.1=0)else if m=Str.ofString "over" then decide (q.2=0)else true
def Ab(m f s:Str)(q:cG):Bool :=
 if m=Str.ofString "whole" then decide (q.1=(f.cps.size:Int))&&decide (q.2=(s.cps.size:Int))else if m=Str.ofString "stretch" then true else decide (q.1=(f.cps.size:Int))
def HM(K:PySem.W.Frag):Sp:=λvs H Q _=>∃(m:Str) (a:Addr) (q:cG),vs=[.str m,.ref a]/\jY K H a q/\Q (.bl (xZ m q)) H
def HL(K:PySem.W.Frag):Sp:=λvs H Q _=>∃(m f s:Str) (a:Addr) (q:cG),vs=[.str m,.str f,.str s,.ref a]/\jY K H a q/\f.cps.size<=1000/\s.cps.size<=1000/\Q (.bl (Ab m f s q)) H
theorem x8 {m:Str} (h:jU m=true) (h1:¬m=Str.ofString "whole") (h2:¬m=Str.ofString "within") (h3:¬m=Str.ofString "over"):m=Str.ofString "stretch" :=by
 unfold jU E9 K5 at h
 simp only[List.any_cons,List.any_nil,Bool.or_false,Bool.or_eq_true,Ln]at h
 rcases h with h|h|h|h
 ·exact absurd (show Str.ofString "whole" =m by simpa using h).symm h1
 ·exact absurd (show Str.ofString "within" =m by simpa using h).symm h2
 ·exact absurd (show Str.ofString "over" =m by simpa using h).symm h3
 ·exact(show Str.ofString "stretch" =m by simpa using h).symm
end GP
namespace L2
open PySem PySem.Spec PyProof.Rows
theorem Jj{prog:Program}{w:World}{A:Around}{E:Value->Shared->Prop}{s:Shared}{K:PySem.W.Frag}{x C:Addr}{ox:Obj}{od:Option Obj}{name:Str}{expr:Bool}{v:Value}{Q:Value->Shared->Prop}(Z:Lv K C)(k:K.In s.heap)(I:PySem.W.InstAt s.heap x ox C od)
  (hf:PySem.W.findObj K C od name=some (.value v)) (hd:PySem.W.handedIn v=true) (h:Q v { s with toks:=s.toks+1 }):wpAny (model prog w) A (getAttr (.ref x) name expr) Q E s:=by
 obtain⟨hh,g,d,t,os⟩:=s
 have L0:=I.type (M:=model prog w)
 have L1:=PySem.W.looks_findIn (M:=model prog w) k Z.ga
 have L2:=PySem.W.looks_findIn (M:=model prog w) k Z.gn
 have LB:=PySem.W.looks_mroIn (M:=model prog w) k Z.hb
 have LF:=PySem.W.looks_find (M:=model prog w) k I hf
 unfold getAttr getAttrBy
 refine wpAny_bind (wpAny_mkText (wpAny_holding (wpAny_bind (L0.at (wpAny_bind (L1.at ?_))))))
 show wpAny _ _ (getAttrByItsOwn _ _ _ _ _ _) _ _ _
 unfold getAttrByItsOwn hookBefore
 refine wpAny_bind (L2.at ?_)
 refine wpAny_bind (wpAny_attempt (wpAny_holding ?_))
 have e0:∀n:Value,callGetattribute (.ref x) n (.builtin "BaseException.__getattribute__") expr=boundAndCalled (.builtin "BaseException.__getattribute__") (.ref x) n:=λn=>by
  unfold callGetattribute
  cases expr<;>rfl
 rw[e0]
 unfold boundAndCalled
 refine wpAny_bind (wpAny_of_eq (PySem.F.attr_ValueError.ga.bind (.ref x)) ?_)
 show wpAny _ _ (call (.builtin "BaseException.__getattribute__") [.ref x,.str name t]) _ _ _
 refine wpAny_call (codeAny_call_builtin PySem.F.attr_ValueError.ga.plain PySem.F.entry_bexc_ga ?_)
 have c1:builtinKind "BaseException.__getattribute__" =some .slot:=by decide +kernel
 have c2:splitId "BaseException.__getattribute__" =some ("BaseException","__getattribute__"):=by decide +kernel
 have c3:=PySem.F.args_bexc_ga (.ref x) (.str name t)
 simp only[checkBuiltinCall,c1,c2]
 refine wpAny_bind (wpAny_bind (L0.at (LB.at ?_)))
 simp only[Bool.not_true,Bool.false_eq_true,if_false]
 unfold argsOk at c3
 refine wpAny_of_eq c3 ?_
 unfold Builtin.«object.__getattribute__»
 refine wpAny_bind (wpAny_pure (wpAny_bind (wpAny_pure (wpAny_bind (L0.at (wpAny_bind (LF.at ?_)))))))
 refine wpAny_pure ?_
 show wpAny _ _ (handedOut v) _ _ _
 rw[PySem.W.handedOut_of hd]
 exact wpAny_pure h
def LL(K:PySem.W.Frag)(ta:TE)(f:Str):TE:=λσ H Q=>ta σ H λx H1=>∃e C dx fs i,x= .ref e/\H1 e=some (Ft e (.ref C) (some dx))/\H1 dx=some (yC dx fs)/\Lv K C/\bL K C f/\fs.lookup f=some (.int i)/\Q (.int i) H1
theorem wJ{P:Program}{w:World}{H:Hp}{h:Heap}{e C dx:Addr}{fs:List (Str×V)}(hok:mj P w H h)(he:H e=some (Ft e (.ref C) (some dx)))(hd:H dx=some (yC dx fs)):
  ∃ox od,∃mA:Str->Option Value,PySem.W.InstAt h e ox C (some od)/\(∀name,PySem.W.lookIn name od=some (mA name))/\∀f,mL (fs.lookup f) (mA f):=by
 obtain⟨⟨vs,sl,h1⟩,_,_⟩:=(show bM P w H h e (Ft e (.ref C) (some dx)) from hok e _ he)
 obtain⟨⟨mA,nA,rA,wA⟩,_,_⟩:=(show bM P w H h dx (yC dx fs) from hok dx _ hd)
 obtain⟨od,ho,hl⟩:=tW nA
 exact⟨_,od,mA,⟨h1,rfl,rfl,ho⟩,hl,rA⟩
theorem Ku{X:Cx}{e:Expr}{f:Str}{pos:Pos}{ta:TE}(he:PE X e ta)(hb:attributeBase e f X.env (eval e X.env)=eval e X.env):PE X (.Attribute e f pos) (LL X.K ta f):=by
 intro pins s σ H Q I h
 refine FD hb (dJ (he pins s σ H _ I h) λu s1 ⟨x,H1,I1,rx,e,C,dx,fs,i,ex,hx,hd,Z,n,l,q⟩=>?_)
 subst ex
 obtain rfl:u=Value.ref e:=rx
 obtain⟨ox,od,mA,J,hl,rA⟩:=wJ I1.hok hx hd
 have r:=rA f
 rw[l]at r
 cases hm:mA f with
 |none=>rw[hm]at r;exact r.elim
 |some u =>
  rw[hm]at r
  obtain⟨t,rfl⟩:=(show ∃t,u=Value.int i t from r)
  refine Jj Z I1.nR J ?_ rfl ⟨.int i,H1,I1.tok _,⟨t,rfl⟩,q⟩
  obtain⟨cd,hc,TV⟩:=PySem.W.any_some Z.hd
  have hn:PySem.W.findIn X.K (.ref C) f=some none:=n
  unfold PySem.W.findObj
  rw[hc,Option.bind_some,hn,Option.bind_some]
  simp only[Option.bind_some,PySem.W.ownOf,TV,if_true,hl,hm]
theorem yd{X:Cx}:lA X (.builtin "isinstance") (λxs H Q=>∃ea C od c cv b,xs=[.ref ea,c]/\((∃D,c= .ref D/\cv= .ref D)\/∃T,c= .ty T/\cv= .type T)/\H ea=some (Ft ea (.ref C) od)/\(od=none\/∃dx fs,od=some dx/\H dx=some (yC dx fs))/\Lv X.K C/\PySem.W.kitOne X.K (.ref C) cv=some b/\Q (.bl b) H):=by
 intro pins s σ H vs us Q I r h
 obtain⟨ea,C,od,c,cv,b,rfl,hc,hx,hod,Z,hk,q⟩:=h
 obtain⟨u,u2,rfl,rx,rc⟩:=vals2 r
 cases (show u=Value.ref ea from rx)
 have e2:u2=cv:=by
  rcases hc with⟨D,rfl,rfl⟩|⟨T,rfl,rfl⟩
  ·exact rc
  ·exact rc
 subst e2
 rcases hod with rfl|⟨dx,fs,rfl,hd⟩
 ·obtain⟨⟨ws,sl,e⟩,_,_⟩:=(show bM X.prog X.w H s.heap ea (Ft ea (.ref C) none) from I.hok ea _ hx)
  exact TK.bO (Nat.le_refl s.toks) (PySem.W.kia_one (sE (ox:=⟨.ref C,none,.fields ws,sl⟩) (od:=none) Z) I.nR ⟨e,rfl,rfl,trivial⟩ hk (λz=>nomatch z) λtk hup=>⟨.bl b,H,I.tok tk,rfl,q⟩)
 ·obtain⟨ox,o,mA,J,hl,rA⟩:=wJ I.hok hx hd
  exact TK.bO (Nat.le_refl s.toks) (PySem.W.kia_one (sE (ox:=ox) (od:=some o) Z) I.nR J hk (λz=>nomatch z) λtk hup=>⟨.bl b,H,I.tok tk,rfl,q⟩)
theorem Oa{x y:Str}(h:x.cps=y.cps):x=y:=by
 cases x
 cases y
 exact congrArg Str.mk h
def xQ(x:Str)(n:Int):Str:=⟨(List.replicate n.toNat x.cps).foldl (·++·) #[]⟩
theorem vQ(a:Array Nat):∀(n:Nat) (b:Array Nat),((List.replicate n a).foldl (·++·) b).toList=b.toList++(List.replicate n a.toList).flatten
 | 0,b=>by simp
 |n+1,b=>by
  rw[List.replicate_succ,List.foldl_cons,vQ a n,List.replicate_succ,List.flatten_cons,Array.toList_append,List.append_assoc]
theorem FW(x:Str)(n:Int):(xQ x n).cps.toList=(List.replicate n.toNat x.cps.toList).flatten:=by
 unfold xQ
 rw[vQ]
 rfl
theorem Bw(x:Str)(n:Int):(xQ x n).cps.size=n.toNat*x.cps.size:=by
 rw[←Array.length_toList,FW,List.length_flatten,List.map_replicate,List.sum_replicate_nat]
 rfl
theorem Kw{X:Cx}:ug X (binaryOp .Mult) (λx y H Q=>∃z n,x= .str z/\y= .int n/\ -1000000<=n/\n<=1000000/\z.cps.size<=1000000/\n.toNat*z.cps.size<=sizeLine/\Q (.str (xQ z n)) H):=by
 intro pins s σ H x y v u Q I rx ry h
 obtain⟨z,n,rfl,rfl,h1,h2,h3,h4,q⟩:=h
 obtain⟨t,rfl⟩:=rx
 obtain⟨t',rfl⟩:=ry
 have hl:z.length=z.cps.size:=rfl
 refine TK.bO (Nat.le_refl s.toks) (PySem.P.mul_str ?_ (λk1 _=>?_) (λ_ _=>?_) ?_)
 ·rw[decide_eq_false (by omega),decide_eq_false (by omega)];rfl
 ·have k2:1<=n:=by omega
  have:(2 ^ 63-1:Int) / n>=1000000:=by
   rw[ge_iff_le,Int.le_ediv_iff_mul_le (by omega)]
   calc 1000000*n<=1000000*1000000:=by omega
    _<=_:=by decide
  omega
 ·show decide (z.length*n.toNat>sizeLine)=false
  rw[hl,Nat.mul_comm]
  exact decide_eq_false (Nat.not_lt.mpr h4)
 ·have fin:∀y:Str,y=xQ z n->∀t k,s.toks<=k->EP X pins σ Q (.str y t) { s with toks:=k }:=λy e t k hk=>⟨.str (xQ z n),H,I.tok k hk,⟨t,by rw[e]⟩,q⟩
  by_cases k1:n<1
  ·rw[if_pos k1]
   refine⟨Nat.zero_le _,fin _ ?_ _ _⟩
   unfold xQ
   rw[show n.toNat=0 by omega]
   rfl
  ·rw[if_neg k1]
   by_cases k2:(n==1||z.length==0)=true
   ·rw[if_pos k2]
    refine fin _ ?_ _ s.toks
    rcases Bool.or_eq_true_iff.mp k2 with k|k
    ·have e:n=1:=by simpa using k
     subst e
     show z=⟨#[]++z.cps⟩
     simp
    ·have e:z.cps.size=0:=(show z.length=0 from eq_of_beq k)
     have e1:=Bw z n
     rw[e,Nat.mul_zero]at e1
     have a1:z.cps= #[]:=Array.eq_empty_of_size_eq_zero e
     have a2:(xQ z n).cps= #[]:=Array.eq_empty_of_size_eq_zero e1
     have:z.cps=(xQ z n).cps:=a1.trans a2.symm
     exact Oa this
   ·rw[if_neg k2]
    refine⟨?_,fin _ rfl _ _⟩
    show(xQ z n).cps.size<=sizeLine
    rw[Bw]
    exact h4
end L2
namespace GP
open PySem L2 xG
theorem Bq{x:Str}{lo hi:Option Int}{a b:Nat}(e:PySem.Builtin.Str.strSliceIndices lo hi 1 x.length=PySem.Builtin.Str.strSliceIndices (some (a:Int)) (some (b:Int)) 1 x.length)(hab:a<=b)(hb:b<=x.cps.size):(Txt.slice x lo hi).cps.toList=(x.cps.toList.drop a).take (b-a):=by
 have hb':b<=x.length:=hb
 have f:=StrLaws.sliced_plain x hab hb'
 unfold Txt.slice
 rw[e]
 split
 ·next h =>
  have hl:(PySem.Builtin.Str.strSliceIndices (some (a:Int)) (some (b:Int)) 1 x.length).length=x.length:=by simpa using h
  rw[StrLaws.strSliceIndices_plain hab hb',List.length_map,List.length_range]at hl
  have hl':b-a=x.cps.size:=hl
  have ha:a=0:=by omega
  subst ha
  rw[List.drop_zero,List.take_of_length_le (by rw[Array.length_toList];omega)]
 ·exact f
theorem Br{x:Str}{k:Int}(h0:0<=k)(h1:k<=(x.cps.size:Int)):(Txt.slice x none (some k)).cps.toList=x.cps.toList.take k.toNat:=by
 obtain⟨n,rfl⟩:∃n:Nat,k=(n:Int):=⟨k.toNat,(Int.toNat_of_nonneg h0).symm⟩
 have e:=Bq (x:=x) (lo:=none) (hi:=some (n:Int)) (a:=0) (b:=n) (by
  simp only[PySem.Builtin.Str.strSliceIndices]
  simp
  rw[show max (0:Int) (min 0 (x.length:Int))=0 by omega]) (Nat.zero_le _) (by omega)
 rw[e,List.drop_zero]
 rfl
theorem Bs{x:Str}{k:Int}(h0:0<=k)(h1:k<=(x.cps.size:Int)):(Txt.slice x (some k) none).cps.toList=x.cps.toList.drop k.toNat:=by
 obtain⟨n,rfl⟩:∃n:Nat,k=(n:Int):=⟨k.toNat,(Int.toNat_of_nonneg h0).symm⟩
 have e:=Bq (x:=x) (lo:=some (n:Int)) (hi:=none) (a:=n) (b:=x.cps.size) (by
  have hl:x.length=x.cps.size:=rfl
  simp only[PySem.Builtin.Str.strSliceIndices,hl]
  simp
  rw[if_neg (show ¬(x.cps.size:Int)<0 by omega),show max (0:Int) (min (x.cps.size:Int) (x.cps.size:Int))=(x.cps.size:Int) by omega]) (by omega) (Nat.le_refl _)
 rw[e,List.take_of_length_le (by rw[List.length_drop,Array.length_toList];omega)]
 rfl
def vn(sg a b:Str)(i j:Nat):Prop :=
 (i=0/\(∃c,a.cps[j]? =some c/\c∉sg.cps.toList)/\∀k c,k<j->a.cps[k]? =some c->c∈sg.cps.toList) ∨
 (i=1/\Of sg a/\(∃c,b.cps[j]? =some c/\c∉sg.cps.toList)/\∀k c,k<j->b.cps[k]? =some c->c∈sg.cps.toList)
theorem vn.no{sg a b:Str}{i j:Nat}(h:vn sg a b i j):¬(Of sg a/\Of sg b):=λo=>by
 rcases h with⟨_,⟨c,hc,hn⟩,_⟩|⟨_,_,⟨c,hc,hn⟩,_⟩
 ·exact hn (o.1 c (ng hc))
 ·exact hn (o.2 c (ng hc))
theorem wQ{sg a:Str}{j j':Nat}(h:(∃c,a.cps[j]? =some c/\c∉sg.cps.toList)/\∀k c,k<j->a.cps[k]? =some c->c∈sg.cps.toList)
  (h':(∃c,a.cps[j']? =some c/\c∉sg.cps.toList)/\∀k c,k<j'->a.cps[k]? =some c->c∈sg.cps.toList):j=j':=by
 obtain⟨⟨c,hc,hn⟩,h2⟩:=h
 obtain⟨⟨d,hd,hm⟩,h3⟩:=h'
 rcases Nat.lt_trichotomy j j' with z|z|z
 ·exact absurd (h3 j c z hc) hn
 ·exact z
 ·exact absurd (h2 j' d z hd) hm
theorem vn.uniq{sg a b:Str}{i j i' j':Nat}(h:vn sg a b i j)(h':vn sg a b i' j'):i=i'/\j=j':=by
 rcases h with⟨e,h1,h2⟩|⟨e,o,h1,h2⟩
 ·rcases h' with⟨e',k1,k2⟩|⟨e',o',k1,k2⟩
  ·exact⟨e.trans e'.symm,wQ ⟨h1,h2⟩ ⟨k1,k2⟩⟩
  ·obtain⟨c,hc,hn⟩:=h1
   exact absurd (o' c (ng hc)) hn
 ·rcases h' with⟨e',k1,k2⟩|⟨e',o',k1,k2⟩
  ·obtain⟨c,hc,hn⟩:=k1
   exact absurd (o c (ng hc)) hn
  ·exact⟨e.trans e'.symm,wQ ⟨h1,h2⟩ ⟨k1,k2⟩⟩
def Cm(i j:Nat):List (Str×V):=aF "place" (.int j) (aF "row" (.int i) [])
theorem Jh{i j:Nat}:(Cm i j).lookup ("row" :Str)=some (.int i):=by
 unfold Cm
 rw[av,if_neg (by decide +kernel),av,if_pos rfl]
theorem Ef{i j:Nat}:(Cm i j).lookup ("place" :Str)=some (.int j):=by
 unfold Cm
 rw[av,if_pos rfl]
def Bl(C:Addr):Sp:=λvs H Q E=>∃(sg:Str) (l:Addr) (a b:Str),vs=[.str sg,.ref l]/\H l=some (.lst [.str a,.str b])/\a.cps.size<=1000/\b.cps.size<=1000/\(Of sg a->Of sg b->∀H',ak H H'->Q .i9 H') ∧
 (∀i j,vn sg a b i j->∀dx H',ak H H'->H' dx=some (yC dx (Cm i j))->E (.ref C) (some dx) H')
def EI(K:PySem.W.Frag)(C CE:Addr):Sp:=λvs H Q E=>∃(x l:Addr) (sg:Str) (rows:List (List cG)) (fo fm:cG) (a b:Str),vs=[.ref x,.ref l]/\mO K C H x sg rows fo fm/\H l=some (.lst [.str a,.str b])/\a.cps.size<=1000/\b.cps.size<=1000/\(Of sg a->Of sg b->∀H',ak H H'->Q .i9 H') ∧
 (∀i j,vn sg a b i j->∀dx H',ak H H'->H' dx=some (yC dx (Cm i j))->E (.ref CE) (some dx) H')
theorem sF{K:PySem.W.Frag}:PySem.W.kitOne K (.type "str") (.type "list")=some false:=by kernel_rfl
theorem qG{K:PySem.W.Frag}:PySem.W.kitOne K (.type "str") (.type "tuple")=some false:=by kernel_rfl
theorem yQ{α:Type}[DecidableEq α]:∀{l m:List α},l.Nodup->(∀a∈l,a∈m)->l.length<=m.length
 |[],_,_,_=>Nat.zero_le _
 |a::l,m,nd,h=>by
  have ha:=h a List.mem_cons_self
  obtain⟨n1,n2⟩:=List.nodup_cons.mp nd
  have ih:=yQ (l:=l) (m:=m.erase a) n2 λb hb=>by
   have nb:b≠a:=λz=>n1 (z▸hb)
   exact(List.mem_erase_of_ne nb).mpr (h b (List.mem_cons_of_mem _ hb))
  rw[List.length_erase_of_mem ha]at ih
  have hp:0<m.length:=List.length_pos_of_mem ha
  rw[List.length_cons]
  omega
end GP
namespace GP
open PySem L2 xG
theorem GQ{sg f b:Str}{c:Nat}{k:Int}(h0:0<=k)(h1:k<=(f.cps.size:Int))(of:Of sg f)(hc:c∉sg.cps.toList):
  (∃d,((Txt.slice f none (some k)++(⟨#[c]⟩:Str))++Txt.slice f (some k) none).cps[k.toNat]? =some d/\d∉sg.cps.toList) ∧
  ∀j d,j<k.toNat->((Txt.slice f none (some k)++(⟨#[c]⟩:Str))++Txt.slice f (some k) none).cps[j]? =some d->d∈sg.cps.toList:=by
 have e:((Txt.slice f none (some k)++(⟨#[c]⟩:Str))++Txt.slice f (some k) none).cps.toList=f.cps.toList.take k.toNat++[c]++f.cps.toList.drop k.toNat:=by rw[lU,lU,Br h0 h1,Bs h0 h1]
 have l:(f.cps.toList.take k.toNat).length=k.toNat:=by rw[List.length_take,Array.length_toList];omega
 refine⟨⟨c,?_,hc⟩,λj d hj hd=>?_⟩
 ·rw[←Array.getElem?_toList,e,List.getElem?_append_left (by rw[List.length_append,l];exact Nat.lt_succ_self _),List.getElem?_append_right (by rw[l];exact Nat.le_refl _),l,Nat.sub_self]
  rfl
 ·rw[←Array.getElem?_toList,e,List.getElem?_append_left (by rw[List.length_append,l];exact Nat.lt_succ_of_lt hj),List.getElem?_append_left (by rw[l];exact hj)]at hd
  exact of d (List.mem_of_mem_take (List.mem_of_getElem? hd))
theorem Ff{f:Str}{c:Nat}{k:Int}(h0:0<=k)(h1:k<=(f.cps.size:Int)):((Txt.slice f none (some k)++(⟨#[c]⟩:Str))++Txt.slice f (some k) none).cps.size=f.cps.size+1:=by
 rw[←Array.length_toList,lU,lU,Br h0 h1,Bs h0 h1,List.length_append,List.length_append,List.length_take,List.length_drop,Array.length_toList]
 show min k.toNat f.cps.size+1+(f.cps.size-k.toNat)=_
 omega
end GP
namespace L2
open PySem PySem.Spec PyProof.Rows
section
variable{X:Cx}{o:Expr}{to:TE}{g:Str}{c j:Nat}{u:Tok}{apos cpos p1 p2:Pos}
end
end L2
namespace L2
open PySem PySem.Spec PyProof.Rows
abbrev sg(c:Nat):V:=.str ⟨#[c]⟩
theorem vC:∀{cs:List Nat} {us:List Value},Vals (cs.map sg) us->∃l:List (Str×Tok),us=strValues l/\l.map (·.1)=cs.map λc=>(⟨#[c]⟩:Str)
 |[],_,.nil=>⟨[],rfl,rfl⟩
 |c::cs,_,.cons r rs=>by
  obtain⟨t,e⟩:=r
  obtain⟨l,e1,e2⟩:=vC rs
  exact⟨(⟨#[c]⟩,t)::l,by rw[e,e1];rfl,by rw[List.map_cons,e2];rfl⟩
theorem yX:∀(l:List Nat) (n:Nat),(l.map λc=>(⟨#[c]⟩:Str)).foldl (λa (x:Str)=>a+x.length+(⟨#[]⟩:Str).length) n=n+l.length
 |[],_=>rfl
 |c::l,n=>by
  rw[List.map_cons,List.foldl_cons,yX l]
  show n+1+0+l.length=n+(l.length+1)
  omega
theorem Iw{X:Cx}{K':PySem.W.Frag}(hK:X.K=K'):XT X "str.join" (λx xs H Q=>∃(l:Addr) (cs:List Nat),x= .str ⟨#[]⟩/\xs=[.ref l]/\cS K' H l (cs.map sg)/\cs.length<=100000/\Q (.str ⟨cs.toArray⟩) H):=by
 subst hK
 intro pins s σ H x xs v us Q I rx rs h
 obtain⟨l,cs,rfl,rfl,hl,hn,q⟩:=h
 obtain⟨t,rfl⟩:=rx
 cases rs with
 |cons r rr =>
  cases rr
  cases r
  obtain⟨its,r1,t1,_⟩:=I.list hl
  obtain⟨ls,e1,e2⟩:=vC r1
  refine TK.bO (Nat.le_refl s.toks) (SC.join (l:=ls) (by rw[←e1];exact t1.isList) e2 ?_ λt' k hk=>⟨.str ⟨cs.toArray⟩,H,I.tok k hk,⟨t',?_⟩,q⟩)
  ·unfold JoinOk
   rw[List.foldl_toArray,yX]
   unfold Builtin.Str.tooLong
   rw[Bool.not_eq_true',decide_eq_false_iff_not,Nat.zero_add]
   exact Nat.not_lt.mpr (Nat.le_trans hn (by decide))
  ·have e:Txt.join ⟨#[]⟩ (cs.map λc=>(⟨#[c]⟩:Str))=⟨cs.toArray⟩:=by
    show Builtin.Str.glued _ _=_
    rw[StrLaws.glued_eq_join,join_ones]
   rw[e]
theorem E6{X:Cx}:XT X "str.join" (λx xs H Q=>∃(l:Addr) (cs:List Nat),x= .str ⟨#[]⟩/\xs=[.ref l]/\cS X.K H l (cs.map sg)/\cs.length<=100000/\Q (.str ⟨cs.toArray⟩) H):=Iw rfl
end L2
namespace L2
open PySem PySem.Spec PyProof.Rows
def nv(sp:Sp):Sp:=λvs H Q _=>sp vs H Q λ_ _ _=>False
theorem aK.nv{P:Program}{w:World}{K:PySem.W.Frag}{mg:Str->Option Value}{base:Heap}{k:Nat}{f:Addr}{fd:FuncData}{ps:List Str}{sp:Sp}(F:aK P w K mg base (vq P w) k f fd ps sp):aK P w K mg base cD k f fd ps (nv sp) :=
 ⟨λvs H Q E q=>F.len vs H Q _ q,λA outer s H args us vs Q E hr he hb hv hs=>codeAny_mono (F.run A outer s H args us vs Q _ hr he hb hv hs) λr s' h=>by
  cases r with
  |error e=>obtain⟨ea,cls,od,H',h⟩:=h;exact(h.2.2.2.2.2.2.2:False).elim
  |ok fl=>cases fl<;>exact h⟩
theorem Ek{J:It}{g:TG}{te:TE}{σ':St}{H1:Hp}{D:Hp->Prop}{l:Addr}(n:Nat)(f:Nat->V)(hl:H1 l=none)(hn:n<sizeLine)
  (go:∀i H,ak H1 H->i<n->J.go i H) (st:∀H,ak H1 H->J.stop n H)
  (el:∀i x H H3 (R:VK),ak H1 H->i<n->J.AS i H x H3->(∀H5,ak H H5->R (f i) H5)->g x σ' H3 λyx H4=>Kp σ' yx/\te yx H4 R)
  (fin:∀H',ak H1 H'->H' l=some (.lst ((List.range n).map f))->D H') :
  ∃W:Nat->Nat->List V->Hp->Prop,(∃m,W 0 m [] (upd H1 l (.lst [])))/\∀i m ys H2,W i m ys H2->(J.stop i H2/\D H2) ∨
   (J.go i H2/\∀x H3,J.AS i H2 x H3->g x σ' H3 λyx H4=>Kp σ' yx/\te yx H4 λy H5=>H5 l=some (.lst ys)/\ys.length<sizeLine/\∃m',m'<m/\W (i+1) m' (ys++[y]) (upd H5 l (.lst (ys++[y])))):=by
 refine⟨λi m ys H2=>m=n-i/\i<=n/\ys=(List.range i).map f/\ak H1 H2/\H2 l=some (.lst ys),⟨n,rfl,Nat.zero_le _,rfl,GP.ak.upd hl,ah⟩,?_⟩
 rintro i m ys H2 ⟨rfl,hi,rfl,s2,h2⟩
 by_cases hlt:i<n
 ·refine .inr ⟨go i H2 s2 hlt,λx H3 y=>el i x H2 H3 _ s2 hlt y λH5 s5=>?_⟩
  refine⟨s5 _ _ h2,by rw[List.length_map,List.length_range];omega,n-(i+1),by omega,rfl,hlt,?_,GP.ak.at (s2.trans s5) hl,ah⟩
  rw[List.range_succ,List.map_append];rfl
 ·have e:i=n:=by omega
  subst e
  exact .inl ⟨st H2 s2,fin H2 s2 h2⟩
theorem Fy{J:It}{g:TG}{tt:TT}{te:TE}{σ':St}{H1:Hp}{D:Hp->Prop}{l:Addr}(n:Nat)(b:Nat->Bool)(f:Nat->V)(hl:H1 l=none)(hn:n<sizeLine)
  (go:∀i H,ak H1 H->i<n->J.go i H) (st:∀H,ak H1 H->J.stop n H)
  (el:∀i x H H3 (R:VK) (S:Hp->Prop),ak H1 H->i<n->J.AS i H x H3->(b i=true->∀H5,ak H H5->R (f i) H5)->(b i=false->∀H5,ak H H5->S H5) →
   g x σ' H3 λyx H4=>Kp σ' yx/\tt yx H4 λb' H5=>if b'=true then te yx H5 R else S H5)
  (fin:∀H',ak H1 H'->H' l=some (.lst (((List.range n).filter b).map f))->D H') :
  ∃W:Nat->Nat->List V->Hp->Prop,(∃m,W 0 m [] (upd H1 l (.lst [])))/\∀i m ys H2,W i m ys H2->(J.stop i H2/\D H2) ∨
   (J.go i H2/\∀x H3,J.AS i H2 x H3->g x σ' H3 λyx H4=>Kp σ' yx/\tt yx H4 λb H5 =>
    if b=true then te yx H5 (λy H6=>H6 l=some (.lst ys)/\ys.length<sizeLine/\∃m',m'<m/\W (i+1) m' (ys++[y]) (upd H6 l (.lst (ys++[y]))))else ∃m',m'<m/\W (i+1) m' ys H5):=by
 refine⟨λi m ys H2=>m=n-i/\i<=n/\ys=((List.range i).filter b).map f/\ak H1 H2/\H2 l=some (.lst ys),⟨n,rfl,Nat.zero_le _,rfl,GP.ak.upd hl,ah⟩,?_⟩
 rintro i m ys H2 ⟨rfl,hi,rfl,s2,h2⟩
 by_cases hlt:i<n
 ·refine .inr ⟨go i H2 s2 hlt,λx H3 y=>el i x H2 H3 _ _ s2 hlt y (λhb H5 s5=>?_) λhb H5 s5=>?_⟩
  ·refine⟨s5 _ _ h2,?_,n-(i+1),by omega,rfl,hlt,?_,GP.ak.at (s2.trans s5) hl,ah⟩
   ·rw[List.length_map]
    exact Nat.lt_of_le_of_lt (Nat.le_trans (List.length_filter_le _ _) (by rw[List.length_range];omega)) hn
   ·rw[List.range_succ,List.filter_append,List.map_append,List.filter_cons_of_pos hb];rfl
  ·refine⟨n-(i+1),by omega,rfl,hlt,?_,s2.trans s5,s5 _ _ h2⟩
   rw[List.range_succ,List.filter_append,List.filter_cons_of_neg (by rw[hb];exact Bool.false_ne_true),List.filter_nil,List.append_nil]
 ·have e:i=n:=by omega
  subst e
  exact .inl ⟨st H2 s2,fin H2 s2 h2⟩
theorem BD{X:Cx}{i:Nat}{y:Str}{py spos:Pos}{elt tg iter test:Expr}{tt:TT}{scope:Scope}{pos:Pos}{wi:TI}{g:TG}{te:TE}{N:List Str}{mK:St->St}(hN:X.N.Nodup)(hi:X.N[i]? =some y)(hx:Loc X.env.scope y)
  (hc:X.calm=true) (hS:X.Ok->∃cl,c6 X scope cl N mK) (hit:PI X tg iter wi)
  (hg:∀cl C s H ex pn E,PG (gZ X scope cl C N s H ex pn E) tg g) (he:∀cl C s H ex pn E,PE (gZ X scope cl C N s H ex pn E) elt te) (ht:∀cl C s H ex pn E,PT (gZ X scope cl C N s H ex pn E) test tt)
  (hsw:swapsWith (.ListComp elt [⟨tg,iter,[test],0⟩] scope pos) (some (.Name y py)) spos.line X.env=pure true:=by rfl)
  (hf:X.fn y=true\/X.env.scope.names.lookup y=some .local:=by first|exact .inl rfl|exact .inr rfl|assumption)
  (hs:∀x,foldedSetIterable iter X.env x=pure x:=by intro _;rfl):PS X (.Assign [.Name y py] (.ListComp elt [⟨tg,iter,[test],0⟩] scope pos) spos) (Ke (Dj wi g tt te mK) (Fl i)):=by
 intro pins s σ H D I h
 rw[exec_Assign_Name_used _ _ _ _ hsw]
 refine wpAny_bind (wpAny_standAt (wpAny_bind ?_))
 show wpAny _ X.A (do let _ ←comprehension (.ListComp elt [⟨tg,iter,[test],0⟩] scope pos) scope X.env _ (newList []) false (eval iter X.env) (some (assign (.Name y py) X.env))) _ _ s
 refine wpAny_bind (wpAny_mono (wU (use:=some (assign (.Name y py) X.env)) (QQ:=λ_ s'=>SP X pins D .next s') hc hS hit hg he ht hs I h ?_) (λ_ s' hq=>wpAny_pure (wpAny_pure hq)) λ_ _ e=>e)
 intro l C mC H' s' I' fp hn q
 show wpAny _ X.A (assign (.Name y py) X.env (.ref l)) _ _ _
 refine wpAny_assign_Name (tG I' hN hi hx (v:=.ref l) rfl (λs2 I2 sb=>?_) hf)
 obtain⟨a,sb,ha⟩:=sb
 have nC:C≠a:=by
  obtain⟨_,f1,_,_,f4,_⟩:=fp
  rcases ha with z|z
  ·rw[z];exact f1
  ·exact λe=>f4 y a z e.symm
 refine⟨mC,hn.sameBut sb nC,λh' VU=>?_⟩
 refine⟨_,H',I2.moved (ch:=[C]) (t':=s2.toks) (λb o hb e=>(VU.2 b (by simpa using hb)).trans e) (λb hb=>?_),q⟩
 rw[List.mem_singleton.mp hb]
 exact fp
end L2
namespace L2
open PySem PySem.Spec PyProof.Rows
def S2(K:PySem.W.Frag)(a:Addr)(n:Nat):It :=
 ⟨λi H=>∃xs x,cS K H a xs/\i<n/\xs[n-1-i]? =some x,λi H x H'=>H'=H/\∀xs,cS K H a xs->xs[n-1-i]? =some x,λi _=>n<=i⟩
theorem Hy{P:Program}{w:World}{K:PySem.W.Frag}{tg:Expr}(a it:Addr)(n:Nat):Turn P w K tg (S2 K a n) [it] it (λi h=>i<=n/\h.IsRevIter it a ((n:Int)-1-(i:Int))) where
 mem:=by simp
 obj:=λi h st b hb=>by
  have e:b=it:=by simpa using hb
  subst e
  obtain⟨o,e,c,d⟩:=st.2
  exact⟨o,e,λv z=>by rw[d]at z;cases z⟩
 keep:=λi h h' st k=>⟨st.1,st.2.at λo e=>k it (by simp) o e⟩
 item:=by
  intro X hP hw hK hc i pins s σ H E I hf st hg
  subst hP hw hK
  obtain⟨xs,x,hq,hi,hx⟩:=hg
  obtain⟨its,rv,p,hz⟩:=I.list hq
  obtain⟨u,hu,ru⟩:=rv.get hx
  obtain⟨f0,f1,f2,f3,f4,f5⟩:=hf it (by simp)
  have st':s.heap.IsRevIter it a ((n-1-i:Nat):Int):=by
   rw[show((n-1-i:Nat):Int)=(n:Int)-1-(i:Int) by omega]
   exact st.2
  refine wpAny_pyNext_rev_item st' p.isList (x:=u) (by simpa using hu) λh' st' sb=>?_
  have I1:Inv X pins σ H { s with heap:=h' }:=I.turned (t':=s.toks) (λb o hb e=>(sb.2 b hb).trans e) f0 f1 f3 f4 f5
  obtain⟨o,e,c,d⟩:=id st'
  refine⟨u,rfl,Cb (s:={ s with heap:=h' }) e c d (by decide) ⟨x,H,I1,ru,⟨rfl,λys hy=>by rw[I.wH hy hq];exact hx⟩,⟨by omega,?_⟩,λb hb=>(hf b hb).1⟩⟩
  rw[show(n:Int)-1-((i+1:Nat):Int)=((n-1-i:Nat):Int)-1 by omega]
  exact st'
 done:=by
  intro X hP hw hK hc i pins s σ H E I hf st hg
  subst hP hw hK
  obtain⟨f0,f1,f2,f3,f4,f5⟩:=hf it (by simp)
  have hg':n<=i:=hg
  have st':s.heap.IsRevIter it a (-1):=by
   rw[show(-1:Int)=(n:Int)-1-(i:Int) by have:=st.1;omega]
   exact st.2
  exact wpAny_pyNext_rev_end (I.ok.hd hc) st' λh' eb=>⟨rfl,I.turned (t':=s.toks) (λb o hb e=>eb b o hb e) f0 f1 f3 f4 f5⟩
 self:=λ_ _ _ _ _ st h=>wpAny_pyIter_revIter st.2 h
def Wy(K:PySem.W.Frag)(ta:TA):TI:=λσ H R=>ta σ H λvs H1=>∃a xs,vs=[.ref a]/\cS K H1 a xs/\R (S2 K a xs.length) H1
theorem boot_reversed:bootBuiltins "reversed" =some (.type "reversed"):=by decide +kernel
theorem Oq {X:Cx} {tg a:Expr} {ta:TA} {p pos:Pos} (hg:Gl X "reversed") (hm:X.mg "reversed" =none) (ha:PA X [a] ta) (hs:starEach [a] X.env=[(false,eval a X.env)]:=by rfl):PI X tg (.Call (.Name "reversed" p) [a] [] pos) (Wy X.K ta):=by
 intro pins s σ H R I h
 refine Call_ (pH I hg hm boot_reversed (PyProof.Rows.callWith_type1 (dJ (ha pos pins s σ H _ I h) λus s1 ⟨vs,H1,I1,r1,q1⟩=>?_) hs rfl))
 obtain⟨l,xs,rfl,hq,q⟩:=q1
 obtain⟨u,rfl,ru⟩:=vals1 r1
 cases ru
 obtain⟨its,rv,pl,hz⟩:=I1.list hq
 have hl:s1.heap.IsList l its.toArray:=pl.isList
 have hlen:=rv.length
 refine call_reversed_list hl ?_
 have e0:({ s1 with heap:=s1.heap.push (revObj l ((its.toArray.size:Int)-1)) }:Shared).heap.IsRevIter s1.heap.objs.size l ((xs.length:Int)-1-((0:Nat):Int)) :=
  ⟨_,Heap.get?_push_size _ rfl,rfl,by rw[show(xs.length:Int)-1-((0:Nat):Int)=(its.toArray.size:Int)-1 by rw[List.size_toArray];omega];rfl⟩
 refine wpAny_pyIter_revIter e0 ?_
 refine⟨s1.heap.objs.size,[s1.heap.objs.size],_,_,H1,rfl,I1.kept (t':=s1.toks) λb o e=>Heap.get?_push_of_some _ e,Hy l _ xs.length,⟨Nat.zero_le _,e0⟩,λb hb=>?_,q⟩
 have e:b=s1.heap.objs.size:=by simpa using hb
 subst e
 exact I1.uY (Nat.le_refl _) (I1.hok.fresh (Nat.le_refl _))
end L2
namespace L2
open PySem PySem.Spec PyProof.Rows
theorem Lk{K:PySem.W.Frag}{a:Addr}{xs:List V}{g:TG}{tb:TS}{D:Ends}{σ:St}{H:Hp}(Pv:Nat->St->Hp->Prop)(h0:Pv 0 σ H)(hl:∀i σ H,i<xs.length->Pv i σ H->cS K H a xs)
  (hs:∀i x σ H,i<xs.length->xs[xs.length-1-i]? =some x->Pv i σ H->g x σ H λσ2 H2=>tb { D with nx:=Pv (i+1),ct:=Pv (i+1),bk:=D.nx } σ2 H2) (hd:∀ σ H,Pv xs.length σ H->D.nx σ H) :
  ∃W:Nat->Nat->St->Hp->Prop,(∃m,W 0 m σ H)/\∀i m σ H,W i m σ H →
   ((S2 K a xs.length).stop i H/\D.nx σ H)\/((S2 K a xs.length).go i H/\∃N:St->Hp->Prop,(∀ σ' H',N σ' H'->∃m',m'<m/\W (i+1) m' σ' H')/\∀x H',(S2 K a xs.length).AS i H x H'->g x σ H' λσ2 H2=>tb { D with nx:=N,ct:=N,bk:=D.nx } σ2 H2):=by
 refine⟨λi m σ H=>m=xs.length-i/\i<=xs.length/\Pv i σ H,⟨xs.length,by simp,Nat.zero_le _,h0⟩,?_⟩
 rintro i m σ H ⟨rfl,hi,p⟩
 by_cases hlt:i<xs.length
 ·have hx:xs[xs.length-1-i]? =some xs[xs.length-1-i]:=List.getElem?_eq_getElem (by omega)
  refine .inr ⟨⟨xs,_,hl i σ H hlt p,hlt,hx⟩,Pv (i+1),λσ' H' p'=>⟨xs.length-(i+1),by omega,rfl,hlt,p'⟩,λx H' y=>?_⟩
  obtain⟨e,y⟩:=y
  subst e
  exact hs i x σ _ hlt (y xs (hl i σ _ hlt p)) p
 ·have e:i=xs.length:=by omega
  subst e
  exact .inl ⟨Nat.le_refl _,hd σ H p⟩
end L2
namespace L2
open PySem PySem.Spec PyProof.Rows
abbrev NK:=Int×Int×Str
section
variable{P:Program}{w:World}{A:Around}{E:Value->Shared->Prop}{s:Shared}
def oS(P:Program)(w:World)(h:Heap)(k:NK)(a:Addr):Prop:=∃o n p t,h.get? a=some o/\o.cls= .type "tuple" /\o.data= .seq #[.ref p,.str k.2.2 t] n/\IsTupleKey (bZ P w) h [.inl k.1,.inl k.2.1] p
theorem oS.typeIs{k:NK}{a:Addr}(x:oS P w s.heap k a):s.TypeIs (.ref a) "tuple" :=let ⟨o,_,_,_,ho,hc,_⟩:=x;⟨o,ho,hc⟩
theorem oS.inj{h:Heap}{a:Addr}{x y:NK}(hx:oS P w h x a)(hy:oS P w h y a):x=y:=by
 obtain⟨o,n,p,t,ho,_,hd,hi⟩:=hx
 obtain⟨o',n',p',t',ho',_,hd',hi'⟩:=hy
 obtain rfl:o=o':=Option.some.inj (ho.symm.trans ho')
 rw[hd]at hd'
 injection hd' with h1 _
 have t7:=congrArg Array.toList h1
 simp only[List.cons.injEq,Value.ref.injEq,Value.str.injEq,and_true]at t7
 obtain⟨rfl,e,_⟩:=t7
 have:=hi.inj hi'
 simp only[List.cons.injEq,Sum.inl.injEq,and_true]at this
 obtain⟨x1,x2,x3⟩:=x
 obtain⟨y1,y2,y3⟩:=y
 simp only at e this
 obtain⟨rfl,rfl⟩:=this
 subst e
 rfl
theorem oS.keeps{h h':Heap}{k:NK}{a d:Addr}{o:Obj}{es ep}(x:oS P w h k a)(ho:h.get? d=some o)(hd:o.data= .dict es ep)(hs:Heap.SameBut d h h'):oS P w h' k a:=by
 obtain⟨o',n,p,t,ho',hc,hd',hi⟩:=x
 have hne:a≠d:=by
  rintro rfl
  obtain rfl:o'=o:=Option.some.inj (ho'.symm.trans ho)
  rw[hd]at hd';exact nomatch hd'
 exact⟨o',n,p,t,(hs.2 a hne).trans ho',hc,hd',hi.keeps ho hd hs⟩
def DT(P:Program)(w:World)(k:NK):Int:=reduceHash (Builtin.Tuple.tupleHashOf [tupleKeyHash (bZ P w) [.inl k.1,.inl k.2.1],(bZ P w).hash (.inr k.2.2)])
theorem F5{k:NK}{a:Addr}{Q:Int->Shared->Prop}(hu:A.units+1<cLine)(hk:oS P w s.heap k a)(h:Q (DT P w k) { s with toks:=s.toks+5 }):
  wpAny (model P w) A (pyHash (.ref a)) Q E s:=by
 have hT:=hk.typeIs
 obtain⟨o,n,p,t,ho,_,hd,hi⟩:=hk
 unfold pyHash
 first|unfold pyHashByItsType|skip
 first|refine wpAny_bind (wpAny_cRoomFor_or (.inr (Nat.lt_of_succ_lt hu)) ?_)|skip
 refine wpAny_bind (wpAny_specialOf hT PySem.F.slot_tuple_hash.lookup ?_)
 show wpAny _ _ (if(some (Value.builtin "tuple.__hash__")==some Value.none)=true then _ else _) Q E s
 rw[if_neg (by rw[beq_builtin_none];exact Bool.false_ne_true)]
 refine wpAny_bind (wpAny_specialOf hT PySem.F.slot_tuple_hash.lookup ?_)
 show wpAny _ _ (callSpecialIfBoundUnlessNone? (.ref a) "__hash__" _ >>= _) Q E s
 refine wpAny_bind (wpAny_callSpecialIfBoundUnlessNone?_slot hT PySem.F.slot_tuple_hash (wpAny_call_entry PySem.F.slot_tuple_hash hT PySem.F.entry_tuple_hash ?_ (PySem.F.args_tuple_hash_1 _)))
 show wpAny _ _ (Builtin.Tuple.tupleItemsOf (.ref a) >>= _) _ _ s
 refine wpAny_bind (wpAny_tupleItemsOf ho hd ?_)
 refine wpAny_bind ?_
 rw[←Array.forIn_toList]
 refine wpAny_forIn_list _
  (λrest (b:Array Int) s'=>(rest=[.ref p,.str k.2.2 t]/\b= #[]/\s'=s)\/(rest=[.str k.2.2 t]/\b.toList=[tupleKeyHash (bZ P w) [.inl k.1,.inl k.2.1]]/\s'={ s with toks:=s.toks+3 }) ∨
   (rest=[]/\b.toList=[tupleKeyHash (bZ P w) [.inl k.1,.inl k.2.1],(bZ P w).hash (.inr k.2.2)]/\s'={ s with toks:=s.toks+4 })) _ ?_ ?_ _ _ (.inl ⟨rfl,rfl,rfl⟩)
 ·rintro x rest b s' (⟨e,rfl,rfl⟩|⟨e,hb,rfl⟩|⟨e,_⟩)
  ·cases e
   refine wpAny_bind (wpAny_pyHash_tuple (knd:=bZ P w) (ks:=[.inl k.1,.inl k.2.1]) hu hi ?_)
   first
    |exact wpAny_pure (.inr (.inl ⟨rfl,rfl,rfl⟩))
    |exact wpAny_bind (wpAny_pure (wpAny_pure (.inr (.inl ⟨rfl,rfl,rfl⟩))))
  ·cases e
   refine wpAny_bind ((bZ P w).pyHash (k:=.inr k.2.2) (v:=.str k.2.2 t) (by show decide _=true;simp) ?_)
   first
    |exact wpAny_pure (.inr (.inr ⟨rfl,by simp[hb],rfl⟩))
    |exact wpAny_bind (wpAny_pure (wpAny_pure (.inr (.inr ⟨rfl,by simp[hb],rfl⟩))))
  ·cases e
 ·rintro b s' (⟨e,_⟩|⟨e,_⟩|⟨_,hb,rfl⟩)
  ·cases e
  ·cases e
  show wpAny _ _ (retInt (Builtin.Tuple.tupleHashOf b.toList)) _ _ _
  rw[hb]
  refine wpAny_ret_mkInt ?_
  unfold DT at h
  generalize Builtin.Tuple.tupleHashOf [tupleKeyHash (bZ P w) [.inl k.1,.inl k.2.1],(bZ P w).hash (.inr k.2.2)]=T at *
  show wpAny _ _ (if(decide (-(2:Int) ^ 63<=T)&&decide (T<2 ^ 63))=true then _ else _) Q E _
  unfold reduceHash at h
  by_cases hr:(decide (-(2:Int) ^ 63<=T)&&decide (T<2 ^ 63))=true
  ·rw[if_pos hr]
   rw[if_pos hr]at h
   exact wpAny_pure h
  ·rw[if_neg hr]
   rw[if_neg hr]at h
   exact wpAny_bind (wpAny_rule (wpAny_pure h))
theorem DS{x y:NK}{a b:Addr}{Pq:PySem.Fin->Shared->Prop}(hu:A.units<cLine)(hx:oS P w s.heap x a)(hy:oS P w s.heap y b)(h:Pq (.done (.ret (.bool (decide (x=y))))) s):
  wpAny (model P w) A (Builtin.«tuple.__eq__» ⟨[.ref a,.ref b],[]⟩) Pq E s:=by
 have hTb:=hy.typeIs
 obtain⟨oa,na,p,t,hoa,_,hda,YM⟩:=hx
 obtain⟨ob,nb,q,u,hob,_,hdb,hib⟩:=hy
 obtain⟨x1,x2,x3⟩:=x
 obtain⟨y1,y2,y3⟩:=y
 simp only at hda YM hdb hib
 show wpAny _ _ (isInstance (.ref b) (.type "tuple") >>= _) _ _ s
 refine wpAny_bind (wpAny_isInstance hTb isSubtype_tuple_tuple ?_)
 simp only[Bool.not_true,Bool.false_eq_true,if_false]
 refine wpAny_bind (wpAny_tupleItemsOf hoa hda ?_)
 refine wpAny_bind (wpAny_tupleItemsOf hob hdb ?_)
 refine wpAny_bind ?_
 refine wpAny_forIn_list _
  (λrest r s'=>r.1=none/\s'=s/\(rest=[(.ref p,.ref q),(.str x3 t,.str y3 u)]\/(rest=[(.str x3 t,.str y3 u)]/\x1=y1/\x2=y2)\/(rest=[]/\x1=y1/\x2=y2/\x3=y3))) _ ?_ ?_ _ _ ⟨rfl,rfl,.inl rfl⟩
 ·rintro⟨c,d⟩ rest r s' ⟨hr,rfl,e|⟨e,rfl,rfl⟩|⟨e,_⟩⟩
  ·cases e
   refine wpAny_bind (wpAny_eqBool_tuple (knd:=bZ P w) (x:=[.inl x1,.inl x2]) (y:=[.inl y1,.inl y2]) hu YM hib ?_)
   by_cases hk:x1=y1/\x2=y2
   ·obtain⟨rfl,rfl⟩:=hk
    rw[decide_eq_true rfl]
    simp only[Bool.not_true,Bool.false_eq_true,if_false]
    exact wpAny_pure ⟨rfl,rfl,.inr (.inl (by simp))⟩
   ·have e1:¬([Sum.inl x1,Sum.inl x2]:List Key)=[.inl y1,.inl y2]:=λz=>hk (by simpa using z)
    rw[decide_eq_false e1]
    simp only[Bool.not_false,if_true]
    have hf:decide ((x1,x2,x3)=(y1,y2,y3))=false:=decide_eq_false λz=>hk (by simp only[Prod.mk.injEq]at z;exact⟨z.1,z.2.1⟩)
    rw[hf]at h
    exact wpAny_bind (wpAny_pure (wpAny_pure (wpAny_pure h)))
  ·cases e
   refine wpAny_bind ((bZ P w).eqBool (a:=.inr x3) (b:=.inr y3) (u:=.str x3 t) (v:=.str y3 u) (pC P w x3 t) (pC P w y3 u) ?_)
   by_cases hk:x3=y3
   ·subst hk
    rw[decide_eq_true rfl]
    simp only[Bool.not_true,Bool.false_eq_true,if_false]
    exact wpAny_pure ⟨rfl,rfl,.inr (.inr (by simp))⟩
   ·have e1:¬(Sum.inr x3:Key)= .inr y3:=λz=>hk (by simpa using z)
    rw[decide_eq_false e1]
    simp only[Bool.not_false,if_true]
    have hf:decide ((x1,x2,x3)=(x1,x2,y3))=false:=decide_eq_false λz=>hk (by simp only[Prod.mk.injEq]at z;exact z.2.2)
    rw[hf]at h
    exact wpAny_bind (wpAny_pure (wpAny_pure (wpAny_pure h)))
  ·cases e
 ·rintro⟨r1,r2⟩ s' ⟨hr,rfl,e|⟨e,_⟩|⟨_,rfl,rfl,rfl⟩⟩
  ·cases e
  ·cases e
  simp only at hr
  subst hr
  refine wpAny_pure ?_
  rw[decide_eq_true rfl]at h
  exact h
theorem F6{x y:NK}{a b:Addr}{Q:Bool->Shared->Prop}(hu:A.units+1<cLine)(hx:oS P w s.heap x a)(hy:oS P w s.heap y b)(h:Q (decide (x=y)) s):
  wpAny (model P w) A (eqBool (.ref a) (.ref b)) Q E s:=by
 unfold eqBool
 try with_reducible refine wpAny_holding ?_
 show wpAny _ _ (if(Value.ref a==Value.ref b)=true then _ else _) Q E s
 by_cases hab:(Value.ref a==Value.ref b)=true
 ·rw[if_pos hab]
  have e:a=b:=by have:=eq_of_beq hab;injection this
  subst e
  obtain rfl:=hx.inj hy
  exact wpAny_bind (wpAny_rule (wpAny_pure (by simpa using h)))
 ·rw[if_neg hab]
  exact wpAny_bind (wpAny_richCompare_same_room (op:=.Eq) hx.typeIs hy.typeIs PySem.F.slot_tuple_eq
   (wpAny_call_entry PySem.F.slot_tuple_eq hx.typeIs PySem.F.entry_tuple_eq (DS hu hx hy ⟨_,rfl,(λe=>nomatch e),wpAny_truthy_bool h⟩) (PySem.F.args_tuple_eq_2 _ _)) (Nat.lt_of_succ_lt hu))
theorem BA(n:Nat){ks:List Key}{a:Addr}{Q:Bool->Shared->Prop}(hk:IsTupleKey (bZ P w) s.heap ks a)(h:Q true s):wpAny (model P w) A (eqIsQuiet (n+1) (.ref a)) Q E s:=by
 have hT:=hk.typeIs
 obtain⟨o,items,m,ho,_,hd,hi⟩:=hk
 unfold eqIsQuiet
 refine wpAny_bind (wpAny_specialOf hT PySem.F.slot_tuple_eq.lookup ?_)
 show wpAny _ _ (isInstance (.ref a) (.type "tuple") >>= _) _ _ s
 refine wpAny_bind (wpAny_isInstance hT isSubtype_tuple_tuple ?_)
 simp only[Bool.not_true,Bool.false_eq_true,if_false]
 refine wpAny_bind (wpAny_seqItems ho hd ?_)
 refine wpAny_bind ?_
 show wpAny _ _ (forIn items _ _) _ _ s
 rw[←Array.forIn_toList]
 refine wpAny_forIn_list _ (λrest r s'=>r.1=none/\s'=s/\∀v∈rest,carriedByValue v=true) _ ?_ ?_ _ _ ⟨rfl,rfl,hi.byValue⟩
 ·rintro v rest r s' ⟨hr,rfl,hall⟩
  rw[eqIsQuiet_byValue _ (hall v List.mem_cons_self)]
  refine wpAny_bind (wpAny_pure ?_)
  simp only[Bool.not_true,Bool.false_eq_true,if_false]
  exact wpAny_pure ⟨rfl,rfl,λu WI=>hall u (List.mem_cons_of_mem _ WI)⟩
 ·rintro⟨r1,r2⟩ s' ⟨hr,rfl,_⟩
  simp only at hr
  subst hr
  exact wpAny_pure h
theorem Ir{k:NK}{a:Addr}{Q:Bool->Shared->Prop}(hk:oS P w s.heap k a)(h:Q true s):wpAny (model P w) A (eqIsQuiet 8 (.ref a)) Q E s:=by
 have hT:=hk.typeIs
 obtain⟨o,m,p,t,ho,_,hd,hi⟩:=hk
 unfold eqIsQuiet
 refine wpAny_bind (wpAny_specialOf hT PySem.F.slot_tuple_eq.lookup ?_)
 show wpAny _ _ (isInstance (.ref a) (.type "tuple") >>= _) _ _ s
 refine wpAny_bind (wpAny_isInstance hT isSubtype_tuple_tuple ?_)
 simp only[Bool.not_true,Bool.false_eq_true,if_false]
 refine wpAny_bind (wpAny_seqItems ho hd ?_)
 refine wpAny_bind ?_
 show wpAny _ _ (forIn #[Value.ref p,Value.str k.2.2 t] _ _) _ _ s
 rw[←Array.forIn_toList]
 refine wpAny_forIn_list _ (λrest r s'=>r.1=none/\s'=s/\∀v∈rest,v= .ref p\/carriedByValue v=true) _ ?_ ?_ _ _ ⟨rfl,rfl,λv hv=>?_⟩
 ·rintro v rest r s' ⟨hr,rfl,hall⟩
  have step:wpAny (model P w) A (eqIsQuiet 7 v) (λb s2=>b=true/\s2=s') E s':=by
   rcases hall v List.mem_cons_self with rfl|hv
   ·exact BA 6 hi ⟨rfl,rfl⟩
   ·rw[eqIsQuiet_byValue _ hv]
    exact wpAny_pure ⟨rfl,rfl⟩
  refine wpAny_bind (wpAny_mono step (λb s2 z=>?_) λ_ _ z=>z)
  obtain⟨rfl,rfl⟩:=z
  simp only[Bool.not_true,Bool.false_eq_true,if_false]
  exact wpAny_pure ⟨rfl,rfl,λu WI=>hall u (List.mem_cons_of_mem _ WI)⟩
 ·rintro⟨r1,r2⟩ s' ⟨hr,rfl,_⟩
  simp only at hr
  subst hr
  exact wpAny_pure h
 ·simp only[List.mem_cons,List.not_mem_nil,or_false]at hv
  rcases hv with rfl|rfl
  ·exact .inl rfl
  ·exact .inr rfl
end
def k8(P:Program)(w:World):HeapKind P w NK where
 is:=oS P w
 hash:=DT P w
 draws:=λ_=>5
 room:=λA=>A.units+1<cLine
 inj:=λhx hy=>hx.inj hy
 keeps:=λx ho hd hs=>x.keeps ho hd hs
 pyHash:=λhu hk h=>F5 hu hk h
 eqBool:=λhu hx hy h=>F6 hu hx hy h
 quiet:=λhk h=>Ir hk h
end L2
namespace L2
open PySem PySem.Spec PyProof.Rows PySem.W
def Ax(d:Addr)(es:Array DictEntry)(ep:Nat)(h:Heap):Prop:=∃o,h.get? d=some o/\o.ExactDict/\o.data= .dict es ep
section
variable{P:Program}{w:World}{A:Around}{E:Value->Shared->Prop}{s:Shared}{d:Addr}{es:Array DictEntry}{ep:Nat}
theorem Ax.ty(m:Ax d es ep s.heap):s.TypeIs (.ref d) "dict" :=let ⟨o,ho,hc,_⟩:=m;⟨o,ho,hc.1⟩
theorem Ax.mv{h h':Heap}(m:Ax d es ep h)(e:∀o,h.get? d=some o->h'.get? d=some o):Ax d es ep h':=let ⟨o,ho,r⟩:=m;⟨o,e _ ho,r⟩
theorem HX{Q:Value->Shared->Prop}(hd:(d==sysModules)=false)(m:Ax d es ep s.heap)
  (hQ:Q (.ref s.heap.objs.size) { s with heap:=s.heap.push { cls:=.type "dict_keyiterator",data:=.fields #[.ref d,.int 0 0,.int es.size 0,.int ep 0] } }):wpAny (model P w) A (pyIter (.ref d)) Q E s:=by
 have hT:=m.ty
 obtain⟨o,ho,hc,hdat⟩:=m
 refine wpAny_pyIter_slot hT PySem.F.slot_dict_iter (wpAny_call_entry PySem.F.slot_dict_iter hT PySem.F.entry_dict_iter ?_ (PySem.F.args_dict_iter_1 _))
 unfold Builtin.«dict.__iter__»
 refine wpAny_bind ?_
 unfold Builtin.Dict.dictSlotNone
 refine wpAny_bind (wpAny_notOrdered_dict hT ?_)
 show wpAny _ _ (pure (Value.ref d)) _ _ s
 refine wpAny_pure ?_
 show wpAny _ _ (Builtin.Dict.showsAll d >>= _) _ _ s
 unfold Builtin.Dict.showsAll
 rw[if_neg (by rw[hd];exact Bool.false_ne_true)]
 refine wpAny_bind (wpAny_pure (wpAny_bind (wpAny_dictEntries ho hdat (wpAny_bind (wpAny_dictEpoch ho hdat ?_)))))
 refine wpAny_bind (wpAny_newObj_type (wpAny_pure ⟨_,rfl,"dict_keyiterator",_,⟨_,Heap.get?_push_size _ rfl,rfl⟩,PySem.F.slot_dict_keyiterator_next.lookup,?_⟩))
 simpa[rawInt]using hQ
theorem By{it:Addr}{i:Nat}{Q:Option Value->Shared->Prop}(hit:s.heap.IsKeyIter it d i es.size ep)(m:Ax d es ep s.heap)
  (item:∀(hi:i<es.size) h',h'.IsKeyIter it d (i+1) es.size ep->Heap.SameBut it s.heap h'->Q (some es[i].key) { s with heap:=h' })
  (stop:es.size<=i->A.handled=none/\∀h',Heap.ExtBut it s.heap h'->Q none { s with heap:=h' }):wpAny (model P w) A (pyNext (.ref it)) Q E s:=by
 obtain⟨o,ho,hc,hd⟩:=id hit
 obtain⟨od,hod,hcd,TV⟩:=m
 unfold pyNext
 refine wpAny_bind (wpAny_attempt (wpAny_callSpecial?_slot (name:=Str.ofString "__next__") hit.typeIs PySem.F.slot_dict_keyiterator_next
  (wpAny_call_entry PySem.F.slot_dict_keyiterator_next hit.typeIs PySem.F.entry_dict_keyiterator_next ?_ (PySem.F.args_dict_keyiterator_next_1 _))))
 refine wpAny_bind (wpAny_pure (wpAny_bind (wpAny_bind ?_)))
 first|refine wpAny_bind (wpAny_typeNameOfWhole_keyiter hit.typeIs (wpAny_pure ?_))|refine wpAny_bind (wpAny_typeNameOf_keyiter hit.typeIs (wpAny_pure ?_))
 refine wpAny_bind (wpAny_fieldsOf ho hd ?_)
 have hown:Builtin.Dict_items.ownsTuple "dict_keyiterator" =false:=by decide
 simp only[hown,Bool.false_eq_true,if_false]
 show wpAny _ _ (if(Value.ref d==Value.none)=true then _ else _) _ _ s
 rw[if_neg (show ¬((Value.ref d==Value.none)=true) from Bool.false_ne_true)]
 refine wpAny_bind (wpAny_pure (wpAny_bind (wpAny_dictEntries hod TV ?_)))
 rw[if_neg (by simp)]
 refine wpAny_bind (wpAny_pure (wpAny_bind (wpAny_dictEpoch hod TV ?_)))
 rw[if_neg (by simp)]
 refine wpAny_pure ?_
 by_cases hlt:i<es.size
 ·simp only[show ¬((i:Int)<0) from by omega,if_false,Int.toNat_natCast,Array.getElem?_eq_getElem hlt]
  refine wpAny_bind ?_
  first|refine wpAny_bind (wpAny_typeNameOfWhole_keyiter hit.typeIs (wpAny_pure ?_))|refine wpAny_bind (wpAny_typeNameOf_keyiter hit.typeIs (wpAny_pure ?_))
  refine wpAny_bind (wpAny_isOneOf_keyiter hit.typeIs ?_)
  show wpAny _ _ (setField (.ref it) 1 (rawInt ((i:Int)+1)) >>= _) _ _ s
  refine wpAny_bind (wpAny_setField ho hd (by simp) ?_)
  have Gz:(s.heap.update it (Obj.mapFields (·.setIfInBounds 1 (rawInt ((i:Int)+1))))).IsKeyIter it d (i+1) es.size ep :=
   ⟨_,Heap.get?_update_self _ ho (Obj.isFreed_of_fields (Obj.data_mapFields hd _)),(Obj.cls_mapFields ..).trans hc,by rw[Obj.data_mapFields hd];simp[rawInt]⟩
  refine wpAny_bind (wpAny_holding (wpAny_bind (wpAny_isOneOf_keyiter (s:={ s with heap:=s.heap.update it (Obj.mapFields (·.setIfInBounds 1 (rawInt ((i:Int)+1)))) }) Gz.typeIs ?_)))
  show wpAny _ _ (pure es[i].key) _ _ _
  exact wpAny_pure (wpAny_pure ⟨_,rfl,wpAny_pure (item hlt _ Gz (Heap.SameBut.update ..))⟩)
 ·obtain⟨hh,hQ⟩:=stop (by omega)
  simp only[show ¬((i:Int)<0) from by omega,if_false,Int.toNat_natCast,Array.getElem?_eq_none (show es.size<=i by omega)]
  refine wpAny_bind ?_
  first|refine wpAny_bind (wpAny_typeNameOfWhole_keyiter hit.typeIs (wpAny_pure ?_))|refine wpAny_bind (wpAny_typeNameOf_keyiter hit.typeIs (wpAny_pure ?_))
  show wpAny _ _ (setField (.ref it) 0 .none >>= _) _ _ s
  refine wpAny_bind (wpAny_setField ho hd (by simp) ?_)
  show wpAny _ _ (newExc (.type "StopIteration") [] >>= _) _ _ _
  refine wpAny_bind ?_
  simp only[newExc,newTuple]
  refine wpAny_bind (wpAny_newObj_type ?_ (by size_fits))
  refine wpAny_bind (m:=firstArgMember _ _) (wpAny_of_eq (a:=Value.none) (by first|rfl|(simp only[firstArgMember];rfl)) ?_)
  refine wpAny_newObj_type ?_ (by size_fits)
  simp only[raiseNew]
  refine wpAny_bind (wpAny_handled ?_)
  rw[show A.in1.handled=none from hh]
  refine wpAny_bind (wpAny_pure (wpAny_throw ?_))
  refine wpAny_bind (wpAny_isInstance (T:= "StopIteration") (b:=true) ⟨_,Heap.get?_push_size _ rfl,rfl⟩ isSubtype_stop ?_)
  exact wpAny_pure (hQ _ (((Heap.SameBut.update ..).extBut.push _).push _))
theorem FY(hh:A.handled=none)(I:Addr)(ne:d≠I):
  Walks P w A I [I,d] [I] es.size (λi v=>∃h:i<es.size,v=es[i].key) (λi h=>h.IsKeyIter I d i es.size ep/\Ax d es ep h) where
 sub:=λb hb=>by simp at hb;simp[hb]
 frame:=λ_ _ _ st hk=>⟨st.1.at λo e=>hk I (by simp) o e,st.2.mv λo e=>hk d (by simp) o e⟩
 item:=λi s Q E hi st hQ=>By st.1 st.2 (λhi h' Gz hs'=>hQ _ h' s.toks ⟨hi,rfl⟩ ⟨Gz,st.2.mv λo e=>hs'.extBut d o ne e⟩ λb o hb e=>hs'.extBut b o (λh=>hb (by simp[h])) e) λz=>absurd hi (by omega)
 done:=λs Q E st hQ=>By st.1 st.2 (λhi=>absurd hi (Nat.lt_irrefl _)) λ_=>⟨hh,λh' he'=>hQ h' s.toks λb o hb e=>he' b o (λh=>hb (by simp[h])) e⟩
 self:=λ_ _ _ _ st hQ=>wpAny_pyIter_keyiter st.1 hQ
theorem Kn(lo:(d==sysModules)=false):KdlSrc P w "dict" d d es.size (λi v=>∃h:i<es.size,v=es[i].key) (Ax d es ep) where
 type:=λ_ m=>m.ty
 there:=λ_ ⟨_,ho,_⟩=>⟨Heap.lt_size ho,Heap.lt_size ho⟩
 keep:=λ_ _ m hk=>m.mv λo e=>hk d (.inl rfl) o e
 notList:=by decide
 notTuple:=by decide
 hint:=λ_ _ _ _ m hq=>kdl_hint_dict m.ty hq
 iter:=λ_ s hh m=>⟨_,_,(λ_ _ hq=>HX lo m hq),FY hh _ (let ⟨_,ho,_⟩:=m;Nat.ne_of_lt (Heap.lt_size ho)),⟨⟨_,Heap.get?_push_size _ rfl,rfl,rfl⟩,m.mv λo e=>Heap.get?_push_of_some _ e⟩⟩
end
end L2
namespace L2
open PySem PySem.Spec PyProof.Rows PySem.W
abbrev NE:=NK×Addr×V
abbrev KN:List NE->List (NK×Addr×Value)->Prop:=Paired λp q=>p.1=q.1/\p.2.1=q.2.1/\RelV p.2.2 q.2.2
def j3(kvs:List NE)(k:NK):Option V:=(kvs.find? λx=>decide (x.1=k)).map (·.2.2)
def sr(kvs:List NE)(k:NK)(q:Addr)(v:V):List NE:=if(j3 kvs k).isSome then kvs.map (λx=>if x.1=k then(x.1,x.2.1,v)else x)else kvs++[(k,q,v)]
theorem jQ{p:NE}{ps:List NE}{k:NK}(e:p.1=k):j3 (p::ps) k=some p.2.2:=by simp[j3,List.find?_cons,e]
theorem iu{p:NE}{ps:List NE}{k:NK}(e:¬p.1=k):j3 (p::ps) k=j3 ps k:=by simp[j3,List.find?_cons,e]
theorem KN.val{kvs:List NE}{xs:List (NK×Addr×Value)}(r:KN kvs xs)(k:NK):mL (j3 kvs k) ((atKey xs k).map (·.2)):=by
 induction r with
 |nil=>exact True.intro
 | @cons p q ps qs h t ih =>
  obtain⟨h1,_,h2⟩:=h
  by_cases e:p.1=k
  ·have e':q.1=k:=h1.symm.trans e
   have b:atKey (q::qs) k=some q.2:=by simp[atKey,List.find?_cons,e']
   rw[jQ e,b];exact h2
  ·have e':¬q.1=k:=λz=>e (h1.trans z)
   have b:atKey (q::qs) k=atKey qs k:=by simp[atKey,List.find?_cons,e']
   rw[iu e,b];exact ih
theorem KN.put{kvs:List NE}{xs:List (NK×Addr×Value)}(r:KN kvs xs)(k:NK){b:Addr}{y:V}{u:Value}(ry:RelV y u):KN (sr kvs k b y) (storedH xs k b u):=by
 have e:(j3 kvs k).isSome=(atKey xs k).isSome:=by rw[(r.val k).yV,Option.isSome_map]
 unfold sr storedH
 rw[e]
 by_cases q:(atKey xs k).isSome=true
 ·rw[if_pos q,if_pos q]
  clear e q
  induction r with
  |nil=>exact .nil
  | @cons p q ps qs h t ih =>
   rw[List.map_cons,List.map_cons]
   refine .cons ?_ ih
   obtain⟨h1,h2,h3⟩:=h
   unfold putAt
   by_cases e:p.1=k
   ·rw[if_pos e,if_pos (h1.symm.trans e)];exact⟨h1,h2,ry⟩
   ·rw[if_neg e,if_neg (λz=>e (h1.trans z))];exact⟨h1,h2,h3⟩
 ·rw[if_neg q,if_neg q];exact Paired.snoc r ⟨rfl,rfl,ry⟩
theorem BQ(kvs:List NE)(k:NK)(q:Addr)(v:V):(sr kvs k q v).length<=kvs.length+1:=by
 unfold sr
 split
 ·rw[List.length_map];omega
 ·rw[List.length_append];exact Nat.le_refl _
theorem Ip{kvs:List NE}{k:NK}(h:j3 kvs k=none)(q:Addr)(v:V):sr kvs k q v=kvs++[(k,q,v)]:=by unfold sr;rw[h];rfl
def PC(P:Program)(w:World)(a:Addr)(kvs:List NE)(h:Heap):Prop:=kvs.length<=sizeLine/\(a==sysModules)=false/\∃xs,KN kvs xs ∧
 ∃o es ep,h.get? a=some o/\o.ExactDict/\o.data= .dict es ep/\es.toList=xs.map (entryOfKey (k8 P w))/\(xs.map (·.1)).Nodup
def CZ(P:Program)(w:World)(a:Addr)(kvs:List NE):HO:=.ext (PC P w a kvs)
theorem LZ{P:Program}{w:World}{H:Hp}{h:Heap}{a:Addr}{kvs:List NE}(e:PC P w a kvs h):bM P w H h a (CZ P w a kvs):=by
 obtain⟨z,lo,xs,r,o,es,ep,ho,c⟩:=e
 exact⟨⟨z,lo,xs,r,o,es,ep,ho,c⟩,⟨o,ho⟩,λh1 h2 ⟨z,lo,xs,r,o,es,ep,ho,c⟩ k=>⟨z,lo,xs,r,o,es,ep,k _ ho,c⟩⟩
def lu(H:Hp)(q:Addr)(k:NK):Prop:=∃p,H q=some (.tup [.ref p,.str k.2.2])/\H p=some (.tup [.int k.1,.int k.2.1])
structure ND(P:Program)(w:World)(H:Hp)(a:Addr)(kvs:List NE):Prop where
 at_:H a=some (CZ P w a kvs)
 keys:∀x∈kvs,lu H x.2.1 x.1
theorem k_of{P:Program}{w:World}{H:Hp}{h:Heap}{q:Addr}{k:NK}(ok:mj P w H h)(e:lu H q k):(k8 P w).is h k q:=by
 obtain⟨p,h1,h2⟩:=e
 obtain⟨_,its,r,o,g1,g2,n,g3⟩:=(show bM P w H h q (.tup [.ref p,.str k.2.2]) from ok q _ h1)
 cases r with
 |cons r1 r =>
  cases r with
  |cons r2 r =>
   cases r
   cases r1
   obtain⟨t,rfl⟩:=(show ∃t,_=Value.str k.2.2 t from r2)
   exact⟨o,n,p,t,g1,g2,g3,wI (ks:=[.inl k.1,.inl k.2.1]) ok h2⟩
theorem ND.raw{P:Program}{w:World}{H:Hp}{h:Heap}{a:Addr}{kvs:List NE}(d:ND P w H a kvs)(ok:mj P w H h):kvs.length<=sizeLine/\(a==sysModules)=false/\∃xs,KN kvs xs/\h.DictOfH (k8 P w) a xs:=by
 obtain⟨z,lo,xs,r,o,es,ep,ho,h2,h3,h4,h5⟩:=(ok a _ d.at_).1
 refine⟨z,lo,xs,r,o,es,ep,ho,h2,h3,h4,λx hx=>?_,h5⟩
 have all:∀{l:List NE} {m:List (NK×Addr×Value)},KN l m->(∀x∈l,lu H x.2.1 x.1)->∀x∈m,(k8 P w).is h x.1 x.2.1:=by
  intro l m q
  induction q with
  |nil=>intro _ x hx;exact nomatch hx
  | @cons p q ps qs hq t ih =>
   intro hk x hx
   rcases List.mem_cons.mp hx with e|hx
   ·subst e
    rw[←hq.1,←hq.2.1]
    exact k_of ok (hk p List.mem_cons_self)
   ·exact ih (λy hy=>hk y (List.mem_cons_of_mem _ hy)) x hx
 exact all r d.keys x hx
section
variable{X:Cx}{pins:List (Addr×Obj)}{σ:St}{H:Hp}{s:Shared}{a q:Addr}{k:NK}{kvs:List NE}{v:V}{r:Value}{A:Around}{E:Value->Shared->Prop}
theorem F8{Q:Value->Shared->Prop}(hu:A.units+2<cLine)(I:Inv X pins σ H s)(d:ND X.prog X.w H a kvs)(hk:lu H q k)(l:j3 kvs k=some v)(h:∀w' s',Inv X pins σ H s'->RelV v w'->Q w' s'):
  wpAny (model X.prog X.w) A (getItem (.ref a) (.ref q)) Q E s:=by
 obtain⟨z,hd,xs,rel,dd⟩:=d.raw I.hok
 obtain⟨w',hw,rw'⟩:=mL.some_of (v:=v) (o:=(atKey xs k).map (·.2)) (by rw[←l];exact rel.val k)
 obtain⟨p,hp,hp2⟩:=Option.map_eq_some_iff.mp hw
 refine wpAny_getItem_heap (show A.in1.units+1<cLine from hu) (k_of I.hok hk) dd hp ?_
 rw[hp2]
 exact h w' _ (I.tok _) rw'
theorem F7{Q:Unit->Shared->Prop}(hu:A.units+2<cLine)(I:Inv X pins σ H s)(d:ND X.prog X.w H a kvs)(hk:lu H q k)(hl:kvs.length<sizeLine)(rv:RelV v r)(h:∀s',Inv X pins σ (upd H a (CZ X.prog X.w a (sr kvs k q v))) s'->Q () s'):
  wpAny (model X.prog X.w) A (setItem (.ref a) (.ref q) r) Q E s:=by
 obtain⟨z,hd,xs,rel,dd⟩:=d.raw I.hok
 have hz:xs.length<=sizeLine:=by rw[←Paired.length rel];exact z
 have hl':(sr kvs k q v).length<=sizeLine:=by have:=BQ kvs k q v;omega
 refine wpAny_setItem_heap (hsz:=hz) (show A.in1.units+1<cLine from hu) (k_of I.hok hk) dd λh' Qi hs=>h _ ?_
 obtain⟨o,es,ep,ho,h2,h3,h4,_,h5⟩:=Qi
 exact Am I (by rw[d.at_];exact True.intro) hs ⟨o,ho⟩ (LZ ⟨hl',hd,_,rel.put k rv,o,es,ep,ho,h2,h3,h4,h5⟩)
theorem Iv(I:Inv X pins σ H s)(d:ND X.prog X.w H a kvs):s.TypeIs (.ref a) "dict" :=by
 obtain⟨_,_,_,_,dd⟩:=d.raw I.hok
 exact dd.typeIs
end
def Qy(P:Program)(w:World)(td ty:TE):TE:=λσ H Q=>td σ H λx H1=>ty σ H1 λy H2=>∃a kvs k q v,x= .ref a/\y= .ref q/\ND P w H2 a kvs/\lu H2 q k/\j3 kvs k=some v/\Q v H2
def QO(P:Program)(w:World)(td ty tv:TE):TS:=λD σ H=>tv σ H λv H1=>td σ H1 λx H2=>ty σ H2 λy H3=>∃a kvs k q,x= .ref a/\y= .ref q/\ND P w H3 a kvs/\lu H3 q k/\kvs.length<sizeLine/\D.nx σ (upd H3 a (CZ P w a (sr kvs k q v)))
def Qx(P:Program)(w:World):TE:=λ_ H Q=>∀p,H p=none->Q (.ref p) (upd H p (CZ P w p []))
section
variable{X:Cx}{o i e value:Expr}{pos pos' tpos:Pos}{td ty tv:TE}{Pr:Program}{wo:World}
theorem rU(hu:X.A.units+2<cLine)(ho:PE X o td)(hi:PE X i ty)(hs:PB i)(hP:X.prog=Pr)(hw:X.w=wo):PE X (.Subscript o i pos) (Qy Pr wo td ty):=by
 subst hP hw
 intro pins s σ H Q I h
 refine vp PySem.F.slot_dict_getitem.lookup hs (dJ (ho pins s σ H _ I h) λu s1 ⟨x,H1,I1,rx,q1⟩=>dJ (hi pins s1 σ H1 _ I1 q1) λiv s2 ⟨y,H2,I2,ry,a,kvs,k,q,v,ex,ey,d,hk,l,q2⟩=>?_)
 subst ex ey
 obtain rfl:u=Value.ref a:=rx
 obtain rfl:iv=Value.ref q:=ry
 exact⟨Iv I2 d,F8 hu I2 d hk l λw' s3 I3 rw'=>⟨v,H2,I3,rw',q2⟩⟩
theorem ET(hu:X.A.units+2<cLine)(ho:PE X o td)(hi:PE X i ty)(hv:PE X value tv)(hs:swapsWith value (some (.Subscript o i pos')) pos.line X.env=pure false)(hP:X.prog=Pr)(hw:X.w=wo):
  PS X (.Assign [.Subscript o i pos'] value pos) (QO Pr wo td ty tv):=by
 subst hP hw
 intro pins s σ H D I h
 refine wpAny_Assign_Subscript (dJ (hv pins s σ H _ I h) λr s1 ⟨v,H1,I1,rv,q1⟩=>dJ (ho pins s1 σ H1 _ I1 q1) λu s2 ⟨x,H2,I2,rx,q2⟩=>dJ (hi pins s2 σ H2 _ I2 q2) λiv s3 ⟨y,H3,I3,ry,a,kvs,k,q,ex,ey,d,hk,hl,q3⟩=>?_) hs
 subst ex ey
 obtain rfl:u=Value.ref a:=rx
 obtain rfl:iv=Value.ref q:=ry
 exact F7 hu I3 d hk hl rv λs4 I4=>⟨σ,_,I4,q3⟩
theorem OC{P:Program}{w:World}(h:Heap)(hb:sysModules<h.objs.size):PC P w h.objs.size [] (h.push { cls:=.type "dict",data:=.dict #[] }) :=
 ⟨Nat.zero_le _,beq_eq_false_iff_ne.mpr (Ne.symm (Nat.ne_of_lt hb)),[],.nil,_,#[],0,Heap.get?_push_size _ rfl,⟨rfl,rfl,rfl⟩,rfl,rfl,List.nodup_nil⟩
theorem EY(hP:X.prog=Pr)(hw:X.w=wo):PE X (.Dict [] [] pos) (Qx Pr wo):=by
 subst hP hw
 exact λpins s σ H Q I h=>wpAny_Dict_empty ⟨.ref s.heap.objs.size,_,I.laid (a:=s.heap.objs.size) (o:=CZ X.prog X.w s.heap.objs.size []) (t':=s.toks) (λ_ _ q=>Heap.get?_push_of_some _ q) (Nat.le_refl _) (LZ (OC s.heap I.big)),rfl,h _ (I.hok.fresh (Nat.le_refl _))⟩
theorem Ar(I9:X.calm=true)(hP:X.prog=Pr)(hw:X.w=wo):lA X (.type "list") (λxs H Q=>∃a kvs,xs=[.ref a]/\ND Pr wo H a kvs/\∀l,H l=none->Q (.ref l) (upd H l (.lst (kvs.map λx=>.ref x.2.1)))):=by
 subst hP hw
 intro pins s σ H xs us Q I r h
 obtain⟨a,kvs,rfl,d,q⟩:=h
 obtain⟨u,rfl,rx⟩:=vals1 r
 cases rx
 obtain⟨z,lo,xs,rel,o,es,ep,h1,h2,h3,h4,_⟩:=d.raw I.hok
 have hes:es.size=xs.length:=size_of_entries h4
 have hlk:=Paired.length rel
 refine TK.bO (Nat.le_refl _) (kdl_call (Kn (es:=es) (ep:=ep) lo) (I.ok.hd I9) ⟨o,h1,h2,h3⟩ (by omega) λh' tk acc c kp hS hacc hup=>?_)
 refine⟨.ref s.heap.objs.size,_,I.laid (t':=tk) kp (Nat.le_refl _) (show bM X.prog X.w _ h' _ (.lst (kvs.map λx=>.ref x.2.1)) from⟨by rw[List.length_map];exact z,acc.toList,c,?_,by rw[Array.toArray_toList];exact hS⟩) hup,rfl,q _ (I.hok.fresh (Nat.le_refl _))⟩
 have hz:acc.size=kvs.length:=by rw[hacc.1];omega
 refine GP.tP (by rw[List.length_map];simp[hz]) λi x y hx hy=>?_
 rw[List.getElem?_map]at hx
 obtain⟨e,he,rfl⟩:=Option.map_eq_some_iff.mp hx
 rw[Array.getElem?_toList]at hy
 obtain⟨hi,rfl⟩:=hacc.2 i y hy
 obtain⟨x',hx',h5⟩:=GP.Paired.at rel he
 have:=entry_at h4 i
 rw[hx',Array.getElem?_eq_getElem hi]at this
 injection this with this
 rw[this]
 show Value.ref x'.2.1=Value.ref e.2.1
 rw[h5.2.1]
end
end L2
namespace L2
open PySem PySem.Spec PyProof.Rows PySem.W
section
variable{prog:Program}{w:World}{A:Around}{E:Value->Shared->Prop}{s:Shared}{q:Addr}
def LA(kf:Nat->Int)(n i:Nat):Prop:=∀j,j<n->kf i<=kf j/\(j<i->kf i<kf j)
theorem wD{h h':Heap}{l:Addr}{its:Array Value}(k:∀b o,h.get? b=some o->h'.get? b=some o)(x:h.IsList l its):h'.IsList l its:=by
 obtain⟨o,e,r⟩:=x
 exact⟨o,k _ _ e,r⟩
variable{g:Heap}{l I S:Addr}{vs:List Value}{R:Result->Shared->Prop}
theorem IB(kf:Nat->Int)(hh:A.handled=none)(hl:g.IsList l vs.toArray)(hI:g.get? I=none)(hS:g.get? S=none)(hSI:S≠I)
  (turn:∀i v h tk (Q:Value->Shared->Prop),vs[i]? =some v->(∀b o,g.get? b=some o->h.get? b=some o)->(∀h' tk' t,(∀b o,h.get? b=some o->h'.get? b=some o)->Q (.int (kf i) t) { s with heap:=h',toks:=tk' }) →
   wpAny (model prog w) A.in1 (call (.ref q) [v]) Q (λ_ _=>False) { s with heap:=h,toks:=tk })
  (hR:∀i v h' tk',vs[i]? =some v->LA kf vs.length i->(∀b o,g.get? b=some o->h'.get? b=some o)->R (.ok (.ret v)) { s with heap:=h',toks:=tk' }) :
  ∀(r j i:Nat) (h:Heap) (tk:Nat) (vb:Value) (tb:Tok) (c:Nat),vs.length-(j+1)=r->j+1<=vs.length->(∀b o,g.get? b=some o->h.get? b=some o)->h.get? S=some (seqObj "list" #[vb,.int (kf i) tb] c) →
   h.IsListIter I l (j+1)->vs[i]? =some vb->i<=j->LA kf (j+1) i →
   codeAny (model prog w) A (.builtin "min.loop" ⟨[.ref I,.ref q,.ref S],[]⟩) R { s with heap:=h,toks:=tk }:=by
 have nm:(toString "min" ++toString ".loop" :String)= "min.loop" :=by decide
 obtain⟨ol,I0,rl⟩:=id hl
 have lI:l≠I:=λz=>by rw[z,hI]at I0;cases I0
 have W:=Walks.list (prog:=prog) (w:=w) (A:=A.in1) hh I l lI vs.toArray
 have sz:vs.toArray.size=vs.length:=by simp
 have nI:∀b o,g.get? b=some o->b∉[I]:=λb o e z=>by rw[List.mem_singleton.mp z,hI]at e;cases e
 have nS:∀b o,g.get? b=some o->b≠S:=λb o e z=>by rw[z,hS]at e;cases e
 intro r
 induction r with
 |zero =>
  intro j i h tk vb tb c hr hj kp gS hit WG hij hb
  have en:j+1=vs.length:=by omega
  refine codeAny_builtin PySem.F.entry_min_loop ?_
  rw[Around.under_plainId PySem.F.plain_min_loop _]
  show wpAny _ A.in1 (seqItems? (.ref S) >>= _) _ _ _
  refine wpAny_bind (wpAny_seqItems gS rfl ?_)
  show wpAny _ A.in1 (tryCatch (pyNext (.ref I)) _ >>= _) _ _ _
  refine wpAny_bind (wpAny_tryCatch (W.done _ _ _ ⟨by rw[sz,←en];exact hit,wD kp hl⟩ λh1 LH hk1=>?_))
  have Ss:=hk1 S _ (by simpa using hSI) gS
  show wpAny _ A.in1 (updateSeq S (λ_=> #[]) >>= _) _ _ _
  refine wpAny_bind ?_
  refine wpAny_updateSeq Ss rfl (wpAny_bind (wpAny_letGo (wpAny_pure ?_)))
  refine hR i vb _ _ WG (by rw[←en];exact hb) λb o e=>?_
  rw[(Heap.SameBut.update h1 S _).2 b (nS b o e)]
  exact hk1 b o (nI b o e) (kp b o e)
 |succ r ih =>
  intro j i h tk vb tb c hr hj kp gS hit WG hij hb
  have lt:j+1<vs.length:=by omega
  refine codeAny_builtin PySem.F.entry_min_loop ?_
  rw[Around.under_plainId PySem.F.plain_min_loop _]
  show wpAny _ A.in1 (seqItems? (.ref S) >>= _) _ _ _
  refine wpAny_bind (wpAny_seqItems gS rfl ?_)
  show wpAny _ A.in1 (tryCatch (pyNext (.ref I)) _ >>= _) _ _ _
  refine wpAny_bind (wpAny_tryCatch (W.item (j+1) _ _ _ (by rw[sz];exact lt) ⟨hit,wD kp hl⟩ λv h1 LH hP hst hk1=>?_))
  have hv:vs[j+1]? =some v:=by simpa using hP
  have IT:∀b o,g.get? b=some o->h1.get? b=some o:=λb o e=>hk1 b o (nI b o e) (kp b o e)
  have Ss:=hk1 S _ (by simpa using hSI) gS
  obtain⟨oI,TM,rI⟩:=id hst.1
  show wpAny _ A.in1 (tryCatch (holding [v] (call (.ref q) [v])) _ >>= _) _ _ _
  refine wpAny_bind (wpAny_tryCatch (wpAny_holding (wpAny_mono (turn (j+1) v h1 LH (λu s'=>∃h2 JX t2,u= .int (kf (j+1)) t2/\s'={ s with heap:=h2,toks:=JX }/\∀b o,h1.get? b=some o->h2.get? b=some o) hv IT λh2 JX t2 k2=>⟨h2,JX,t2,rfl,rfl,k2⟩) (λu s' hu=>?_) λ_ _ z=>z.elim)))
  obtain⟨h2,JX,t2,rfl,rfl,k2⟩:=hu
  have Yw:∀b o,g.get? b=some o->h2.get? b=some o:=λb o e=>k2 b o (IT b o e)
  have Qh:=k2 _ _ Ss
  have W5:h2.IsListIter I l (j+1+1):=⟨oI,k2 _ _ TM,rI⟩
  show wpAny _ A.in1 (tryCatch (holding [v,.int (kf (j+1)) t2] (richCompare .Lt (.int (kf (j+1)) t2) (.int (kf i) tb) >>= _)) _ >>= _) _ _ _
  refine wpAny_bind (wpAny_tryCatch (wpAny_holding (wpAny_bind (CmpOf.ints_lt (prog:=prog) (w:=w) (A:=A.in1) (P:=λi v=>∃t,v= .int (kf i) t) kf (λi v h=>h) (j+1) i _ _ _ _ _ ⟨t2,rfl⟩ ⟨tb,rfl⟩ ?_))))
  refine wpAny_bind (wpAny_holding (wpAny_truthy_bool ?_))
  refine wpAny_bind (wpAny_letGo (wpAny_pure ?_))
  by_cases gt:kf (j+1)<kf i
  ·obtain⟨c2,hc2⟩:∃c2,(h2.update S (Obj.mapSeq λ_=> #[v,.int (kf (j+1)) t2])).get? S=some (seqObj "list" #[v,.int (kf (j+1)) t2] c2):=⟨_,get?_update_seq Qh λ_=> #[v,.int (kf (j+1)) t2]⟩
   have gt':kf (j+1)<kf i:=gt
   simp only[gt',decide_true,if_true]
   refine wpAny_bind ?_
   refine wpAny_updateSeq Qh rfl (wpAny_bind (wpAny_letGo ?_))
   rw[nm]
   refine wpAny_pure ⟨plainId_quiet PySem.F.plain_min_loop _,ih (j+1) (j+1) _ _ v t2 c2 (by omega) lt (λb o e=>?_) hc2 ?_ hv (Nat.le_refl _) λj' hj'=>?_⟩
   ·rw[(Heap.SameBut.update h2 S _).2 b (nS b o e)]
    exact Yw b o e
   ·exact⟨oI,((Heap.SameBut.update h2 S _).2 I hSI.symm).trans (k2 _ _ TM),rI⟩
   ·by_cases e:j'=j+1
    ·subst e
     exact⟨by omega,λ_=>by omega⟩
    ·have b1:=hb j' (by omega)
     exact⟨by omega,λ_=>by omega⟩
  ·have gt':¬kf (j+1)<kf i:=gt
   simp only[gt',decide_false,Bool.false_eq_true,if_false]
   refine wpAny_bind (wpAny_letGo ?_)
   rw[nm]
   refine wpAny_pure ⟨plainId_quiet PySem.F.plain_min_loop _,ih (j+1) i _ _ vb tb c (by omega) lt Yw Qh W5 WG (by omega) λj' hj'=>?_⟩
   by_cases e:j'=j+1
   ·subst e
    exact⟨by omega,λ_=>by omega⟩
   ·exact hb j' (by omega)
theorem GN{Q:Value->Shared->Prop}(kf:Nat->Int)(hh:A.handled=none)(hl:s.heap.IsList l vs.toArray)
  (turn:∀i v h tk (Q:Value->Shared->Prop),vs[i]? =some v->(∀b o,s.heap.get? b=some o->h.get? b=some o)->(∀h' tk' t,(∀b o,h.get? b=some o->h'.get? b=some o)->Q (.int (kf i) t) { s with heap:=h',toks:=tk' }) →
   wpAny (model prog w) A.in1 (call (.ref q) [v]) Q (λ_ _=>False) { s with heap:=h,toks:=tk })
  (hne:0<vs.length)
  (h1:∀i v h' tk',vs[i]? =some v->LA kf vs.length i->(∀b o,s.heap.get? b=some o->h'.get? b=some o)->Q v { s with heap:=h',toks:=tk' }) :
  wpAny (model prog w) A (call (.builtin "min") [.ref l] [(Str.ofString "key",.ref q)]) Q E s:=by
 have nm:(toString "min" ++toString ".loop" :String)= "min.loop" :=by decide
 obtain⟨ol,I0,rl⟩:=id hl
 have lt:l<s.heap.objs.size:=Heap.lt_size I0
 refine kmk_tree PySem.F.kind_min PySem.F.plain_min PySem.F.entry_min (kmk_min_key _ _) ?_
 show wpAny _ A.in1 (Builtin.Builtins.bindParams "min" ["key","default"] 0 ⟨[],[(Str.ofString "key",.ref q)]⟩ >>= _) _ _ s
 refine wpAny_bind (wpAny_of_eq (show Builtin.Builtins.bindParams "min" ["key","default"] 0 ⟨[],[(Str.ofString "key",.ref q)]⟩=pure [some (.ref q),none] from rfl) ?_)
 refine wpAny_bind (wpAny_pure ?_)
 refine wpAny_bind (wpAny_pyIter_list hl ?_)
 refine wpAny_bind (wpAny_newList ?_ (Nat.zero_le _))
 rw[nm]
 have sI:(s.heap.push { cls:=.type "list_iterator",data:=.fields #[.ref l,.int 0 0] }).objs.size=s.heap.objs.size+1:=size_push' ..
 have hI:s.heap.get? s.heap.objs.size=none:=Heap.get?_none_of_le (Nat.le_refl _)
 have hS:s.heap.get? (s.heap.push { cls:=.type "list_iterator",data:=.fields #[.ref l,.int 0 0] }).objs.size=none:=by rw[sI];exact Heap.get?_none_of_le (Nat.le_succ _)
 have hSI:(s.heap.push { cls:=.type "list_iterator",data:=.fields #[.ref l,.int 0 0] }).objs.size≠s.heap.objs.size:=by rw[sI];exact Nat.ne_of_gt (Nat.lt_succ_self _)
 refine wpAny_pure ⟨plainId_quiet PySem.F.plain_min_loop _,?_⟩
 have Yx:∀b o,s.heap.get? b=some o->((s.heap.push { cls:=.type "list_iterator",data:=.fields #[.ref l,.int 0 0] }).push (seqObj "list" #[] 0)).get? b=some o:=λb o e=>Heap.get?_push_of_some _ (Heap.get?_push_of_some _ e)
 have gI:((s.heap.push { cls:=.type "list_iterator",data:=.fields #[.ref l,.int 0 0] }).push (seqObj "list" #[] 0)).get? s.heap.objs.size=some { cls:=.type "list_iterator",data:=.fields #[.ref l,.int 0 0] } :=
  Heap.get?_push_of_some _ (Heap.get?_push_size _ rfl)
 have gS:((s.heap.push { cls:=.type "list_iterator",data:=.fields #[.ref l,.int 0 0] }).push (seqObj "list" #[] 0)).get? (s.heap.push { cls:=.type "list_iterator",data:=.fields #[.ref l,.int 0 0] }).objs.size=some (seqObj "list" #[] 0):=Heap.get?_push_size _ rfl
 generalize (s.heap.push { cls:=.type "list_iterator",data:=.fields #[.ref l,.int 0 0] }).objs.size=S at hS hSI gS ⊢
 generalize hIe:s.heap.objs.size=I at hI hSI gI ⊢
 have lI:l≠I:=λz=>by rw[z,hI]at I0;cases I0
 have W:=Walks.list (prog:=prog) (w:=w) (A:=A.in1) hh I l lI vs.toArray
 have sz:vs.toArray.size=vs.length:=by simp
 have nI:∀b o,s.heap.get? b=some o->b∉[I]:=λb o e z=>by rw[List.mem_singleton.mp z,hI]at e;cases e
 have nS:∀b o,s.heap.get? b=some o->b≠S:=λb o e z=>by rw[z,hS]at e;cases e
 refine codeAny_builtin PySem.F.entry_min_loop ?_
 rw[Around.under_plainId PySem.F.plain_min_loop _]
 show wpAny _ A.in1 (seqItems? (.ref _) >>= _) _ _ _
 refine wpAny_bind (wpAny_seqItems gS rfl ?_)
 show wpAny _ A.in1 (tryCatch (pyNext (.ref I)) _ >>= _) _ _ _
 have ne:=hne
 refine wpAny_bind (wpAny_tryCatch (W.item 0 _ _ _ (by rw[sz];exact ne) ⟨⟨_,gI,rfl,rfl⟩,wD Yx hl⟩ λv t7 LH hP hst hk1=>?_))
 have hv:vs[0]? =some v:=by simpa using hP
 have IT:∀b o,s.heap.get? b=some o->t7.get? b=some o:=λb o e=>hk1 b o (nI b o e) (Yx b o e)
 have Ss:=hk1 S _ (by simpa using hSI) gS
 obtain⟨oI,TM,rI⟩:=id hst.1
 show wpAny _ A.in1 (tryCatch (holding [v] (call (.ref q) [v])) _ >>= _) _ _ _
 refine wpAny_bind (wpAny_tryCatch (wpAny_holding (wpAny_mono (turn 0 v t7 LH (λu s'=>∃h2 JX t2,u= .int (kf 0) t2/\s'={ s with heap:=h2,toks:=JX }/\∀b o,t7.get? b=some o->h2.get? b=some o) hv IT λh2 JX t2 k2=>⟨h2,JX,t2,rfl,rfl,k2⟩) (λu s' hu=>?_) λ_ _ z=>z.elim)))
 obtain⟨h2,JX,t2,rfl,rfl,k2⟩:=hu
 have Qh:=k2 _ _ Ss
 obtain⟨c2,hc2⟩:∃c2,(h2.update S (Obj.mapSeq λ_=> #[v,.int (kf 0) t2])).get? S=some (seqObj "list" #[v,.int (kf 0) t2] c2):=⟨_,get?_update_seq Qh λ_=> #[v,.int (kf 0) t2]⟩
 show wpAny _ A.in1 (updateSeq S (λ_=> #[v,.int (kf 0) t2]) >>= _) _ _ _
 refine wpAny_bind ?_
 refine wpAny_updateSeq Qh rfl ?_
 rw[nm]
 refine wpAny_pure ⟨plainId_quiet PySem.F.plain_min_loop _,IB kf hh hl hI hS hSI turn (λi v h' tk' a b c=>h1 i v h' tk' a b c) _ 0 0 _ _ v t2 c2 rfl ne (λb o e=>?_) hc2 ?_ hv (Nat.le_refl _) λj' hj'=>?_⟩
 ·rw[(Heap.SameBut.update h2 S _).2 b (nS b o e)]
  exact k2 b o (IT b o e)
 ·exact⟨oI,((Heap.SameBut.update h2 S _).2 I hSI.symm).trans (k2 _ _ TM),rI⟩
 ·have e:j'=0:=by omega
  subst e
  exact⟨by omega,λz=>absurd z (Nat.lt_irrefl _)⟩
end
def xA(h:Heap)(q:Addr)(qual:Str)(ps:Arguments)(body:Expr)(sc:Scope)(cl:List (Str×Addr)):Prop :=
 ∃pm c' ctv,h.get? q=some (kla_obj "<lambda>" qual ps body sc cl pm c' ctv)/\h.CodeRec (.ref c') qual
theorem qh{h h':Heap}{c:Addr}{q:Str}(k:∀b o,h.get? b=some o->h'.get? b=some o)(x:h.CodeRec (.ref c) q):h'.CodeRec (.ref c) q:=by
 obtain⟨c₂,o,vs,t,e,e1,e2⟩:=x
 exact⟨c₂,o,vs,t,e,k _ _ e1,e2⟩
theorem xA.keep{h h':Heap}{q:Addr}{qual:Str}{ps:Arguments}{body:Expr}{sc:Scope}{cl:List (Str×Addr)}(k:∀b o,h.get? b=some o->h'.get? b=some o)(x:xA h q qual ps body sc cl):xA h' q qual ps body sc cl:=by
 obtain⟨pm,c',ctv,e,r⟩:=x
 exact⟨pm,c',ctv,k _ _ e,qh k r⟩
structure FH(ps:Arguments)(body:Expr)(sc:Scope)(x r:Str):Prop where
 bind:∀(qual:Str) (cl:List (Str×Addr)) (pm cdv ct v:Value),bindArgs (kla_fn "<lambda>" qual ps body sc cl pm cdv ct) ⟨[v],[]⟩=pure [(x,v)]
 loc:sc.names.lookup x=some .local
 free:sc.names.lookup r=some .free
 cell:∀x∈sc.names,x.2≠ .cell
 kind:sc.kind= .function
 co:sc.isCoroutine=false
 gen:sc.isGenerator=false
 dx:(x==("__debug__" :Str))=false
 dr:(r==("__debug__" :Str))=false
 dc:(r==("__classdict__" :Str))=false
structure Mv(P:Program)(w:World)(h:Heap)(A:Around)(env:Env)(x r:Str)(v rv:Value):Prop where
 x:∀(p:Pos) (s:Shared) (Q:Value->Shared->Prop) (E:Value->Shared->Prop),(∀b o,h.get? b=some o->s.heap.get? b=some o)->Q v s->wpAny (model P w) A (eval (.Name x p) env) Q E s
 r:∀(p:Pos) (s:Shared) (Q:Value->Shared->Prop) (E:Value->Shared->Prop),(∀b o,h.get? b=some o->s.heap.get? b=some o)->Q rv s->wpAny (model P w) A (eval (.Name r p) env) Q E s
section
variable{prog:Program}{w:World}{A:Around}{E:Value->Shared->Prop}{s:Shared}{q c:Addr}{qual x r:Str}{ps:Arguments}{body:Expr}{sc:Scope}
theorem Gq{v rv:Value}{Q:Value->Shared->Prop}(hl:xA s.heap q qual ps body sc [(r,c)])(T:FH ps body sc x r)(hc:s.heap.IsCell c (some rv))(hlim:s.heap.NoLimit)(hroom:A.depth<recursionLimit)
  (h:∀(env:Env) (A':Around) h1 LH (E':Value->Shared->Prop),A'.units=A.units+3->(∀b o,s.heap.get? b=some o->h1.get? b=some o)->Mv prog w h1 A' env x r v rv->wpAny (model prog w) A' (eval body env) Q E' { s with heap:=h1,toks:=LH }) :
  wpAny (model prog w) A (call (.ref q) [v]) Q E s:=by
 obtain⟨pm,c',ctv,ho,hr⟩:=hl
 refine wpAny_call (kla_callFunE hroom ho rfl T.co T.gen rfl hr ?_)
 rw[T.bind]
 refine wpAny_pure (wpAny_newFunctionEnv T.cell (λy hy=>by rw[List.mem_singleton.mp hy];exact T.loc) (λh₁ hns RZ=>⟨hlim.fresh _ RZ,?_⟩) T.kind)
 have kp:∀b o,s.heap.get? b=some o->h₁.get? b=some o:=λb o e=>RZ.extBut b o (Nat.ne_of_lt (Heap.lt_size e)) (Heap.get?_push_of_some _ e)
 refine kla_codeExpr (h _ _ h₁ _ _ rfl kp ⟨λp s1 Q1 E1 k1 hQ=>?_,λp s1 Q1 E1 k1 hQ=>?_⟩)
 ·refine wpAny_Name (wpAny_loadName_local T.kind T.loc (hns.keeps k1) (v:=v) ?_ hQ) T.dx
  show List.lookup x [(x,v)]=some v
  simp[List.lookup]
 ·obtain⟨o,g1,g2⟩:=hc
  refine wpAny_Name (wpAny_loadName_free T.kind T.free (c:=c) (v:=rv) ?_ ⟨o,k1 _ _ (kp _ _ g1),g2⟩ hQ T.dc) T.dr
  show List.lookup r [(r,c)]=some c
  simp[List.lookup]
end
end L2
namespace L2
open PySem PySem.Spec PyProof.Rows PySem.W
theorem oS.ext{P:Program}{w:World}{h h':Heap}{k:NK}{a:Addr}(e:∀b o,h.get? b=some o->h'.get? b=some o)(x:oS P w h k a):oS P w h' k a:=by
 obtain⟨o,n,p,t,ho,hc,hd,o2,its,n2,ho2,r⟩:=x
 exact⟨o,n,p,t,e _ _ ho,hc,hd,o2,its,n2,e _ _ ho2,r⟩
theorem Co{P:Program}{w:World}{h h':Heap}{d:Addr}{xs:List (NK×Addr×Value)}(e:∀b o,h.get? b=some o->h'.get? b=some o)(x:h.DictOfH (k8 P w) d xs):h'.DictOfH (k8 P w) d xs:=by
 obtain⟨o,es,ep,ho,h2,h3,h4,h5,h6⟩:=x
 exact⟨o,es,ep,e _ _ ho,h2,h3,h4,λy hy=>(h5 y hy).ext e,h6⟩
def Zg(P:Program)(w:World)(H:Hp)(v rv:V)(k:Int):Prop:=∃p d kvs i j,v= .ref p/\H p=some (.tup [.int i,.int j])/\rv= .ref d/\ND P w H d kvs/\j3 kvs (i,j,Str.ofString "p")=some (.int k)
def Zf(P:Program)(w:World)(H:Hp)(v rv:V)(k:Int):Prop:=∃p d q kvs ky c r,v= .ref p/\H p=some (.tup [.ref q,.int c])/\lu H q ky/\rv= .ref d/\ND P w H d kvs/\j3 kvs ky=some (.int r)/\k=c+r
def Eu(ps:Arguments)(body:Expr)(sc:Scope)(x r:Str)(KV:Program->World->Hp->V->V->Int->Prop):Prop :=
 FH ps body sc x r/\∀(P:Program) (w:World) (H:Hp) (v rv:V) (k:Int) (u ru:Value) (s:Shared) (h:Heap) (tk:Nat) (A:Around) (env:Env) (Q:Value->Shared->Prop) (E:Value->Shared->Prop),
  KV P w H v rv k->RelV v u->RelV rv ru->mj P w H h->A.units+2<cLine->Mv P w h A env x r u ru →
  (∀h' tk' t,(∀b o,h.get? b=some o->h'.get? b=some o)->Q (.int k t) { s with heap:=h',toks:=tk' })->wpAny (model P w) A (eval body env) Q E { s with heap:=h,toks:=tk }
theorem KU {ps:Arguments} {sc:Scope} {x r:Str} {p1 p2 p3 p4 p5:Pos} {j k:Nat} (T:FH ps (.Subscript (.Name r p1) (.Tuple [.Name x p2,.Constant (.str "p") j p3] k p4) p5) sc x r) :
  Eu ps (.Subscript (.Name r p1) (.Tuple [.Name x p2,.Constant (.str "p") j p3] k p4) p5) sc x r Zg:=by
 refine⟨T,λP w H v rv ky u ru s h tk A env Q E kv rx rr ok hu L hQ=>?_⟩
 obtain⟨p,d,kvs,a,b,rfl,hp,rfl,nd,hv⟩:=kv
 cases rx
 cases rr
 obtain⟨_,_,xs,rel,dd⟩:=nd.raw ok
 obtain⟨w',hw,t',rfl⟩:=mL.some_of (v:=.int ky) (o:=(atKey xs (a,b,Str.ofString "p")).map (·.2)) (by rw[←hv];exact rel.val _)
 obtain⟨y,hy,RT⟩:=Option.map_eq_some_iff.mp hw
 refine vp PySem.F.slot_dict_getitem.lookup (λ_ _=>rfl) (L.r _ _ _ _ (λ_ _ e=>e) (wpAny_Tuple_spliced ?_))
 show wpAny _ _ (spliced ((false,eval (.Name x p2) env)::backTo p4 (starEach [.Constant (.str "p") j p3] env))) _ _ _
 refine Calls.spliced_cons (L.x _ _ _ _ (λ_ _ e=>e) ?_)
 show wpAny _ _ (spliced ((false,eval (.Constant (.str "p") j p3) env)::backTo p4 (starEach [] env))) _ _ _
 refine Calls.spliced_cons (Calls.Constant_str (Calls.spliced_nil ⟨by show 2<=sizeLine;decide,?_⟩))
 have ext:∀b o,h.get? b=some o->(h.push { cls:=.type "tuple",data:=.seq [Value.ref p,Value.str "p" tk].toArray }).get? b=some o:=λb o e=>Heap.get?_push_of_some _ e
 refine⟨(Co ext dd).typeIs (s:={ s with heap:=_,toks:=_ }),?_⟩
 refine wpAny_getItem_heap (knd:=k8 P w) (k:=(a,b,Str.ofString "p")) (show A.in1.units+1<cLine from hu) ?_ (Co ext dd) hy ?_
 ·exact⟨_,_,p,_,Heap.get?_push_size _ rfl,rfl,rfl,(wI (ks:=[.inl a,.inl b]) (ok.kept ext) hp)⟩
 ·rw[RT]
  exact hQ _ _ t' ext
theorem KS{ps:Arguments}{sc:Scope}{x r:Str}{p1 p2 p3 p4 p5 p6 p7 p8 p9:Pos}{j1 j2:Nat}(T:FH ps (.BinOp (.Subscript (.Name x p1) (.Constant (.int 1) j1 p2) p3) .Add (.Subscript (.Name r p4) (.Subscript (.Name x p5) (.Constant (.int 0) j2 p6) p7) p8) p9) sc x r):
  Eu ps (.BinOp (.Subscript (.Name x p1) (.Constant (.int 1) j1 p2) p3) .Add (.Subscript (.Name r p4) (.Subscript (.Name x p5) (.Constant (.int 0) j2 p6) p7) p8) p9) sc x r Zf:=by
 refine⟨T,λP w H v rv ky u ru s h tk A env Q E kv rx rr ok hu L hQ=>?_⟩
 obtain⟨p,d,q,kvs,key,c,n,rfl,hp,hk,rfl,nd,hv,rfl⟩:=kv
 cases rx
 cases rr
 obtain⟨_,_,xs,rel,dd⟩:=nd.raw ok
 obtain⟨w',hw,t',rfl⟩:=mL.some_of (v:=.int n) (o:=(atKey xs key).map (·.2)) (by rw[←hv];exact rel.val _)
 obtain⟨y,hy,RT⟩:=Option.map_eq_some_iff.mp hw
 obtain⟨_,its,rv,o,g1,g2,m,g3⟩:=(show bM P w H h p (.tup [.ref q,.int c]) from ok p _ hp)
 cases rv with
 |cons r1 rv =>
 cases rv with
 |cons r2 rv =>
 cases rv
 cases r1
 obtain⟨tc,rfl⟩:=(show ∃t,_=Value.int c t from r2)
 have hT:∀t,({ s with heap:=h,toks:=t }:Shared).TypeIs (.ref p) "tuple" :=λt=>⟨o,g1,g2⟩
 refine wpAny_BinOp (Subscript_ (L.x _ _ _ _ (λ_ _ e=>e) (wpAny_Constant_int ?_)))
 refine subscriptTail_builtinR (T:= "tuple") (x:=.int c tc) (hT _) slot_tuple_getitem.lookup (getItem_tuple (j:=1) (items:= #[.ref q,.int c tc]) ⟨o,g1,g2,m,g3⟩ (by omega) (by omega) (by rfl) (by rfl) ⟨rfl,?_⟩) (by with_unfolding_all rfl)
 refine vp PySem.F.slot_dict_getitem.lookup (λ_ _=>rfl) (L.r _ _ _ _ (λ_ _ e=>e) (Subscript_ (L.x _ _ _ _ (λ_ _ e=>e) (wpAny_Constant_int ?_))))
 refine subscriptTail_builtinR (T:= "tuple") (x:=.ref q) (hT _) slot_tuple_getitem.lookup (getItem_tuple (j:=0) (items:= #[.ref q,.int c tc]) ⟨o,g1,g2,m,g3⟩ (by omega) (by omega) (by rfl) (by rfl) ⟨rfl,?_⟩) (by with_unfolding_all rfl)
 refine⟨dd.typeIs (s:={ s with heap:=h,toks:=_ }),wpAny_getItem_heap (knd:=k8 P w) (k:=key) (show A.in1.units+1<cLine from hu) (k_of ok hk) dd hy ?_⟩
 rw[RT]
 exact add_int (hQ _ _ _ λ_ _ e=>e)
end L2
namespace L2
open PySem PySem.Spec PyProof.Rows
def ni(P:Addr)(ps:Array Value):HO:=.ext λh=>h.get? P=some (PySem.W.tabObj ps)
def Mp(c:Addr)(q:Str):HO:=.ext λh=>h.CodeRec (.ref c) q
def TabOk(H:Hp)(P:Addr)(ln:Pos)(q:Str):Prop:=H P=some (ni P #[])\/∃c',H P=some (ni P #[rawInt ln.line,rawInt ln.col,.ref c'])/\H c'=some (Mp c' q)
def Mx(base:Heap)(mg:Str->Option Value):Prop:=∃bm ob,mg "__builtins__" =some (.ref bm)/\bm≠builtinsNs/\base.get? bm=some ob/\ob.cls= .type "module" /\ob.dict=some builtinsNs/\ob.data= .plain
theorem ED{Pr:Program}{w:World}{H:Hp}{h:Heap}{P:Addr}{ps:Array Value}(e:h.get? P=some (PySem.W.tabObj ps)):bM Pr w H h P (ni P ps):=⟨e,⟨_,e⟩,λ_ _ a k=>k _ a⟩
theorem Pj{Pr:Program}{w:World}{H:Hp}{h:Heap}{c:Addr}{q:Str}(e:h.CodeRec (.ref c) q):bM Pr w H h c (Mp c q):=by
 refine⟨e,?_,λh1 h2 a k=>?_⟩
 ·obtain⟨c₂,o,vs,t,e0,e1,_⟩:=e
  cases e0
  exact⟨o,e1⟩
 ·obtain⟨c₂,o,vs,t,e0,e1,e2⟩:=a
  cases e0
  exact⟨c,o,vs,t,rfl,k _ e1,e2⟩
section
variable{X:Cx}{pins:List (Addr×Obj)}{σ:St}{H:Hp}{s:Shared}
theorem Inv.tab(I:Inv X pins σ H s){P:Addr}{ps:Array Value}(e:H P=some (ni P ps)):s.heap.get? P=some (PySem.W.tabObj ps):=(I.hok P _ e).1
theorem Inv.cd(I:Inv X pins σ H s){c:Addr}{q:Str}(e:H c=some (Mp c q)):s.heap.CodeRec (.ref c) q:=(I.hok c _ e).1
theorem Inv.N4(I:Inv X pins σ H s){P c:Addr}{ps ps':Array Value}{q:Str}{h' h2:Heap}{t':Nat}(e:H P=some (ni P ps))(hx:Heap.ExtBut P s.heap h')(hc:s.heap.objs.size<=c)(hr:h'.CodeRec (.ref c) q)(ht:h'.get? P=some (PySem.W.tabObj ps'))
  (k2:∀b o,h'.get? b=some o->h2.get? b=some o) (hup:s.toks<=t'):Inv X pins σ (upd (upd H P (ni P ps')) c (Mp c q)) { s with heap:=h2,toks:=t' }:=by
 have hn:H c=none:=I.hok.fresh hc
 have Yo:c≠P:=λz=>by rw[z,e]at hn;cases hn
 have lt:∀b o,s.heap.get? b=some o->b≠c:=λb o q=>Nat.ne_of_lt (Nat.lt_of_lt_of_le (Heap.lt_size q) hc)
 have Wi:∀b,H b=none->b≠P:=λb q z=>by rw[z,e]at q;cases q
 have other:∀b u,(∀ φ,u≠HO.ext φ)->H b=some u->upd (upd H P (ni P ps')) c (Mp c q) b=some u:=λb u hu q=>by
  rw[au (λz=>by rw[z,hn]at q;cases q),au (λz=>by rw[z,e]at q;cases q;exact hu _ rfl)]
  exact q
 have kp:∀b o,b≠P->s.heap.get? b=some o->h2.get? b=some o:=λb o hb q=>k2 b o (hx b o hb q)
 refine I.un ⟨λb o q n _ _=>kp b o (Wi b n) q,λb o q n _ _=>⟨o.slots,kp b o (Wi b n) q⟩,λb o q n _=>?_,λb o q _=>?_,λb xs q=>other b _ (λ_ z=>by cases z) q,λb o u q=>other b _ (λ_ z=>by cases z) q,λb ps q=>⟨#[],by rw[other b _ (λ_ z=>by cases z) q];simp⟩⟩ (λb u q=>?_) hup
 ·rw[au (lt b o q),au (Wi b n)]
  exact n
 ·by_cases z:b=P
  ·subst z;exact⟨_,k2 _ _ ht⟩
  ·exact⟨o,kp b o z q⟩
 ·by_cases z:b=c
  ·subst z
   rw[ah]at q
   cases q
   exact Pj (qh k2 hr)
  ·rw[au z]at q
   by_cases z2:b=P
   ·subst z2
    rw[ah]at q
    cases q
    exact ED (k2 _ _ ht)
   ·rw[au z2]at q
    refine(I.hok b u q).stay (λd v hd qd=>kp d v ?_ qd) (λd qd=>other d _ (λ_ z=>by cases z) qd) λd xs qd=>other d _ (λ_ z=>by cases z) qd
    rcases hd with hd|hd
    ·rw[hd];exact z2
    ·intro z3
     rw[z3,e]at hd
     cases hd
end
theorem Od{K:PySem.W.Frag}{H1 H2:Hp}{l:Addr}{vs:List V}(k:∀b u,(∀ φ,u≠HO.ext φ)->H1 b=some u->H2 b=some u)(h:cS K H1 l vs):cS K H2 l vs:=by
 rcases h with(h|⟨o,h⟩)|h
 ·exact .inl (.inl (k _ _ (λ_ z=>by cases z) h))
 ·exact .inl (.inr ⟨o,k _ _ (λ_ z=>by cases z) h⟩)
 ·exact .inr h
theorem Cu{sc:Scope}{env:Env}{x r:Str}{c:Addr}(hn:sc.names=[(x,.local),(r,.free)])(hc:env.cells.lookup r=some c):closureFor sc env=pure [(r,c)]:=by
 have z:=oG (env:=env) sc.names [] (λy hy hk=>by
  rw[hn]at hy
  simp only[List.mem_cons,List.not_mem_nil,or_false]at hy
  rcases hy with rfl|rfl
  ·cases hk
  ·exact⟨c,hc⟩)
 unfold closureFor
 dsimp only
 rw[z,hn]
 have e:nQ (λx=>env.cells.lookup x) [(x,NameKind.local),(r,NameKind.free)] []=[(r,c)]:=by
  unfold nQ
  rw[if_neg (by decide)]
  unfold nQ
  rw[if_pos (by decide)]
  show(match env.cells.lookup r with|some a=>nQ _ [] ((r,a)::[])|none=>nQ _ [] [])=_
  rw[hc]
  rfl
 rw[e]
 rfl
theorem Iu{P:Program}{w:World}{H H':Hp}{h:Heap}{d Pt:Addr}{kvs:List NE}{ps:Array Value}{φ:Heap->Prop}(nd:ND P w H d kvs)(ok:mj P w H h)(ht:h.get? Pt=some (PySem.W.tabObj ps))(hP:H Pt=some (.ext φ))(off:∀b u,b≠Pt->H b=some u->H' b=some u):ND P w H' d kvs:=by
 have neT:∀{b:Addr} {xs:List V},H b=some (.tup xs)->b≠Pt:=λ{b xs} e z=>by rw[z,hP]at e;cases e
 refine⟨off _ _ (λz=>?_) nd.at_,λx hx=>?_⟩
 ·obtain⟨_,_,xs,_,o,es,ep,ho,hc,_⟩:=(ok d _ nd.at_).1
  rw[z,ht]at ho
  cases ho
  exact absurd hc.1 (by intro q;cases q)
 ·obtain⟨p,h1,h2⟩:=nd.keys x hx
  exact⟨p,off _ _ (neT h1) h1,off _ _ (neT h2) h2⟩
def JD(KV:Program->World->Hp->V->V->Int->Prop):Prop:=∀(P:Program) (w:World) (H H':Hp) (h:Heap) (v rv:V) (k:Int) (Pt:Addr) (ps:Array Value) (φ:Heap->Prop),
 KV P w H v rv k->mj P w H h->h.get? Pt=some (PySem.W.tabObj ps)->H Pt=some (.ext φ)->(∀b u,b≠Pt->H b=some u->H' b=some u)->KV P w H' v rv k
theorem KZ:JD Zg:=λP w H H' h v rv k Pt ps φ kv ok ht hP off=>by
 obtain⟨p,d,kvs,i,j,rfl,hp,rfl,nd,hv⟩:=kv
 exact⟨p,d,kvs,i,j,rfl,off _ _ (λz=>by rw[z,hP]at hp;cases hp) hp,rfl,Iu nd ok ht hP off,hv⟩
theorem KY:JD Zf:=λP w H H' h v rv k Pt ps φ kv ok ht hP off=>by
 obtain⟨p,d,q,kvs,ky,c,r,rfl,hp,⟨q2,k1,k2⟩,rfl,nd,hv,rfl⟩:=kv
 have neT:∀{b:Addr} {xs:List V},H b=some (.tup xs)->b≠Pt:=λ{b xs} e z=>by rw[z,hP]at e;cases e
 exact⟨p,d,q,kvs,ky,c,r,rfl,off _ _ (neT hp) hp,⟨q2,off _ _ (neT k1) k1,off _ _ (neT k2) k2⟩,rfl,Iu nd ok ht hP off,hv,rfl⟩
def Apart(Pr:Program)(wo:World)(H:Hp)(P:Addr):Prop:=(∀b q,H b=some (Mp b q)->b≠P)/\∀d kvs,H d=some (CZ Pr wo d kvs)->d≠P
theorem Cy{P:Program}{w:World}{H:Hp}{h:Heap}{Pt:Addr}{ps:Array Value}(ok:mj P w H h)(ht:h.get? Pt=some (PySem.W.tabObj ps))(hp:∀q t,ps[1]? ≠some (.str q t)):Apart P w H Pt:=by
 refine⟨λb q e z=>?_,λd kvs e z=>?_⟩
 ·obtain⟨c₂,o,vs,t,e0,e1,e2,e3⟩:=(ok b _ e).1
  cases e0
  rw[z,ht]at e1
  cases e1
  cases e2
  exact hp _ _ e3
 ·obtain⟨_,_,xs,_,o,es,ep,ho,hc,_⟩:=(ok d _ e).1
  rw[z,ht]at ho
  cases ho
  exact absurd hc.1 (by intro q;cases q)
def Qz(Pr:Program)(wo:World)(K:PySem.W.Frag)(KV:Program->World->Hp->V->V->Int->Prop)(P:Addr)(ln:Pos)(lq:Str)(ir:Nat)(ta:TA):TE:=λσ H Q=>ta σ H λzs H1=>∃(l:Addr) (vs:List V) (rv:V) (kf:Nat->Int),zs=[.ref l]/\σ[ir]? =some (some rv)/\cS K H1 l vs/\0<vs.length ∧
 (∀i v,vs[i]? =some v->KV Pr wo H1 v rv (kf i))/\TabOk H1 P ln lq/\∀H2,Apart Pr wo H1 P->(∀b u,b≠P->H1 b=some u->H2 b=some u)->TabOk H2 P ln lq->∀i v,vs[i]? =some v->LA kf vs.length i->Q v H2
theorem EZ{X:Cx}{c P:Addr}{e:Expr}{ta:TA}{p pos qo IT:Pos}{ps:Arguments}{body:Expr}{sc:Scope}{x r:Str}{ir:Nat}{KV:Program->World->Hp->V->V->Int->Prop}{Pr:Program}{wo:World}{K':PySem.W.Frag}(LK:Eu ps body sc x r KV)(KO:JD KV)(hn:sc.names=[(x,.local),(r,.free)])
  (hcode:X.env.code= .ref c) (hC:PySem.W.codeHdIn X.K c P=true) (hbm:Mx X.base X.mg) (I9:X.calm=true) (hroom:X.A.depth<recursionLimit) (hu:X.A.units+16<cLine)
  (hg:Gl X "min") (hm:X.mg "min" =none) (hv:bootBuiltins "min" =some (.builtin "min")) (hN:X.N[ir]? =some r) (hcell:X.env.kindOf r=some .cell) (ha:PA X [e] ta) (hP:X.prog=Pr) (hw:X.w=wo) (hK:X.K=K') (hd0:defaultsOf ps X.env=([],[]):=by rfl)
  (he:backTo pos (starEach [e] X.env)=(false,eval e X.env)::backTo pos (starEach [] X.env):=by rfl) (hpl:(backTo pos (starEach [e] X.env)).any (·.1)=false:=by rfl) :
  PE X (.Call (.Name "min" p) [e] [⟨some (Str.ofString "key"),.Lambda ps body sc qo,IT⟩] pos) (Qz Pr wo K' KV P qo (X.env.qual++ "<lambda>") ir ta):=by
 subst hP hw hK
 intro pins s σ H Q I h
 refine wpAny_Call_Name_kw (pH I hg hm hv ?_)
 refine callWith_kw (dJ (ha pos pins s σ H _ I h) λus s1 ⟨zs,H1,I1,r1,q1⟩=>?_) he hpl rfl rfl
 obtain⟨l,vs,rv,kf,rfl,hir,hq,hne,hkv,hT,k⟩:=q1
 obtain⟨u,rfl,rx⟩:=vals1 r1
 cases rx
 obtain⟨m,hns,hl⟩:=I1.loc
 obtain⟨ru,Zw,lk⟩:=hl ir r rv hN hir (.inr (.inl hcell))
 obtain⟨cc,hcc,hic⟩:∃cc,X.env.cells.lookup r=some cc/\s1.heap.IsCell cc (some ru):=by
  rcases lk with⟨z,_⟩|⟨_,z⟩
  ·rw[hcell]at z;cases z
  ·exact z
 have hcl:=Cu hn hcc
 refine kws_cons (PySem.W.kla_eval hd0 ?_)
 have hgs:s1.heap.Ns mainGlobals X.mg:=I1.mod.glob.keeps I1.bk
 obtain⟨bm,ob,b1,b2,b3,b4,b5,b6⟩:=hbm
 have Ql:=I1.bk _ _ b3
 have Y4:=PySem.W.codeHd_of_K I1.nR hC
 have ext:∃ φ,H1 P=some (.ext φ):=by
  rcases hT with hT|⟨_,hT,_⟩
  ·exact⟨_,hT⟩
  ·exact⟨_,hT⟩
 obtain⟨φ,hφ⟩:=ext
 have hAp:Apart X.prog X.w H1 P:=by
  rcases hT with hT|⟨_,hT,_⟩
  ·exact Cy I1.hok (I1.tab hT) (λq t z=>by cases z)
  ·exact Cy I1.hok (I1.tab hT) (λq t z=>by cases z)
 have after:∀(q:Addr) (H2:Hp) (s2:Shared),Inv X pins σ H2 s2->(∀b u,b≠P->H1 b=some u->H2 b=some u)->TabOk H2 P qo (X.env.qual++ "<lambda>")->cS X.K H2 l vs->xA s2.heap q (X.env.qual++ "<lambda>") ps body sc [(r,cc)]->s2.heap.IsCell cc (some ru)->(∀i v,vs[i]? =some v->KV X.prog X.w H2 v rv (kf i)) →
   wpAny (model X.prog X.w) X.A (evalAll ((backToKw pos (keywordEach [] X.env)).map (·.2)))
    (λkvs s₂=>wpAny (model X.prog X.w) X.A (call (.builtin "min") [.ref l] (((backToKw pos (keywordEach [⟨some (Str.ofString "key"),.Lambda ps body sc qo,IT⟩] X.env)).filterMap (·.1)).zip (.ref q::kvs))) (EP X pins σ Q) X.xe s₂) X.xe s2:=by
  intro q H2 s2 I2 TZ hT2 hq2 Xm hc2 W3
  refine kws_nil ?_
  show wpAny _ X.A (call (.builtin "min") [.ref l] [(Str.ofString "key",.ref q)]) _ _ s2
  have k1:=k H2 hAp TZ hT2
  obtain⟨its,r',pl,hz⟩:=I2.list hq2
  have hlen:=r'.length
  refine TK.bO (Nat.le_refl _) (GN (kf:=kf) (I2.ok.hd I9) pl.isList (λi v h tk Q' hv' kp hQ=>?_) (by omega) λi v h' tk' hv' hb kp hup=>?_)
  ·have hi:i<its.length:=(List.getElem?_eq_some_iff.mp hv').1
   have hi1:i<vs.length:=by omega
   obtain⟨u',eu,VZ⟩:=r'.get (List.getElem?_eq_getElem hi1)
   rw[hv']at eu
   cases eu
   obtain⟨oc,gc1,gc2⟩:=hc2
   refine Gq (s:={ s2 with heap:=h,toks:=tk }) (A:=X.A.in1) (rv:=ru) (Xm.keep kp) LK.1 ⟨oc,kp _ _ gc1,gc2⟩ (I2.nolimit.keeps kp) hroom λenv A' h1 LH E' hA IT L=>?_
   refine LK.2 X.prog X.w H2 vs[i] rv (kf i) v ru s2 h1 LH A' env _ _ (W3 i _ (List.getElem?_eq_getElem hi1)) VZ Zw (I2.hok.kept λb o z=>IT b o (kp b o z)) (by rw[hA];show X.A.units+1+3+2<cLine;omega) L λh' tk' t k'=>?_
   exact hQ h' tk' t λb o z=>k' b o (IT b o z)
  ·have hi:i<its.length:=(List.getElem?_eq_some_iff.mp hv').1
   have hi1:i<vs.length:=by omega
   obtain⟨u',eu,VZ⟩:=r'.get (List.getElem?_eq_getElem hi1)
   rw[hv']at eu
   cases eu
   refine⟨vs[i],H2,I2.kept kp hup,VZ,k1 i _ (List.getElem?_eq_getElem hi1) ?_⟩
   rw[show vs.length=its.length by omega]
   exact hb
 have off:∀b,H1 b=none->b≠P:=λb q z=>by rw[z,hφ]at q;cases q
 have Q9:∀{ps':Array Value},H1 P=some (ni P ps')->s1.heap.get? P=some (PySem.W.tabObj ps')->mainGlobals≠P/\bm≠P/\cc≠P:=λ{ps'} e e'=>by
  refine⟨λz=>?_,λz=>?_,λz=>?_⟩
  ·obtain⟨o,es,ep,eo,hd,_⟩:=hgs
   rw[z,e']at eo;cases eo;cases hd
  ·rw[z,e']at Ql;cases Ql;cases b4
  ·obtain⟨o,g1,g2⟩:=hic
   rw[z,e']at g1;cases g1;cases g2
 have Za:bm≠mainGlobals:=λz=>by
  obtain⟨o,es,ep,eo,hd,_⟩:=hgs
  rw[z,eo]at Ql;cases Ql;rw[hd]at b6;cases b6
 rcases id hT with e0|⟨c',e0,ec⟩
 ·have tb:=I1.tab e0
  obtain⟨n1,n2,n3⟩:=Q9 e0 tb
  refine TK.bO (Nat.le_refl _) (PySem.W.kla_makeFunction (mg:=X.mg) (ps:= #[]) hcl I1.ok.glob hgs hcode Y4 tb trivial rfl n1 ⟨bm,ob,b1,b2,Za,n2,Ql,b4,b5,b6⟩ λc' ctv h' tk hx hge hlt hrec htb hup=>?_)
  have hcn:H1 c'=none:=I1.hok.fresh hge
  have Yo:P≠c':=λz=>off c' hcn z.symm
  have htb':h'.get? P=some (PySem.W.tabObj #[rawInt qo.line,rawInt qo.col,.ref c']):=by
   have:=htb
   rwa [show(#[]:Array Value)++ #[rawInt qo.line,rawInt qo.col,Value.ref c']= #[rawInt qo.line,rawInt qo.col,Value.ref c'] from rfl]at this
  have hoff:∀b u,b≠P->H1 b=some u->upd (upd H1 P (ni P #[rawInt qo.line,rawInt qo.col,.ref c'])) c' (Mp c' (X.env.qual++ "<lambda>")) b=some u:=λb u hb q=>by
   rw[au (λz=>by rw[z,hcn]at q;cases q),au hb]
   exact q
  refine after _ (upd (upd H1 P (ni P #[rawInt qo.line,rawInt qo.col,.ref c'])) c' (Mp c' (X.env.qual++ "<lambda>"))) _ (I1.N4 e0 hx hge hrec htb' (λb o q=>Heap.get?_push_of_some _ q) hup) hoff (.inr ⟨c',by rw[au Yo,ah],ah⟩) ?_ ⟨_,c',ctv,Heap.get?_push_size _ rfl,qh (λb o q=>Heap.get?_push_of_some _ q) hrec⟩ ?_ λi v hi=>KO _ _ _ _ _ _ _ _ _ _ _ (hkv i v hi) I1.hok tb e0 hoff
  ·refine Od (λb u hu q=>?_) hq
   rw[au (λz=>by rw[z,hcn]at q;cases q),au (λz=>by rw[z,e0]at q;cases q;exact hu _ rfl)]
   exact q
  ·obtain⟨o,g1,g2⟩:=hic
   exact⟨o,Heap.get?_push_of_some _ (hx _ _ n3 g1),g2⟩
 ·have tb:=I1.tab e0
  obtain⟨n1,n2,n3⟩:=Q9 e0 tb
  refine TK.bO (Nat.le_refl _) (PySem.W.kla_makeFunctionHit (mg:=X.mg) (ps:= #[rawInt qo.line,rawInt qo.col,.ref c']) (cv:=.ref c') hcl I1.ok.glob hgs hcode Y4 tb ?_ ?_ ⟨bm,ob,b1,b2,Za,n2,Ql,b4,b5,b6⟩ λctv h' tk kp hsz hup=>?_)
  ·show TriplesOk [rawInt _,rawInt _,_]
   exact trivial
  ·exact codeAmong_snoc [] trivial rfl
  ·obtain⟨o,g1,g2⟩:=hic
   exact after _ H1 _ (I1.kept (λb o q=>Heap.get?_push_of_some _ (kp b o q)) hup) (λb u _ q=>q) hT hq ⟨_,c',ctv,Heap.get?_push_size _ rfl,qh (λb o q=>Heap.get?_push_of_some _ (kp b o q)) (I1.cd ec)⟩ ⟨o,Heap.get?_push_of_some _ (kp _ _ g1),g2⟩ hkv
end L2
namespace L2
open PySem PySem.Spec PyProof.Rows
def d8(K:PySem.W.Frag)(n:Str):Addr:=match PySem.W.nsIn K mainGlobals n with
 |some (some (.ref f))=>(match K.lookup f with
  |some ⟨_,_,.func fd,_⟩=>(match fd.code with
   | .ref c=>(match K.lookup c with
    |some ⟨_,_,.fields vs,_⟩=>(match (vs[11]? :Option Value)with|some (.ref P)=>P|_=>0)
    |_=>0)
   |_=>0)
  |_=>0)
 |_=>0
def oR(K:PySem.W.Frag)(n:Str):Bool:=match PySem.W.nsIn K mainGlobals n with
 |some (some (.ref f))=>(match K.lookup f with
  |some ⟨_,_,.func fd,_⟩=>(match fd.code with
   | .ref c=>PySem.W.codeHdIn K c (d8 K n)&&(K.lookup (d8 K n)).isNone
   |_=>false)
  |_=>false)
 |_=>false
theorem IS{K:PySem.W.Frag}{n:Str}{f:Addr}{oc:Value}{od:Option Addr}{fd:FuncData}{osl:Array (Option Value)}(h:oR K n=true)(a:PySem.W.nsIn K mainGlobals n=some (some (.ref f)))(l:K.lookup f=some ⟨oc,od,.func fd,osl⟩):
  ∃c,fd.code= .ref c/\PySem.W.codeHdIn K c (d8 K n)=true:=by
 unfold oR at h
 rw[a]at h
 simp only[l]at h
 split at h
 ·rename_i c hc
  exact⟨c,hc,(Bool.and_eq_true_iff.mp h).1⟩
 ·cases h
theorem B0{K:PySem.W.Frag}{n:Str}(h:oR K n=true):(∃c,PySem.W.codeHdIn K c (d8 K n)=true)/\K.lookup (d8 K n)=none:=by
 unfold oR at h
 split at h
 ·split at h
  ·split at h
   ·obtain⟨h1,h2⟩:=Bool.and_eq_true_iff.mp h
    exact⟨⟨_,h1⟩,Option.isNone_iff_eq_none.mp h2⟩
   ·cases h
  ·cases h
 ·cases h
section
variable{P:Program}{w:World}{K:PySem.W.Frag}{mg:Str->Option Value}{base:Heap}
theorem JO.Yg{x qual:Str}{st:Stmt}{f:Addr}{fd:FuncData}{N ps:List Str}{k:Nat}{sp:Sp}(F:JO K x qual st f fd)(WX:oR K x=true)(hns:PySem.W.nsIn K mainGlobals x=some (some (.ref f)))(S:aH N ps (ay st))(len:∀vs H Q E,sp vs H Q E->vs.length=ps.length)
  (hbody:∀(c:Addr) (A:Around) (outer:List Env) (s:Shared) (H:Hp) (vs:List V) (Q:VK) (E:XK),PySem.W.codeHdIn K c (d8 K x)=true->jE k (A.deeper (envOfC qual (ay st) s.heap.objs.size f (.ref c)))->sp vs H Q E →
   ∃t,zu (sM cD P w K mg base N qual (ay st) f (.ref c) A outer s H E).OA (dI st) t/\t { nx:=λ_ H'=>Q .i9 H',rt:=Q } (start N vs) H):aK P w K mg base cD (k+1) f fd ps sp:=by
 obtain⟨oc,od,dV,kV,doc,pm,an,cdv,ct,osl,rfl,lk,hcd⟩:=F.ex
 obtain⟨c,e1,e2⟩:=IS WX hns lk
 have e1':cdv= .ref c:=e1
 subst e1'
 refine Jg lk hcd S len λA outer s H vs Q E hr Fj=>?_
 obtain⟨t,h,q⟩:=hbody c A outer s H vs Q E e2 hr Fj
 exact⟨t,h.OA,q⟩
end
set_option maxHeartbeats 1000000 in
theorem Gp{P:Program}{w:World}{K:PySem.W.Frag}{mg mb:Str->Option Value}{CX:G3}{k:Nat}{fa a:Addr}{ts:List Addr}{fd:FuncData}{x:Str}{sp:Sp}{s₁:Shared}{vs:List Value}{ns:List Int}
  (KX:K.In s₁.heap) (hns:s₁.heap.Ns mainGlobals mg) (hb:s₁.heap.Ns builtinsNs mb) (hbb:∀x:Str,x≠ "__name__" ->mb x=bootBuiltins x) (hlim:s₁.heap.NoLimit) (hg:s₁.gens= #[]) (htk:Eo mg s₁.toks) (hbm:Mx s₁.heap mg)
  (hT:∀P∈ts,s₁.heap.get? P=some (PySem.W.tabObj #[])) (hTk:∀P∈ts,K.lookup P=none) (hTc:∀P∈ts,∃c,PySem.W.codeHdIn K c P=true)
  (ha:s₁.heap.get? a=some { cls:=.type "list",data:=.seq vs.toArray }) (hi:IntsAre vs ns) (hl:ns.length<=sizeLine) (hr:jE k callerA)
  (F:∀base:Heap,K.In base->base.Ns mainGlobals mg->Mx base mg->aK P w K mg base CX k fa fd [x] sp) (hbind:∀(s:Shared) (u:Value),BindsTo s fd ⟨[u],[]⟩ [(x,u)])
  (Fj:∀H:Hp,(∀P∈ts,H P=some (ni P #[]))->cS K H a (ns.map V.int)->sp [.ref a] H (λv H'=>v= .bl true/\∀P∈ts,∃ps,H' P=some (ni P ps)) λ_ _ _=>False)
  (Xq:∀H e s',CX [] H s₁ (λ_ _ _=>False) e s'->False) :
  codeAny (model P w) callerA (.call (.ref fa) ⟨[.ref a],[]⟩) (λr s'=>r= .ok (.ret (.bool true))/\OldK s₁.heap s'.heap/\s'.os=s₁.os/\AllBare s'.gens) s₁:=by
 have rv:=yE hi
 have Wm:=hi.length
 have Yp:a∉ts:=λz=>by have:=hT a z;rw[ha]at this;cases this
 have core:∀H:Hp,(∀b,H b=none\/b∈ts\/∃o xs,H b=some (.Eb o (.lst xs)))->(∀P∈ts,H P=some (ni P #[]))->cS K H a (ns.map V.int)->mj P w H s₁.heap->(∀b,H b≠none->b=a\/b∈ts)->(H a≠none->K.lookup a=none) →
   codeAny (model P w) callerA (.call (.ref fa) ⟨[.ref a],[]⟩) (λr s'=>r= .ok (.ret (.bool true))/\OldK s₁.heap s'.heap/\s'.os=s₁.os/\AllBare s'.gens) s₁:=by
  intro H hO hPt hS hok hA hK
  have baseOf:∀{b:Addr} {o:Obj},s₁.heap.get? b=some o->H b=none->(x9 s₁.heap H).get? b=some o:=λe n=>I8 e n
  have free:∀{b:Addr} {o:Obj},s₁.heap.get? b=some o->o≠{ cls:=.type "list",data:=.seq vs.toArray }->o≠PySem.W.tabObj #[]->H b=none:=λ{b o} e d1 d2=>by
   cases q:H b with
   |none=>rfl
   |some u =>
    rcases hA b (by rw[q];simp)with e'|e'
    ·subst e';rw[ha]at e;cases e;exact absurd rfl d1
    ·rw[hT b e']at e;cases e;exact absurd rfl d2
  have To:∀{b:Addr} {m:Str->Option Value},s₁.heap.Ns b m->(x9 s₁.heap H).Ns b m:=λ{b m} ⟨o,es,ep,e,d,r⟩=>⟨o,es,ep,baseOf e (free e (λz=>by rw[z]at d;cases d) (λz=>by rw[z]at d;cases d)),d,r⟩
  have YX:K.In (x9 s₁.heap H):=λb o e=>baseOf (KX b o e) (by
   cases q:H b with
   |none=>rfl
   |some u =>
    rcases hA b (by rw[q];simp)with e'|e'
    ·subst e';rw[hK (by rw[q];simp)]at e;cases e
    ·rw[hTk b e']at e;cases e)
  have hBb:Mx (x9 s₁.heap H) mg:=by
   obtain⟨bm,ob,b1,b2,b3,b4,b5,b6⟩:=hbm
   exact⟨bm,ob,b1,b2,baseOf b3 (free b3 (λz=>by rw[z]at b6;cases b6) (λz=>by rw[z]at b6;cases b6)),b4,b5,b6⟩
  have hM:Mod K mg (x9 s₁.heap H):=⟨YX,To hns,⟨mb,To hb,hbb⟩,let ⟨mc,h1,h2⟩:=hlim;⟨mc,To h1,h2⟩⟩
  have e0:EA P w K mg (x9 s₁.heap H) callerA [] s₁ H:=⟨rfl,hM,λb o e=>KA e,Nat.le_of_eq (GA _ _),trivial,λb hb=>absurd (show b∈([]:List Addr) from hb) (by simp),hok,.of_eq hg,htk⟩
  refine codeAny_mono ((F _ YX (To hns) hBb).run callerA [] s₁ H ⟨[.ref a],[]⟩ [.ref a] [.ref a] _ _ hr e0 (hbind s₁ (.ref a)) (.cons rfl .nil) (Fj H hPt hS)) λr s' h=>?_
  cases r with
  |error e=>exact(Xq H e s' h).elim
  |ok fl =>
   cases fl with
   |next=>exact False.elim h
   |brk=>exact False.elim h
   |cont=>exact False.elim h
   |ret u =>
    obtain⟨v,H',os,bare,un,R3,r',_,q,qT⟩:=h
    have q':v= .bl true:=q
    subst q'
    obtain rfl:u=Value.bool true:=r'
    have tb:∀P∈ts,∃ps',s'.heap.get? P=some (PySem.W.tabObj ps'):=λP hP=>by obtain⟨ps',z⟩:=qT P hP;exact⟨ps',(R3 P _ z).1⟩
    have kp:∀b o,b∉ts->s₁.heap.get? b=some o->s'.heap.get? b=some o:=λb o JL e=>by
     cases q:H b with
     |none=>exact un.keep b o e q (by intro z;exact absurd (show b∈([]:List Addr) from z) (by simp)) (by simp)
     |some u =>
      rcases hO b with z|z|⟨ob,xs,z⟩
      ·rw[q]at z;cases z
      ·exact absurd z JL
      ·have z2:=un.rE b ob _ z
       obtain⟨e1,_⟩:=hok b _ z
       obtain⟨e2,_⟩:=R3 b _ z2
       rw[e]at e1;cases e1
       exact e2
    refine⟨rfl,⟨λb o e=>?_,λb o e=>?_⟩,os,bare⟩
    ·by_cases JL:b∈ts
     ·rw[hT b JL]at e
      cases e
      obtain⟨c,hc⟩:=hTc b JL
      obtain⟨ps',e1⟩:=tb b JL
      have hcd:=PySem.W.codeHd_of_K KX hc
      exact .inr (.inl ⟨(hcd.tab (hT b JL)).isCodeTable,rfl,#[],ps',rfl,by rw[e1];simp[PySem.W.tabObj]⟩)
     ·exact .inl (kp b o JL e)
    ·by_cases JL:b∈ts
     ·obtain⟨ps',e1⟩:=tb b JL
      exact⟨_,e1⟩
     ·exact⟨o,kp b o JL e⟩
 have Ye:∀(H:Hp) (b:Addr),b∈ts->bM P w H s₁.heap b (ni b #[]):=λH b hb=>ED (hT b hb)
 cases hk:K.lookup a with
 |some o =>
  have e:=KX a o hk
  rw[ha]at e
  cases e
  refine core (λb=>if b∈ts then some (ni b #[])else none) (λb=>?_) (λb hb=>if_pos hb) (.inr ⟨_,vs.toArray,_,hk,rfl,rfl,rfl,by rw[List.size_toArray,Wm];exact hl,by simpa using rv⟩) (λb u z=>?_) (λb z=>?_) λz=>absurd (if_neg Yp) z
  ·by_cases hb:b∈ts
   ·exact .inr (.inl hb)
   ·exact .inl (if_neg hb)
  ·by_cases hb:b∈ts
   ·have z':=(if_pos hb).symm.trans z
    cases z'
    exact Ye _ b hb
   ·have z':=(if_neg hb).symm.trans z
    cases z'
  ·by_cases hb:b∈ts
   ·exact .inr hb
   ·exact absurd (if_neg hb) z
 |none =>
  refine core (λb=>if b=a then some (.Eb { cls:=.type "list",data:=.seq vs.toArray } (.lst (ns.map V.int)))else if b∈ts then some (ni b #[])else none) (λb=>?_) (λb hb=>?_) (.inl (.inr ⟨{ cls:=.type "list",data:=.seq vs.toArray },if_pos rfl⟩)) (λb u z=>?_) (λb z=>?_) λ_=>hk
  ·by_cases hb:b=a
   ·exact .inr (.inr ⟨_,_,if_pos hb⟩)
   ·by_cases hb2:b∈ts
    ·exact .inr (.inl hb2)
    ·exact .inl ((if_neg hb).trans (if_neg hb2))
  ·exact(if_neg (λz:b=a=>Yp (z▸hb))).trans (if_pos hb)
  ·by_cases hb:b=a
   ·have z':=(if_pos hb).symm.trans z
    cases z'
    subst hb
    exact⟨ha,by rw[List.length_map];exact hl,vs,_,rv,ha⟩
   ·by_cases hb2:b∈ts
    ·have z':=((if_neg hb).trans (if_pos hb2)).symm.trans z
     cases z'
     exact Ye _ b hb2
    ·have z':=((if_neg hb).trans (if_neg hb2)).symm.trans z
     cases z'
  ·by_cases hb:b=a
   ·exact .inl hb
   ·by_cases hb2:b∈ts
    ·exact .inr hb2
    ·exact absurd ((if_neg hb).trans (if_neg hb2)) z
theorem Hr{l:PySem.W.OpenLaw}{n k:Nat}{q:Program}{loose:List Str}{XP:(Str->Option Value)->Heap->Prop}{YP:World->Heap->Prop}{d:DefRec}{K:Params->PySem.W.Frag}{CX:World->G3}{sp:World->Sp}{x:Str}{nms:List Str}
  (hn:l.most=some n) (hn2:n<=sizeLine) (hdf:d.params.defaults=[]) (hr:jE k callerA)
  (hY:∀(w:World) (h:Heap),YP w h->(K w.params).In h) (hYT:∀(w:World) (h:Heap),YP w h->∀nm∈nms,h.get? (d8 (K w.params) nm)=some (PySem.W.tabObj #[])) (hL:∀w:World,∀nm∈nms,oR (K w.params) nm=true)
  (hG:∀w:World,PySem.W.nsIn (K w.params) mainGlobals "GAP" =some none)
  (F:∀(w:World) (mg:Str->Option Value) (fa:Addr) (h:Heap),(K w.params).In h->h.Ns mainGlobals mg->mg d.name=some (.ref fa) →
   ∃fd:FuncData,(∀(s:Shared) (u:Value),BindsTo s fd ⟨[u],[]⟩ [(x,u)]) ∧
    ∀base:Heap,(K w.params).In base->base.Ns mainGlobals mg->Mx base mg->aK l.prog w (K w.params) mg base (CX w) k fa fd [x] (sp w))
  (Fj:∀(w:World) (H:Hp) (a:Addr) (ns:List Int),ns.length<=n->(∀nm∈nms,H (d8 (K w.params) nm)=some (ni (d8 (K w.params) nm) #[]))->cS (K w.params) H a (ns.map V.int)->sp w [.ref a] H (λv H'=>v= .bl true/\∀nm∈nms,∃ps,H' (d8 (K w.params) nm)=some (ni (d8 (K w.params) nm) ps)) λ_ _ _=>False)
  (Xq:∀(w:World) (H:Hp) (s:Shared) (e:Value) (s':Shared),CX w [] H s (λ_ _ _=>False) e s'->False) :
  PySem.W.WalkO q loose XP YP l.row.toRowW d [] (λf vs=>PySem.call f vs):=by
 refine Zi.Cw hn hdf λw s₀ s₁ mg mb fa o pm cd doc a vs ns G Y ho hd hcd hmg hobj hints hlen hg=>?_
 have KX:=hY w _ Y
 obtain⟨fd,hb,hF⟩:=F w mg fa _ KX G.T.g hmg
 have gap:=PySem.W.mg_none_of KX G.T.g (hG w)
 exact Gp (ts:=nms.map (d8 (K w.params))) KX G.T.g G.T.b G.T.builtins G.T.nolimit hg (λv u e=>by rw[gap]at e;cases e) G.T.bmain
  (λP hP=>by obtain⟨nm,hm,rfl⟩:=List.mem_map.mp hP;exact hYT w _ Y nm hm) (λP hP=>by obtain⟨nm,hm,rfl⟩:=List.mem_map.mp hP;exact(B0 (hL w nm hm)).2) (λP hP=>by obtain⟨nm,hm,rfl⟩:=List.mem_map.mp hP;exact(B0 (hL w nm hm)).1)
  hobj hints (Nat.le_trans hlen hn2) hr hF hb (λH hO hS=>by
   have z:=Fj w H a ns hlen (λnm hm=>hO _ (List.mem_map.mpr ⟨nm,hm,rfl⟩)) hS
   have e:(λ(v:V) (H':Hp)=>v= .bl true/\∀P∈nms.map (d8 (K w.params)),∃ps,H' P=some (ni P ps))=λv H'=>v= .bl true/\∀nm∈nms,∃ps,H' (d8 (K w.params) nm)=some (ni (d8 (K w.params) nm) ps):=by
    funext v H'
    simp
   rw[e]
   exact z) λH e s'=>Xq w H s₁ e s'
end L2
namespace GP
open PySem L2 xG
def wu:List Int->Int
 |[]=>0
 |x::xs=>xs.foldl min x
theorem rF:∀(l:List Int) (x:Int),l.foldl min x<=x/\∀y∈l,l.foldl min x<=y
 |[],x=>⟨Int.le_refl _,λy hy=>(nomatch hy)⟩
 |a::l,x=>by
  obtain⟨h1,h2⟩:=rF l (min x a)
  rw[List.foldl_cons]
  refine⟨by omega,λy hy=>?_⟩
  rcases List.mem_cons.mp hy with rfl|hy
  ·omega
  ·exact h2 y hy
theorem uD:∀(l:List Int) (x:Int),l.foldl min x=x\/l.foldl min x∈l
 |[],x=>.inl rfl
 |a::l,x=>by
  rw[List.foldl_cons]
  rcases uD l (min x a)with h|h
  ·rw[h]
   by_cases e:x<=a
   ·exact .inl (by omega)
   ·rw[show min x a=a by omega]
    exact .inr List.mem_cons_self
  ·exact .inr (List.mem_cons_of_mem _ h)
theorem E7{l:List Int}{x:Int}(h:x∈l):wu l<=x:=by
 cases l with
 |nil=>exact nomatch h
 |cons a l =>
  rcases List.mem_cons.mp h with rfl|h
  ·exact(rF l _).1
  ·exact(rF l a).2 x h
theorem BV{l:List Int}(h:l≠[]):wu l∈l:=by
 cases l with
 |nil=>exact absurd rfl h
 |cons a l =>
  rcases uD l a with h|h
  ·exact List.mem_cons.mpr (.inl h)
  ·exact List.mem_cons_of_mem _ h
theorem KJ{l:List Int}{x:Int}(h:x∈l)(h2:∀y∈l,x<=y):wu l=x:=Int.le_antisymm (E7 h) (h2 _ (BV (List.ne_nil_of_mem h)))
def fmin{α:Type}(f:α->Int):List α->Option α
 |[]=>none
 |x::xs=>match fmin f xs with
  |none=>some x
  |some y=>if f y<f x then some y else some x
theorem nN{α:Type}{f:α->Int}:∀{l:List α} {x:α},fmin f l=some x->x∈l
 |[],x,h=>by cases h
 |a::l,x,h=>by
  unfold fmin at h
  split at h
  ·cases h;exact List.mem_cons_self
  ·next y e =>
   split at h
   ·cases h;exact List.mem_cons_of_mem _ (nN e)
   ·cases h;exact List.mem_cons_self
theorem Aj{α:Type}{f:α->Int}:∀{l:List α} {k:Nat} {x:α},l[k]? =some x->(∀j y,l[j]? =some y->f x<=f y/\(j<k->f x<f y))->fmin f l=some x
 |[],k,x,h,_=>by simp at h
 |a::l,0,x,h,hx=>by
  obtain rfl:a=x:=by simpa using h
  unfold fmin
  split
  ·rfl
  ·next y e =>
   obtain⟨j,hj,ey⟩:=List.getElem_of_mem (nN e)
   have:=(hx (j+1) y (by simpa using(List.getElem?_eq_some_iff.mpr ⟨hj,ey⟩))).1
   rw[if_neg (by omega)]
 |a::l,k+1,x,h,hx=>by
  have e:fmin f l=some x:=Aj (k:=k) (by simpa using h) λj y hy=>by
   have:=hx (j+1) y (by simpa using hy)
   exact⟨this.1,λz=>this.2 (by omega)⟩
  unfold fmin
  rw[e]
  have:=(hx 0 a rfl).2 (by omega)
  simp[this]
theorem yY{α:Type}{f:α->Int}{l:List α}(h:l≠[]):∃x,fmin f l=some x:=by
 cases l with
 |nil=>exact absurd rfl h
 |cons a l =>
  unfold fmin
  split
  ·exact⟨_,rfl⟩
  ·split<;>exact⟨_,rfl⟩
theorem Ak{α:Type}{f:α->Int}:∀{l:List α} {x y:α},fmin f l=some x->y∈l->f x<=f y
 |[],x,y,h,_=>by cases h
 |a::l,x,y,h,hy=>by
  unfold fmin at h
  split at h
  ·next e =>
   cases h
   rcases List.mem_cons.mp hy with rfl|hy
   ·exact Int.le_refl _
   ·obtain⟨z,ez⟩:=yY (f:=f) (List.ne_nil_of_mem hy)
    rw[e]at ez;cases ez
  ·next z e =>
   have k:=λhy=>Ak (y:=y) e hy
   split at h
   ·cases h
    rcases List.mem_cons.mp hy with rfl|hy
    ·omega
    ·exact k hy
   ·cases h
    rcases List.mem_cons.mp hy with rfl|hy
    ·exact Int.le_refl _
    ·have:=k hy;omega
abbrev gY:=Nat×Nat×Nat
structure Gd where
 n:Nat
 m:Nat
 pc:Nat->Nat->Int
 op:Int
 mo:Int
 en:Nat->Nat->Bool
def Gd.ac(g:Gd)(v c:Nat):Int:=if v=c then g.mo else g.op+g.mo
def Gd.steps(g:Gd)(s:gY):List (gY×Int) :=
 (if s.1<g.n/\s.2.1<g.m then [((s.1+1,s.2.1+1,112),g.pc s.1 s.2.1)]else [])++((if s.1<g.n then [((s.1+1,s.2.1,97),g.ac 97 s.2.2)]else [])++(if s.2.1<g.m then [((s.1,s.2.1+1,98),g.ac 98 s.2.2)]else []))
def Gd.costs(g:Gd)(R:gY->Int)(s:gY):List Int:=(g.steps s).map (λt=>t.2+R t.1)++if g.en s.1 s.2.1 then [0]else []
def Gd.LR(g:Gd):Nat->gY->Int
 | 0,_=>0
 |d+1,s=>wu (g.costs (g.LR d) s)
def Gd.ht(g:Gd)(s:gY):Nat:=g.n-s.1+(g.m-s.2.1)
def Gd.rest(g:Gd)(s:gY):Int:=g.LR (g.ht s+1) s
def Gd.In(g:Gd)(s:gY):Prop:=s.1<=g.n/\s.2.1<=g.m/\(s.2.2=112\/s.2.2=97\/s.2.2=98)
theorem Gd.j9{g:Gd}{s:gY}{t:gY×Int}:t∈g.steps s↔(s.1<g.n/\s.2.1<g.m/\t=((s.1+1,s.2.1+1,112),g.pc s.1 s.2.1))\/(s.1<g.n/\t=((s.1+1,s.2.1,97),g.ac 97 s.2.2))\/(s.2.1<g.m/\t=((s.1,s.2.1+1,98),g.ac 98 s.2.2)):=by
 unfold Gd.steps
 simp only[List.mem_append]
 by_cases h1:s.1<g.n<;>by_cases h2:s.2.1<g.m<;>simp[h1,h2]
theorem Gd.pZ{g:Gd}{s:gY}{t:gY×Int}(h:t∈g.steps s)(hs:g.In s):g.In t.1:=by
 obtain⟨h1,h2,_⟩:=hs
 rcases Gd.j9.mp h with⟨a,b,rfl⟩|⟨a,rfl⟩|⟨a,rfl⟩
 ·exact⟨a,b,.inl rfl⟩
 ·exact⟨a,h2,.inr (.inl rfl)⟩
 ·exact⟨h1,a,.inr (.inr rfl)⟩
theorem Gd.nU{g:Gd}{s:gY}{t:gY×Int}(h:t∈g.steps s):g.ht t.1<g.ht s:=by
 unfold Gd.ht
 rcases Gd.j9.mp h with⟨a,b,rfl⟩|⟨a,rfl⟩|⟨a,rfl⟩<;>simp only<;>omega
theorem Gd.pQ{g:Gd}{R R':gY->Int}{s:gY}(h:∀t∈g.steps s,R t.1=R' t.1):g.costs R s=g.costs R' s:=by
 unfold Gd.costs
 rw[List.map_congr_left λt ht=>by rw[h t ht]]
theorem Gd.vP{g:Gd}:∀(d:Nat) (s:gY),g.ht s<d->g.LR d s=g.rest s
 | 0,_,h=>by omega
 |d+1,s,h=>by
  have e1:∀t∈g.steps s,g.LR d t.1=g.rest t.1:=λt ht=>Gd.vP d t.1 (by have:=Gd.nU ht;omega)
  by_cases hd:d=g.ht s
  ·subst hd;rfl
  ·have e2:∀t∈g.steps s,g.LR (g.ht s) t.1=g.rest t.1:=λt ht=>by
    have:=Gd.nU ht
    have hlt:g.ht s<d:=by omega
    exact Gd.vP (g.ht s) t.1 this
   show wu (g.costs (g.LR d) s)=wu (g.costs (g.LR (g.ht s)) s)
   rw[Gd.pQ e1,Gd.pQ e2]
 termination_by d=>d
theorem Gd.rest_eq(g:Gd)(s:gY):g.rest s=wu (g.costs g.rest s):=by
 show wu (g.costs (g.LR (g.ht s)) s)=_
 rw[Gd.pQ λt ht=>Gd.vP _ t.1 (Gd.nU ht)]
def Gd.Ok(g:Gd):Prop:=g.en g.n g.m=true
theorem Gd.Cs{g:Gd}(ok:g.Ok){R:gY->Int}{s:gY}(hs:g.In s):g.costs R s≠[]:=by
 unfold Gd.costs Gd.steps
 obtain⟨h1,h2,_⟩:=hs
 by_cases a:s.1<g.n
 ·simp[a]
 ·by_cases b:s.2.1<g.m
  ·simp[b]
  ·have e1:s.1=g.n:=by omega
   have e2:s.2.1=g.m:=by omega
   have ok':g.en g.n g.m=true:=ok
   rw[e1,e2,ok']
   simp
def Gd.stop(g:Gd)(s:gY):Bool:=g.en s.1 s.2.1&&decide (g.rest s=0)
def Gd.key(g:Gd)(t:gY×Int):Int:=t.2+g.rest t.1
def Gd.G6(g:Gd)(s:gY):gY:=((fmin g.key (g.steps s)).map (·.1)).getD s
theorem Gd.go{g:Gd}(ok:g.Ok){s:gY}(hs:g.In s)(h:g.stop s=false):∃t,fmin g.key (g.steps s)=some t/\t∈g.steps s/\g.G6 s=t.1/\g.key t=g.rest s/\∀u∈g.steps s,g.key t<=g.key u:=by
 have hm:=BV (Gd.Cs ok (R:=g.rest) hs)
 rw[←g.rest_eq]at hm
 have hx:g.rest s∈(g.steps s).map g.key:=by
  rcases List.mem_append.mp hm with hm|hm
  ·exact hm
  ·exfalso
   unfold Gd.stop at h
   by_cases e:g.en s.1 s.2.1=true
   ·rw[if_pos e]at hm
    have:g.rest s=0:=by simpa using hm
    rw[e,this]at h
    simp at h
   ·rw[if_neg e]at hm
    exact nomatch hm
 obtain⟨u,hu,eu⟩:=List.mem_map.mp hx
 obtain⟨t,ht⟩:=yY (f:=g.key) (List.ne_nil_of_mem hu)
 refine⟨t,ht,nN ht,by unfold Gd.G6;rw[ht];rfl,?_,λv hv=>Ak ht hv⟩
 have h1:=Ak ht hu
 have h2:g.rest s<=g.key t:=by
  rw[g.rest_eq]
  exact E7 (List.mem_append_left _ (List.mem_map.mpr ⟨t,nN ht,rfl⟩))
 omega
def Gd.way(g:Gd):Nat->gY->List Nat
 | 0,_=>[]
 |d+1,s=>if g.stop s then []else(g.G6 s).2.2::g.way d (g.G6 s)
def Gd.moves(g:Gd)(s:gY):List Nat:=g.way (g.ht s) s
theorem Gd.vz{g:Gd}(ok:g.Ok):∀(d:Nat) (s:gY),g.In s->g.ht s<=d->g.way d s=g.moves s
 | 0,s,_,h=>by unfold Gd.moves;rw[Nat.le_zero.mp h]
 |d+1,s,hs,h=>by
  by_cases e:g.stop s=true
  ·unfold Gd.moves
   cases k:g.ht s with
   |zero=>simp[Gd.way,e]
   |succ k=>simp[Gd.way,e]
  ·have e':g.stop s=false:=by simpa using e
   obtain⟨t,_,ht,en,_⟩:=g.go ok hs e'
   have h1:=Gd.nU ht
   have h2:=Gd.pZ ht hs
   obtain⟨k,ek⟩:∃k,g.ht s=k+1:=⟨g.ht s-1,by omega⟩
   unfold Gd.moves
   rw[ek]
   show(if g.stop s then []else(g.G6 s).2.2::g.way d (g.G6 s))=(if g.stop s then []else(g.G6 s).2.2::g.way k (g.G6 s))
   rw[en,Gd.vz ok d t.1 h2 (by omega),Gd.vz ok k t.1 h2 (by omega)]
 termination_by d=>d
theorem Gd.wm{g:Gd}{s:gY}(h:g.stop s=true):g.moves s=[]:=by
 unfold Gd.moves
 cases g.ht s with
 |zero=>rfl
 |succ k=>simp[Gd.way,h]
theorem Gd.BS{g:Gd}(ok:g.Ok){s:gY}(hs:g.In s)(h:g.stop s=false):g.moves s=(g.G6 s).2.2::g.moves (g.G6 s):=by
 obtain⟨t,_,ht,en,_⟩:=g.go ok hs h
 have h1:=Gd.nU ht
 have h2:=Gd.pZ ht hs
 have e:g.moves s=g.way (g.ht s-1+1) s:=by unfold Gd.moves;rw[show g.ht s-1+1=g.ht s by omega]
 rw[e]
 show(if g.stop s then []else(g.G6 s).2.2::g.way (g.ht s-1) (g.G6 s))=_
 rw[h,en,Gd.vz ok _ t.1 h2 (by omega)]
 rfl
theorem Gd.Gb{g:Gd}(s:gY):(g.moves s).length<=g.ht s:=by
 have:∀(d:Nat) (s:gY),(g.way d s).length<=d:=λd=>by
  induction d with
  |zero=>intro s;exact Nat.le_refl _
  |succ d ih =>
   intro s
   unfold Gd.way
   split
   ·exact Nat.zero_le _
   ·rw[List.length_cons];exact Nat.succ_le_succ (ih _)
 exact this _ s
def Gd.walk(g:Gd):gY->List Nat->Option (Int×gY)
 |s,[]=>some (0,s)
 |s,v::vs=>match (g.steps s).find? (λt=>t.1.2.2==v)with
  |none=>none
  |some t=>(g.walk t.1 vs).map λr=>(t.2+r.1,r.2)
theorem Gd.yI{g:Gd}{s:gY}{t:gY×Int}(h:t∈g.steps s):(g.steps s).find? (λu=>u.1.2.2==t.1.2.2)=some t:=by
 unfold Gd.steps at h ⊢
 by_cases h1:s.1<g.n<;>by_cases h2:s.2.1<g.m<;>simp[h1,h2]at h ⊢
 ·rcases h with rfl|rfl|rfl<;>simp[List.find?_cons]
 ·subst h;simp
 ·subst h;simp
theorem Gd.vA{g:Gd}(ok:g.Ok):∀(d:Nat) (s:gY),g.In s->g.ht s<=d->∃e,g.walk s (g.moves s)=some (g.rest s,e)/\g.In e/\g.en e.1 e.2.1=true
 |d,s,hs,hd=>by
  by_cases e:g.stop s=true
  ·rw[Gd.wm e]
   unfold Gd.stop at e
   rw[Bool.and_eq_true]at e
   refine⟨s,?_,hs,e.1⟩
   rw[of_decide_eq_true e.2]
   rfl
  ·have e':g.stop s=false:=by simpa using e
   obtain⟨t,_,ht,en,ek,_⟩:=g.go ok hs e'
   have h1:=Gd.nU ht
   have h2:=Gd.pZ ht hs
   cases d with
   |zero=>omega
   |succ d =>
    obtain⟨f,hf,hfi,hfe⟩:=Gd.vA ok d t.1 h2 (by omega)
    refine⟨f,?_,hfi,hfe⟩
    rw[Gd.BS ok hs e',en]
    unfold Gd.walk
    rw[Gd.yI ht]
    show(g.walk t.1 (g.moves t.1)).map _=_
    rw[hf]
    show some (t.2+g.rest t.1,f)=_
    rw[show t.2+g.rest t.1=g.rest s from ek]
 termination_by d=>d
def placesOf(n m:Nat):List (Nat×Nat):=(List.range (n+1)).flatMap λi=>(List.range (m+1)).map λj=>(i,j)
def three(p:Nat×Nat):List gY:=[(p.1,p.2,112),(p.1,p.2,97),(p.1,p.2,98)]
def cX(ps:List (Nat×Nat)):List gY:=ps.flatMap three
theorem jl{n m:Nat}{p:Nat×Nat}:p∈placesOf n m↔p.1<=n/\p.2<=m:=by
 unfold placesOf
 simp only[List.mem_flatMap,List.mem_range,List.mem_map]
 constructor
 ·rintro⟨i,hi,j,hj,rfl⟩
  exact⟨by show i<=n;omega,by show j<=m;omega⟩
 ·rintro⟨h1,h2⟩
  exact⟨p.1,by omega,p.2,by omega,rfl⟩
theorem lV{p:Nat×Nat}{s:gY}:s∈three p↔s.1=p.1/\s.2.1=p.2/\(s.2.2=112\/s.2.2=97\/s.2.2=98):=by
 obtain⟨a,b,c⟩:=s
 simp only[three,List.mem_cons,List.not_mem_nil,or_false,Prod.mk.injEq]
 constructor
 ·rintro(⟨h1,h2,h3⟩|⟨h1,h2,h3⟩|⟨h1,h2,h3⟩)
  ·exact⟨h1,h2,.inl h3⟩
  ·exact⟨h1,h2,.inr (.inl h3)⟩
  ·exact⟨h1,h2,.inr (.inr h3)⟩
 ·rintro⟨h1,h2,h3|h3|h3⟩
  ·exact .inl ⟨h1,h2,h3⟩
  ·exact .inr (.inl ⟨h1,h2,h3⟩)
  ·exact .inr (.inr ⟨h1,h2,h3⟩)
theorem gu{ps:List (Nat×Nat)}{s:gY}:s∈cX ps↔(s.1,s.2.1)∈ps/\(s.2.2=112\/s.2.2=97\/s.2.2=98):=by
 unfold cX
 rw[List.mem_flatMap]
 constructor
 ·rintro⟨p,hp,h⟩
  obtain⟨h1,h2,h3⟩:=lV.mp h
  rw[h1,h2]
  exact⟨hp,h3⟩
 ·rintro⟨hp,h⟩
  exact⟨_,hp,lV.mpr ⟨rfl,rfl,h⟩⟩
def Gd.states(g:Gd):List gY:=cX (placesOf g.n g.m)
theorem Gd.gu{g:Gd}{s:gY}:s∈g.states↔g.In s:=by
 unfold Gd.states Gd.In
 rw[GP.gu,jl]
 exact⟨λ⟨⟨a,b⟩,c⟩=>⟨a,b,c⟩,λ⟨a,b,c⟩=>⟨⟨a,b⟩,c⟩⟩
theorem places_len(n m:Nat):(placesOf n m).length=(n+1)*(m+1):=by
 unfold placesOf
 have:∀l:List Nat,(l.flatMap λi=>(List.range (m+1)).map λj=>(i,j)).length=l.length*(m+1):=λl=>by
  induction l with
  |nil=>simp
  |cons a l ih=>rw[List.flatMap_cons,List.length_append,ih,List.length_map,List.length_range,List.length_cons,Nat.succ_mul,Nat.add_comm]
 rw[this,List.length_range]
theorem vH(ps:List (Nat×Nat)):(cX ps).length=3*ps.length:=by
 induction ps with
 |nil=>rfl
 |cons a l ih =>
  show(three a++cX l).length=_
  rw[List.length_append,ih,List.length_cons]
  show 3+_=_
  omega
def LU(a b:Nat×Nat):Prop:=a.1<b.1\/(a.1=b.1/\a.2<b.2)
theorem yO(n m:Nat):(placesOf n m).Pairwise LU:=by
 unfold placesOf
 refine List.pairwise_flatMap.mpr ⟨λi _=>?_,?_⟩
 ·rw[List.pairwise_map]
  exact(List.pairwise_lt_range).imp λh=>.inr ⟨rfl,h⟩
 ·refine(List.pairwise_lt_range).imp λ{a b} h=>?_
  intro x hx y hy
  obtain⟨_,_,rfl⟩:=List.mem_map.mp hx
  obtain⟨_,_,rfl⟩:=List.mem_map.mp hy
  exact .inl h
theorem DC{a:Nat×Nat}:¬LU a a:=λh=>by rcases h with h|h<;>omega
theorem FQ{ps:List (Nat×Nat)}(h:ps.Pairwise LU):(cX ps).Pairwise λa b=>¬LU (b.1,b.2.1) (a.1,a.2.1):=by
 unfold cX
 refine List.pairwise_flatMap.mpr ⟨λp _=>?_,h.imp λ{a b} hab=>?_⟩
 ·refine List.pairwise_of_forall_mem_list λa ha b hb z=>?_
  obtain⟨a1,a2,_⟩:=lV.mp ha
  obtain⟨b1,b2,_⟩:=lV.mp hb
  rw[a1,a2,b1,b2]at z
  exact DC z
 ·intro x hx y hy z
  obtain⟨a1,a2,_⟩:=lV.mp hx
  obtain⟨b1,b2,_⟩:=lV.mp hy
  rw[a1,a2,b1,b2]at z
  unfold LU at hab z
  simp only at z
  omega
theorem Gd.Ba{g:Gd}{s:gY}{t:gY×Int}(h:t∈g.steps s):LU (s.1,s.2.1) (t.1.1,t.1.2.1):=by
 unfold LU
 rcases Gd.j9.mp h with⟨a,b,rfl⟩|⟨a,rfl⟩|⟨a,rfl⟩
 ·exact .inl (Nat.lt_succ_self _)
 ·exact .inl (Nat.lt_succ_self _)
 ·exact .inr ⟨rfl,Nat.lt_succ_self _⟩
theorem Gd.Bb{g:Gd}{k:Nat}{s:gY}{t:gY×Int}(hk:g.states[k]? =some s)(h:t∈g.steps s):t.1∈g.states.drop (k+1):=by
 have hs:=Gd.gu.mp (List.mem_of_getElem? hk)
 have ht:=Gd.gu.mpr (Gd.pZ h hs)
 have W4:=(List.getElem?_eq_some_iff.mp hk).1
 have pw:=FQ (yO g.n g.m)
 have e:cX (placesOf g.n g.m)=g.states.take (k+1)++g.states.drop (k+1):=(List.take_append_drop _ _).symm
 have ht':t.1∈g.states.take (k+1)++g.states.drop (k+1):=by rw[←e];exact ht
 rcases List.mem_append.mp ht' with z|z
 ·exfalso
  rw[take_snoc hk]at z
  rcases List.mem_append.mp z with z|z
  ·have e2:cX (placesOf g.n g.m)=g.states.take k++g.states.drop k:=(List.take_append_drop _ _).symm
   rw[e2]at pw
   have Z7:s∈g.states.drop k:=by
    rw[List.drop_eq_getElem_cons W4]
    have:=(List.getElem?_eq_some_iff.mp hk).2
    rw[this]
    exact List.mem_cons_self
   exact(List.pairwise_append.mp pw).2.2 _ z _ Z7 (Gd.Ba h)
  ·have z1:=Gd.Ba h
   rw[List.mem_singleton.mp z]at z1
   exact DC z1
 ·exact z
end GP
namespace L2
open PySem PySem.Spec PyProof.Rows PySem.W
theorem uH(f:Nat->Int):∀k,argBest (λi j=>decide (f i<f j)) k<=k/\∀j,j<=k->f (argBest (λi j=>decide (f i<f j)) k)<=f j
 | 0=>⟨Nat.le_refl _,λj hj=>by rw[Nat.le_zero.mp hj];exact Int.le_refl _⟩
 |k+1=>by
  obtain⟨h1,h2⟩:=uH f k
  unfold argBest
  by_cases c:f (k+1)<f (argBest (λi j=>decide (f i<f j)) k)
  ·rw[if_pos (decide_eq_true c)]
   refine⟨Nat.le_refl _,λj hj=>?_⟩
   by_cases e:j=k+1
   ·rw[e];exact Int.le_refl _
   ·have:=h2 j (by omega);omega
  ·rw[if_neg (by rw[decide_eq_false c];exact Bool.false_ne_true)]
   refine⟨by omega,λj hj=>?_⟩
   by_cases e:j=k+1
   ·rw[e];omega
   ·exact h2 j (by omega)
theorem Fe:∀{ns:List Int} {us:List Value},Vals (ns.map V.int) us->∀(i:Nat) (v:Value),us[i]? =some v->∃n t,ns[i]? =some n/\v= .int n t
 |[],_,r=>λi v e=>by cases r;simp at e
 |n::ns,_,r=>by
  cases r with
  |cons r1 r2 =>
   intro i v e
   cases i with
   |zero =>
    simp at e
    subst e
    obtain⟨t,z⟩:=r1
    exact⟨n,t,rfl,z⟩
   |succ i=>exact Fe r2 i v e
theorem GL{X:Cx}(hc:X.calm=true):lA X (.builtin "min") (λxs H Q=>∃(l:Addr) (ns:List Int),xs=[.ref l]/\cS X.K H l (ns.map V.int)/\ns≠[]/\Q (.int (GP.wu ns)) H):=by
 intro pins s σ H xs us Q I r h
 obtain⟨l,ns,rfl,hl,hne,q⟩:=h
 obtain⟨u,rfl,ru⟩:=vals1 r
 cases ru
 obtain⟨its,rv,p,hz⟩:=I.list hl
 have pl:s.heap.IsList l its.toArray:=p.isList
 have hlt:l<s.heap.objs.size:=by obtain⟨_,e,_⟩:=pl;exact Heap.lt_size e
 have hlen:ns.length=its.length:=by rw[←rv.length,List.length_map]
 have hpos:0<ns.length:=List.length_pos_iff.mpr hne
 refine TK.bO (Nat.le_refl s.toks) ?_
 refine call_min_walk (wpAny_pyIter_list pl ?_)
 have hval:∀(i:Nat) (v:Value),its.toArray[i]? =some v->∃t,v= .int ((ns[i]?).getD 0) t:=λi v hP=>by
  obtain⟨n,t,e,rfl⟩:=Fe rv i v (by simpa using hP)
  exact⟨t,by rw[e];rfl⟩
 refine⟨s.heap.objs.size,[s.heap.objs.size,l],[s.heap.objs.size],its.toArray.size,_,_,_,rfl,Walks.list (A:=X.A.in1) (I.ok.hd hc) _ l (Nat.ne_of_lt hlt) its.toArray,
  ⟨⟨_,Heap.get?_push_size _ rfl,rfl,rfl⟩,pl.push _⟩,λb hb=>?_,by rw[List.size_toArray];omega,CmpOf.ints_lt (λi=>(ns[i]?).getD 0) hval,λv h' tk hP hk hup=>?_⟩
 ·show b<(s.heap.push _).objs.size
  rw[Heap.size_push]
  rcases List.mem_cons.mp hb with rfl|z
  ·exact Nat.lt_succ_self _
  ·rw[List.mem_singleton.mp z]
   exact Nat.lt_succ_of_lt hlt
 ·obtain⟨t,rfl⟩:=hval _ v hP
  obtain⟨b1,b2⟩:=uH (λi=>(ns[i]?).getD 0) (its.toArray.size-1)
  have hsz:its.toArray.size=ns.length:=by rw[List.size_toArray,hlen]
  rw[hsz]at b1 b2 ⊢
  have hb:argBest (λi j=>decide ((ns[i]?).getD 0<(ns[j]?).getD 0)) (ns.length-1)<ns.length:=by omega
  have e:GP.wu ns=(ns[argBest (λi j=>decide ((ns[i]?).getD 0<(ns[j]?).getD 0)) (ns.length-1)]?).getD 0:=by
   refine GP.KJ ?_ λy hy=>?_
   ·rw[List.getElem?_eq_getElem hb]
    exact List.getElem_mem hb
   ·obtain⟨j,hj,ej⟩:=List.getElem_of_mem hy
    have z:=b2 j (by omega)
    rw[List.getElem?_eq_getElem hj,ej]at z
    exact z
  refine⟨.int (GP.wu ns),H,I.kept (t':=tk) (λb x e=>hk b x (λhm=>?_) (Heap.get?_push_of_some _ e)),⟨t,by rw[e]⟩,q⟩
  rw[List.mem_singleton.mp hm]at e
  exact Nat.lt_irrefl _ (Heap.lt_size e)
theorem rC{A:Around}{k:Nat}(hr:jE k A):A.units+2<cLine:=Nat.lt_of_le_of_lt (Nat.add_le_add_left (by decide:2<=64) _) hr.units
theorem Fi{A:Around}{k:Nat}(hr:jE k A):A.units+16<cLine:=Nat.lt_of_le_of_lt (Nat.add_le_add_left (by decide:16<=64) _) hr.units
theorem ES{k:Nat}{A:Around}(h:jE k A):A.depth<recursionLimit:=by have:=h.dp;omega
theorem Io(kvs:List NE)(k j:NK)(q:Addr)(v:V):j3 (sr kvs k q v) j=if j=k then some v else j3 kvs j:=by
 have ap:∀l:List NE,j3 (l++[(k,q,v)]) j=(j3 l j).or (if k=j then some v else none):=λl=>by
  induction l with
  |nil =>
   by_cases e:k=j
   ·rw[if_pos e];exact jQ (p:=(k,q,v)) (ps:=[]) e
   ·rw[if_neg e];exact iu (p:=(k,q,v)) (ps:=[]) e
  |cons x l ih =>
   by_cases e:x.1=j
   ·rw[List.cons_append,jQ e,jQ e];rfl
   ·rw[List.cons_append,iu e,iu e,ih]
 have mp:∀l:List NE,j3 (l.map λx=>if x.1=k then(x.1,x.2.1,v)else x) j=if j=k then(j3 l k).map λ_=>v else j3 l j:=λl=>by
  induction l with
  |nil=>by_cases e:j=k<;>simp[e,j3]
  |cons x l ih =>
   rw[List.map_cons]
   by_cases e:x.1=k
   ·rw[if_pos e]
    by_cases ej:x.1=j
    ·rw[jQ (p:=(x.1,x.2.1,v)) ej,if_pos (ej.symm.trans e),jQ e];rfl
    ·rw[iu (p:=(x.1,x.2.1,v)) ej,ih,if_neg (λz=>ej (e.trans z.symm)),if_neg (λz=>ej (e.trans z.symm)),iu ej]
   ·rw[if_neg e]
    by_cases ej:x.1=j
    ·have nj:¬j=k:=λz=>e (ej.trans z)
     rw[jQ ej,if_neg nj,jQ ej]
    ·rw[iu ej,ih,iu ej,iu e]
 unfold sr
 by_cases h:(j3 kvs k).isSome=true
 ·rw[if_pos h,mp]
  by_cases e:j=k
  ·rw[if_pos e,if_pos e]
   obtain⟨u,hu⟩:=Option.isSome_iff_exists.mp h
   rw[hu];rfl
  ·rw[if_neg e,if_neg e]
 ·rw[if_neg h,ap]
  have hn:j3 kvs k=none:=by simpa using h
  by_cases e:j=k
  ·rw[if_pos e.symm,if_pos e,e,hn];rfl
  ·rw[if_neg (Ne.symm e),if_neg e]
   cases j3 kvs j<;>rfl
theorem F4{H:Hp}{kvs:List NE}{k:NK}{q:Addr}{v:V}(h:∀x∈kvs,lu H x.2.1 x.1)(hk:lu H q k):∀x∈sr kvs k q v,lu H x.2.1 x.1:=by
 unfold sr
 intro x hx
 split at hx
 ·obtain⟨y,hy,e⟩:=List.mem_map.mp hx
  have z:=h y hy
  split at e
  ·rw[←e];exact z
  ·rw[←e];exact z
 ·rcases List.mem_append.mp hx with hx|hx
  ·exact h x hx
  ·rw[List.mem_singleton.mp hx];exact hk
end L2
namespace GP
open PySem L2 xG
structure Da(K:PySem.W.Frag)(mg:Str->Option Value)(x y:Str)(st:Stmt)(ps:List Str)(f:Addr)(fd:FuncData):Prop where
 fn:JO K y y st f fd
 b:Binds K fd ps []
 m:mg x=some (.ref f)
def Nt(H:Hp):Hp:=λb=>match H b with|some (.ext _)=>none|r=>r
theorem Nt.sub{H:Hp}:ak (Nt H) H:=λb u h=>by
 unfold Nt at h
 split at h
 ·cases h
 ·exact h
theorem Nt.no{H:Hp}{b:Addr}{u:HO}(h:Nt H b=some u)(φ:Heap->Prop):u≠ .ext φ:=λz=>by
 unfold Nt at h
 split at h
 ·cases h
 ·next n=>rw[z]at h;exact n φ h
theorem Nt.in{H:Hp}{b:Addr}{u:HO}(n:∀ φ,u≠ .ext φ)(h:H b=some u):Nt H b=some u:=by
 unfold Nt
 rw[h]
 split
 ·next φ e=>exact absurd (Option.some.inj e) (n φ)
 ·rfl
theorem Nt.tup{H:Hp}{b:Addr}{xs:List V}(h:H b=some (.tup xs)):Nt H b=some (.tup xs):=Nt.in (λ_ z=>by cases z) h
theorem Nt.lst{H:Hp}{b:Addr}{xs:List V}(h:H b=some (.lst xs)):Nt H b=some (.lst xs):=Nt.in (λ_ z=>by cases z) h
theorem Nt.seq{K:PySem.W.Frag}{H:Hp}{a:Addr}{xs:List V}(h:cS K H a xs):cS K (Nt H) a xs:=by
 rcases h with(h|⟨o,h⟩)|h
 ·exact .inl (.inl (Nt.lst h))
 ·exact .inl (.inr ⟨o,Nt.in (λ_ z=>by cases z) h⟩)
 ·exact .inr h
theorem Nt.QI{K:PySem.W.Frag}{H:Hp}{a:Addr}{xs:List V}(h:cT K H a xs):cT K (Nt H) a xs:=by
 rcases h with(h|⟨o,h⟩)|h
 ·exact .inl (.inl (Nt.tup h))
 ·exact .inl (.inr ⟨o,Nt.in (λ_ z=>by cases z) h⟩)
 ·exact .inr h
theorem Nt.row{K:PySem.W.Frag}{H:Hp}{q:Addr}{r:List cG}(h:jW K H (.tup q) r):jW K (Nt H) (.tup q) r:=by
 obtain⟨ps,a,b⟩:=h
 exact⟨ps,Nt.QI a,Paired.iK b λ_ _ z=>Nt.QI z⟩
theorem mO.nt{K:PySem.W.Frag}{C:Addr}{H:Hp}{x:Addr}{sg:Str}{rows:List (List cG)}{fo fm:cG}(h:mO K C H x sg rows fo fm):mO K C (Nt H) x sg rows fo fm:=by
 obtain⟨a,b,c,d,f,g,i,dx,P,o,m,dd,kvs,h1,⟨qs,q1,q2⟩,h3,h4,h5,h6,fs,h7,h8,h9⟩:=h
 exact⟨a,b,c,d,f,g,i,dx,P,o,m,dd,kvs,Nt.in (λ_ z=>by cases z) h1,⟨qs,Nt.QI q1,Paired.iK q2 λ_ _ z=>Nt.row z⟩,Nt.QI h3,Nt.QI h4,Nt.in (λ_ z=>by cases z) h5,h6,fs,h7,h8,Nt.lst h9⟩
def rM(H:Hp):Hp:=λb=>match H b with|some (.tup xs)=>some (.tup xs)|some (.lst xs)=>some (.lst xs)|_=>none
theorem rM.tup{H:Hp}{b:Addr}{xs:List V}(h:H b=some (.tup xs)):rM H b=some (.tup xs):=by unfold rM;rw[h]
theorem rM.lst{H:Hp}{b:Addr}{xs:List V}(h:H b=some (.lst xs)):rM H b=some (.lst xs):=by unfold rM;rw[h]
theorem rM.of{H H':Hp}(h:∀b u,(∀ φ,u≠ .ext φ)->(∀C dx fs,u≠ .ins C dx fs)->H b=some u->H' b=some u):ak (rM H) H':=λb u q=>by
 unfold rM at q
 split at q
 ·next e=>cases q;exact h b _ (λ_ z=>by cases z) (λ_ _ _ z=>by cases z) e
 ·next e=>cases q;exact h b _ (λ_ z=>by cases z) (λ_ _ _ z=>by cases z) e
 ·cases q
theorem rM.dat{H H':Hp}(e:Dat H H'):ak (rM H) H':=rM.of λb u _ n q=>e b u n q
theorem lu.da{H:Hp}{q:Addr}{k:NK}(h:lu H q k):lu (rM H) q k:=by
 obtain⟨p,h1,h2⟩:=h
 exact⟨p,rM.tup h1,rM.tup h2⟩
theorem lu.same{H H':Hp}{q:Addr}{k:NK}(h:lu H q k)(e:ak H H'):lu H' q k:=by
 obtain⟨p,h1,h2⟩:=h
 exact⟨p,e _ _ h1,e _ _ h2⟩
theorem ND.same{P:Program}{w:World}{H H':Hp}{d:Addr}{kvs:List NE}(h:ND P w H d kvs)(e:ak H H'):ND P w H' d kvs:=⟨e _ _ h.at_,λx hx=>lu.same (h.keys x hx) e⟩
structure Lm where
 P:Addr
 l:Pos
 q:Str
 P2:Addr
 l2:Pos
 q2:Str
structure LT(L:Lm)(H:Hp):Prop where
 a:TabOk H L.P L.l L.q
 b:TabOk H L.P2 L.l2 L.q2
 ne:L.P≠L.P2
theorem A6{H H':Hp}{P:Addr}{ln:Pos}{lq:Str}(h:TabOk H P ln lq)(e:ak H H'):TabOk H' P ln lq:=by
 rcases h with h|⟨c,h,h2⟩
 ·exact .inl (e _ _ h)
 ·exact .inr ⟨c,e _ _ h,e _ _ h2⟩
theorem LT.same{L:Lm}{H H':Hp}(h:LT L H)(e:ak H H'):LT L H':=⟨A6 h.a e,A6 h.b e,h.ne⟩
theorem vo{H:Hp}{P:Addr}{ln:Pos}{lq:Str}(h:TabOk H P ln lq):∃ φ,H P=some (.ext φ):=by
 rcases h with h|⟨_,h,_⟩<;>exact⟨_,h⟩
theorem A5{H:Hp}{P:Addr}{ln:Pos}{lq:Str}(h:TabOk H P ln lq):∃ps,H P=some (ni P ps):=by
 rcases h with h|⟨_,h,_⟩<;>exact⟨_,h⟩
theorem zA{α:Type}{a b:α}{F:α->Prop}(h1:F a)(h2:F b):∀x∈[a,b],F x:=λx hx=>by
 rcases List.mem_cons.mp hx with rfl|hx
 ·exact h1
 ·rw[List.mem_singleton.mp hx];exact h2
structure Lo(P:Program)(w:World)(L:Lm)(H H':Hp):Prop where
 nx:ak (Nt H) H'
 nd:∀d kvs,H d=some (CZ P w d kvs)->H' d=some (CZ P w d kvs)
 lt:LT L H'
 dom:∀b,H' b=none->H b=none
section
variable{P:Program}{w:World}{L:Lm}{H H1 H2:Hp}
theorem Lo.of(h:LT L H)(e:ak H H1):Lo P w L H H1:=⟨λb u q=>e b u (Nt.sub b u q),λd kvs q=>e _ _ q,h.same e,λb q=>ak.free e q⟩
theorem Lo.trans(a:Lo P w L H H1)(b:Lo P w L H1 H2):Lo P w L H H2:=⟨λc u q=>b.nx c u (Nt.in (Nt.no q) (a.nx c u q)),λd kvs q=>b.nd d kvs (a.nd d kvs q),b.lt,λc q=>a.dom c (b.dom c q)⟩
theorem Lo.then(a:Lo P w L H H1)(e:ak H1 H2):Lo P w L H H2:=a.trans (.of a.lt e)
theorem ak.lo(e:ak H H1)(h:LT L H)(b:Lo P w L H1 H2):Lo P w L H H2:=(Lo.of h e).trans b
theorem Lo.one{H':Hp}(h:LT L H)(ap:Apart P w H L.P)(e:∀b u,b≠L.P->H b=some u->H' b=some u)(t:TabOk H' L.P L.l L.q):Lo P w L H H':=by
 obtain⟨φ,hφ⟩:=vo h.a
 have hne:=h.ne
 refine⟨λb u q=>e b u (λz=>?_) (Nt.sub b u q),λd kvs q=>e _ _ (ap.2 d kvs q) q,⟨t,?_,h.ne⟩,λb q=>?_⟩
 ·have q':=Nt.sub b u q
  rw[z,hφ]at q'
  exact Nt.no q φ (Option.some.inj q').symm
 ·rcases h.b with h|⟨c,h,h2⟩
  ·exact .inl (e _ _ (Ne.symm hne) h)
  ·exact .inr ⟨c,e _ _ (Ne.symm hne) h,e _ _ (ap.1 c _ h2) h2⟩
 ·cases z:H b with
  |none=>rfl
  |some u =>
   by_cases zb:b=L.P
   ·obtain⟨ψ,WA⟩:=vo t
    rw[zb,WA]at q;cases q
   ·rw[e b u zb z]at q;cases q
theorem Lo.two{H':Hp}(h:LT L H)(ap:Apart P w H L.P2)(e:∀b u,b≠L.P2->H b=some u->H' b=some u)(t:TabOk H' L.P2 L.l2 L.q2):Lo P w L H H':=by
 obtain⟨φ,hφ⟩:=vo h.b
 have hne:=h.ne
 refine⟨λb u q=>e b u (λz=>?_) (Nt.sub b u q),λd kvs q=>e _ _ (ap.2 d kvs q) q,⟨?_,t,h.ne⟩,λb q=>?_⟩
 ·have q':=Nt.sub b u q
  rw[z,hφ]at q'
  exact Nt.no q φ (Option.some.inj q').symm
 ·rcases h.a with h|⟨c,h,h2⟩
  ·exact .inl (e _ _ hne h)
  ·exact .inr ⟨c,e _ _ hne h,e _ _ (ap.1 c _ h2) h2⟩
 ·cases z:H b with
  |none=>rfl
  |some u =>
   by_cases zb:b=L.P2
   ·obtain⟨ψ,WA⟩:=vo t
    rw[zb,WA]at q;cases q
   ·rw[e b u zb z]at q;cases q
theorem Lo.da(a:Lo P w L H H1):ak (rM H) H1:=rM.of λb u n _ q=>a.nx b u (Nt.in n q)
theorem Lo.tup(a:Lo P w L H H1){b:Addr}{xs:List V}(h:H b=some (.tup xs)):H1 b=some (.tup xs):=a.nx _ _ (Nt.tup h)
theorem Lo.Yy(a:Lo P w L H H1){q:Addr}{k:NK}(h:lu H q k):lu H1 q k:=lu.same (lu.da h) a.da
theorem Lo.nk(a:Lo P w L H H1){d:Addr}{kvs:List NE}(h:ND P w H d kvs):ND P w H1 d kvs:=⟨a.nd _ _ h.at_,λx hx=>a.Yy (h.keys x hx)⟩
theorem Lo.seq{K:PySem.W.Frag}{x:Addr}{xs:List V}(a:Lo P w L H H1)(h:cS K H x xs):cS K H1 x xs:=ak.seq a.nx (Nt.seq h)
end
abbrev PT:=Str×List (List cG)×cG×cG
def uT(T:PT):Int:=cF T.2.2.1.2 T.2.2.2.2 T.2.1
def CJ(K:PySem.W.Frag)(C:Addr)(H:Hp)(x:Addr)(T:PT):Prop:=mO K C H x T.1 T.2.1 T.2.2.1 T.2.2.2
theorem CJ.same{K:PySem.W.Frag}{C:Addr}{H H':Hp}{x:Addr}{T:PT}(h:CJ K C H x T)(e:ak H H'):CJ K C H' x T:=mO.same e h
theorem Lo.pr{P:Program}{w:World}{L:Lm}{H H1:Hp}{K:PySem.W.Frag}{C x:Addr}{T:PT}(a:Lo P w L H H1)(h:CJ K C H x T):CJ K C H1 x T:=mO.same a.nx (mO.nt h)
def t9(T:PT)(m f s:Str):Gd:=⟨f.cps.size,s.cps.size,λi j=>Q2 T.1 T.2.1 (uT T) (f.cps.toList.getD i 0) (s.cps.toList.getD j 0),jF (uT T) T.2.2.1,jF (uT T) T.2.2.2,λi j=>Ab m f s (i,j)⟩
def Et(H:Hp)(p:Addr)(q:Nat×Nat):Prop:=H p=some (.tup [.int q.1,.int q.2])
def Hg(H:Hp)(l:Addr)(qs:List (Nat×Nat)):Prop:=∃ps:List Addr,H l=some (.lst (ps.map V.ref))/\Paired (Et H) ps qs
def jM(s:gY):NK:=(s.1,s.2.1,⟨#[s.2.2]⟩)
theorem vO{s t:gY}(h:jM s=jM t):s=t:=by
 obtain⟨a,b,c⟩:=s
 obtain⟨d,e,f⟩:=t
 unfold jM at h
 simp only[Prod.mk.injEq,Str.mk.injEq]at h
 obtain⟨h1,h2,h3⟩:=h
 have h4:c=f:=by simpa using h3
 rw[show a=d by omega,show b=e by omega,h4]
def Ly(H:Hp)(p:Addr)(t:gY×Int):Prop:=∃q,H p=some (.tup [.ref q,.int t.2])/\lu H q (jM t.1)
def Lx(H:Hp)(l:Addr)(ts:List (gY×Int)):Prop:=∃ps:List Addr,H l=some (.lst (ps.map V.ref))/\Paired (Ly H) ps ts
def GS(H:Hp)(g:Gd)(kvs:List NE)(ss:List gY):Prop:=Paired (λe s=>e.1=jM s/\∃l,e.2.2= .ref l/\Lx H l (g.steps s)) kvs ss
theorem Hg.same{H H':Hp}{l:Addr}{qs:List (Nat×Nat)}(h:Hg H l qs)(e:ak H H'):Hg H' l qs:=by
 obtain⟨ps,a,b⟩:=h
 exact⟨ps,e _ _ a,Paired.iK b λ_ _ z=>e _ _ z⟩
theorem Ly.same{H H':Hp}{p:Addr}{t:gY×Int}(h:Ly H p t)(e:ak H H'):Ly H' p t:=by
 obtain⟨q,a,b⟩:=h
 exact⟨q,e _ _ a,lu.same b e⟩
theorem Lx.same{H H':Hp}{l:Addr}{ts:List (gY×Int)}(h:Lx H l ts)(e:ak H H'):Lx H' l ts:=by
 obtain⟨ps,a,b⟩:=h
 exact⟨ps,e _ _ a,Paired.iK b λ_ _ z=>z.same e⟩
theorem GS.same{H H':Hp}{g:Gd}{kvs:List NE}{ss:List gY}(h:GS H g kvs ss)(e:ak H H'):GS H' g kvs ss:=Paired.iK h λ_ _ ⟨a,l,b,c⟩=>⟨a,l,b,c.same e⟩
theorem Lx.da{H:Hp}{l:Addr}{ts:List (gY×Int)}(h:Lx H l ts):Lx (rM H) l ts:=by
 obtain⟨ps,a,b⟩:=h
 exact⟨ps,rM.lst a,Paired.iK b λ_ _ ⟨q,a,b⟩=>⟨q,rM.tup a,lu.da b⟩⟩
theorem GS.da{H:Hp}{g:Gd}{kvs:List NE}{ss:List gY}(h:GS H g kvs ss):GS (rM H) g kvs ss:=Paired.iK h λ_ _ ⟨a,l,b,c⟩=>⟨a,l,b,c.da⟩
theorem Hg.da{H:Hp}{l:Addr}{qs:List (Nat×Nat)}(h:Hg H l qs):Hg (rM H) l qs:=by
 obtain⟨ps,a,b⟩:=h
 exact⟨ps,rM.lst a,Paired.iK b λ_ _ z=>rM.tup z⟩
theorem ND.dat{P:Program}{w:World}{H H':Hp}{d:Addr}{kvs:List NE}(h:ND P w H d kvs)(e:Dat H H'):ND P w H' d kvs:=⟨e _ _ (λ_ _ _ z=>by cases z) h.at_,λx hx=>lu.same (lu.da (h.keys x hx)) (rM.dat e)⟩
theorem zD{H:Hp}{g:Gd}{s:gY}:∀{kvs:List NE} {ss:List gY},GS H g kvs ss->s∈ss->∃l,j3 kvs (jM s)=some (.ref l)/\Lx H l (g.steps s)
 |_,_,.nil,h=>nomatch h
 |_,_,.cons (a:=e) (b:=t) ⟨h1,l,h2,h3⟩ r,h=>by
  by_cases z:e.1=jM s
  ·have z2:=vO (h1.symm.trans z)
   subst z2
   exact⟨l,by rw[jQ z,h2],h3⟩
  ·rw[iu z]
   rcases List.mem_cons.mp h with q|q
   ·exact absurd (by rw[q];exact h1) z
   ·exact zD r q
def Pa(dS lB dE:Addr):List (Str×V):=aF "ends" (.ref dE) (aF "begins" (.ref lB) (aF "steps" (.ref dS) []))
theorem t8{dS lB dE:Addr}:(Pa dS lB dE).lookup ("steps" :Str)=some (.ref dS):=by
 unfold Pa
 rw[av,if_neg (by decide +kernel),av,if_neg (by decide +kernel),av,if_pos rfl]
theorem D7{dS lB dE:Addr}:(Pa dS lB dE).lookup ("begins" :Str)=some (.ref lB):=by
 unfold Pa
 rw[av,if_neg (by decide +kernel),av,if_pos rfl]
theorem Ca{dS lB dE:Addr}:(Pa dS lB dE).lookup ("ends" :Str)=some (.ref dE):=by
 unfold Pa
 rw[av,if_pos rfl]
def S6(kE:List (List Key×V))(g:Gd):Prop:=∀i j,i<=g.n->j<=g.m->lF kE [.inl (i:Int),.inl (j:Int)]=some (.bl (g.en i j))
def Ms(kvs:List NE)(g:Gd):Prop:=∀s,g.In s->j3 kvs (jM s)=some (.int (g.rest s))
def CL(P:Program)(w:World)(C:Addr)(H:Hp)(x:Addr)(g:Gd)(bs:List (Nat×Nat)):Prop:=∃dx dS lB dE kS kE,H x=some (.ins C dx (Pa dS lB dE))/\ND P w H dS kS/\GS H g kS g.states/\Hg H lB bs/\H dE=some (.dT kE)/\S6 kE g
theorem CL.same{P:Program}{w:World}{C:Addr}{H H':Hp}{x:Addr}{g:Gd}{bs:List (Nat×Nat)}(h:CL P w C H x g bs)(e:ak H H'):CL P w C H' x g bs:=by
 obtain⟨dx,dS,lB,dE,kS,kE,h1,h2,h3,h4,h5,h6⟩:=h
 exact⟨dx,dS,lB,dE,kS,kE,e _ _ h1,ND.same h2 e,h3.same e,h4.same e,e _ _ h5,h6⟩
theorem Lo.gr{P:Program}{w:World}{L:Lm}{C:Addr}{H H':Hp}{x:Addr}{g:Gd}{bs:List (Nat×Nat)}(e:Lo P w L H H')(h:CL P w C H x g bs):CL P w C H' x g bs:=by
 obtain⟨dx,dS,lB,dE,kS,kE,h1,h2,h3,h4,h5,h6⟩:=h
 exact⟨dx,dS,lB,dE,kS,kE,e.nx _ _ (Nt.in (λ_ z=>by cases z) h1),e.nk h2,h3.da.same e.da,h4.da.same e.da,e.nx _ _ (Nt.in (λ_ z=>by cases z) h5),h6⟩
def Jy(m:Str)(n k:Nat):List (Nat×Nat):=(placesOf n k).filter λq=>xZ m (q.1,q.2)
def Gd.Ls(g:Gd)(b:Nat×Nat):Int:=g.rest (b.1,b.2,112)
def LO:Sp:=λvs H Q _=>∃f s:Str,vs=[.str f,.str s]/\f.cps.size<=12/\s.cps.size<=12/\∀l H',ak H H'->H l=none->Hg H' l (placesOf f.cps.size s.cps.size)->Q (.ref l) H'
def EH(K:PySem.W.Frag)(C:Addr):Sp:=λvs H Q _=>∃(x p:Addr) (T:PT) (f s:Str) (i j c:Nat),vs=[.ref x,.str f,.str s,.ref p,.str ⟨#[c]⟩]/\CJ K C H x T/\Of T.1 f/\Of T.1 s/\f.cps.size<=12/\s.cps.size<=12/\Et H p (i,j) ∧
 ∀l H',ak H H'->H l=none->(∀m,Lx H' l ((t9 T m f s).steps (i,j,c)))->Q (.ref l) H'
def HS(P:Program)(w:World)(K:PySem.W.Frag)(C:Addr):Sp:=λvs H Q _=>∃(x lp:Addr) (T:PT) (f s:Str),vs=[.ref x,.str f,.str s,.ref lp]/\CJ K C H x T/\Of T.1 f/\Of T.1 s/\f.cps.size<=12/\s.cps.size<=12/\Hg H lp (placesOf f.cps.size s.cps.size) ∧
 ∀d kvs H',ak H H'->H d=none->ND P w H' d kvs->(∀m,GS H' (t9 T m f s) kvs (cX (placesOf f.cps.size s.cps.size)))->Q (.ref d) H'
def EN:Sp:=λvs H Q _=>∃(lp:Addr) (f s m:Str),vs=[.str f,.str s,.ref lp,.str m]/\f.cps.size<=12/\s.cps.size<=12/\Hg H lp (placesOf f.cps.size s.cps.size) ∧
 ∀d kvs H',ak H H'->H d=none->H' d=some (.dT kvs)->(∀T,S6 kvs (t9 T m f s))->Q (.ref d) H'
def Bo(P:Program)(w:World)(K:PySem.W.Frag)(C CG CS CM:Addr):Sp:=λvs H Q E=>∃(x dx pr:Addr) (T:PT) (f s m:Str),vs=[.ref x,.ref pr,.str f,.str s,.str m]/\H x=some (.ins CG dx [])/\CJ K C H pr T/\f.cps.size<=20/\s.cps.size<=20 ∧
 (Of T.1 f->Of T.1 s->jU m=true->f.cps.size<=12/\s.cps.size<=12/\∀H',(∀b u,b≠x->H b=some u->H' b=some u)->CL P w CG H' x (t9 T m f s) (Jy m f.cps.size s.cps.size)->Q .i9 H') ∧
 (∀i j,vn T.1 f s i j->∀dx H',ak H H'->H' dx=some (yC dx (Cm i j))->E (.ref CS) (some dx) H')/\(Of T.1 f->Of T.1 s->jU m=false->(reprText m).length<=20/\∀H',ak H H'->E (.ref CM) none H')
def HH(P:Program)(w:World)(CG:Addr):Sp:=λvs H Q _=>∃(x:Addr) (g:Gd) (bs:List (Nat×Nat)),vs=[.ref x]/\CL P w CG H x g bs/\g.Ok/\g.n<=12/\g.m<=12/\∀d kvs H',ak H H'->H d=none->ND P w H' d kvs->Ms kvs g->Q (.ref d) H'
def GR(P:Program)(w:World)(CG:Addr)(H:Hp)(x d:Addr)(g:Gd)(bs:List (Nat×Nat))(kvs:List NE):Prop:=CL P w CG H x g bs/\ND P w H d kvs/\Ms kvs g
theorem Lo.gR{P:Program}{w:World}{L:Lm}{C:Addr}{H H':Hp}{x d:Addr}{g:Gd}{bs:List (Nat×Nat)}{kvs:List NE}(e:Lo P w L H H')(h:GR P w C H x d g bs kvs):GR P w C H' x d g bs kvs:=⟨e.gr h.1,e.nk h.2.1,h.2.2⟩
theorem GR.same{P:Program}{w:World}{C:Addr}{H H':Hp}{x d:Addr}{g:Gd}{bs:List (Nat×Nat)}{kvs:List NE}(h:GR P w C H x d g bs kvs)(e:ak H H'):GR P w C H' x d g bs kvs:=⟨h.1.same e,ND.same h.2.1 e,h.2.2⟩
def EE(P:Program)(w:World)(CG:Addr):Sp:=λvs H Q _=>∃(x d q:Addr) (g:Gd) (bs:List (Nat×Nat)) (kvs:List NE) (s:gY),vs=[.ref x,.ref d,.ref q]/\GR P w CG H x d g bs kvs/\lu H q (jM s)/\g.In s/\Q (.bl (g.stop s)) H
def Bp(P:Program)(w:World)(CG:Addr)(L:Lm):Sp:=λvs H Q _=>∃(x d:Addr) (g:Gd) (bs:List (Nat×Nat)) (kvs:List NE),vs=[.ref x,.ref d]/\GR P w CG H x d g bs kvs/\LT L H/\bs≠[]/\(∀b∈bs,b.1<=g.n/\b.2<=g.m) ∧
 ∀p b H',Lo P w L H H'->fmin g.Ls bs=some b->Et H' p b->Q (.ref p) H'
def HQ(P:Program)(w:World)(CG:Addr)(L:Lm):Sp:=λvs H Q _=>∃(x d q:Addr) (g:Gd) (bs:List (Nat×Nat)) (kvs:List NE) (s:gY),vs=[.ref x,.ref d,.ref q]/\GR P w CG H x d g bs kvs/\lu H q (jM s)/\g.In s/\g.steps s≠[]/\LT L H ∧
 ∀q' t H',Lo P w L H H'->fmin g.key (g.steps s)=some t->lu H' q' (jM t.1)->Q (.ref q') H'
def HK(P:Program)(w:World)(CG:Addr)(L:Lm):Sp:=λvs H Q _=>∃(x d p:Addr) (g:Gd) (bs:List (Nat×Nat)) (kvs:List NE) (b:Nat×Nat),vs=[.ref x,.ref d,.ref p]/\GR P w CG H x d g bs kvs/\Et H p b/\g.In (b.1,b.2,112)/\g.Ok/\g.n<=12/\g.m<=12/\LT L H ∧
 ∀H',Lo P w L H H'->Q (.str ⟨(g.moves (b.1,b.2,112)).toArray⟩) H'
def xF(H:Hp)(r:Addr)(T:PT)(m f s:Str):Prop:=∃b c p,fmin (t9 T m f s).Ls (Jy m f.cps.size s.cps.size)=some b/\H r=some (.tup [.ref c,.ref p,.str ⟨((t9 T m f s).moves (b.1,b.2,112)).toArray⟩])/\TupAt H c (j0 ((t9 T m f s).Ls b,uT T))/\Et H p b
def zF(P:Program)(w:World)(K:PySem.W.Frag)(C CS CM:Addr)(L:Lm):Sp:=λvs H Q E=>∃(pr:Addr) (T:PT) (f s m:Str),vs=[.ref pr,.str f,.str s,.str m]/\CJ K C H pr T/\LT L H/\f.cps.size<=20/\s.cps.size<=20 ∧
 (Of T.1 f->Of T.1 s->jU m=true->f.cps.size<=12/\s.cps.size<=12/\∀r H',Lo P w L H H'->H r=none->xF H' r T m f s->Q (.ref r) H') ∧
 (∀i j,vn T.1 f s i j->∀dx H',ak H H'->H' dx=some (yC dx (Cm i j))->E (.ref CS) (some dx) H')/\(Of T.1 f->Of T.1 s->jU m=false->(reprText m).length<=20/\∀H',ak H H'->E (.ref CM) none H')
end GP
namespace GP
open PySem L2 xG
theorem My{H:Hp}{l p:Addr}{o y:HO}(hp:H p=none):ak (Wo l H) (Wo l (L2.upd (L2.upd H p o) l y)):=λb u h=>by
 have n:=Wo.ne h
 have h':=Wo.sub b u h
 refine Wo.in n ?_
 rw[au n,au (aM h' hp)]
 exact h'
theorem rR{H H2:Hp}{l p:Addr}{o y:HO}(e:ak H H2)(hl:H l=none)(hp:H2 p=none):ak H (L2.upd (L2.upd H2 p o) l y):=ak.at (e.trans (ak.upd hp)) hl
theorem Ho{H:Hp}{l p:Addr}{o y:HO}(n:p≠l):Wo l (L2.upd (L2.upd H p o) l y) p=some o:=Wo.in n (by rw[au n,ah])
theorem Et.same{H H':Hp}{p:Addr}{q:Nat×Nat}(h:Et H p q)(e:ak H H'):Et H' p q:=e _ _ h
theorem Om{H:Hp}{l:Addr}{ps:List Addr}{qs:List (Nat×Nat)}(h1:H l=some (.lst (ps.map V.ref)))(h2:Paired (Et (Wo l H)) ps qs):Hg H l qs:=⟨ps,h1,Paired.iK h2 λ_ _ z=>z.same Wo.sub⟩
def rws(m i:Nat):List (Nat×Nat):=(List.range i).flatMap λi=>(List.range (m+1)).map λj=>(i,j)
theorem Bv(m i:Nat):rws m (i+1)=rws m i++(List.range (m+1)).map λj=>(i,j):=by
 unfold rws
 rw[List.range_succ (n:=i),List.flatMap_append]
 simp
theorem Km(m i:Nat):(rws m i).length=i*(m+1):=by
 induction i with
 |zero=>simp[rws]
 |succ i ih=>rw[Bv,List.length_append,ih,Nat.succ_mul,List.length_map,List.length_range]
theorem IQ{a b n:Nat}(ha:a<=12)(hb:b<=12)(h:n<=3*((a+1)*(b+1))):n<sizeLine:=by
 have:(a+1)*(b+1)<=13*13:=Nat.mul_le_mul (by omega) (by omega)
 exact Nat.lt_of_le_of_lt (show n<=507 by omega) (by decide)
theorem sP:Str.ofString "p" =⟨#[112]⟩:=by kernel_rfl
theorem sA:Str.ofString "a" =⟨#[97]⟩:=by kernel_rfl
theorem sB:Str.ofString "b" =⟨#[98]⟩:=by kernel_rfl
theorem Mq{T:PT}{m f s a:Str}{v c:Nat}(h:a=⟨#[v]⟩):V.int (if a=⟨#[c]⟩then jF (cF T.2.2.1.2 T.2.2.2.2 T.2.1) T.2.2.2 else jF (cF T.2.2.1.2 T.2.2.2.2 T.2.1) T.2.2.1+jF (cF T.2.2.1.2 T.2.2.2.2 T.2.1) T.2.2.2)=V.int ((t9 T m f s).ac v c):=by
 subst h
 unfold Gd.ac
 by_cases e:v=c
 ·subst e
  rw[if_pos rfl,if_pos rfl]
  rfl
 ·rw[if_neg (λz=>e (by simpa using congrArg Str.cps z)),if_neg e]
  rfl
theorem Dp{H3 H5:Hp}{l p q r:Addr}{xs:List V}{t:gY×Int}{a b d:V}{c:Str}{y:HO}(hl:H3 l=some (.lst xs))(hp:H3 p=none)(hq:L2.upd H3 p (.tup [a,b]) q=none)(e:ak (L2.upd (L2.upd H3 p (.tup [a,b])) q (.tup [.ref p,.str c])) H5)(hr:H5 r=none)
  (ea:a= .int (t.1.1:Int)) (eb:b= .int (t.1.2.1:Int)) (ec:c=⟨#[t.1.2.2]⟩) (ed:d= .int t.2) :
  H5 l=some (.lst xs)/\r≠l/\ak (Wo l H3) (Wo l (L2.upd (L2.upd H5 r (.tup [.ref q,d])) l y))/\Ly (Wo l (L2.upd (L2.upd H5 r (.tup [.ref q,d])) l y)) r t:=by
 subst ea eb ec ed
 have s1:=ak.upd (o:=.tup [.int (t.1.1:Int),.int (t.1.2.1:Int)]) hp
 have s2:=s1.trans (ak.upd (o:=.tup [.ref p,.str ⟨#[t.1.2.2]⟩]) hq)
 have h5:=e _ _ (s2 _ _ hl)
 have nr:r≠l:=λz=>by rw[z,h5]at hr;cases hr
 have np:p≠l:=λz=>by rw[z,hl]at hp;cases hp
 have nq:q≠l:=λz=>by rw[z,s1 _ _ hl]at hq;cases hq
 have ZO:p≠q:=λz=>by rw[←z,ah]at hq;cases hq
 have keep:∀{b o},b≠l->H5 b=some o->Wo l (L2.upd (L2.upd H5 r (.tup [.ref q,.int t.2])) l y) b=some o:=λ{b o} n h=>Wo.in n (by rw[au n,au (aM h hr)];exact h)
 exact⟨h5,nr,λb u h=>keep (Wo.ne h) (e _ _ (s2 _ _ (Wo.sub b u h))),q,Ho nr,p,keep nq (e _ _ ah),keep np (e _ _ (by rw[au ZO,ah];rfl))⟩
theorem DO{α:Type}{R:α->α->Prop}{l:List α}{k:Nat}{x:α}(h:l.Pairwise R)(ir:∀a,¬R a a)(hk:l[k]? =some x):x∉l.take k:=λhm=>by
 have e:l=l.take k++l.drop k:=(List.take_append_drop k l).symm
 rw[e]at h
 have W4:=(List.getElem?_eq_some_iff.mp hk).1
 have hd:x∈l.drop k:=by
  rw[List.drop_eq_getElem_cons W4,(List.getElem?_eq_some_iff.mp hk).2]
  exact List.mem_cons_self
 exact ir x ((List.pairwise_append.mp h).2.2 x hm x hd)
def Qk:List Nat:=[112,97,98]
def st3(q:Nat×Nat)(b:Nat):List gY:=(Qk.take b).map λc=>(q.1,q.2,c)
theorem Pn {b:Nat} {x:V} (h:[V.str (Str.ofString "p"),V.str (Str.ofString "a"),V.str (Str.ofString "b")][b]? =some x):∃c,Qk[b]? =some c/\x= .str ⟨#[c]⟩:=by
 rw[sP,sA,sB]at h
 match b,h with
 | 0,h=>exact⟨112,rfl,(Option.some.inj h).symm⟩
 | 1,h=>exact⟨97,rfl,(Option.some.inj h).symm⟩
 | 2,h=>exact⟨98,rfl,(Option.some.inj h).symm⟩
 |b+3,h=>simp at h
theorem Ob{ps:List (Nat×Nat)}(pw:ps.Pairwise LU){a b c:Nat}{q:Nat×Nat}(ha:ps[a]? =some q)(hb:Qk[b]? =some c):(q.1,q.2,c)∉cX (ps.take a)++st3 q b:=λz=>by
 rcases List.mem_append.mp z with z|z
 ·exact DO pw (λ_=>DC) ha (gu.mp z).1
 ·obtain⟨c',hc',e⟩:=List.mem_map.mp z
  have e':c'=c:=(Prod.mk.inj (Prod.mk.inj e).2).2
  subst e'
  match b,hb with
  | 0,hb=>exact nomatch hc'
  | 1,hb=>exact absurd hc' (by rw[←Option.some.inj hb];decide)
  | 2,hb=>exact absurd hc' (by rw[←Option.some.inj hb];decide)
  |b+3,hb=>simp[Qk]at hb
theorem LN{H:Hp}{g:Gd}{s:gY}:∀{kvs:List NE} {ss:List gY},GS H g kvs ss->s∉ss->j3 kvs (jM s)=none
 |_,_,.nil,_=>rfl
 |_,_,.cons ⟨h1,_⟩ r,h=>by
  rw[iu (λz=>h (by rw[vO (h1.symm.trans z)];exact List.mem_cons_self))]
  exact LN r λz=>h (List.mem_cons_of_mem _ z)
theorem HD{q:Nat×Nat}{b c:Nat}(h:Qk[b]? =some c):st3 q (b+1)=st3 q b++[(q.1,q.2,c)]:=by
 unfold st3
 rw[take_snoc h,List.map_append]
 rfl
theorem Oc{ps:List (Nat×Nat)}{q:Nat×Nat}{a b:Nat}(ha:a<ps.length):(cX (ps.take a)++st3 q b).length<=3*ps.length:=by
 rw[List.length_append,vH,List.length_take]
 have:(st3 q b).length<=3:=by unfold st3;rw[List.length_map,List.length_take];exact Nat.min_le_right _ _
 omega
theorem Bc{ps:List (Nat×Nat)}{q:Nat×Nat}{a:Nat}(h:ps[a]? =some q):cX (ps.take (a+1))=cX (ps.take a)++st3 q 3:=by
 unfold cX
 rw[take_snoc h,List.flatMap_append]
 simp[three,st3,Qk]
theorem Fp{α:Type}(l:List α)(d:α)(c:α->Bool):((List.range l.length).filter λi=>c (l.getD i d)).map (λi=>l.getD i d)=l.filter c:=by
 have e:(List.range l.length).map (λi=>l.getD i d)=l:=by
  refine List.ext_getElem (by simp) λi h1 h2=>?_
  simp[List.getD_eq_getElem?_getD,h2]
 rw[show l.filter c=((List.range l.length).map λi=>l.getD i d).filter c by rw[e],List.filter_map]
 rfl
theorem uv{α β γ:Type}{F:β->γ->Prop}{f:α->β}{g:α->γ}:∀{l:List α},(∀i∈l,F (f i) (g i))->Paired F (l.map f) (l.map g)
 |[],_=>.nil
 |_::_,h=>.cons (h _ List.mem_cons_self) (uv λi hi=>h i (List.mem_cons_of_mem _ hi))
theorem Kp2{r:L2.St}{a b:Option V}:Kp (none::none::r) (a::b::r):=λi v e=>by
 match i with
 | 0=>cases e
 | 1=>cases e
 |i+2=>exact e
theorem EC{H:Hp}{P l:Addr}{ln:Pos}{lq:Str}{xs:List V}{o:HO}(h:TabOk H P ln lq)(hl:H l=some (.lst xs)):TabOk (L2.upd H l o) P ln lq:=by
 have n:∀{b φ},H b=some (.ext φ)->b≠l:=λ{b φ} e z=>by rw[z,hl]at e;cases e
 rcases h with h|⟨c,h,h2⟩
 ·exact .inl (by rw[au (n h)];exact h)
 ·exact .inr ⟨c,by rw[au (n h)];exact h,by rw[au (n h2)];exact h2⟩
theorem LT.put{L:Lm}{H:Hp}{l:Addr}{xs:List V}{o:HO}(h:LT L H)(hl:H l=some (.lst xs)):LT L (L2.upd H l o):=⟨EC h.a hl,EC h.b hl,h.ne⟩
theorem Lo.put{P:Program}{w:World}{L:Lm}{H H1:Hp}{l:Addr}{xs:List V}{o:HO}(a:Lo P w L H H1)(hn:H l=none)(hl:H1 l=some (.lst xs)):Lo P w L H (L2.upd H1 l o):=by
 refine⟨λb u q=>?_,λd kvs q=>?_,a.lt.put hl,λb q=>?_⟩
 ·rw[au (aM (Nt.sub b u q) hn)];exact a.nx b u q
 ·rw[au (aM q hn)];exact a.nd d kvs q
 ·by_cases z:b=l
  ·rw[z];exact hn
  ·rw[au z]at q;exact a.dom b q
theorem K1{H:Hp}{l q:Addr}{k:NK}{xs:List V}{o:HO}(h:lu H q k)(hl:H l=some (.lst xs)):lu (L2.upd H l o) q k:=by
 have n:∀{b ys},H b=some (.tup ys)->b≠l:=λ{b ys} e z=>by rw[z,hl]at e;cases e
 obtain⟨p,h1,h2⟩:=h
 exact⟨p,by rw[au (n h1)];exact h1,by rw[au (n h2)];exact h2⟩
theorem Je(T:PT)(m f s:Str):(t9 T m f s).Ok:=by
 show Ab m f s ((f.cps.size:Int),(s.cps.size:Int))=true
 unfold Ab
 split
 ·simp
 ·split<;>simp
theorem Lu(m:Str)(n k:Nat):Jy m n k≠[]:=by
 have h:((0:Nat),(0:Nat))∈Jy m n k:=by
  refine List.mem_filter.mpr ⟨jl.mpr ⟨Nat.zero_le _,Nat.zero_le _⟩,?_⟩
  show xZ m (((0:Nat):Int),((0:Nat):Int))=true
  unfold xZ
  split
  ·simp
  ·split
   ·simp
   ·split<;>simp
 exact List.ne_nil_of_mem h
end GP
namespace GP
open PySem L2 xG
theorem QJ{c:Int}(h1: -(10 ^ 39)-4<=c)(h2:c<=10 ^ 39):Sm c:=wZ (by omega) (by omega)
def EL(K:PySem.W.Frag):Sp:=λvs H Q _=>∃(s t:Addr) (ns:List Int) (k:Int),vs=[.ref s,.ref t]/\tE K H s t ns k/\k<=100000/\∀c:Int,-(10 ^ 39)<=c->c<=10 ^ 39->Q (.int c) (L2.upd H t (.lst [.int (k+1)]))
def Be(K:PySem.W.Frag):Sp:=λvs H Q _=>∃(s t:Addr) (ns:List Int) (k:Int) (n:Nat),vs=[.ref s,.ref t,.int n]/\tE K H s t ns k/\k<=100000/\1<=n/\n<=6 ∧
 ∀x H',zp x->x.cps.size=n->ak (L2.upd H t (.lst [.int (k+1)])) H'->Q (.str x) H'
def Pz(f:cG):Prop:=1<=f.2/\f.2<=999/\ -(10 ^ 39)<=f.1/\f.1<=10 ^ 39
theorem Pz.l{f:cG}(h:Pz f):JN f:=⟨h.1,h.2.1,QJ (by have:=h.2.2.1;omega) h.2.2.2⟩
def Bh(K:PySem.W.Frag):Sp:=λvs H Q _=>∃(s t:Addr) (ns:List Int) (k c:Int),vs=[.ref s,.ref t,.int c]/\tE K H s t ns k/\k<=90000 ∧
 ∀(f:cG) (q:Addr) (H':Hp) (k':Int),Pz f->ak (Wo t H) (Wo t H')->H' t=some (.lst [.int k'])->k<=k'->k'<=k+2->H q=none->H' q=some (.tup [.int f.1,.int f.2])->Q (.ref q) H'
def EF(K:PySem.W.Frag):Sp:=λvs H Q _=>∃(s t:Addr) (ns:List Int) (k:Int) (n:Nat),vs=[.ref s,.ref t,.int n]/\tE K H s t ns k/\k<=80000/\1<=n/\n<=6 ∧
 ∀(r l o m:Addr) (rs:List Addr) (rows:List (List cG)) (fo fm:cG) (sg:Str) (H':Hp) (k':Int),zp sg->sg.cps.size=n->H' r=some (.tup [.str sg,.ref l,.ref o,.ref m])->sV K (Wo t H') l rs rows->JM n rows->(∀r∈rows,∀f∈r,JN f)->TupAt (Wo t H') o fo->JN fo->TupAt (Wo t H') m fm->JN fm →
  ak (Wo t H) (Wo t H')->H' t=some (.lst [.int k'])->k<=k'->k'<=k+200->Q (.ref r) H'
def yK(K:PySem.W.Frag)(C:Addr):Sp:=λvs H Q _=>∃(s t:Addr) (ns:List Int) (k:Int),vs=[.ref s,.ref t]/\tE K H s t ns k/\k<=70000 ∧
 ∀x H' k' T,CJ K C (Wo t H') x T->T.1.cps.size<=4->H x=none->ak (Wo t H) (Wo t H')->H' t=some (.lst [.int k'])->k<=k'->k'<=k+300->Q (.ref x) H'
def HG(K:PySem.W.Frag):Sp:=λvs H Q _=>∃(s t:Addr) (ns:List Int) (k:Int) (n:Nat) (sg:Str),vs=[.ref s,.ref t,.str sg,.int n]/\tE K H s t ns k/\k<=80000/\n<=12/\0<sg.cps.size/\sg.cps.size<=100 ∧
 ∀f H' k',Of sg f->f.cps.size<=n->ak (Wo t H) (Wo t H')->H' t=some (.lst [.int k'])->k<=k'->k'<=k+20->Q (.str f) H'
def Bk:Sp:=λvs H Q _=>∃m:Int,vs=[.int m]/\0<=m/\∀x H',jU x=true->ak H H'->Q (.str x) H'
def JF(v u:V):Prop:=(∃s,v= .str s/\u= .str s)\/∃n,v= .int n/\u= .int n
def xE(K:PySem.W.Frag)(H:Hp):Nat->V->V->Prop
 | 0,v,u=>JF v u
 |d+1,v,u=>JF v u\/∃p q xs ys,v= .ref p/\u= .ref q/\cT K H p xs/\cT K H q ys/\xs.length=ys.length/\xs.length<=100/\∀(i:Nat) x y,xs[i]? =some x->ys[i]? =some y->xE K H d x y
theorem xE.same{K:PySem.W.Frag}{H H':Hp}(e:ak H H'):∀{d:Nat} {v u:V},xE K H d v u->xE K H' d v u
 | 0,_,_,h=>h
 |d+1,_,_,h=>h.imp id λ⟨p,q,xs,ys,h1,h2,h3,h4,h5,h6,h7⟩=>⟨p,q,xs,ys,h1,h2,ak.tup e h3,ak.tup e h4,h5,h6,λi x y hx hy=>xE.same e (h7 i x y hx hy)⟩
theorem xE.flat{K:PySem.W.Frag}{H:Hp}{d:Nat}{v u:V}(h:JF v u):xE K H d v u:=by
 cases d with
 |zero=>exact h
 |succ d=>exact .inl h
theorem xE.int{K:PySem.W.Frag}{H:Hp}{d:Nat}{n:Int}:xE K H d (.int n) (.int n):=.flat (.inr ⟨_,rfl,rfl⟩)
theorem xE.str{K:PySem.W.Frag}{H:Hp}{d:Nat}{n:Str}:xE K H d (.str n) (.str n):=.flat (.inl ⟨_,rfl,rfl⟩)
theorem xE.of{K:PySem.W.Frag}{H:Hp}{p q:Addr}{xs ys:List V}{d:Nat}(hp:cT K H p xs)(hq:cT K H q ys)(hl:xs.length<=100)(h:Paired (xE K H d) xs ys):xE K H (d+1) (.ref p) (.ref q) :=
 .inr ⟨p,q,xs,ys,rfl,rfl,hp,hq,Paired.len h,hl,λi x y hx hy=>by
  obtain⟨y',hy',z⟩:=GP.Paired.at h hx
  rw[hy]at hy'
  cases hy'
  exact z⟩
def qa(K:PySem.W.Frag)(d:Nat):Sp:=λvs H Q _=>∃v u:V,vs=[v,u]/\xE K H d v u/\∀H',ak H H'->Q (.bl true) H'
theorem ow{α:Type}{l:List α}{i:Nat}{d x:α}(h:l[i]? =some x):l.getD i d=x:=by
 rw[List.getD_eq_getElem?_getD,h];rfl
theorem JW{a tv:Int}{i j:Nat}(ht:tv=1\/tv=3\/tv=5\/tv=7\/tv=9\/tv=11)(hij:i<j)(hj:j<6):((a+(i:Int)*tv) % 92).toNat≠((a+(j:Int)*tv) % 92).toNat:=by
 rcases ht with rfl|rfl|rfl|rfl|rfl|rfl<;>omega
theorem DQ{L:List Nat}{p:Nat->Nat}(hL:L.Nodup)(n:Nat)(hp:∀i,i<n->p i<L.length)(hne:∀i j,i<j->j<n->p i≠p j):((List.range n).map λi=>L.getD (p i) 0).Nodup:=by
 rw[List.Nodup,List.pairwise_map]
 refine List.Pairwise.imp_of_mem ?_ (List.pairwise_lt_range (n:=n))
 intro i j hi hj hij z
 have h1:=hp i (List.mem_range.mp hi)
 have h2:=hp j (List.mem_range.mp hj)
 rw[ow (List.getElem?_eq_getElem h1),ow (List.getElem?_eq_getElem h2)]at z
 exact hne i j hij (List.mem_range.mp hj) ((List.getElem_inj hL).mp z)
def IV:List Nat->Bool
 |a::b::r=>decide (a<b)&&IV (b::r)
 |_=>true
theorem Ae:∀{a:Nat} {l:List Nat},IV (a::l)=true->(∀c∈l,a<c)/\IV l=true
 |a,[],_=>⟨λc hc=>(nomatch hc),rfl⟩
 |a,b::r,h=>by
  have h':(decide (a<b)&&IV (b::r))=true:=h
  rw[Bool.and_eq_true]at h'
  have h1:=of_decide_eq_true h'.1
  refine⟨λc hc=>?_,h'.2⟩
  rcases List.mem_cons.mp hc with rfl|hc
  ·exact h1
  ·exact Nat.lt_trans h1 ((Ae h'.2).1 c hc)
theorem wK:∀{l:List Nat},IV l=true->l.Nodup
 |[],_=>List.nodup_nil
 |a::l,h=>List.nodup_cons.mpr ⟨λz=>Nat.lt_irrefl _ ((Ae h).1 a z),wK (Ae h).2⟩
def JG(rows:List (List cG))(k:Nat):Prop:=∀a b f,JP rows a b f->JN f/\(a=b->k<=a->Pz f)
theorem FE{rows:List (List cG)}{a c i j:Nat}{row:List cG}{f g:cG}(hr:rows[a]? =some row)(h:JP (rows.set a (row.set c f)) i j g):(i=a/\j=c/\g=f)\/JP rows i j g:=by
 obtain⟨r,h1,h2⟩:=h
 rw[List.getElem?_set]at h1
 by_cases e:a=i
 ·subst e
  rw[if_pos rfl,if_pos (List.getElem?_eq_some_iff.mp hr).1]at h1
  cases h1
  rw[List.getElem?_set]at h2
  by_cases e2:c=j
  ·subst e2
   rw[if_pos rfl]at h2
   split at h2
   ·exact .inl ⟨rfl,rfl,(Option.some.inj h2).symm⟩
   ·cases h2
  ·rw[if_neg e2]at h2
   exact .inr ⟨row,hr,h2⟩
 ·rw[if_neg e]at h1
  exact .inr ⟨r,h1,h2⟩
def xu(K:PySem.W.Frag)(H:Hp)(t l:Addr)(n j:Nat)(k:Int)(H2:Hp):Prop:=∃rs rows,sV K (Wo t H2) l rs rows/\JM n rows/\JG rows j/\(∀r∈rs,H r=none)/\ak (Wo t H) (Wo t H2)/\H2 t=some (.lst [.int k])
theorem Jp{rows:List (List cG)}{k:Nat}(h:JG rows k):∀r∈rows,∀f∈r,JN f:=λr hr f hf=>by
 obtain⟨i,hi,e⟩:=List.getElem_of_mem hr
 obtain⟨j,hj,e'⟩:=List.getElem_of_mem hf
 exact(h i j f ⟨r,List.getElem?_eq_some_iff.mpr ⟨hi,e⟩,List.getElem?_eq_some_iff.mpr ⟨hj,e'⟩⟩).1
theorem D5{xs:List V}{j:Nat}(h:j<xs.length):K3 xs.length (j:Int)=some j:=by
 unfold K3
 rw[if_pos (by omega),if_pos (by omega)]
 simp
def LQ(K:PySem.W.Frag)(C:Addr):Sp:=λvs H Q _=>∃(x:Addr) (T:PT) (b:Bool),vs=[.ref x,.bl b]/\CJ K C H x T/\Q (.int (if b=true then jF (uT T) T.2.2.2 else jF (uT T) T.2.2.1+jF (uT T) T.2.2.2)) H
def EK:Sp:=λvs H Q _=>∃(m:Str) (i j:Int),vs=[.str m,.int i,.int j]/\jU m=true/\Q (.bl (xZ m (i,j))) H
def EJ:Sp:=λvs H Q _=>∃(m f s:Str) (i j:Int),vs=[.str m,.str f,.str s,.int i,.int j]/\jU m=true/\f.cps.size<=20/\s.cps.size<=20/\Q (.bl (Ab m f s (i,j))) H
def HF(K:PySem.W.Frag)(C:Addr):Sp:=λvs H Q _=>∃(x b:Addr) (T:PT) (m f s mv:Str) (q:Nat×Nat),vs=[.ref x,.str f,.str s,.ref b,.str mv]/\CJ K C H x T/\Of T.1 f/\Of T.1 s/\f.cps.size<=20/\s.cps.size<=20/\mv.cps.size<=1000/\Et H b q ∧
 ((t9 T m f s).walk (q.1,q.2,112) mv.cps.toList=none->∀H',ak H H'->Q .i9 H') ∧
 ∀c e,(t9 T m f s).walk (q.1,q.2,112) mv.cps.toList=some (c,e)->∀r p H',ak H H'->H r=none->H' r=some (.tup [.int c,.ref p])->Et H' p (e.1,e.2.1)->Q (.ref r) H'
theorem Gd.pY(g:Gd)(s:gY)(v:Nat)(vs:List Nat):g.walk s (v::vs)=((g.steps s).find? λt=>t.1.2.2==v).bind λt=>(g.walk t.1 vs).map λr=>(t.2+r.1,r.2):=by
 rw[Gd.walk]
 cases (g.steps s).find? λt=>t.1.2.2==v<;>rfl
theorem Gd.vB{g:Gd}:∀(a b:List Nat) (s:gY),g.walk s (a++b)=(g.walk s a).bind λr=>(g.walk r.2 b).map λq=>(r.1+q.1,q.2)
 |[],b,s=>by
  show g.walk s b=(g.walk s b).map _
  cases g.walk s b with
  |none=>rfl
  |some r=>simp
 |v::a,b,s=>by
  rw[List.cons_append,Gd.pY,Gd.pY]
  cases (g.steps s).find? (λt=>t.1.2.2==v)with
  |none=>rfl
  |some t =>
   show(g.walk t.1 (a++b)).map _=((g.walk t.1 a).map _).bind _
   rw[Gd.vB a b t.1]
   cases g.walk t.1 a with
   |none=>rfl
   |some r =>
    show((g.walk r.2 b).map _).map _=(g.walk r.2 b).map _
    cases g.walk r.2 b with
    |none=>rfl
    |some q=>simp[Int.add_assoc]
theorem Gd.Hq{g:Gd}{s:gY}{t:gY×Int}(h:t∈g.steps s):g.walk s [t.1.2.2]=some (t.2,t.1):=by
 rw[Gd.pY,Gd.yI h]
 show some (t.2+0,t.1)=_
 rw[Int.add_zero]
theorem Gd.FO{g:Gd}{s e:gY}{a:List Nat}{c:Int}{t:gY×Int}(h:g.walk s a=some (c,e))(ht:t∈g.steps e):g.walk s (a++[t.1.2.2])=some (c+t.2,t.1):=by
 rw[Gd.vB,h]
 show(g.walk e [t.1.2.2]).map _=_
 rw[Gd.Hq ht]
 rfl
theorem Gd.Dc{g:Gd}{s e:gY}{a b:List Nat}{c:Int}{v:Nat}(h:g.walk s a=some (c,e))(hn:∀t∈g.steps e,t.1.2.2≠v):g.walk s (a++v::b)=none:=by
 rw[Gd.vB,h]
 show(g.walk e (v::b)).map _=_
 rw[Gd.pY,List.find?_eq_none.mpr λt ht=>by simpa using hn t ht]
 rfl
theorem OU{m:Str}(h:jU m=true):m=Str.ofString "whole" \/m=Str.ofString "within" \/m=Str.ofString "over" \/m=Str.ofString "stretch" :=by
 by_cases h1:m=Str.ofString "whole"
 ·exact .inl h1
 ·by_cases h2:m=Str.ofString "within"
  ·exact .inr (.inl h2)
  ·by_cases h3:m=Str.ofString "over"
   ·exact .inr (.inr (.inl h3))
   ·exact .inr (.inr (.inr (x8 h h1 h2 h3)))
theorem uy{a b:Str}{A B:Prop}(h1:a=b->A)(h2:¬a=b->B):if(decide (V.str a=V.str b))=true then A else B:=by
 by_cases h:a=b
 ·rw[if_pos (decide_eq_true (by rw[h]))];exact h1 h
 ·rw[if_neg (by rw[decide_eq_false (λz=>h (V.str.inj z))];exact Bool.false_ne_true)];exact h2 h
theorem Cr{i j:Int}:decide (V.int i=V.int j)=decide (i=j):=by
 by_cases h:i=j
 ·rw[h,decide_eq_true rfl,decide_eq_true rfl]
 ·rw[decide_eq_false h,decide_eq_false (λz=>h (V.int.inj z))]
theorem its{a b:Str}{A B:Prop}(h:a=b)(x:A):if(decide (V.str a=V.str b))=true then A else B:=uy (λ_=>x) λz=>absurd h z
theorem B3{a b:Str}{A B:Prop}(h:¬a=b)(x:B):if(decide (V.str a=V.str b))=true then A else B:=uy (λz=>absurd z h) λ_=>x
theorem K4{p:Prop}[Decidable p]{A B:Prop}(h:p)(x:A):if(decide p)=true then A else B:=fJ (λ_=>x) λz=>absurd h z
theorem Gv{p:Prop}[Decidable p]{A B:Prop}(h:¬p)(x:B):if(decide p)=true then A else B:=fJ (λz=>absurd z h) λ_=>x
theorem DG{a b:Nat}(h:a≠b):¬(⟨#[a]⟩:Str)=⟨#[b]⟩:=λz=>h (by simpa using congrArg Str.cps z)
theorem Gd.su{g:Gd}{e:gY}{v:Nat}(h1:¬(v=112/\e.1<g.n/\e.2.1<g.m))(h2:¬(v=97/\e.1<g.n))(h3:¬(v=98/\e.2.1<g.m)):∀t∈g.steps e,t.1.2.2≠v:=λt ht z=>by
 rcases Gd.j9.mp ht with⟨a,b,rfl⟩|⟨a,rfl⟩|⟨a,rfl⟩
 ·exact h1 ⟨z.symm,a,b⟩
 ·exact h2 ⟨z.symm,a⟩
 ·exact h3 ⟨z.symm,a⟩
theorem Jd{T:PT}{m f s L a:Str}{g:Gd}{v c:Nat}(hg:t9 T m f s=g)(h:L=a↔c=v):g.ac v c=if decide (V.str L=V.str a)=true then jF (uT T) T.2.2.2 else jF (uT T) T.2.2.1+jF (uT T) T.2.2.2:=by
 subst hg
 unfold Gd.ac
 by_cases e:L=a
 ·rw[if_pos (h.mp e).symm,if_pos (decide_eq_true (by rw[e]))];rfl
 ·rw[if_neg (λz=>e (h.mpr z.symm)),if_neg (by rw[decide_eq_false (λz=>e (V.str.inj z))];exact Bool.false_ne_true)];rfl
end GP
namespace L2
open PySem PySem.Spec PyProof.Rows
theorem yD:∀{cs:List Addr} {us:List Value},Vals (cs.map V.ref) us->us=cs.map Value.ref
 |[],_,.nil=>rfl
 |_::_,_,.cons r q=>by
  cases r
  rw[yD q]
  rfl
theorem wV{X:Cx}{K':PySem.W.Frag}(hK:X.K=K'):lA X (.builtin "isinstance") (λxs H Q=>∃(ea C:Addr) (od:Option Addr) (tp:Addr) (cs:List Addr) (b:Bool),xs=[.ref ea,.ref tp]/\H tp=some (.tup (cs.map V.ref))/\H ea=some (Ft ea (.ref C) od)/\(od=none\/∃dx fs,od=some dx/\H dx=some (yC dx fs))/\Lv K' C/\PySem.W.kitAny K' (.ref C) (cs.map Value.ref)=some b/\Q (.bl b) H):=by
 subst hK
 intro pins s σ H vs us Q I r h
 obtain⟨ea,C,od,tp,cs,b,rfl,htp,hx,hod,Z,hk,q⟩:=h
 obtain⟨u,u2,rfl,rx,rc⟩:=vals2 r
 cases (show u=Value.ref ea from rx)
 cases (show u2=Value.ref tp from rc)
 obtain⟨its,rv,⟨⟨cl,dd,da,sl⟩,e1,e2,n,e3⟩,_⟩:=I.tuple (cT.of htp)
 simp only at e2 e3
 subst e2 e3
 have hi:=yD rv
 subst hi
 rcases hod with rfl|⟨dx,fs,rfl,hd⟩
 ·obtain⟨⟨ws,sl,e⟩,_,_⟩:=(show bM X.prog X.w H s.heap ea (Ft ea (.ref C) none) from I.hok ea _ hx)
  exact TK.bO (Nat.le_refl s.toks) (PySem.W.kia_tup (sE (ox:=⟨.ref C,none,.fields ws,sl⟩) (od:=none) Z) I.nR ⟨e,rfl,rfl,trivial⟩ e1 hk (λz=>nomatch z) λtk hup=>⟨.bl b,H,I.tok tk,rfl,q⟩)
 ·obtain⟨ox,o,mA,J,hl,rA⟩:=wJ I.hok hx hd
  exact TK.bO (Nat.le_refl s.toks) (PySem.W.kia_tup (sE (ox:=ox) (od:=some o) Z) I.nR J e1 hk (λz=>nomatch z) λtk hup=>⟨.bl b,H,I.tok tk,rfl,q⟩)
theorem wW{X:Cx}{K':PySem.W.Frag}(hK:X.K=K'):lA X (.builtin "isinstance") (λxs H Q=>∃ea C od c cv b,xs=[.ref ea,c]/\((∃D,c= .ref D/\cv= .ref D)\/∃T,c= .ty T/\cv= .type T)/\H ea=some (Ft ea (.ref C) od)/\(od=none\/∃dx fs,od=some dx/\H dx=some (yC dx fs))/\Lv K' C/\PySem.W.kitOne K' (.ref C) cv=some b/\Q (.bl b) H):=by subst hK;exact yd
theorem BF{X:Cx}{K':PySem.W.Frag}{e:Expr}{f:Str}{pos:Pos}{ta:TE}(hK:X.K=K')(he:PE X e ta)(hb:attributeBase e f X.env (eval e X.env)=eval e X.env):PE X (.Attribute e f pos) (LL K' ta f):=by subst hK;exact Ku he hb
theorem Ks{X:Cx}{K':PySem.W.Frag}{e:Expr}{f:Str}{pos:Pos}{ta:TE}(hK:X.K=K')(he:PE X e ta)(hb:attributeBase e f X.env (eval e X.env)=eval e X.env):PE X (.Attribute e f pos) (QB K' ta f):=by subst hK;exact dm he hb
end L2
namespace GP
open PySem L2 xG
theorem K0{K:PySem.W.Frag}{t:Value}:PySem.W.kitAny K t []=some false:=rfl
theorem jc{K:PySem.W.Frag}{t c:Value}{r:List Value}{b:Bool}(h:PySem.W.kitOne K t c=some false)(h':PySem.W.kitAny K t r=some b):PySem.W.kitAny K t (c::r)=some b:=by
 unfold PySem.W.kitAny
 rw[h]
 exact h'
def HR(K:PySem.W.Frag)(C:Addr)(L:Lm):Sp:=λvs H Q _=>∃(pr:Addr) (T:PT) (f s m:Str),vs=[.ref pr,.str f,.str s,.str m]/\CJ K C H pr T/\LT L H/\f.cps.size<=20/\s.cps.size<=20 ∧
 ((∃i j,vn T.1 f s i j/\∀r H',ak H H'->H' r=some (.tup [.str (Str.ofString "no sign"),.int (i:Nat),.int (j:Nat)])->Q (.ref r) H') ∨
  (Of T.1 f/\Of T.1 s/\jU m=false/\(reprText m).length<=20/\∀r H',ak H H'->H' r=some (.tup [.str (Str.ofString "no manner"),.int 0,.int 1])->Q (.ref r) H'))
def wj:List Nat:=[113,120,81,88,48,55,43,126,32]
theorem KC:(Str.ofString "qxQX07+~ ").cps.toList=wj:=by kernel_rfl
def sj(sg:Str):List Nat:=wj.filter λc=>!decide (c∈sg.cps.toList)
theorem KD{sg:Str}(h:sg.cps.size<=4):5<=(sj sg).length:=by
 have nd:(wj.filter λc=>decide (c∈sg.cps.toList)).Nodup:=List.Pairwise.filter _ (show wj.Nodup by decide)
 have z:=yQ nd λc hc=>of_decide_eq_true (List.mem_filter.mp hc).2
 have e:=List.length_eq_countP_add_countP (λc=>decide (c∈sg.cps.toList)) (l:=wj)
 rw[List.countP_eq_length_filter,List.countP_eq_length_filter]at e
 have e9:wj.length=9:=rfl
 have z2:sg.cps.toList.length<=4:=by rw[Array.length_toList];exact h
 have e2:(sj sg).length=(wj.filter λa=>decide (¬decide (a∈sg.cps.toList)=true)).length:=by
  unfold sj
  congr 1
  refine List.filter_congr λc _=>?_
  by_cases q:c∈sg.cps.toList<;>simp[q]
 omega
theorem Ox{sg:Str}{c:Nat}(h:c∈sj sg):c∉sg.cps.toList:=by
 have:=(List.mem_filter.mp h).2
 simpa using this
def EG(K:PySem.W.Frag)(C:Addr)(L:Lm):Sp:=λvs H Q _=>∃(s t pr:Addr) (ns:List Int) (k:Int) (T:PT) (f g:Str),vs=[.ref s,.ref t,.ref pr,.str f,.str g]/\tE K H s t ns k/\k<=80000/\CJ K C (Wo t H) pr T/\T.1.cps.size<=4/\LT L H/\Of T.1 f/\Of T.1 g/\f.cps.size<=12/\g.cps.size<=12 ∧
 ∀H',ak (Wo t H) (Wo t H')->H' t=some (.lst [.int (k+1)])->LT L H'->Q (.bl true) H'
def HN(K:PySem.W.Frag)(C:Addr):Sp:=λvs H Q _=>∃(pr r:Addr) (T:PT) (f s m:Str),vs=[.ref pr,.str f,.str s,.str m,.ref r]/\CJ K C H pr T/\Of T.1 f/\Of T.1 s/\f.cps.size<=12/\s.cps.size<=12/\jU m=true/\xF H r T m f s/\∀H',ak H H'->Q (.bl true) H'
def yJ(P:Program)(w:World)(K:PySem.W.Frag)(L:Lm):Sp:=λvs H Q _=>∃(s t:Addr) (ns:List Int) (k:Int),vs=[.ref s,.ref t]/\tE K H s t ns k/\k<=60000/\LT L H ∧
 ∀H' k',Lo P w L (Wo t H) H'->H' t=some (.lst [.int k'])->k<=k'->k'<=k+500->Q (.bl true) H'
def zE(K:PySem.W.Frag)(L:Lm):Sp:=λvs H Q _=>∃(a:Addr) (ns:List Int),vs=[.ref a]/\cS K H a (ns.map V.int)/\ns.length<=63/\LT L H/\∀H',LT L H'->Q (.bl true) H'
theorem Lo.wo{P:Program}{w:World}{L:Lm}{H H':Hp}{t:Addr}{xs:List V}(a:Lo P w L (Wo t H) H')(ht:H' t=some (.lst xs)):Lo P w L (Wo t H) (Wo t H'):=by
 have nt:∀{b u},Wo t H b=some u->b≠t:=λ{b u} h=>Wo.ne h
 have tb:∀{Q ln lq},TabOk H' Q ln lq->TabOk (Wo t H') Q ln lq:=λ{Q ln lq} h=>by
  have n:∀{b φ},H' b=some (.ext φ)->b≠t:=λ{b φ} e z=>by rw[z,ht]at e;cases e
  rcases h with h|⟨c,h,h2⟩
  ·exact .inl (Wo.in (n h) h)
  ·exact .inr ⟨c,Wo.in (n h) h,Wo.in (n h2) h2⟩
 refine⟨λb u q=>Wo.in (nt (Nt.sub b u q)) (a.nx b u q),λd kvs q=>Wo.in (nt q) (a.nd d kvs q),⟨tb a.lt.a,tb a.lt.b,a.lt.ne⟩,λb q=>?_⟩
 by_cases z:b=t
 ·rw[z];unfold Wo;rw[if_pos rfl]
 ·refine a.dom b ?_
  unfold Wo at q
  rw[if_neg z]at q
  exact q
theorem LT.wo{L:Lm}{H:Hp}{t:Addr}{xs:List V}(h:LT L H)(ht:H t=some (.lst xs)):LT L (Wo t H):=by
 have n:∀{b φ},H b=some (.ext φ)->b≠t:=λ{b φ} e z=>by rw[z,ht]at e;cases e
 have tb:∀{Q ln lq},TabOk H Q ln lq->TabOk (Wo t H) Q ln lq:=λ{Q ln lq} h=>by
  rcases h with h|⟨c,h,h2⟩
  ·exact .inl (Wo.in (n h) h)
  ·exact .inr ⟨c,Wo.in (n h) h,Wo.in (n h2) h2⟩
 exact⟨tb h.a,tb h.b,h.ne⟩
theorem Lo.XF{P:Program}{w:World}{L:Lm}{K:PySem.W.Frag}{H H':Hp}{s t:Addr}{ns:List Int}{k k':Int}(a:Lo P w L (Wo t H) H')(c:tE K H s t ns k)(ht:H' t=some (.lst [.int k']))(h0:0<=k'):tE K H' s t ns k':=⟨(a.wo ht).seq c.sq,c.len,ht,h0⟩
theorem Lo.cut{P:Program}{w:World}{L:Lm}{H H1:Hp}{t:Addr}{xs:List V}(a:Lo P w L H H1)(h:LT L H)(ht:H t=some (.lst xs)):Lo P w L (Wo t H) H1:=(Lo.of (h.wo ht) Wo.sub).trans a
theorem LT.step{L:Lm}{H H':Hp}{t:Addr}{xs:List V}(h:LT L H)(ht:H t=some (.lst xs))(e:ak (Wo t H) (Wo t H')):LT L H':=((h.wo ht).same e).same Wo.sub
theorem xF.same{H H':Hp}{r:Addr}{T:PT}{m f s:Str}(h:xF H r T m f s)(e:ak H H'):xF H' r T m f s:=by
 obtain⟨b,c,p,h1,h2,h3,h4⟩:=h
 exact⟨b,c,p,h1,e _ _ h2,e _ _ h3,e _ _ h4⟩
theorem Lo.ch{P:Program}{w:World}{L:Lm}{H H':Hp}{r:Addr}{T:PT}{m f s:Str}(e:Lo P w L H H')(h:xF H r T m f s):xF H' r T m f s:=by
 obtain⟨b,c,p,h1,h2,h3,h4⟩:=h
 exact⟨b,c,p,h1,e.tup h2,e.tup h3,e.tup h4⟩
theorem xF.eq{K:PySem.W.Frag}{H:Hp}{r r':Addr}{T:PT}{m f s:Str}(h:xF H r T m f s)(h':xF H r' T m f s):xE K H 2 (.ref r) (.ref r'):=by
 obtain⟨b,c,p,h1,h2,h3,h4⟩:=h
 obtain⟨b',c',p',k1,k2,k3,k4⟩:=h'
 obtain rfl:=Option.some.inj (h1.symm.trans k1)
 exact xE.of (cT.of h2) (cT.of k2) (by show 3<=100;decide) (.cons (xE.of (cT.of h3) (cT.of k3) (by show 2<=100;decide) (.cons .int (.cons .int .nil))) (.cons (xE.of (cT.of h4) (cT.of k4) (by show 2<=100;decide) (.cons .int (.cons .int .nil))) (.cons .str .nil)))
def rB(f:Str)(k:Int)(c:Nat)(bh:Str):Str:=((Txt.slice f none (some k)++(⟨#[c]⟩:Str))++Txt.slice f (some k) none)++bh
theorem yW{f bh:Str}{k:Int}{c:Nat}(h0:0<=k)(h1:k<=(f.cps.size:Int)):(rB f k c bh).cps.size=f.cps.size+1+bh.cps.size:=by
 unfold rB
 rw[←Array.length_toList,lU,List.length_append,Array.length_toList,Array.length_toList,Ff h0 h1]
theorem B5{sg f bh:Str}{k:Int}{c:Nat}(h0:0<=k)(h1:k<=(f.cps.size:Int))(of:Of sg f)(hc:c∉sg.cps.toList):
  (∃d,(rB f k c bh).cps[k.toNat]? =some d/\d∉sg.cps.toList)/\∀j d,j<k.toNat->(rB f k c bh).cps[j]? =some d->d∈sg.cps.toList:=by
 obtain⟨⟨d,hd,hn⟩,h⟩:=GQ (b:=f) h0 h1 of hc
 have z:=Ff (c:=c) h0 h1
 have e:∀j,j<f.cps.size+1->(rB f k c bh).cps[j]? =((Txt.slice f none (some k)++(⟨#[c]⟩:Str))++Txt.slice f (some k) none).cps[j]? :=λj hj=>by
  unfold rB
  rw[←Array.getElem?_toList,←Array.getElem?_toList,lU,List.getElem?_append_left (by rw[Array.length_toList,z];exact hj)]
 refine⟨⟨d,by rw[e _ (by omega)];exact hd,hn⟩,λj d' hj hd'=>h j d' hj ?_⟩
 rw[e j (by omega)]at hd'
 exact hd'
end GP
set_option Elab.async false
set_option linter.all false
set_option maxRecDepth 100000
set_option maxHeartbeats 4000000
seal PySem.wpAny
namespace S4
open PySem L2 xG GP
def top(i:Nat):Stmt:=PySem.Challenge.pw_gapweave_k20_cheapest_told.main.body.getD i (.Pass ⟨0,0,0,0⟩)
abbrev qF(K:PySem.W.Frag):Lm:=⟨d8 K "first_begin",⟨209,34,209,65⟩,(("first_begin" :Str)++ ".<locals>.")++ "<lambda>",d8 K "state_behind",⟨211,40,211,77⟩,(("state_behind" :Str)++ ".<locals>.")++ "<lambda>"⟩
theorem kG{N P:List Str}{sc:Scope}(a:sc.kind=.function:=by rfl)(b:sc.isCoroutine=false:=by rfl)(c:sc.isGenerator=false:=by rfl)(d:N.Nodup:=by decide +kernel)(e:N.take P.length=P:=by rfl)(f:∀x∈P,sc.names.lookup x=some .local\/sc.names.lookup x=some .cell:=by decide +kernel)(g:∀y∈sc.names,y.2≠.free:=by decide +kernel):aH N P sc:=⟨a,b,c,d,e,f,g⟩
abbrev bW:Stmt:=inClass (top 10) 0
theorem qR:aH ["self","row","place"] ["self","row","place"] (ay bW):=kG
abbrev cU:Stmt:=top 14
theorem fG:aH ["one","other","rest"] ["one","other"] (ay cU):=kG
abbrev rS:Stmt:=top 15
theorem yM:aH ["fraction","divisor"] ["fraction"] (ay rS):=kG
abbrev qf:Stmt:=top 20
theorem vL:aH ["sign","number"] ["sign"] (ay qf):=kG
abbrev mZ:Stmt:=top 21
theorem zL:aH ["text"] ["text"] (ay mZ):=kG
abbrev kR:Stmt:=top 22
theorem vN:aH ["signs"] ["signs"] (ay kR):=kG
abbrev jh:Stmt:=top 23
theorem nJ:aH ["signs","pairs","row"] ["signs","pairs"] (ay jh):=kG
abbrev ig:Stmt:=top 24
theorem uN:aH ["price"] ["price"] (ay ig):=kG
abbrev jf:Stmt:=top 25
theorem tL:aH ["row"] ["row"] (ay jf):=kG
abbrev lS:Stmt:=top 26
theorem nu:aH ["pairs","opening","more","unders","row"] ["pairs","opening","more"] (ay lS):=kG
abbrev jJ:Stmt:=top 27
theorem eN:aH ["unders","factors","unit","under","factor"] ["unders"] (ay jJ):=kG
abbrev lM:Stmt:=top 28
theorem kI:aH ["factors","product","factor"] ["factors"] (ay lM):=kG
abbrev nK:Stmt:=top 29
theorem Dw:aH ["price","unit"] ["price","unit"] (ay nK):=kG
abbrev iH:Stmt:=top 30
theorem c7:aH ["signs","pairs","unit","costs","one","row","other","price"] ["signs","pairs","unit"] (ay iH):=kG
abbrev bV:Stmt:=inClass (top 31) 0
theorem qQ:aH ["self","signs","pairs","opening","more"] ["self","signs","pairs","opening","more"] (ay bV):=kG
abbrev kY:Stmt:=top 32
theorem zI:aH ["prices","one","other"] ["prices","one","other"] (ay kY):=kG
abbrev ie:Stmt:=top 33
theorem uM:aH ["prices"] ["prices"] (ay ie):=kG
abbrev kZ:Stmt:=top 34
theorem zJ:aH ["prices"] ["prices"] (ay kZ):=kG
abbrev mw:Stmt:=top 35
theorem ia:aH ["prices","number","over","under","factor","divisor"] ["prices","number"] (ay mw):=kG
abbrev kT:Stmt:=top 38
theorem ic:aH ["known","rows","number","row","place","sign"] ["known","rows"] (ay kT):=kG
abbrev lQ:Stmt:=top 39
theorem xO:aH ["prices","rows"] ["prices","rows"] (ay lQ):=kG
abbrev jL:Stmt:=top 40
theorem uO:aH ["manner"] ["manner"] (ay jL):=kG
abbrev lR:Stmt:=top 41
theorem xP:aH ["prices","move","came"] ["prices","move","came"] (ay lR):=kG
abbrev mS:Stmt:=top 42
theorem zK:aH ["manner","place"] ["manner","place"] (ay mS):=kG
abbrev qb:Stmt:=top 43
theorem Dt:aH ["manner","first","second","place"] ["manner","first","second","place"] (ay qb):=kG
abbrev lT:Stmt:=top 46
theorem kJ:aH ["first","second","places","i","j"] ["first","second"] (ay lT):=kG
abbrev lK:Stmt:=top 47
theorem kH:aH ["prices","first","second","place","came","i","j","steps"] ["prices","first","second","place","came"] (ay lK):=kG
abbrev m5:Stmt:=top 48
theorem lJ:aH ["prices","first","second","places","steps","place","came"] ["prices","first","second","places"] (ay m5):=kG
abbrev n8:Stmt:=top 49
theorem o5:aH ["first","second","places","manner","ends","place"] ["first","second","places","manner"] (ay n8):=kG
abbrev bX:Stmt:=inClass (top 50) 0
theorem mq:aH ["self","prices","first","second","manner","places"] ["self","prices","first","second","manner"] (ay bX):=kG
abbrev kK:Stmt:=top 51
theorem jG:aH ["ground","rests","state","costs"] ["ground"] (ay kK):=kG
abbrev lP:Stmt:=top 52
theorem xN:aH ["ground","rests","state"] ["ground","rests","state"] (ay lP):=kG
abbrev kQ:Stmt:=top 53
theorem vM:aH ["ground","rests"] ["ground","rests"] (ay kQ):=kG
abbrev jK:Stmt:=top 54
theorem uL:aH ["ground","rests","state"] ["ground","rests","state"] (ay jK):=kG
abbrev kP:Stmt:=top 55
theorem jI:aH ["ground","rests","begin","state","moves"] ["ground","rests","begin"] (ay kP):=kG
abbrev mz:Stmt:=top 56
theorem mR:aH ["prices","first","second","manner","ground","rests","begin"] ["prices","first","second","manner"] (ay mz):=kG
abbrev dZ:Stmt:=top 58
theorem o4:aH ["_law_script","_law_at","_law_cell","_law_m"] ["_law_script","_law_at"] (ay dZ):=kG
abbrev mY:Stmt:=top 59
theorem nX:aH ["_law_script","_law_at","_law_m","_law_cell"] ["_law_script","_law_at"] (ay mY):=kG
abbrev mU:Stmt:=top 60
theorem jH:aH ["_law_script","_law_at","_law_many","_law_every","_law_m","_law_step"] ["_law_script","_law_at","_law_many"] (ay mU):=kG
abbrev mW:Stmt:=top 61
theorem rQ:aH ["_law_script","_law_at","_law_sort","_law_m"] ["_law_script","_law_at","_law_sort"] (ay mW):=kG
abbrev mT:Stmt:=top 62
theorem dB:aH ["_law_script","_law_at","_law_many","_law_m","_law_sort","_law_signs_here","_law_pairs","_law_k","_law_j","_law_opening","_law_more"] ["_law_script","_law_at","_law_many"] (ay mT):=kG
abbrev lN:Stmt:=top 63
theorem jb:aH ["_law_script","_law_at","_law_signs_here","_law_pairs","_law_opening","_law_more"] ["_law_script","_law_at"] (ay lN):=kG
abbrev qc:Stmt:=top 64
theorem jj:aH ["_law_script","_law_at","_law_signs_here","_law_most","_law_m","_law_sort","_law_row_here","_law_k"] ["_law_script","_law_at","_law_signs_here","_law_most"] (ay qc):=kG
abbrev lO:Stmt:=top 65
theorem xM:aH ["_law_m"] ["_law_m"] (ay lO):=kG
abbrev jk:Stmt:=top 66
theorem ur:aH ["_law_found","_law_due"] ["_law_found","_law_due"] (ay jk):=kG
abbrev qe:Stmt:=top 67
theorem Du:aH ["_law_prices_here","_law_goes_on"] ["_law_prices_here","_law_goes_on"] (ay qe):=kG
abbrev nY:Stmt:=top 68
theorem cy:aH ["_law_prices_here","_law_first","_law_second","_law_begin","_law_moves","_law_i","_law_j","_law_total","_law_last","_law_move"] ["_law_prices_here","_law_first","_law_second","_law_begin","_law_moves"] (ay nY):=kG
abbrev jg:Stmt:=top 69
theorem tM:aH ["_law_manner_here","_law_i","_law_j"] ["_law_manner_here","_law_i","_law_j"] (ay jg):=kG
abbrev kO:Stmt:=top 70
theorem vK:aH ["_law_manner_here","_law_first","_law_second","_law_i","_law_j"] ["_law_manner_here","_law_first","_law_second","_law_i","_law_j"] (ay kO):=kG
abbrev k6:Stmt:=top 71
theorem gq:aH ["_law_prices_here","_law_first","_law_second","_law_manner_here","_law_told","_law_other","e"] ["_law_prices_here","_law_first","_law_second","_law_manner_here"] (ay k6):=kG
abbrev kL:Stmt:=top 72
theorem bF:aH ["_law_script","_law_at","_law_prices_here","_law_first","_law_second","_law_m","_law_others","_law_other","_law_behind","_law_rows","_law_spots","_law_due","_law_k","_law_row_here","_law_spot","_law_word"] ["_law_script","_law_at","_law_prices_here","_law_first","_law_second"] (ay kL):=kG
abbrev nZ:Stmt:=top 73
theorem jo:aH ["_law_prices_here","_law_first","_law_second","_law_manner_here","_law_told","_law_i","_law_j","_law_walked","_law_down","_law_along"] ["_law_prices_here","_law_first","_law_second","_law_manner_here","_law_told"] (ay nZ):=kG
abbrev mV:Stmt:=top 74
theorem gp:aH ["_law_script","_law_at","_law_prices_here","_law_first","_law_second","_law_manner_here","_law_told","_law_word"] ["_law_script","_law_at"] (ay mV):=kG
abbrev qv:Stmt:=top 75
theorem Dv:aH ["_law_script","_law_at","_law_k"] ["_law_script"] (ay qv):=kG
abbrev l5:List Str:=["_law_script","_law_at"]
abbrev l6:List Str:=["prices"]
abbrev l7:List Str:=["_law_found","_law_due"]
abbrev l8:List Str:=["price"]
abbrev l9:List Str:=["ground","rests","state"]
abbrev JK:List Str:=["_law_script","_law_at","_law_many"]
abbrev KW:List Str:=["one","other"]
abbrev L7:List Str:=["prices","first","second","manner"]
abbrev OP:List Str:=["price","unit"]
abbrev OO:List Str:=["prices","one","other"]
abbrev ON:List Str:=["prices","number"]
abbrev OM:List Str:=["_law_prices_here","_law_first","_law_second","_law_manner_here"]
abbrev PZ:List Str:=["self","signs","pairs","opening","more"]
abbrev PY:List Str:=["self","row","place"]
abbrev PX:List Str:=["self","prices","first","second","manner"]
abbrev PV:List Str:=["_law_script"]
abbrev RJ:List Str:=["fraction"]
abbrev RI:List Str:=["pairs","opening","more"]
abbrev RH:List Str:=["signs","pairs"]
abbrev RG:List Str:=["signs","pairs","unit"]
abbrev RE:List Str:=["known","rows"]
abbrev RD:List Str:=["prices","rows"]
abbrev RC:List Str:=["prices","move","came"]
abbrev RB:List Str:=["manner","place"]
abbrev RA:List Str:=["manner","first","second","place"]
abbrev Rz:List Str:=["first","second"]
abbrev Ry:List Str:=["prices","first","second","place","came"]
abbrev Rx:List Str:=["prices","first","second","places"]
abbrev Rw:List Str:=["first","second","places","manner"]
abbrev Rv:List Str:=["ground","rests"]
abbrev Ru:List Str:=["ground","rests","begin"]
abbrev Rt:List Str:=["_law_script","_law_at","_law_sort"]
abbrev Rr:List Str:=["_law_script","_law_at","_law_signs_here","_law_most"]
abbrev Rq:List Str:=["_law_prices_here","_law_goes_on"]
abbrev Rp:List Str:=["_law_manner_here","_law_i","_law_j"]
abbrev Ro:List Str:=["_law_manner_here","_law_first","_law_second","_law_i","_law_j"]
abbrev Rn:List Str:=["_law_prices_here","_law_first","_law_second","_law_begin","_law_moves"]
abbrev Rm:List Str:=["_law_script","_law_at","_law_prices_here","_law_first","_law_second"]
abbrev Rl:List Str:=["_law_prices_here","_law_first","_law_second","_law_manner_here","_law_told"]
abbrev Wq:List Str:=["behind","cost","rests"]
abbrev Yv:List Str:=["_law_k","_law_every","_law_m","_law_step"]
abbrev Yu:List Str:=["_law_j","_law_script","_law_at","_law_many","_law_sort"]
abbrev Yt:List Str:=["_law_k","_law_script","_law_at","_law_sort"]
structure Pm where
 lG:Tok
 mQ:Tok
 jm:Addr
 kB:Addr
 oJ:Addr
 aq:Addr
 aV:Addr
 cL:Addr
 az:Addr
 aD:Addr
 f6:Addr
 eK:Addr
 iG:Addr
 iF:Addr
 fZ:Addr
 eG:Addr
 jZ:Addr
 iE:Addr
 iD:Addr
structure Txt(K:PySem.W.Frag)(mg:Str->Option Value)(p:Pm)(base:Heap):Prop where
 Qp:mg "abs" =none
 cN:mg "len" =none
 z_ord:mg "ord" =none
 Qo:mg "set" =none
 mP:mg "tuple" =none
 Hi:mg "zip" =none
 um:mg "enumerate" =none
 kD:mg "range" =none
 bf:mg "isinstance" =none
 AW:mg "int" =none
 Hl:mg "bool" =none
 LD:mg "all" =none
 vt:mg "list" =none
 AV:mg "str" =none
 Hj:mg "min" =none
 C8:mg "reversed" =none
 Ai:mg "FIRST_SIGN" =some (.int 32 p.lG)
 Cc:mg "LAST_SIGN" =some (.int 126 p.mQ)
 Ea:mg "NO_SIGNS" =some (.ref p.jm)
 DB:∀H:Hp,cT K H p.jm [.int 34,.int 37,.int 45]
 GC:mg "MANNERS" =some (.ref p.kB)
 FZ:∀H:Hp,cT K H p.kB [.str (Str.ofString "whole"),.str (Str.ofString "within"),.str (Str.ofString "over"),.str (Str.ofString "stretch")]
 Pb:mg "CAME" =some (.ref p.oJ)
 HZ:∀H:Hp,cT K H p.oJ [.str (Str.ofString "p"),.str (Str.ofString "a"),.str (Str.ofString "b")]
 Gf:mg "Prices" =some (.ref p.aq)
 bz:LC K p.aq
 fM:bL K p.aq "signs"
 mE:bL K p.aq "pairs"
 j7:bL K p.aq "opening"
 nD:bL K p.aq "more"
 j8:bL K p.aq "factors"
 kW:bL K p.aq "unit"
 pA:bL K p.aq "costs"
 jR:bL K p.aq "opening_units"
 lD:bL K p.aq "more_units"
 Gk:mg "Ground" =some (.ref p.aV)
 i8:LC K p.aV
 jS:bL K p.aV "steps"
 oO:bL K p.aV "begins"
 nE:bL K p.aV "ends"
 qB:mg "WeaveError" =some (.ref p.cL)
 uw:mg "NoManner" =some (.ref p.az)
 AY:JA K p.az
 AZ:XB K p.az
 uo:Lv K p.az
 tV:mg "NoSign" =some (.ref p.aD)
 FL:XB K p.aD
 yy:Lv K p.aD
 DY:mg "NoBlock" =some (.ref p.f6)
 BX:mg "NoLaying" =some (.ref p.eK)
 Gj:mg "NoMost" =some (.ref p.iG)
 Gi:mg "NoNote" =some (.ref p.iF)
 DX:mg "NoPlace" =some (.ref p.fZ)
 BW:mg "NoPrices" =some (.ref p.eG)
 IC:mg "NoRow" =some (.ref p.jZ)
 Gh:mg "NoText" =some (.ref p.iE)
 Gg:mg "NoTree" =some (.ref p.iD)
 yz:SJ K p.aD
 FJ:∃f,FG K p.aD f
 sC:bL K p.aD "row"
 pB:bL K p.aD "place"
 xH:XBase K p.cL
 tY:PySem.W.subIn K (.ref p.aD) (.ref p.aD)=some true
 qZ:PySem.W.subIn K (.ref p.az) (.ref p.aD)=some false
 pI:PySem.W.subIn K (.ref p.az) (.ref p.az)=some true
 qt:PySem.W.kitOne K (.ref p.az) (.ref p.f6)=some false
 pK:PySem.W.kitOne K (.ref p.az) (.ref p.eK)=some false
 rq:PySem.W.kitOne K (.ref p.az) (.ref p.iG)=some false
 rm:PySem.W.kitOne K (.ref p.az) (.ref p.iF)=some false
 qp:PySem.W.kitOne K (.ref p.az) (.ref p.fZ)=some false
 pJ:PySem.W.kitOne K (.ref p.az) (.ref p.eG)=some false
 sJ:PySem.W.kitOne K (.ref p.az) (.ref p.jZ)=some false
 q9:PySem.W.kitOne K (.ref p.az) (.ref p.iE)=some false
 q8:PySem.W.kitOne K (.ref p.az) (.ref p.iD)=some false
 rj:PySem.W.kitOne K (.ref p.az) (.ref p.aD)=some false
 om:PySem.W.kitOne K (.ref p.az) (.ref p.cL)=some true
 bm:Mx base mg
 wG:oR K "first_begin" =true
 wF:∀f,mg "first_begin" =some (.ref f)->PySem.W.nsIn K mainGlobals "first_begin" =some (some (.ref f))
 uW:oR K "state_behind" =true
 uV:∀f,mg "state_behind" =some (.ref f)->PySem.W.nsIn K mainGlobals "state_behind" =some (some (.ref f))
theorem Pw:bootBuiltins "abs" =some (.builtin "abs"):=by decide +kernel
theorem bG:bootBuiltins "len" =some (.builtin "len"):=by decide +kernel
theorem Pu:bootBuiltins "ord" =some (.builtin "ord"):=by decide +kernel
theorem Po:bootBuiltins "set" =some (.type "set"):=by decide +kernel
theorem k9:bootBuiltins "tuple" =some (.type "tuple"):=by decide +kernel
theorem aT:bootBuiltins "isinstance" =some (.builtin "isinstance"):=by decide +kernel
theorem wY:bootBuiltins "int" =some (.type "int"):=by decide +kernel
theorem FA:bootBuiltins "bool" =some (.type "bool"):=by decide +kernel
theorem Jx:bootBuiltins "all" =some (.builtin "all"):=by decide +kernel
theorem sQ:bootBuiltins "list" =some (.type "list"):=by decide +kernel
theorem wX:bootBuiltins "str" =some (.type "str"):=by decide +kernel
theorem Em:bootBuiltins "min" =some (.builtin "min"):=by decide +kernel
section
variable{P:Program}{w:World}{K:PySem.W.Frag}{mg:Str->Option Value}{base:Heap}
theorem qm {bu:Addr} {aZ:FuncData} {p:Pm} (T:Txt K mg p base) (aI:Dn K mg "greatest_divisor" cU KW bu aZ)  :aK P w K mg base cD 1 bu aZ KW EM:=by
 refine aI.fn.ok fG (λvs H Q E h=>?_) (λcdv A outer s H vs Q E hr h=>?_)
 ·obtain⟨a,b,rfl,_⟩:=h
  rfl
 ·obtain⟨a,b,rfl,hb,k⟩:=h
  refine⟨_,(aj (BC PassesOwn.never (aP rY (pv 1) ai (aL _)) (aj (aG (i:=2) fG.nd rfl (Or.inl rfl) (aE bQ (pv 0) (pv 1)))
   (aj (aG (i:=0) fG.nd rfl (Or.inl rfl) (pv 1))
   (ao (aG (i:=1) fG.nd rfl (Or.inl rfl) (pv 2))))))
   (ao (aJ (aC (Ju) rfl T.Qp Pw (aa (pv 0) af))))),?_⟩
  refine⟨λm σ H'=>H'=H/\∃(x y:Int) (r:Option V),σ=[some (.int x),some (.int y),r]/\0<=y/\Int.gcd x y=Int.gcd a b/\m=y.toNat,⟨b.toNat,rfl,a,b,none,rfl,hb,rfl,rfl⟩,?_⟩
  rintro m σ H' ⟨rfl,x,y,r,rfl,hy,hg,rfl⟩
  refine⟨_,rfl,rfl,_,rfl,?_⟩
  refine rz (λh0=>?_) (λh0=>?_)
  ·have l1:=Int.emod_nonneg x h0
   have l2:=Int.emod_lt_of_pos x (show 0<y by omega)
   refine⟨λσ' Mw=>Mw=H'/\∃r,σ'=[some (.int y),some (.int (x % y)),r],?_,?_⟩
   ·rintro σ' Mw ⟨rfl,r,rfl⟩
    exact⟨(x % y).toNat,by omega,rfl,y,x % y,r,rfl,l1,(Jc x y).trans hg,rfl⟩
   ·exact⟨_,rfl,_,rfl,_,_,rfl,rfl,(by show 0<y;omega),_,rfl,_,rfl,rfl,_,rfl⟩
  ·subst h0
   refine⟨_,rfl,_,rfl,?_⟩
   rw[Lg,hg]
   exact k
theorem F2 {nP bu:Addr} {lW aZ:FuncData} {p:Pm} (T:Txt K mg p base) (lz:Dn K mg "lowest" rS RJ nP lW) (aI:Dn K mg "greatest_divisor" cU KW bu aZ) (eF:aK P w K mg base cD 1 bu aZ KW EM):aK P w K mg base cD 2 nP lW RJ (LP K):=by
 refine lz.fn.ok yM (λvs H Q E h=>?_) (λcdv A outer s H vs Q E hr h=>?_)
 ·obtain⟨p,f,rfl,_⟩:=h
  rfl
 ·obtain⟨p,⟨a,b⟩,rfl,hS,hb,hb2,k⟩:=h
  have hb0:0<b:=hb
  have g1:=oA a hb0
  have g2:=D9 a hb0
  have hb':b<1073741824:=hb2
  refine⟨_,(aj (aG (i:=1) yM.nd rfl (Or.inl rfl) (aA eF (hr.mono (by decide)) rfl aI.m aI.fn.kp aI.b .nil aR (aa (bw bR (pv 0) ai (λ_ _=>rfl)) (aa (bw bR (pv 0) ai (λ_ _=>rfl)) af))))
   (ao (aJ (bP (aa (aE cE (bw bR (pv 0) ai (λ_ _=>rfl)) (pv 1)) (aa (aE cE (bw bR (pv 0) ai (λ_ _=>rfl)) (pv 1)) af)))))),?_⟩
  refine⟨_,rfl,_,_,_,_,rfl,rfl,hS,rfl,_,rfl,_,_,_,_,rfl,rfl,hS,rfl,a,b,rfl,Int.le_of_lt hb,?_⟩
  refine⟨_,rfl,_,_,_,_,rfl,rfl,hS,rfl,_,rfl,_,_,rfl,rfl,⟨g1,by omega⟩,_,rfl,_,_,_,_,rfl,rfl,hS,rfl,_,rfl,_,_,rfl,rfl,⟨g1,by omega⟩,?_⟩
  exact⟨by show 2<=sizeLine;decide,λq hq=>k q hq⟩
theorem uS {cI nP:Addr} {cj lW:FuncData} {p:Pm} (T:Txt K mg p base) (bx:Dn K mg "lowest_price" ig l8 cI cj) (lz:Dn K mg "lowest" rS RJ nP lW) (JE:aK P w K mg base cD 2 nP lW RJ (LP K)):aK P w K mg base cD 3 cI cj l8 (qP K):=by
 refine bx.fn.ok uN (λvs H Q E h=>?_) (λcdv A outer s H vs Q E hr h=>?_)
 ·obtain⟨p,f,rfl,_⟩:=h
  rfl
 ·obtain⟨p,f,rfl,hS,⟨h1,h2⟩,k⟩:=h
  refine⟨_,(aj (bJ (aP rZ (bw bR (pv 0) ai (λ_ _=>rfl)) ai (aL _)) iI aU)
   (ao (aJ (aA JE (hr.mono (by decide)) rfl lz.m lz.fn.kp lz.b .nil aR (aa (pv 0) af))))),?_⟩
  refine⟨_,rfl,_,_,_,_,rfl,rfl,hS,rfl,_,_,rfl,rfl,_,rfl,?_⟩
  refine fJ (λz=>absurd z (by omega)) λ_=>?_
  exact⟨_,rfl,p,f,rfl,hS,by omega,h2,k⟩
theorem tQ {eW cI:Addr} {dU cj:FuncData} {p:Pm} (T:Txt K mg p base) (cO:Dn K mg "lowest_prices" jf ["row"] eW dU) (bx:Dn K mg "lowest_price" ig l8 cI cj) (jX:aK P w K mg base cD 3 cI cj l8 (qP K)):aK P w K mg base cD 4 eW dU ["row"] (uq K):=by
 refine cO.fn.ok tL (λvs H Q E h=>?_) (λcdv A outer s H vs Q E hr h=>?_)
 ·obtain⟨c,fs,rfl,_⟩:=h
  rfl
 ·obtain⟨c,fs,rfl,⟨ps,hc,hp⟩,ho,hz,k⟩:=h
  have hl:=Paired.len hp
  refine⟨_,(ao (aJ (j6 (qJ) rfl T.mP k9 (aa (oj (N:=l8) rfl (λ_=>⟨[],c6.plain (by decide +kernel) rfl (by decide +kernel) (by decide +kernel)⟩) (BE (pv 0)) (λ_ _ _ _ _ _ _=>(aS (i:=0) (show(l8:List Str).Nodup by decide +kernel) rfl (Or.inl rfl))) (λ_ _ _ _ _ _ _=>(aA jX (hr.mono (by decide)) rfl bx.m bx.fn.kp bx.b .nil aR (aa (pv 0) af)))) af)))),?_⟩
  refine⟨_,rfl,c,_,rfl,hc,λl Sb=>?_⟩
  refine⟨λi m ys H2=>m=fs.length-i/\i<=fs.length/\ak H H2/\H2 l=some (.lst ys)/\∃qs:List Addr,ys=qs.map V.ref/\qs.length=i/\Paired (λq f=>H2 q=some (.tup [.int f.1,.int f.2])) qs ((fs.map j0).take i),⟨fs.length,rfl,Nat.zero_le _,ak.upd Sb,ah,[],rfl,rfl,.nil⟩,?_⟩
  rintro i m ys H2 ⟨rfl,hi,s2,hl2,qs,rfl,hq,hP⟩
  have zc:c.at K H2 (ps.map V.ref):=ak.cp s2 hc
  by_cases hlt:i<fs.length
  ·have YI:i<ps.length:=by omega
   have e1:(ps.map V.ref)[i]? =some (.ref ps[i]):=by rw[List.getElem?_map,List.getElem?_eq_getElem YI];rfl
   refine .inr ⟨⟨_,_,zc,e1⟩,?_⟩
   rintro x H3 ⟨rfl,hx⟩
   have ex:=hx _ zc
   rw[e1]at ex
   cases ex
   obtain⟨f,ef,hf⟩:=Paired.at hp (List.getElem?_eq_getElem YI)
   refine⟨Kp.rep _ _,?_⟩
   refine⟨_,rfl,ps[i],f,rfl,hf.same s2,ho f (List.mem_of_getElem? ef),λq hqn=>?_⟩
   have Tp:q≠l:=λz=>by rw[z,hl2]at hqn;cases hqn
   refine⟨by rw[au (Ne.symm Tp)];exact hl2,?_,fs.length-(i+1),by omega,rfl,hlt,ak.at (s2.trans (ak.upd hqn)) Sb,ah,qs++[q],by rw[List.map_append];rfl,by rw[List.length_append,hq];rfl,?_⟩
   ·rw[List.length_map,hq]
    exact Nat.lt_of_lt_of_le hlt (Nat.le_trans hz (by decide))
   ·rw[qD ef]
    refine GP.Paired.snoc (Paired.iK hP λa b z=>?_) ?_
    ·have n1:a≠q:=aM z hqn
     have n2:a≠l:=pq z hl2 (by intro z;cases z)
     rw[au n2,au n1]
     exact z
    ·rw[au Tp]
     exact ah
  ·have ei:i=fs.length:=by omega
   subst ei
   refine .inl ⟨⟨_,zc,by rw[List.length_map];omega⟩,?_⟩
   refine⟨l,_,rfl,.inl ⟨cS.of hl2,λq hqn=>?_⟩⟩
   refine k q _ (s2.trans (ak.upd hqn)) (ak.free s2 hqn) ⟨qs,cT.of ah,?_⟩
   rw[List.take_of_length_le (by rw[List.length_map];exact Nat.le_refl _)]at hP
   exact Paired.iK hP λa b z=>cT.of (by rw[au (aM z hqn)];exact z)
theorem xX {i6:Addr} {gJ:FuncData} {p:Pm} (T:Txt K mg p base) (fD:Dn K mg "all_unders" lS RI i6 gJ)  :aK P w K mg base cD 1 i6 gJ RI (Bd K):=by
 refine fD.fn.ok nu (λvs H Q E h=>?_) (λcdv A outer s H vs Q E hr h=>?_)
 ·obtain⟨Pp,o,m,rows,fo,fm,rfl,_⟩:=h
  rfl
 ·obtain⟨Pp,o,m,rows,fo,fm,rfl,⟨cs,hc,hp⟩,hfo,hfm,aak,O0,k⟩:=h
  refine⟨_,(aj (aG (i:=3) nu.nd rfl (Or.inl rfl) (jO (aa (bw bR (pv 1) ai (λ_ _=>rfl)) (aa (bw bR (pv 2) ai (λ_ _=>rfl)) af))))
   (aj (fF PassesOwn.never rfl (BE (pv 0)) (aS (i:=4) nu.nd rfl (Or.inl rfl)) (ao (g6 (qz PySem.F.plainAttrs_list PySem.F.slot_list_extend PySem.F.type_list_extend Ga (pv 3) (aa (oj (N:=l8) rfl (λ_=>⟨[],c6.plain (by decide +kernel) rfl (by decide +kernel) (by decide +kernel)⟩) (BE (pv 4)) (λ_ _ _ _ _ _ _=>(aS (i:=0) (show(l8:List Str).Nodup by decide +kernel) rfl (Or.inl rfl))) (λ_ _ _ _ _ _ _=>(bw (K2 (K':=K) rfl) (pv 0) ai (λ_ _=>rfl)))) af)))))
   (ao (aJ (pv 3))))),?_⟩
  refine⟨_,rfl,_,_,_,_,rfl,rfl,hfo,rfl,_,rfl,_,_,_,_,rfl,rfl,hfm,rfl,(by show 2<=sizeLine;decide),λl hl=>?_⟩
  have Xw:∀i,((rows.take i).flatten.map (·.2)).length<=12*12:=λi=>by
   have:∀(q:List (List cG)),(∀r∈q,r.length<=12)->q.flatten.length<=12*q.length:=λq=>by
    induction q with
    |nil=>intro _;simp
    |cons r q ih =>
     intro h
     have a:=h r List.mem_cons_self
     have b:=ih λr' hr=>h r' (List.mem_cons_of_mem _ hr)
     rw[List.flatten_cons,List.length_append,List.length_cons]
     omega
   have a:=this (rows.take i) λr hr=>O0 r (List.mem_of_mem_take hr)
   have b:(rows.take i).length<=12:=by rw[List.length_take];omega
   rw[List.length_map]
   omega
  refine⟨_,rfl,.tup Pp,_,rfl,ak.cp (ak.upd hl) (c:=.tup Pp) hc,Jf (K:=K) (c:=.tup Pp) (xs:=cs.map Cp.val) (λi σ H2=>∃v4,σ=[some (.ref Pp),some (.ref o),some (.ref m),some (.ref l),v4]/\ak H H2/\H2 l=some (.lst ((fo.2::fm.2::(rows.take i).flatten.map (·.2)).map V.int)))
   ⟨_,rfl,ak.upd hl,ah⟩ (λi σ H2 _ ⟨_,_,s2,_⟩=>ak.cp s2 hc) ?_ ?_⟩
  ·rintro i x σ H2 hx ⟨v4,rfl,s2,hl2⟩
   obtain⟨c,ec,rfl⟩:=mF hx
   obtain⟨row,er,⟨ps,hc2,hp2⟩⟩:=Paired.at hp ec
   have Si:=ak.cp s2 hc2
   refine⟨_,rfl,.inl ⟨rfl,_,cS.of hl2⟩,?_⟩
   refine⟨_,rfl,c,_,rfl,Si,λlx hlx=>?_⟩
   refine⟨λj m' ys H3=>m'=row.length-j/\j<=row.length/\ak H2 H3/\H3 lx=some (.lst ys)/\ys=((row.take j).map (·.2)).map V.int,⟨row.length,rfl,Nat.zero_le _,ak.upd hlx,ah,rfl⟩,?_⟩
   rintro j m' ys H3 ⟨rfl,hj,s3,O3,rfl⟩
   have zr:=ak.cp s3 Si
   by_cases TR:j<row.length
   ·have YH:j<ps.length:=by rw[Paired.len hp2];exact TR
    have e1:(ps.map V.ref)[j]? =some (.ref ps[j]):=by rw[List.getElem?_map,List.getElem?_eq_getElem YH];rfl
    refine .inr ⟨⟨_,_,zr,e1⟩,?_⟩
    rintro y H4 ⟨rfl,RT⟩
    have ey:=RT _ zr
    rw[e1]at ey
    cases ey
    refine⟨Kp.rep _ _,?_⟩
    obtain⟨f,ef,hf⟩:=Paired.at hp2 (List.getElem?_eq_getElem YH)
    have hf':=hf.same (s2.trans s3)
    refine⟨_,rfl,_,_,_,_,rfl,rfl,hf',rfl,?_⟩
    refine⟨O3,?_,row.length-(j+1),by omega,rfl,TR,ak.at s3 hlx,ah,?_⟩
    ·rw[List.length_map,List.length_map,List.length_take]
     have:=O0 row (List.mem_of_getElem? er)
     exact Nat.lt_of_lt_of_le (show min j row.length<100 by omega) (by decide)
    ·rw[take_snoc ef,List.map_append,List.map_append]
     rfl
   ·have ej:j=row.length:=by omega
    subst ej
    rw[List.take_of_length_le (Nat.le_refl _)]at O3
    refine .inl ⟨⟨_,zr,by rw[List.length_map,Paired.len hp2];exact Nat.le_refl _⟩,?_⟩
    have hl3:=s3 _ _ hl2
    refine⟨l,lx,_,_,rfl,rfl,hl3,O3,?_,?_⟩
    ·have a:=Xw i
     have a2:=O0 row (List.mem_of_getElem? er)
     have a3:((fo.2::fm.2::(rows.take i).flatten.map (·.2)).map V.int).length+((row.map (·.2)).map V.int).length<=200:=by
      rw[List.length_map,List.length_cons,List.length_cons,List.length_map,List.length_map,List.length_map]
      rw[List.length_map]at a
      omega
     exact Nat.le_trans a3 (by decide)
    refine⟨_,rfl,ak.at (s2.trans s3) hl,?_⟩
    rw[ah,take_snoc er,List.flatten_append,List.map_append]
    simp
  ·rintro σ H2 ⟨v4,rfl,s2,hl2⟩
   refine⟨_,rfl,?_⟩
   rw[List.length_map,Paired.len hp,List.take_of_length_le (Nat.le_refl _)]at hl2
   exact k l H2 s2 hl hl2
theorem uP {fU bu:Addr} {eO aZ:FuncData} {p:Pm} (T:Txt K mg p base) (cZ:Dn K mg "unit_factors" jJ ["unders"] fU eO) (aI:Dn K mg "greatest_divisor" cU KW bu aZ) (eF:aK P w K mg base cD 1 bu aZ KW EM):aK P w K mg base cD 2 fU eO ["unders"] (yL K):=by
 refine cZ.fn.ok eN (λvs H Q E h=>?_) (λcdv A outer s H vs Q E hr h=>?_)
 ·obtain⟨l,ns,rfl,_⟩:=h
  rfl
 ·obtain⟨l,ns,rfl,hl,hn,hs,k⟩:=h
  refine⟨_,(aj (aG (i:=1) eN.nd rfl (Or.inl rfl) (jO af))
   (aj (aG (i:=2) eN.nd rfl (Or.inl rfl) ai)
   (aj (fF PassesOwn.never rfl (oh (pv 0)) (aS (i:=3) eN.nd rfl (Or.inl rfl)) (aj (aG (i:=4) eN.nd rfl (Or.inl rfl) (aE cE (pv 3) (aA eF (hr.mono (by decide)) rfl aI.m aI.fn.kp aI.b .nil aR (aa (pv 2) (aa (pv 3) af)))))
   (ao (bJ (aP vV (pv 4) ai (aL _)) (aj (g6 (qz PySem.F.plainAttrs_list PySem.F.slot_list_append PySem.F.type_list_append iJ (pv 1) (aa (pv 4) af)))
   (ao (aG (i:=2) eN.nd rfl (Or.inl rfl) (aE ny (pv 2) (pv 4))))) aU))))
   (ao (aJ (pv 1)))))),?_⟩
  refine⟨by show 0<=sizeLine;decide,λq hq=>?_⟩
  refine⟨_,rfl,l,rfl,⟨_,ak.seq (ak.upd hq) hl⟩,pM (K:=K) (a:=l) (xs:=ns.map V.int) (λi σ H2=>∃v3 v4,σ=[some (.ref l),some (.ref q),some (.int (nO (ns.take i)).2),v3,v4]/\ak H H2/\H2 q=some (.lst ((nO (ns.take i)).1.map V.int)))
   ⟨_,_,rfl,ak.upd hq,ah⟩ (λi σ H2 _ ⟨_,_,_,s2,_⟩=>ak.seq s2 hl) ?_ ?_⟩
  ·rintro i x σ H2 hx ⟨v3,v4,rfl,s2,hq2⟩
   obtain⟨b,eb,rfl⟩:=mF hx
   have hi:i<ns.length:=(List.getElem?_eq_some_iff.mp eb).1
   have hb:=hs b (List.mem_of_getElem? eb)
   have F:=uc hs i (Nat.le_of_lt hi)
   have es:nO (ns.take (i+1))=qk (nO (ns.take i)) b:=by rw[take_snoc eb,wR]
   have fl:=F.len
   rw[List.length_take]at fl
   rw[es]
   unfold qk
   generalize hp:nO (ns.take i)=pr at *
   obtain⟨fs,u⟩:=pr
   obtain⟨b1,b2⟩:=hb
   have g1:=oA u b1
   have g2:=D9 u b1
   obtain⟨d1,d2⟩:=Fq (u:=u) ⟨b1,b2⟩
   refine⟨_,rfl,_,rfl,_,rfl,u,b,rfl,Int.le_of_lt b1,_,_,rfl,rfl,⟨g1,by omega⟩,_,rfl,_,_,rfl,rfl,_,rfl,?_⟩
   refine fJ (λh1=>?_) (λh1=>?_)
   ·rw[if_pos h1]
    refine⟨_,rfl,.inl ⟨rfl,_,cS.of hq2⟩,_,rfl,q,_,_,rfl,rfl,hq2,?_,?_⟩
    ·rw[List.length_map]
     exact Nat.lt_of_le_of_lt (show fs.length<=1000 by dsimp only at fl;omega) (by decide)
    refine⟨_,rfl,_,rfl,_,_,rfl,rfl,.inr ⟨by omega,by omega⟩,?_⟩
    exact⟨_,_,rfl,ak.at s2 hq,by rw[ah,List.map_append];rfl⟩
   ·rw[if_neg h1]
    exact⟨_,_,rfl,s2,hq2⟩
  ·rintro σ H2 ⟨v3,v4,rfl,s2,hq2⟩
   refine⟨_,rfl,?_⟩
   rw[List.length_map,List.take_of_length_le (Nat.le_refl _)]at hq2
   exact k q H2 s2 hq hq2
theorem xS {iU:Addr} {gC:FuncData} {p:Pm} (T:Txt K mg p base) (fq:Dn K mg "product_of" lM ["factors"] iU gC)  :aK P w K mg base cD 1 iU gC ["factors"] (HJ K):=by
 refine fq.fn.ok kI (λvs H Q E h=>?_) (λcdv A outer s H vs Q E hr h=>?_)
 ·obtain⟨l,fs,rfl,_⟩:=h
  rfl
 ·obtain⟨l,fs,rfl,hl,hs,k⟩:=h
  refine⟨_,(aj (aG (i:=1) kI.nd rfl (Or.inl rfl) ai)
   (aj (fF PassesOwn.never rfl (oh (pv 0)) (aS (i:=2) kI.nd rfl (Or.inl rfl)) (ao (aG (i:=1) kI.nd rfl (Or.inl rfl) (aE ny (pv 1) (pv 2)))))
   (ao (aJ (pv 1))))),?_⟩
  refine⟨_,rfl,l,rfl,⟨_,hl⟩,pM (K:=K) (a:=l) (xs:=fs.map V.int) (λi σ H2=>H2=H/\∃v2,σ=[some (.ref l),some (.int (qw (fs.take i))),v2])
   ⟨rfl,_,rfl⟩ (λi σ H2 _ ⟨e,_⟩=>by subst e;exact hl) ?_ ?_⟩
  ·rintro i x σ H2 hx ⟨rfl,v2,rfl⟩
   obtain⟨b,eb,rfl⟩:=mF hx
   obtain⟨b1,b2⟩:=hs b (List.mem_of_getElem? eb)
   refine⟨_,rfl,_,rfl,_,_,rfl,rfl,.inr ⟨by omega,by omega⟩,rfl,some (.int b),?_⟩
   rw[take_snoc eb,qU]
   rfl
  ·rintro σ H2 ⟨rfl,v2,rfl⟩
   refine⟨_,rfl,?_⟩
   rw[List.length_map,List.take_of_length_le (Nat.le_refl _)]
   exact k
theorem DL {iZ:Addr} {gv:FuncData} {p:Pm} (T:Txt K mg p base) (cM:Dn K mg "by_unit" nK OP iZ gv)  :aK P w K mg base cD 1 iZ gv OP (vI K):=by
 refine cM.fn.ok Dw (λvs H Q E h=>?_) (λcdv A outer s H vs Q E hr h=>?_)
 ·obtain⟨p,f,u,rfl,_⟩:=h
  rfl
 ·obtain⟨p,f,u,rfl,hS,⟨h1,h2⟩,b1,b2,k⟩:=h
  refine⟨_,(ao (aJ (aE Ky (bw bR (pv 0) ai (λ_ _=>rfl)) (aE cE (pv 1) (bw bR (pv 0) ai (λ_ _=>rfl)))))),?_⟩
  exact⟨_,rfl,_,_,_,_,rfl,rfl,hS,rfl,_,rfl,_,rfl,_,_,_,_,rfl,rfl,hS,rfl,_,_,rfl,rfl,⟨by omega,h2⟩,_,_,rfl,rfl,⟨b1,b2⟩,k⟩
end
section
variable{P:Program}{w:World}{K:PySem.W.Frag}{mg:Str->Option Value}{base:Heap}
theorem DK {mh:Addr} {kj:FuncData} {p:Pm} (T:Txt K mg p base) (jD:Dn K mg "is_sign" qf ["sign"] mh kj)  :aK P w K mg base cD 1 mh kj ["sign"] Bm:=by
 refine jD.fn.ok vL (λvs H Q E h=>?_) (λcdv A outer s H vs Q E hr h=>?_)
 ·obtain⟨c,rfl,_⟩:=h
  rfl
 ·obtain⟨c,rfl,k⟩:=h
  refine⟨_,(aj (aG (i:=1) vL.nd rfl (Or.inl rfl) (aC (Jt) rfl T.z_ord Pu (aa (pv 0) af)))
   (ao (aJ (jP (Ii yP yP (fH (v:=.int 32) rfl T.Ai ⟨_,rfl⟩) (pv 1) (fH (v:=.int 126) rfl T.Cc ⟨_,rfl⟩)) (jN (bY rX (pv 1) (fH (v:=.ref p.jm) rfl T.Ea rfl) (by with_unfolding_all rfl))))))),?_⟩
  refine⟨_,rfl,_,rfl,rfl,?_⟩
  have k':Q (.bl ((decide ((32:Int)<=(c:Int))&&decide ((c:Int)<=126))&& !K5 (.int c) [.int 34,.int 37,.int 45])) H:=k
  refine⟨_,rfl,_,_,rfl,rfl,_,rfl,?_⟩
  refine fJ (λh1=>?_) (λh1=>?_)
  ·refine⟨_,_,rfl,rfl,_,rfl,?_⟩
   have t7:(32:Int)<=(c:Int):=h1
   rw[decide_eq_true t7,Bool.true_and]at k'
   refine fJ (λh2=>?_) (λh2=>?_)
   ·have h2':(c:Int)<=126:=h2
    rw[decide_eq_true h2',Bool.true_and]at k'
    exact⟨_,rfl,_,_,rfl,.inr (T.DB _),rfl,rfl,k'⟩
   ·have h2':¬(c:Int)<=126:=h2
    rw[decide_eq_false h2',Bool.false_and]at k'
    exact k'
  ·have t7:¬(32:Int)<=(c:Int):=h1
   rw[decide_eq_false t7,Bool.false_and,Bool.false_and]at k'
   exact⟨_,rfl,iy k'⟩
theorem z7 {jA mh:Addr} {iR kj:FuncData} {p:Pm} (T:Txt K mg p base) (gj:Dn K mg "are_signs" mZ ["text"] jA iR) (jD:Dn K mg "is_sign" qf ["sign"] mh kj) (G1:aK P w K mg base cD 1 mh kj ["sign"] Bm):aK P w K mg base cD 2 jA iR ["text"] vJ:=by
 refine gj.fn.ok zL (λvs H Q E h=>?_) (λcdv A outer s H vs Q E hr h=>?_)
 ·obtain⟨x,rfl,_⟩:=h
  rfl
 ·obtain⟨x,rfl,hx,k⟩:=h
  refine⟨_,(ao (aJ (aC (uG rfl) rfl T.LD Jx (aa (oj (N:=["sign"]) rfl (λ_=>⟨[],c6.plain (by decide +kernel) rfl (by decide +kernel) (by decide +kernel)⟩) (DF (pv 0)) (λ_ _ _ _ _ _ _=>(aS (i:=0) (show(["sign"]:List Str).Nodup by decide +kernel) rfl (Or.inl rfl))) (λ_ _ _ _ _ _ _=>(aA G1 (hr.mono (by decide)) rfl jD.m jD.fn.kp jD.b .nil aR (aa (pv 0) af)))) af)))),?_⟩
  refine⟨_,rfl,x,rfl,λl hl=>?_⟩
  refine⟨λi m ys H2=>m=x.cps.size-i/\i<=x.cps.size/\ak H H2/\H2 l=some (.lst ys)/\ys=((x.cps.toList.take i).map oq).map V.bl,⟨x.cps.size,rfl,Nat.zero_le _,ak.upd hl,ah,rfl⟩,?_⟩
  rintro i m ys H2 ⟨rfl,hi,s2,hl2,rfl⟩
  by_cases hlt:i<x.cps.size
  ·refine .inr ⟨hlt,?_⟩
   rintro y H3 ⟨rfl,c,ec,rfl⟩
   refine⟨Kp.rep _ _,?_⟩
   refine⟨_,rfl,c,rfl,?_⟩
   refine⟨hl2,?_,x.cps.size-(i+1),by omega,rfl,hlt,ak.at s2 hl,ah,?_⟩
   ·rw[List.length_map,List.length_map,List.length_take]
    exact Nat.lt_of_le_of_lt (show min i x.cps.toList.length<=1000 by omega) (by decide)
   ·rw[take_snoc (x:=c) (by rw[Array.getElem?_toList];exact ec),List.map_append,List.map_append]
    rfl
  ·have ei:i=x.cps.size:=by omega
   subst ei
   refine .inl ⟨Nat.le_refl _,?_⟩
   rw[List.take_of_length_le (by rw[Array.length_toList];exact Nat.le_refl _)]at hl2
   refine⟨l,_,rfl,cS.of hl2,?_⟩
   have e:(x.cps.toList.map oq).all id=x.cps.toList.all oq:=by rw[List.all_map];rfl
   rw[e]
   exact k H2 s2
theorem wg {gU jA:Addr} {fS iR:FuncData} {p:Pm} (T:Txt K mg p base) (dQ:Dn K mg "check_signs" kR ["signs"] gU fS) (gj:Dn K mg "are_signs" mZ ["text"] jA iR) (CU:aK P w K mg base cD 2 jA iR ["text"] vJ):aK P w K mg base cD 3 gU fS ["signs"] rP:=by
 refine dQ.fn.ok vN (λvs H Q E h=>?_) (λcdv A outer s H vs Q E hr h=>?_)
 ·obtain⟨x,rfl,_⟩:=h
  rfl
 ·obtain⟨x,rfl,⟨h1,h2,h3,h4⟩,k⟩:=h
  refine⟨_,(aj (bJ (aP b9 (aC (aY) rfl T.cN bG (aa (pv 0) af)) ai (aL _)) iI aU)
   (aj (bJ (j5 (fL (aA CU (hr.mono (by decide)) rfl gj.m gj.fn.kp gj.b .nil aR (aa (pv 0) af)))) iI aU)
   (ao (bJ (aP rY (aC (yc) rfl T.cN bG (aa (j6 (GK rfl) rfl T.Qo Po (aa (pv 0) af)) af)) (aC (aY) rfl T.cN bG (aa (pv 0) af)) (aL _)) iI aU)))),?_⟩
  have hz:x.length<=sizeLine:=Nat.le_trans h2 (by decide)
  refine⟨_,rfl,_,_,rfl,⟨hz,rfl⟩,rfl,_,rfl,?_⟩
  refine nF (λz=>absurd z (by show ¬((x.cps.size:Nat):Int)=0;omega)) λ_=>?_
  refine⟨_,rfl,x,rfl,Nat.le_trans h2 (by decide),λH2 s2=>?_⟩
  refine⟨_,rfl,?_⟩
  rw[List.all_eq_true.mpr h3]
  refine lE ?_
  refine⟨_,rfl,x,rfl,Nat.lt_of_le_of_lt (Nat.succ_le_succ h2) (by decide),λp hp=>?_⟩
  refine⟨p,_,rfl,ah,_,rfl,_,_,rfl,⟨hz,rfl⟩,rfl,_,rfl,?_⟩
  refine rz (λz=>absurd (by rw[Gm h4];rfl) z) λ_=>?_
  exact k _ (s2.trans (ak.upd hp))
theorem tS {eY:Addr} {dX:FuncData} {p:Pm} (T:Txt K mg p base) (cQ:Dn K mg "check_lengths" jh RH eY dX)  :aK P w K mg base cD 1 eY dX RH (oY K):=by
 refine cQ.fn.ok nJ (λvs H Q E h=>?_) (λcdv A outer s H vs Q E hr h=>?_)
 ·obtain⟨x,c,rows,rfl,_⟩:=h
  rfl
 ·obtain⟨x,c,rows,rfl,⟨nc,cs,Yn,hc,hp⟩,hx,⟨hq1,hq2⟩,k⟩:=h
  refine⟨_,(aj (bJ (aP rY (aC (aY) rfl T.cN bG (aa (pv 1) af)) (aC (aY) rfl T.cN bG (aa (pv 0) af)) (aL _)) iI aU)
   (ao (fF PassesOwn.never rfl (BE (pv 1)) (aS (i:=2) nJ.nd rfl (Or.inl rfl)) (ao (bJ (aP rY (aC (aY) rfl T.cN bG (aa (pv 2) af)) (aC (aY) rfl T.cN bG (aa (pv 0) af)) (aL _)) iI aU))))),?_⟩
  have hz:x.length<=sizeLine:=Nat.le_trans hx (by decide)
  have hl:(cs.map Cp.val).length=x.cps.size:=by rw[List.length_map,Paired.len hp,hq1]
  refine⟨_,rfl,_,_,rfl,Jr hc nc,_,rfl,_,_,rfl,⟨hz,rfl⟩,rfl,_,rfl,?_⟩
  refine rz (λz=>absurd (by rw[hl];rfl) z) λ_=>?_
  refine⟨_,rfl,c,_,rfl,hc,Jf (K:=K) (c:=c) (xs:=cs.map Cp.val) (λi σ H2=>H2=H/\∃v,σ=[some (.str x),some c.val,v]) ⟨rfl,_,rfl⟩ (λi σ H2 _ ⟨e,_⟩=>by subst e;exact hc) ?_ ?_⟩
  ·rintro i y σ H2 hy ⟨rfl,v,rfl⟩
   obtain⟨d,ed,rfl⟩:∃d,cs[i]? =some d/\y=d.val:=by
    rw[List.getElem?_map]at hy
    cases e:cs[i]? with
    |none=>rw[e]at hy;cases hy
    |some d=>rw[e]at hy;exact⟨d,rfl,(Option.some.inj hy).symm⟩
   obtain⟨row,er,hr2⟩:=Paired.at hp ed
   refine⟨_,rfl,_,_,rfl,hr2.len (Yn d (List.mem_of_getElem? ed)),_,rfl,_,_,rfl,⟨hz,rfl⟩,rfl,_,rfl,?_⟩
   refine rz (λz=>absurd (by rw[hq2 row (List.mem_of_getElem? er)];rfl) z) λ_=>?_
   exact⟨rfl,_,rfl⟩
  ·rintro σ H2 ⟨rfl,v,rfl⟩
   exact k
end
section
variable{P:Program}{w:World}{K:PySem.W.Frag}{mg:Str->Option Value}{base:Heap}
theorem r9 {dY iZ:Addr} {c8 gv:FuncData} {p:Pm} (T:Txt K mg p base) (cC:Dn K mg "costs_by_signs" iH RG dY c8) (cM:Dn K mg "by_unit" nK OP iZ gv) (ql:aK P w K mg base cD 1 iZ gv OP (vI K)):aK P w K mg base cD 2 dY c8 RG (EO K):=by
 refine cC.fn.ok c7 (λvs H Q E h=>?_) (λcdv A outer s H vs Q E hr h=>?_)
 ·obtain⟨x,Pp,u,rows,rfl,_⟩:=h
  rfl
 ·obtain⟨x,Pp,u,rows,rfl,hM,hx,nd,⟨hq1,hq2⟩,ho,k⟩:=h
  refine⟨_,(aj (aG (i:=3) c7.nd rfl (Or.inl rfl) BG)
   (aj (fF PassesOwn.never rfl (DE rfl rfl T.Hi (aa (pv 0) (aa (pv 1) af))) (oi (n:=2) rfl (bT (aS (i:=4) c7.nd rfl (Or.inl rfl)) (bT (aS (i:=5) c7.nd rfl (Or.inl rfl)) kU))) (ao (fF PassesOwn.never rfl (DE rfl rfl T.Hi (aa (pv 0) (aa (pv 5) af))) (oi (n:=2) rfl (bT (aS (i:=6) c7.nd rfl (Or.inl rfl)) (bT (aS (i:=7) c7.nd rfl (Or.inl rfl)) kU))) (ao (EV (B6 hr) (pv 3) (bP (aa (pv 4) (aa (pv 6) af))) (aA ql (hr.mono (by decide)) rfl cM.m cM.fn.kp cM.b .nil aR (aa (pv 7) (aa (pv 2) af))) rfl)))))
   (ao (aJ (pv 3))))),?_⟩
  intro d hd
  obtain⟨qs,YC,hp⟩:=hM
  have hlen:qs.length=x.cps.size:=by rw[Paired.len hp,hq1]
  have hmin:min (eL x).length (qs.map V.ref).length=x.cps.size:=by rw[signs_length,List.length_map,hlen,Nat.min_self]
  refine⟨_,rfl,_,rfl,.txt x,.tup Pp,_,_,rfl,rfl,Dat.tup (Dat.of (ak.upd hd)) YC,Fo (K:=K) (c:=.txt x) (d:=.tup Pp) (xs:=eL x) (ys:=qs.map V.ref) (λi σ H2=>∃kvs v4 v5 v6 v7,σ=[some (.str x),some (.ref Pp),some (.int u),some (.ref d),v4,v5,v6,v7]/\ak H H2/\H2 d=some (.dT kvs)/\kvs.length<=i*x.cps.size/\kC kvs x rows u i 0)
   ⟨[],_,_,_,_,rfl,ak.upd hd,ah,Nat.zero_le _,kC.nil x rows u⟩ (λi σ H2 _ ⟨kvs,v4,v5,v6,v7,_,s2,_⟩=>⟨rfl,Dat.tup (Dat.of s2) YC⟩) ?_ ?_⟩
  ·rintro i y z p1 σ H2 hy hz hp1 ⟨kvs,v4,v5,v6,v7,rfl,s2,hd2,hk,hc⟩
   obtain⟨a,ha,rfl⟩:=signs_get hy
   obtain⟨q,hq,rfl⟩:=mF hz
   obtain⟨row,er,OX⟩:=Paired.at hp hq
   have hi:i<x.cps.size:=by rw[←hlen];exact(List.getElem?_eq_some_iff.mp hq).1
   obtain⟨ps,hps,hpp⟩:=OX
   have hpl:ps.length=x.cps.size:=by rw[Paired.len hpp,hq2 row (List.mem_of_getElem? er)]
   have R7:min (eL x).length (ps.map V.ref).length=x.cps.size:=by rw[signs_length,List.length_map,hpl,Nat.min_self]
   refine⟨p1,_,rfl,cT.of ah,rfl,_,_,rfl,_,_,rfl,rfl,?_⟩
   have Tu:d≠p1:=aM hd2 hp1
   refine⟨_,rfl,_,rfl,.txt x,.tup q,_,_,rfl,rfl,Dat.tup (Dat.of (s2.trans (ak.upd hp1))) hps,Fo (K:=K) (c:=.txt x) (d:=.tup q) (xs:=eL x) (ys:=ps.map V.ref)
    (λj σ H3=>∃kvs v6 v7,σ=[some (.str x),some (.ref Pp),some (.int u),some (.ref d),some (.str ⟨#[a]⟩),some (.ref q),v6,v7]/\ak H H3/\H3 d=some (.dT kvs)/\kvs.length<=i*x.cps.size+j/\kC kvs x rows u i j)
    ⟨kvs,v6,v7,rfl,s2.trans (ak.upd hp1),by rw[au Tu];exact hd2,hk,hc⟩ (λj σ H3 _ ⟨kvs,v6,v7,_,s3,_⟩=>⟨rfl,Dat.tup (Dat.of s3) hps⟩) ?_ ?_⟩
   ·rintro j y z p2 σ H3 hy hz hp2 ⟨kvs,v6,v7,rfl,s3,Le,hk,hc⟩
    obtain⟨b,hb,rfl⟩:=signs_get hy
    obtain⟨pr,YG,rfl⟩:=mF hz
    obtain⟨f,ef,hf⟩:=Paired.at hpp YG
    have hj:j<x.cps.size:=by rw[←hpl];exact(List.getElem?_eq_some_iff.mp YG).1
    obtain⟨o1,o2,o3⟩:=ho row (List.mem_of_getElem? er) f (List.mem_of_getElem? ef)
    refine⟨p2,_,rfl,cT.of ah,rfl,_,_,rfl,_,_,rfl,rfl,?_⟩
    have s4:=s3.trans (ak.upd (o:=.tup [.str ⟨#[b]⟩,.ref pr]) hp2)
    have Ld:upd H3 p2 (.tup [.str ⟨#[b]⟩,.ref pr]) d=some (.dT kvs):=by rw[au (aM Le hp2)];exact Le
    refine⟨_,rfl,_,rfl,pr,f,u,rfl,hf.same s4,o1,o2.bg,o3.bg,?_⟩
    refine⟨_,rfl,_,rfl,_,rfl,by show 2<=sizeLine;decide,λt ht=>?_⟩
    have Xa:upd (upd H3 p2 (.tup [.str ⟨#[b]⟩,.ref pr])) t (.tup [.str ⟨#[a]⟩,.str ⟨#[b]⟩]) d=some (.dT kvs):=by rw[au (aM Ld ht)];exact Ld
    have hsz:kvs.length<sizeLine:=by
     have:i*x.cps.size<=100*100:=Nat.mul_le_mul (by omega) hx
     have:kvs.length<20000:=by omega
     exact Nat.lt_of_lt_of_le this (by decide)
    refine⟨d,_,rfl,G2.t (k:=keyOf a b) Xa ah hsz,?_⟩
    refine⟨putK kvs (keyOf a b) (.int (f.1*(u / f.2))),_,_,rfl,ak.at (s4.trans (ak.upd ht)) hd,ah,?_,hc.put nd ha hb ⟨row,er,ef⟩⟩
    have:=m6 kvs (keyOf a b) (.int (f.1*(u / f.2)))
    omega
   ·rintro σ H3 ⟨kvs,v6,v7,rfl,s3,Le,hk,hc⟩
    rw[R7]at hk hc
    refine⟨kvs,_,_,_,_,rfl,s3,Le,?_,hc.row (Nat.le_refl _)⟩
    rw[Nat.succ_mul]
    exact hk
  ·rintro σ H2 ⟨kvs,v4,v5,v6,v7,rfl,s2,hd2,hk,hc⟩
   rw[hmin]at hc
   exact⟨_,rfl,k d H2 kvs s2 hd hd2 (hc.all (Nat.le_refl _))⟩
theorem zU {ff:Addr} {dF:FuncData} {p:Pm} (T:Txt K mg p base) (cA:Dn K mg "pair_cost" kY OO ff dF)  :aK P w K mg base cD 1 ff dF OO (qO K p.aq):=by
 refine cA.fn.ok zI (λvs H Q E h=>?_) (λcdv A outer s H vs Q E hr h=>?_)
 ·obtain⟨x,sg,rows,fo,fm,i,j,a,b,f,rfl,_⟩:=h
  rfl
 ·obtain⟨x,sg,rows,fo,fm,i,j,a,b,f,rfl,⟨_,_,_,_,_,_,_,dx,Pp,o,m,d,kvs,h1,h2,h3,h4,h5,h6⟩,ha,hb,hf,k⟩:=h
  refine⟨_,(ao (aJ (zR (B6 hr) (dm (pv 0) rfl) (bP (aa (pv 1) (aa (pv 2) af))) (λ_ _=>rfl)))),?_⟩
  refine⟨_,rfl,x,_,_,_,_,rfl,h1,T.bz,T.pA,Ec,?_⟩
  refine⟨_,rfl,_,rfl,by show 2<=sizeLine;decide,λt ht=>?_⟩
  have Xa:upd H t (.tup [.str ⟨#[a]⟩,.str ⟨#[b]⟩]) d.1=some (.dT kvs):=by rw[au (aM h5 ht)];exact h5
  have z:=CY.t (k:=keyOf a b) Xa ah
  rw[h6.1 i j a b f ha hb hf]at z
  exact⟨d.1,_,rfl,z,k _ (ak.upd ht)⟩
theorem uR {cH:Addr} {cg:FuncData} {p:Pm} (T:Txt K mg p base) (bE:Dn K mg "opening_cost" ie l6 cH cg)  :aK P w K mg base cD 2 cH cg l6 (tH K p.aq):=by
 refine bE.fn.ok uM (λvs H Q E h=>?_) (λcdv A outer s H vs Q E hr h=>?_)
 ·obtain⟨x,sg,rows,fo,fm,rfl,_⟩:=h
  rfl
 ·obtain⟨x,sg,rows,fo,fm,rfl,⟨_,_,_,_,_,_,_,dx,Pp,o,m,d,kvs,h1,h2,h3,h4,h5,h6⟩,k⟩:=h
  refine⟨_,(ao (aJ (dm (pv 0) rfl))),?_⟩
  exact⟨_,rfl,x,_,_,_,_,rfl,h1,T.bz,T.jR,rH,k⟩
theorem zV {fh:Addr} {dG:FuncData} {p:Pm} (T:Txt K mg p base) (bD:Dn K mg "more_cost" kZ l6 fh dG)  :aK P w K mg base cD 2 fh dG l6 (Dq K p.aq):=by
 refine bD.fn.ok zJ (λvs H Q E h=>?_) (λcdv A outer s H vs Q E hr h=>?_)
 ·obtain⟨x,sg,rows,fo,fm,rfl,_⟩:=h
  rfl
 ·obtain⟨x,sg,rows,fo,fm,rfl,⟨_,_,_,_,_,_,_,dx,Pp,o,m,d,kvs,h1,h2,h3,h4,h5,h6⟩,k⟩:=h
  refine⟨_,(ao (aJ (dm (pv 0) rfl))),?_⟩
  exact⟨_,rfl,x,_,_,_,_,rfl,h1,T.bz,T.lD,uZ,k⟩
theorem BL {gw bu:Addr} {e7 aZ:FuncData} {p:Pm} (T:Txt K mg p base) (cV:Dn K mg "in_units" mw ON gw e7) (aI:Dn K mg "greatest_divisor" cU KW bu aZ) (eF:aK P w K mg base cD 1 bu aZ KW EM):aK P w K mg base cD 2 gw e7 ON (tK K p.aq):=by
 refine cV.fn.ok ia (λvs H Q E h=>?_) (λcdv A outer s H vs Q E hr h=>?_)
 ·obtain⟨x,n,sg,rows,fo,fm,rfl,_⟩:=h
  rfl
 ·obtain⟨x,n,sg,rows,fo,fm,rfl,⟨_,_,_,_,_,u1,u2,dx,Pp,o,m,d,kvs,h1,h2,h3,h4,h5,h6,fs,h7,h8,h9⟩,k⟩:=h
  refine⟨_,(aj (aG (i:=2) ia.nd rfl (Or.inl rfl) (pv 1))
   (aj (aG (i:=3) ia.nd rfl (Or.inl rfl) ai)
   (aj (fF PassesOwn.never rfl (oh (dm (pv 0) rfl)) (aS (i:=4) ia.nd rfl (Or.inl rfl)) (aj (aG (i:=5) ia.nd rfl (Or.inl rfl) (aA eF (hr.mono (by decide)) rfl aI.m aI.fn.kp aI.b .nil aR (aa (pv 2) (aa (pv 4) af))))
   (aj (aG (i:=2) ia.nd rfl (Or.inl rfl) (aE cE (pv 2) (pv 5)))
   (ao (aG (i:=3) ia.nd rfl (Or.inl rfl) (aE ny (pv 3) (aE cE (pv 4) (pv 5))))))))
   (ao (aJ (bP (aa (pv 2) (aa (pv 3) af)))))))),?_⟩
  refine⟨_,rfl,_,rfl,x,_,_,_,_,rfl,h1,T.bz,T.j8,oE,d.2,rfl,⟨_,cS.of h9⟩,pM (K:=K) (a:=d.2) (xs:=fs.map V.int) (λi σ H2=>H2=H/\∃(ov un:Int) (v4 v5:Option V),σ=[some (.ref x),some (.int n),some (.int ov),some (.int un),v4,v5]/\0<un/\Int.gcd ov un=1/\ov*qw (fs.take i)=n*un)
   ⟨rfl,n,1,_,_,rfl,by decide,Int.gcd_one_right n,by show n*qw []=n*1;rfl⟩ (λi σ H2 _ ⟨e,_⟩=>by subst e;exact cS.of h9) ?_ ?_⟩
  ·rintro i y σ H2 hy ⟨rfl,ov,un,v4,v5,rfl,hun,hg,he⟩
   obtain⟨b,eb,rfl⟩:=mF hy
   obtain⟨b1,b2⟩:=h7 b (List.mem_of_getElem? eb)
   have g1:=oA ov b1
   have g2:=D9 ov b1
   have d1:0<b / (Int.gcd ov b:Int):=Int.ediv_pos_of_pos_of_dvd b1 (Int.le_of_lt g1) (Int.gcd_dvd_right ov b)
   have d2:b / (Int.gcd ov b:Int)<=b:=Int.ediv_le_self _ (Int.le_of_lt b1)
   refine⟨_,rfl,_,rfl,ov,b,rfl,Int.le_of_lt b1,_,rfl,_,rfl,_,_,rfl,rfl,⟨g1,by omega⟩,_,rfl,_,rfl,_,rfl,_,_,rfl,rfl,⟨g1,by omega⟩,_,_,rfl,rfl,.inr ⟨by omega,by omega⟩,?_⟩
   refine⟨rfl,_,_,_,_,rfl,Int.mul_pos hun d1,Js b1 hg,?_⟩
   rw[take_snoc eb,qU]
   exact Ei he
  ·rintro σ H2 ⟨rfl,ov,un,v4,v5,rfl,hun,hg,he⟩
   rw[List.length_map,List.take_of_length_le (Nat.le_refl _),h8]at he
   have el:=Rc u1 hun hg he
   refine⟨_,rfl,_,rfl,by show 2<=sizeLine;decide,λq hq=>k q _ (ak.upd hq) hq ?_⟩
   rw[ah,el]
end
section
variable{P:Program}{w:World}{K:PySem.W.Frag}{mg:Str->Option Value}{base:Heap}
theorem qW {bB gU eY eW cI i6 fU iU dY iZ:Addr} {ee fS dX dU cj gJ eO gC c8 gv:FuncData} {p:Pm} (T:Txt K mg p base) (c9:Dm K "__init__" "Prices.__init__" bV PZ bB ee) (dQ:Dn K mg "check_signs" kR ["signs"] gU fS) (yt:aK P w K mg base cD 3 gU fS ["signs"] rP) (cQ:Dn K mg "check_lengths" jh RH eY dX) (vm:aK P w K mg base cD 1 eY dX RH (oY K)) (cO:Dn K mg "lowest_prices" jf ["row"] eW dU) (vh:aK P w K mg base cD 4 eW dU ["row"] (uq K)) (bx:Dn K mg "lowest_price" ig l8 cI cj) (jX:aK P w K mg base cD 3 cI cj l8 (qP K)) (fD:Dn K mg "all_unders" lS RI i6 gJ) (AO:aK P w K mg base cD 1 i6 gJ RI (Bd K)) (cZ:Dn K mg "unit_factors" jJ ["unders"] fU eO) (xB:aK P w K mg base cD 2 fU eO ["unders"] (yL K)) (fq:Dn K mg "product_of" lM ["factors"] iU gC) (AJ:aK P w K mg base cD 1 iU gC ["factors"] (HJ K)) (cC:Dn K mg "costs_by_signs" iH RG dY c8) (uh:aK P w K mg base cD 2 dY c8 RG (EO K)) (cM:Dn K mg "by_unit" nK OP iZ gv) (ql:aK P w K mg base cD 1 iZ gv OP (vI K)):aK P w K mg base cD 5 bB ee PZ (HP K p.aq):=by
 refine c9.fn.ok qQ (λvs H Q E h=>?_) (λcdv A outer s H vs Q E hr h=>?_)
 ·obtain⟨x,dx,o,m,sg,c,rows,fo,fm,rfl,_⟩:=h
  rfl
 ·obtain⟨x,dx,o,m,sg,c,rows,fo,fm,rfl,hx,hS,h12,hM,TF,hok,hfo,Il,hfm,Im,k⟩:=h
  have S:=hS
  obtain⟨q1,q2,q3,q4⟩:=S
  refine⟨_,(aj (g6 (aA yt (hr.mono (by decide)) rfl dQ.m dQ.fn.kp dQ.b .nil aR (aa (pv 1) af)))
   (aj (g6 (aA vm (hr.mono (by decide)) rfl cQ.m cQ.fn.kp cQ.b .nil aR (aa (pv 1) (aa (pv 2) af))))
   (aj (lC (pv 0) (pv 1) rfl)
   (aj (lC (pv 0) (j6 (qJ) rfl T.mP k9 (aa (oj (N:=["row"]) rfl (λ_=>⟨[],c6.plain (by decide +kernel) rfl (by decide +kernel) (by decide +kernel)⟩) (BE (pv 2)) (λ_ _ _ _ _ _ _=>(aS (i:=0) (show(["row"]:List Str).Nodup by decide +kernel) rfl (Or.inl rfl))) (λ_ _ _ _ _ _ _=>(aA vh (hr.mono (by decide)) rfl cO.m cO.fn.kp cO.b .nil aR (aa (pv 0) af)))) af)) rfl)
   (aj (lC (pv 0) (aA jX (hr.mono (by decide)) rfl bx.m bx.fn.kp bx.b .nil aR (aa (pv 3) af)) rfl)
   (aj (lC (pv 0) (aA jX (hr.mono (by decide)) rfl bx.m bx.fn.kp bx.b .nil aR (aa (pv 4) af)) rfl)
   (aj (lC (pv 0) (aA xB (hr.mono (by decide)) rfl cZ.m cZ.fn.kp cZ.b .nil aR (aa (aA AO (hr.mono (by decide)) rfl fD.m fD.fn.kp fD.b .nil aR (aa (dm (pv 0) rfl) (aa (dm (pv 0) rfl) (aa (dm (pv 0) rfl) af)))) af)) rfl)
   (aj (lC (pv 0) (aA AJ (hr.mono (by decide)) rfl fq.m fq.fn.kp fq.b .nil aR (aa (dm (pv 0) rfl) af)) rfl)
   (aj (lC (pv 0) (aA uh (hr.mono (by decide)) rfl cC.m cC.fn.kp cC.b .nil aR (aa (dm (pv 0) rfl) (aa (dm (pv 0) rfl) (aa (dm (pv 0) rfl) af)))) rfl)
   (aj (lC (pv 0) (aA ql (hr.mono (by decide)) rfl cM.m cM.fn.kp cM.b .nil aR (aa (dm (pv 0) rfl) (aa (dm (pv 0) rfl) af))) rfl)
   (ao (lC (pv 0) (aA ql (hr.mono (by decide)) rfl cM.m cM.fn.kp cM.b .nil aR (aa (dm (pv 0) rfl) (aa (dm (pv 0) rfl) af))) rfl)))))))))))),?_⟩
  refine⟨_,rfl,sg,rfl,hS,λH1 s1=>?_⟩
  refine⟨_,rfl,_,rfl,sg,c,rows,rfl,hM.dat (Dat.of s1),by omega,TF,?_⟩
  have P9:H1 x=some (.ins p.aq dx []):=s1 _ _ hx
  refine⟨_,rfl,_,rfl,x,_,dx,_,rfl,P9,T.bz,T.fM,by decide,?_⟩
  generalize TZ:upd H1 x (.ins p.aq dx (aF "signs" (.str sg) []))=H2
  have Z2:H2 x=some (.ins p.aq dx (aF "signs" (.str sg) [])):=by rw[←TZ];exact ah
  have f2:Off x H H2:=by rw[←TZ];exact(Off.of s1).trans Off.set
  obtain⟨nc,cs,Yn,hcs,hp⟩:=hM.dat (f2.dat hx)
  refine⟨_,rfl,c,_,rfl,hcs,λl Sb=>?_⟩
  refine⟨λi n ys H3=>n=rows.length-i/\i<=rows.length/\ak H2 H3/\H3 l=some (.lst ys)/\∃qs:List Addr,ys=qs.map V.ref/\qs.length=i/\Paired (λq r=>jW K H3 (.tup q) r) qs ((x6 rows).take i),⟨rows.length,rfl,Nat.zero_le _,ak.upd Sb,ah,[],rfl,rfl,.nil⟩,?_⟩
  rintro i n ys H3 ⟨rfl,hi,s3,hl3,qs,rfl,hq,hP⟩
  have zc:c.at K H3 (cs.map Cp.val):=ak.cp s3 hcs
  have hcl:=Paired.len hp
  by_cases hlt:i<rows.length
  ·have YQ:i<cs.length:=by omega
   have e1:(cs.map Cp.val)[i]? =some cs[i].val:=by rw[List.getElem?_map,List.getElem?_eq_getElem YQ];rfl
   refine .inr ⟨⟨_,_,zc,e1⟩,?_⟩
   rintro y H4 ⟨rfl,hy⟩
   have ey:=hy _ zc
   rw[e1]at ey
   cases ey
   obtain⟨r,er,hr2⟩:=Paired.at hp (List.getElem?_eq_getElem YQ)
   have hrm:=List.mem_of_getElem? er
   refine⟨Kp.rep _ _,?_⟩
   refine⟨_,rfl,cs[i],r,rfl,hr2.same s3,λf hf=>(hok r hrm f hf).1,by rw[TF.2 r hrm];omega,λq H5 s5 hqn hR=>?_⟩
   have WZ:H5 l=some (.lst (qs.map V.ref)):=s5 _ _ hl3
   refine⟨WZ,?_,rows.length-(i+1),by omega,rfl,hlt,ak.at (s3.trans s5) Sb,ah,qs++[q],by rw[List.map_append];rfl,by rw[List.length_append,hq];rfl,?_⟩
   ·rw[List.length_map,hq]
    have:i<100:=by rw[TF.1]at hlt;omega
    exact Nat.lt_of_lt_of_le this (by decide)
   ·rw[show(x6 rows).take (i+1)=(x6 rows).take i++[r.map j0] from qD er]
    refine GP.Paired.snoc (Paired.iK hP λa b z=>?_) ?_
    ·exact(z.same s5).off WZ
    ·exact hR.off WZ
  ·have ei:i=rows.length:=by omega
   subst ei
   refine .inl ⟨⟨_,zc,by rw[List.length_map];omega⟩,?_⟩
   refine⟨l,_,rfl,.inl ⟨cS.of hl3,λPp YU=>?_⟩⟩
   generalize Y0:upd H3 Pp (.tup (qs.map V.ref))=H4
   have s4:ak H2 H4:=by rw[←Y0];exact s3.trans (ak.upd YU)
   have m4:Aw K H4 Pp (x6 rows):=by
    rw[←Y0]
    refine⟨qs,cT.of ah,?_⟩
    rw[List.take_of_length_le (by unfold x6;rw[List.length_map];exact Nat.le_refl _)]at hP
    exact Paired.iK hP λa b z=>z.same (ak.upd YU)
   have RW:=s4 _ _ Z2
   refine⟨_,rfl,x,_,dx,_,rfl,RW,T.bz,T.mE,Yb,?_⟩
   generalize Xp:upd H4 x (.ins p.aq dx (aF "pairs" (.ref Pp) (aF "signs" (.str sg) [])))=H5
   have Z1:H5 x=some (.ins p.aq dx (aF "pairs" (.ref Pp) (aF "signs" (.str sg) []))):=by rw[←Xp];exact ah
   have f5:Off x H H5:=by rw[←Xp];exact(f2.trans (Off.of s4)).trans Off.set
   have d5:Dat H4 H5:=by rw[←Xp];exact Dat.set RW
   refine⟨_,rfl,o,fo,rfl,hfo.dat (f5.dat hx),Il.1,λo' ho'=>?_⟩
   generalize YZ:upd H5 o' (.tup [.int (j0 fo).1,.int (j0 fo).2])=H6
   have s6:ak H5 H6:=by rw[←YZ];exact ak.upd ho'
   have ho6:jY K H6 o' (j0 fo):=by rw[←YZ];exact cT.of ah
   have Me:=s6 _ _ Z1
   refine⟨_,rfl,x,_,dx,_,rfl,Me,T.bz,T.j7,ZJ,?_⟩
   generalize Xo:upd H6 x (.ins p.aq dx (aF "opening" (.ref o') (aF "pairs" (.ref Pp) (aF "signs" (.str sg) []))))=H7
   have Z0:H7 x=some (.ins p.aq dx (aF "opening" (.ref o') (aF "pairs" (.ref Pp) (aF "signs" (.str sg) [])))):=by rw[←Xo];exact ah
   have f7:Off x H H7:=by rw[←Xo];exact(f5.trans (Off.of s6)).trans Off.set
   have d7:Dat H6 H7:=by rw[←Xo];exact Dat.set Me
   refine⟨_,rfl,m,fm,rfl,hfm.dat (f7.dat hx),Im.1,λm' hm'=>?_⟩
   generalize YY:upd H7 m' (.tup [.int (j0 fm).1,.int (j0 fm).2])=H8
   have s8:ak H7 H8:=by rw[←YY];exact ak.upd hm'
   have hm8:jY K H8 m' (j0 fm):=by rw[←YY];exact cT.of ah
   have Yz:=s8 _ _ Z0
   refine⟨_,rfl,x,_,dx,_,rfl,Yz,T.bz,T.nD,ZI,?_⟩
   generalize Xn:upd H8 x (.ins p.aq dx (aF "more" (.ref m') (aF "opening" (.ref o') (aF "pairs" (.ref Pp) (aF "signs" (.str sg) [])))))=H9
   have RV:H9 x=some (.ins p.aq dx (aF "more" (.ref m') (aF "opening" (.ref o') (aF "pairs" (.ref Pp) (aF "signs" (.str sg) []))))):=by rw[←Xn];exact ah
   have f9:Off x H H9:=by rw[←Xn];exact(f7.trans (Off.of s8)).trans Off.set
   have d9:Dat H8 H9:=by rw[←Xn];exact Dat.set Yz
   have Y7:Dat H6 H9:=d7.trans ((Dat.of s8).trans d9)
   have e49:Dat H4 H9:=d5.trans ((Dat.of s6).trans Y7)
   have M9:Aw K H9 Pp (x6 rows):=m4.dat e49
   have O9:jY K H9 o' (j0 fo):=ho6.dat Y7
   have m9:jY K H9 m' (j0 fm):=hm8.dat d9
   have Q5:∀r∈x6 rows,∀f∈r,CK f:=Ac λr hr f hf=>pF (hok r hr f hf).1
   have Oe:=KL TF
   refine⟨_,rfl,x,_,_,_,_,rfl,RV,T.bz,T.mE,IA,_,rfl,x,_,_,_,_,rfl,RV,T.bz,T.j7,DV,_,rfl,x,_,_,_,_,rfl,RV,T.bz,T.nD,KI,?_⟩
   refine⟨Pp,o',m',x6 rows,j0 fo,j0 fm,rfl,M9.ZT,O9,m9,by rw[Oe.1];exact h12,λr hr=>by rw[Oe.2 r hr];exact h12,λl1 Ha sa hl1 hla=>?_⟩
   have Yd:∀n∈kX (j0 fo) (j0 fm) (x6 rows),nH n:=λn hn=>by
    have z:∀{f:cG},CK f->nH f.2:=λq=>⟨by have:=q.1;omega,q.2⟩
    rcases List.mem_cons.mp hn with e|hn
    ·rw[e];exact z (pF Il.1)
    rcases List.mem_cons.mp hn with e|hn
    ·rw[e];exact z (pF Im.1)
    obtain⟨f,hf,rfl⟩:=List.mem_map.mp hn
    obtain⟨r,hr,hfr⟩:=List.mem_flatten.mp hf
    exact z (Q5 r hr f hfr)
   have Wn:(kX (j0 fo) (j0 fm) (x6 rows)).length<=1000:=by
    unfold kX
    rw[List.length_cons,List.length_cons,List.length_map,wO Oe.2,Oe.1]
    have:sg.cps.size*sg.cps.size<=12*12:=Nat.mul_le_mul h12 h12
    omega
   refine⟨l1,_,rfl,cS.of hla,Wn,Yd,λfl Hb sb hfl hlb=>?_⟩
   have FI:=Ll Yd
   have eU:qw (nO (kX (j0 fo) (j0 fm) (x6 rows))).1=cF (j0 fo).2 (j0 fm).2 (x6 rows):=by rw[FI.prod,FI.unit,A3]
   have hsm:=FI.small
   generalize (nO (kX (j0 fo) (j0 fm) (x6 rows))).1=T3 at hlb eU hsm
   clear FI
   have hxb:=sb _ _ (sa _ _ RV)
   refine⟨_,rfl,x,_,dx,_,rfl,hxb,T.bz,T.j8,ZH,?_⟩
   generalize TY:upd Hb x (.ins p.aq dx (aF "factors" (.ref fl) (aF "more" (.ref m') (aF "opening" (.ref o') (aF "pairs" (.ref Pp) (aF "signs" (.str sg) []))))))=Hc
   have hxc:Hc x=some (.ins p.aq dx (aF "factors" (.ref fl) (aF "more" (.ref m') (aF "opening" (.ref o') (aF "pairs" (.ref Pp) (aF "signs" (.str sg) [])))))):=by rw[←TY];exact ah
   have fc:Off x H Hc:=by rw[←TY];exact((f9.trans (Off.of sa)).trans (Off.of sb)).trans Off.set
   have dc:Dat H9 Hc:=by rw[←TY];exact((Dat.of sa).trans (Dat.of sb)).trans (Dat.set hxb)
   have Se:Hc fl=some (.lst (T3.map V.int)):=by rw[←TY];exact Dat.set hxb fl _ (λ_ _ _ z=>by cases z) hlb
   refine⟨_,rfl,x,_,_,_,_,rfl,hxc,T.bz,T.j8,DW,fl,T3,rfl,cS.of Se,hsm,?_⟩
   have up:=Hv (pF Il.1) (pF Im.1) Q5
   have ub:=Hw h12 Oe (pF Il.1) (pF Im.1) Q5
   have PN:∀{f:cG},SO f->SQ (cF (j0 fo).2 (j0 fm).2 (x6 rows)) (j0 f):=λz=>⟨pF z.1,KP z.2,Bu.div ub _⟩
   rw[eU]
   generalize hu:cF (j0 fo).2 (j0 fm).2 (x6 rows)=u at *
   refine⟨_,rfl,x,_,dx,_,rfl,hxc,T.bz,T.kW,ZG,?_⟩
   generalize O8:upd Hc x (.ins p.aq dx (aF "unit" (.int u) (aF "factors" (.ref fl) (aF "more" (.ref m') (aF "opening" (.ref o') (aF "pairs" (.ref Pp) (aF "signs" (.str sg) [])))))))=PF
   have K8:PF x=some (.ins p.aq dx (aF "unit" (.int u) (aF "factors" (.ref fl) (aF "more" (.ref m') (aF "opening" (.ref o') (aF "pairs" (.ref Pp) (aF "signs" (.str sg) []))))))):=by rw[←O8];exact ah
   have f10:Off x H PF:=by rw[←O8];exact fc.trans Off.set
   have Sz:Dat Hc PF:=by rw[←O8];exact Dat.set hxc
   have Qj:Dat H9 PF:=dc.trans Sz
   have Sf:PF fl=some (.lst (T3.map V.int)):=Sz fl _ (λ_ _ _ z=>by cases z) Se
   refine⟨_,rfl,x,_,_,_,_,rfl,K8,T.bz,T.fM,Iz,_,rfl,x,_,_,_,_,rfl,K8,T.bz,T.mE,Ge,_,rfl,x,_,_,_,_,rfl,K8,T.bz,T.kW,KH,?_⟩
   refine⟨sg,Pp,u,x6 rows,rfl,M9.dat Qj,q2,q4,Oe,Ac λr hr f hf=>PN (hok r hr f hf),λd Zh kvs QV hdn Xc hc=>?_⟩
   have OV:=QV _ _ K8
   refine⟨_,rfl,x,_,dx,_,rfl,OV,T.bz,T.pA,ZF,?_⟩
   generalize Lf:upd Zh x (.ins p.aq dx (aF "costs" (.ref d) (aF "unit" (.int u) (aF "factors" (.ref fl) (aF "more" (.ref m') (aF "opening" (.ref o') (aF "pairs" (.ref Pp) (aF "signs" (.str sg) []))))))))=Qn
   have K7:Qn x=some (.ins p.aq dx (jd sg Pp o' m' u (d,fl))):=by rw[←Lf];exact ah
   have XE:Dat PF Qn:=by rw[←Lf];exact(Dat.of QV).trans (Dat.set OV)
   have f12:Off x H Qn:=by rw[←Lf];exact(f10.trans (Off.of QV)).trans Off.set
   have Xb:Qn d=some (.dT kvs):=by rw[←Lf];exact Dat.set OV d _ (λ_ _ _ z=>by cases z) Xc
   obtain⟨w1,w2,w3⟩:=PN Il
   obtain⟨y1,y2,y3⟩:=PN Im
   refine⟨_,rfl,x,_,_,_,_,rfl,K7,T.bz,T.j7,ya,_,rfl,x,_,_,_,_,rfl,K7,T.bz,T.kW,wN,o',j0 fo,u,rfl,(O9.dat Qj).dat XE,w1,w2.bg,w3.bg,?_⟩
   refine⟨_,rfl,x,_,dx,_,rfl,K7,T.bz,T.jR,ZE,?_⟩
   generalize O7:upd Qn x (.ins p.aq dx (aF "opening_units" (.int ((j0 fo).1*(u / (j0 fo).2))) (jd sg Pp o' m' u (d,fl))))=S3
   have IX:S3 x=some (.ins p.aq dx (aF "opening_units" (.int ((j0 fo).1*(u / (j0 fo).2))) (jd sg Pp o' m' u (d,fl)))):=by rw[←O7];exact ah
   have XD:Dat Qn S3:=by rw[←O7];exact Dat.set K7
   have f13:Off x H S3:=by rw[←O7];exact f12.trans Off.set
   refine⟨_,rfl,x,_,_,_,_,rfl,IX,T.bz,T.nD,(qI (by decide +kernel)).trans Ed,_,rfl,x,_,_,_,_,rfl,IX,T.bz,T.kW,(qI (by decide +kernel)).trans wN,m',j0 fm,u,rfl,((m9.dat Qj).dat XE).dat XD,y1,y2.bg,y3.bg,?_⟩
   refine⟨_,rfl,x,_,dx,_,rfl,IX,T.bz,T.lD,ZD,?_⟩
   have T6:Dat PF (upd S3 x (.ins p.aq dx (vc sg Pp o' m' u (d,fl) ((j0 fo).1*(u / (j0 fo).2)) ((j0 fm).1*(u / (j0 fm).2))))):=XE.trans (XD.trans (Dat.set IX))
   have f14:Off x H (upd S3 x (.ins p.aq dx (vc sg Pp o' m' u (d,fl) ((j0 fo).1*(u / (j0 fo).2)) ((j0 fm).1*(u / (j0 fm).2))))):=f13.trans Off.set
   refine k _ ⟨hS,Oe,?_,?_,?_,?_,?_,dx,Pp,o',m',(d,fl),kvs,?_,(M9.dat Qj).dat T6,(O9.dat Qj).dat T6,(m9.dat Qj).dat T6,?_,?_,T3,hsm,?_,?_⟩ f14 (λc0 hc0 C' dx' fs' hx' hl'=>?_)
   ·rw[hu];exact Ac λr hr f hf=>PN (hok r hr f hf)
   ·rw[hu];exact PN Il
   ·rw[hu];exact PN Im
   ·rw[hu];exact up
   ·rw[hu];exact ub
   ·rw[hu];exact ah
   ·exact(XD.trans (Dat.set IX)) d _ (λ_ _ _ z=>by cases z) Xb
   ·rw[hu];exact hc
   ·rw[hu];exact eU
   ·exact T6 fl _ (λ_ _ _ z=>by cases z) Sf
   ·rw[ah]at hx'
    cases hx'
    have e:fl=c0:=V.ref.inj (Option.some.inj ((oE (x:=sg) (P:=Pp) (o:=o') (m:=m') (u:=u) (d:=(d,fl))).symm.trans hl'))
    subst e
    cases q:H fl with
    |none=>exact hc0 q
    |some u0 =>
     by_cases ex:fl=x
     ·rw[ex,sa _ _ RV]at hfl
      cases hfl
     ·rw[(f9.trans (Off.of sa)) fl u0 q ex]at hfl
      cases hfl
end
section
variable{P:Program}{w:World}{K:PySem.W.Frag}{mg:Str->Option Value}{base:Heap}
end
section
variable{P:Program}{w:World}{K:PySem.W.Frag}{mg:Str->Option Value}{base:Heap}
end
section
variable{P:Program}{w:World}{K:PySem.W.Frag}{mg:Str->Option Value}{base:Heap}
end
section
variable{P:Program}{w:World}{K:PySem.W.Frag}{mg:Str->Option Value}{base:Heap}
theorem qX {bq:Addr} {eB:FuncData} {p:Pm} (T:Txt K mg p base) (dh:Dm K "__init__" "NoSign.__init__" bW PY bq eB)  :aK P w K mg base (vq P w) 1 bq eB PY (Bj p.aD):=by
 refine dh.fn.PM qR (λvs H Q E h=>?_) (λcdv A outer s H vs Q E hr h=>?_)
 ·obtain⟨e,i,j,rfl,_⟩:=h
  rfl
 ·obtain⟨e,i,j,rfl,he,hi,hj,k⟩:=h
  obtain⟨fI,xc⟩:=T.FJ
  refine⟨_,(aj (g6 (Kv T.xH rfl T.qB (aa (pv 0) (aa (E3 (qi br (qi (Ig (pv 1)) (qi br (qi (Ig (pv 2)) Ic))))) af))))
   (aj (EU (pv 0) (pv 1) rfl)
   (ao (EU (pv 0) (pv 2) rfl)))),?_⟩
  have li:=yR hi
  have lj:=yR hj
  have ti:=PyProof.Rows.int_text_len_1921 li
  have tj:=PyProof.Rows.int_text_len_1921 lj
  have l0:(Str.empty++Str.ofString "no sign that may stand there: row ").length<=50:=by decide
  have l1:=Al l0 ti
  have l2:=Al l1 (show(Str.ofString ", place ").length<=20 by decide)
  have l3:=Al l2 tj
  refine⟨_,rfl,_,rfl,Nat.le_trans l0 (by decide),_,rfl,_,rfl,li,_,rfl,Nat.le_trans l1 (by decide),_,rfl,Nat.le_trans l2 (by decide),_,rfl,_,rfl,lj,_,rfl,Nat.le_trans l3 (by decide),Nat.le_trans l3 (by decide),?_⟩
  refine⟨e,p.aD,fI,none,_,rfl,he,xc,?_⟩
  refine⟨_,rfl,_,rfl,e,p.aD,rfl,T.yz,T.sC,.inl ⟨he,λdx hdx=>?_⟩⟩
  have ne:dx≠e:=λz=>by rw[z,he]at hdx;cases hdx
  refine⟨_,rfl,_,rfl,e,p.aD,rfl,T.yz,T.pB,.inr ⟨dx,_,by rw[au (Ne.symm ne),ah],ah,Yb,?_⟩⟩
  refine k dx _ (λb u hb Ja=>?_) hdx (by rw[au (Ne.symm ne),au (Ne.symm ne),ah]) ah
  have nb:b≠dx:=λz=>by rw[z,hdx]at hb;cases hb
  rw[au nb,au nb,au Ja,au nb]
  exact hb
theorem tT {gW bq:Addr} {fT eB:FuncData} {p:Pm} (T:Txt K mg p base) (dR:Dn K mg "check_known" kT RE gW fT) (dh:Dm K "__init__" "NoSign.__init__" bW PY bq eB) (xx:XN K p.aD bq) (sY:aK P w K mg base (vq P w) 1 bq eB PY (Bj p.aD)):aK P w K mg base (vq P w) 3 gW fT RE (Bl p.aD):=by
 refine dR.fn.PM ic (λvs H Q E h=>?_) (λcdv A outer s H vs Q E hr h=>?_)
 ·obtain⟨sg,l,a,b,rfl,_⟩:=h
  rfl
 ·obtain⟨sg,l,a,b,rfl,hl,la,lb,kq,k⟩:=h
  refine⟨_,(ao (fF rV rfl (EW rfl T.um (aa (pv 1) af)) (oi (n:=2) rfl (bT (aS (i:=2) ic.nd rfl (Or.inl rfl)) (bT (aS (i:=3) ic.nd rfl (Or.inl rfl)) kU))) (ao (fF rV rfl (EW rfl T.um (aa (pv 3) af)) (oi (n:=2) rfl (bT (aS (i:=4) ic.nd rfl (Or.inl rfl)) (bT (aS (i:=5) ic.nd rfl (Or.inl rfl)) kU))) (ao (bJ (aP rW (pv 5) (pv 0) (by with_unfolding_all rfl)) (ao (F0 qj xx sY (hr.mono (by decide)) dh.b rfl rfl T.tV (aa (pv 2) (aa (pv 4) af)))) aU)))))),?_⟩
  refine⟨_,rfl,.lst l,_,rfl,cS.of hl,Cf (K:=K) (c:=.lst l) (xs:=[.str a,.str b]) (λi σ H2=>∃v2 v3 v4 v5,σ=[some (.str sg),some (.ref l),v2,v3,v4,v5]/\ak H H2/\(0<i->Of sg a)/\(1<i->Of sg b)) ⟨_,_,_,_,rfl,ak.refl _,λz=>absurd z (Nat.lt_irrefl _),λz=>absurd z (Nat.not_lt_zero _)⟩ (λi σ H2 _ ⟨_,_,_,_,_,s2,_⟩=>cS.of (s2 _ _ hl)) ?_ ?_⟩
  ·rintro i y p1 σ H2 hy hp1 ⟨v2,v3,v4,v5,rfl,s2,oa,ob⟩
   obtain⟨z,rfl,hz,hi,hgo,hbad⟩:∃z:Str,y= .str z/\z.cps.size<=1000/\i<=1/\(Of sg z->(0<i+1->Of sg a)/\(1<i+1->Of sg b))/\(∀j,(∃c,z.cps[j]? =some c/\c∉sg.cps.toList)->(∀k c,k<j->z.cps[k]? =some c->c∈sg.cps.toList)->vn sg a b i j):=by
    match i,hy,oa with
    | 0,hy,oa=>exact⟨a,(Option.some.inj hy).symm,la,Nat.zero_le _,λq=>⟨λ_=>q,λz=>absurd z (Nat.lt_irrefl _)⟩,λj h1 h2=>.inl ⟨rfl,h1,h2⟩⟩
    | 1,hy,oa=>exact⟨b,(Option.some.inj hy).symm,lb,Nat.le_refl _,λq=>⟨λ_=>oa (Nat.zero_lt_succ _),λ_=>q⟩,λj h1 h2=>.inr ⟨rfl,oa (Nat.zero_lt_succ _),h1,h2⟩⟩
    |i+2,hy,oa=>simp at hy
   refine⟨p1,_,rfl,cT.of ah,rfl,_,_,rfl,_,_,rfl,rfl,?_⟩
   refine⟨_,rfl,.txt z,_,rfl,rfl,Cf (K:=K) (c:=.txt z) (xs:=eL z) (λj σ H3=>∃v4 v5,σ=[some (.str sg),some (.ref l),some (.int (i:Int)),some (.str z),v4,v5]/\ak H H3/\∀k c,k<j->z.cps[k]? =some c->c∈sg.cps.toList) ⟨_,_,rfl,s2.trans (ak.upd hp1),λk c z=>absurd z (Nat.not_lt_zero _)⟩ (λj σ H3 _ _=>rfl) ?_ ?_⟩
   ·rintro j y p2 σ H3 hy hp2 ⟨v4,v5,rfl,s3,hp⟩
    obtain⟨c,hc,rfl⟩:=signs_get hy
    have hj:=Ph hc
    have s4:=s3.trans (ak.upd (o:=.tup [.int (j:Int),.str ⟨#[c]⟩]) hp2)
    refine⟨p2,_,rfl,cT.of ah,rfl,_,_,rfl,_,_,rfl,rfl,?_⟩
    refine⟨_,rfl,_,rfl,_,_,rfl,rfl,_,rfl,?_⟩
    rw[StrLaws.found_one]
    by_cases hm:c∈sg.cps.toList
    ·rw[decide_eq_true hm]
     refine lE ⟨_,_,rfl,s4,λk d hk hd=>?_⟩
     by_cases z:k=j
     ·subst z
      rw[hc]at hd
      cases hd
      exact hm
     ·exact hp k d (by omega) hd
    ·rw[decide_eq_false hm]
     refine Fd ⟨_,rfl,_,rfl,by show 2<=sizeLine;decide,λe hn=>?_⟩
     have hne:H e=none:=ak.free s4 hn
     refine⟨e,i,j,rfl,ah,by omega,by omega,λdx H' hk hdx hx hd=>⟨rfl,some dx,hx,k i j (hbad j ⟨c,hc,hm⟩ hp) dx _ (λb u hb=>?_) ?_⟩⟩
     ·have nb:b≠e:=λz=>by rw[z,hne]at hb;cases hb
      rw[pO nb]
      exact hk b u (by rw[au nb];exact s4 b u hb) nb
     ·have ne:dx≠e:=λz=>by rw[z,ah]at hdx;cases hdx
      rw[pO ne]
      exact hd
   ·rintro σ H3 ⟨v4,v5,rfl,s3,hp⟩
    have oz:Of sg z:=λc hc=>by
     obtain⟨k,hk,e⟩:=List.getElem_of_mem hc
     have hk':k<z.cps.size:=by simpa using hk
     exact hp k c (by rw[signs_length];exact hk') (by rw[←Array.getElem?_toList,List.getElem?_eq_getElem hk,e])
    exact⟨_,_,_,_,rfl,s3,(hgo oz).1,(hgo oz).2⟩
  ·rintro σ H2 ⟨v2,v3,v4,v5,rfl,s2,oa,ob⟩
   exact kq (oa (show 0<2 by decide)) (ob (show 1<2 by decide)) H2 s2
theorem uU {iY gW:Addr} {gG fT:FuncData} {p:Pm} (T:Txt K mg p base) (fC:Dn K mg "check_rows" lQ RD iY gG) (dR:Dn K mg "check_known" kT RE gW fT) (yu:aK P w K mg base (vq P w) 3 gW fT RE (Bl p.aD)):aK P w K mg base (vq P w) 4 iY gG RD (EI K p.aq p.aD):=by
 refine fC.fn.PM xO (λvs H Q E h=>?_) (λcdv A outer s H vs Q E hr h=>?_)
 ·obtain⟨x,l,sg,rows,fo,fm,a,b,rfl,_⟩:=h
  rfl
 ·obtain⟨x,l,sg,rows,fo,fm,a,b,rfl,⟨_,_,_,_,_,_,_,dx,Pp,o,m,d,kvs,h1,h2,h3,h4,h5,h6⟩,hl,la,lb,kq,k⟩:=h
  refine⟨_,(ao (g6 (aA yu (hr.mono (by decide)) rfl dR.m dR.fn.kp dR.b .nil (Lets.passes qj) (aa (dm (pv 0) rfl) (aa (pv 1) af))))),?_⟩
  exact⟨_,rfl,x,_,_,_,_,rfl,h1,T.bz,T.fM,oB,_,rfl,sg,l,a,b,rfl,hl,la,lb,kq,k⟩
theorem xW {i0 fh cH:Addr} {gH dG cg:FuncData} {p:Pm} (T:Txt K mg p base) (cK:Dn K mg "alone_cost" lR RC i0 gH) (bD:Dn K mg "more_cost" kZ l6 fh dG) (ly:aK P w K mg base cD 2 fh dG l6 (Dq K p.aq)) (bE:Dn K mg "opening_cost" ie l6 cH cg) (mH:aK P w K mg base cD 2 cH cg l6 (tH K p.aq)):aK P w K mg base cD 3 i0 gH RC (ER K p.aq):=by
 refine cK.fn.ok xP (λvs H Q E h=>?_) (λcdv A outer s H vs Q E hr h=>?_)
 ·obtain⟨x,sg,rows,fo,fm,a,b,rfl,_⟩:=h
  rfl
 ·obtain⟨x,sg,rows,fo,fm,a,b,rfl,hP,k⟩:=h
  refine⟨_,(aj (bJ (aP b9 (pv 1) (pv 2) (aL _)) (ao (aJ (aA ly (hr.mono (by decide)) rfl bD.m bD.fn.kp bD.b .nil aR (aa (pv 0) af)))) aU)
   (ao (aJ (aE cR (aA mH (hr.mono (by decide)) rfl bE.m bE.fn.kp bE.b .nil aR (aa (pv 0) af)) (aA ly (hr.mono (by decide)) rfl bD.m bD.fn.kp bD.b .nil aR (aa (pv 0) af)))))),?_⟩
  refine⟨_,rfl,_,rfl,rfl,_,rfl,?_⟩
  by_cases e:a=b
  ·rw[if_pos e]at k
   rw[decide_eq_true (show V.str a=V.str b by rw[e])]
   refine pL ?_
   exact⟨_,rfl,x,sg,rows,fo,fm,rfl,hP,k⟩
  ·rw[if_neg e]at k
   rw[decide_eq_false (show ¬V.str a=V.str b from λz=>e (V.str.inj z))]
   refine iy ?_
   exact⟨_,rfl,x,sg,rows,fo,fm,rfl,hP,_,rfl,x,sg,rows,fo,fm,rfl,hP,_,_,rfl,rfl,k⟩
theorem zW {ju:Addr} {iL:FuncData} {p:Pm} (T:Txt K mg p base) (gb:Dn K mg "may_begin" mS RB ju iL)  :aK P w K mg base cD 1 ju iL RB (HM K):=by
 refine gb.fn.ok zK (λvs H Q E h=>?_) (λcdv A outer s H vs Q E hr h=>?_)
 ·obtain⟨m,a,q,rfl,_⟩:=h
  rfl
 ·obtain⟨m,a,q,rfl,hq,k⟩:=h
  refine⟨_,(aj (bJ (aP b9 (pv 0) br (aL _)) (ao (aJ (jP (bY b9 (bw bR (pv 1) ai (λ_ _=>rfl)) ai (aL _)) (jN (bY b9 (bw bR (pv 1) ai (λ_ _=>rfl)) ai (aL _)))))) aU)
   (aj (bJ (aP b9 (pv 0) br (aL _)) (ao (aJ (bY b9 (bw bR (pv 1) ai (λ_ _=>rfl)) ai (aL _)))) aU)
   (aj (bJ (aP b9 (pv 0) br (aL _)) (ao (aJ (bY b9 (bw bR (pv 1) ai (λ_ _=>rfl)) ai (aL _)))) aU)
   (ao (aJ nL))))),?_⟩
  unfold xZ at k
  refine⟨_,rfl,rfl,_,rfl,?_⟩
  refine ite_str (λh1=>?_) λh1=>?_
  ·rw[if_pos h1]at k
   refine⟨_,rfl,_,_,_,_,rfl,rfl,hq,rfl,rfl,_,rfl,?_⟩
   refine nF (λz=>?_) λz=>?_
   ·refine⟨_,rfl,_,_,_,_,rfl,rfl,hq,rfl,rfl,?_⟩
    rw[decide_eq_true z,Bool.true_and]at k
    rw[pP]
    exact k
   ·rw[decide_eq_false z,Bool.false_and]at k
    exact k
  rw[if_neg h1]at k
  refine⟨_,rfl,rfl,_,rfl,?_⟩
  refine ite_str (λh2=>?_) λh2=>?_
  ·rw[if_pos h2]at k
   refine⟨_,rfl,_,_,_,_,rfl,rfl,hq,rfl,rfl,?_⟩
   rw[pP]
   exact k
  rw[if_neg h2]at k
  refine⟨_,rfl,rfl,_,rfl,?_⟩
  refine ite_str (λh3=>?_) λh3=>?_
  ·rw[if_pos h3]at k
   refine⟨_,rfl,_,_,_,_,rfl,rfl,hq,rfl,rfl,?_⟩
   rw[pP]
   exact k
  rw[if_neg h3]at k
  exact k
theorem DH {lX:Addr} {kg:FuncData} {p:Pm} (T:Txt K mg p base) (jC:Dn K mg "may_end" qb RA lX kg)  :aK P w K mg base cD 1 lX kg RA (HL K):=by
 refine jC.fn.ok Dt (λvs H Q E h=>?_) (λcdv A outer s H vs Q E hr h=>?_)
 ·obtain⟨m,f,s,a,q,rfl,_⟩:=h
  rfl
 ·obtain⟨m,f,s,a,q,rfl,hq,hf,hs,k⟩:=h
  have zf:f.length<=sizeLine:=Nat.le_trans hf (by decide)
  have zs:s.length<=sizeLine:=Nat.le_trans hs (by decide)
  refine⟨_,(aj (bJ (aP b9 (pv 0) br (aL _)) (ao (aJ (jP (bY b9 (bw bR (pv 3) ai (λ_ _=>rfl)) (aC (aY) rfl T.cN bG (aa (pv 1) af)) (aL _)) (jN (bY b9 (bw bR (pv 3) ai (λ_ _=>rfl)) (aC (aY) rfl T.cN bG (aa (pv 2) af)) (aL _)))))) aU)
   (aj (bJ (aP b9 (pv 0) br (aL _)) (ao (aJ nL)) aU)
   (ao (aJ (bY b9 (bw bR (pv 3) ai (λ_ _=>rfl)) (aC (aY) rfl T.cN bG (aa (pv 1) af)) (aL _)))))),?_⟩
  unfold Ab at k
  refine⟨_,rfl,rfl,_,rfl,?_⟩
  refine ite_str (λh1=>?_) λh1=>?_
  ·rw[if_pos h1]at k
   refine⟨_,rfl,_,_,_,_,rfl,rfl,hq,rfl,_,rfl,_,_,rfl,⟨zf,rfl⟩,rfl,_,rfl,?_⟩
   refine nF (λz=>?_) λz=>?_
   ·refine⟨_,rfl,_,_,_,_,rfl,rfl,hq,rfl,_,rfl,_,_,rfl,⟨zs,rfl⟩,rfl,?_⟩
    rw[decide_eq_true (show q.1=(f.cps.size:Int) from z),Bool.true_and]at k
    rw[pP]
    exact k
   ·rw[decide_eq_false (show ¬q.1=(f.cps.size:Int) from z),Bool.false_and]at k
    exact k
  rw[if_neg h1]at k
  refine⟨_,rfl,rfl,_,rfl,?_⟩
  refine ite_str (λh2=>?_) λh2=>?_
  ·rw[if_pos h2]at k
   exact k
  rw[if_neg h2]at k
  refine⟨_,rfl,_,_,_,_,rfl,rfl,hq,rfl,_,rfl,_,_,rfl,⟨zf,rfl⟩,rfl,?_⟩
  rw[pP]
  exact k
end
section
variable{P:Program}{w:World}{K:PySem.W.Frag}{mg:Str->Option Value}{base:Heap}
theorem se {fW:Addr} {eV:FuncData} {p:Pm} (T:Txt K mg p base) (c5:Dn K mg "check_manner" jL ["manner"] fW eV)  :aK P w K mg base (vq P w) 1 fW eV ["manner"] (oX p.az):=by
 refine c5.fn.PM uO (λvs H Q E h=>?_) (λcdv A outer s H vs Q E hr h=>?_)
 ·obtain⟨m,rfl,_⟩:=h
  rfl
 ·obtain⟨m,rfl,kq,ke⟩:=h
  refine⟨_,(ao (bJ (aP rX (pv 0) (fH (v:=.ref p.kB) rfl T.GC rfl) (by with_unfolding_all rfl)) (ao (Ia qj T.AY rfl rfl T.uw (aa (E3 (qi (Kr (pv 0)) (qi br Ic))) af))) aU)),?_⟩
  refine⟨_,rfl,_,_,rfl,.inr (T.FZ _),rfl,rfl,_,rfl,?_⟩
  show if(if true=true then !K5 (.str m) [.str (Str.ofString "whole"),.str (Str.ofString "within"),.str (Str.ofString "over"),.str (Str.ofString "stretch")]else _)=true then _ else _
  rw[if_pos rfl]
  cases hm:jU m with
  |true =>
   have e:K5 (.str m) [.str (Str.ofString "whole"),.str (Str.ofString "within"),.str (Str.ofString "over"),.str (Str.ofString "stretch")]=true:=hm
   rw[e]
   exact lE (kq hm)
  |false =>
   obtain⟨hl,k⟩:=ke hm
   have e:K5 (.str m) [.str (Str.ofString "whole"),.str (Str.ofString "within"),.str (Str.ofString "over"),.str (Str.ofString "stretch")]=false:=hm
   rw[e]
   refine Fd ⟨_,rfl,_,rfl,Nat.le_trans hl (by decide),_,rfl,?_,_,rfl,?_,?_,by show 1<=sizeLine;decide,k⟩
   ·exact Jz hl (by decide)
   ·exact zo hl (by decide)
   ·exact zo hl (by decide)
end
section
variable{P:Program}{w:World}{K:PySem.W.Frag}{mg:Str->Option Value}{base:Heap}
theorem xY {i7:Addr} {gK:FuncData} {p:Pm} (T:Txt K mg p base) (fE:Dn K mg "all_places" lT Rz i7 gK)  :aK P w K mg base cD 1 i7 gK Rz LO:=by
 refine fE.fn.ok kJ (λvs H Q E h=>?_) (λcdv A outer s H vs Q E hr h=>?_)
 ·obtain⟨f,s,rfl,_⟩:=h
  rfl
 ·obtain⟨f,s,rfl,hf,hs,kk⟩:=h
  have lf:f.length<=sizeLine:=Nat.le_trans hf (by decide)
  have ls:s.length<=sizeLine:=Nat.le_trans hs (by decide)
  have hf':f.length<=12:=hf
  have hs':s.length<=12:=hs
  refine⟨_,(aj (aG (i:=2) kJ.nd rfl (Or.inl rfl) (jO af))
   (aj (fF PassesOwn.never rfl (gA rfl T.kD (aa (aE cR (aC (aY) rfl T.cN bG (aa (pv 0) af)) ai) af)) (aS (i:=3) kJ.nd rfl (Or.inl rfl)) (ao (fF PassesOwn.never rfl (gA rfl T.kD (aa (aE cR (aC (aY) rfl T.cN bG (aa (pv 1) af)) ai) af)) (aS (i:=4) kJ.nd rfl (Or.inl rfl)) (ao (g6 (qz PySem.F.plainAttrs_list PySem.F.slot_list_append PySem.F.type_list_append iJ (pv 2) (aa (bP (aa (pv 3) (aa (pv 4) af))) af)))))))
   (ao (aJ (pv 2))))),?_⟩
  refine⟨by show 0<=sizeLine;decide,λl hl=>?_⟩
  refine⟨_,rfl,_,_,rfl,⟨lf,rfl⟩,_,_,rfl,rfl,_,rfl,by omega,by omega,?_⟩
  rw[show((f.length:Int)+1).toNat=f.cps.size+1 from by show((f.cps.size:Int)+1).toNat=_;omega]
  refine kc (lo:=0) (n:=f.cps.size+1) (λi σ H2=>∃v3 v4,∃ps:List Addr,σ=[some (.str f),some (.str s),some (.ref l),v3,v4]/\ak H H2/\H2 l=some (.lst (ps.map V.ref))/\Paired (Et (Wo l H2)) ps (rws s.cps.size i))
   ⟨_,_,[],rfl,ak.upd hl,ah,.nil⟩ ?_ ?_
  ·rintro i σ H2 hi ⟨v3,v4,ps,rfl,s2,h2,pp⟩
   refine⟨_,rfl,_,_,rfl,⟨ls,rfl⟩,_,_,rfl,rfl,_,rfl,by omega,by omega,?_⟩
   rw[show((s.length:Int)+1).toNat=s.cps.size+1 from by show((s.cps.size:Int)+1).toNat=_;omega]
   refine kc (lo:=0) (n:=s.cps.size+1) (λj σ H3=>∃v4,∃ps:List Addr,σ=[some (.str f),some (.str s),some (.ref l),some (.int (0+(i:Int))),v4]/\ak H H3/\H3 l=some (.lst (ps.map V.ref))/\Paired (Et (Wo l H3)) ps ((rws s.cps.size i)++(List.range j).map λj=>(i,j)))
    ⟨_,ps,rfl,s2,h2,by simpa using pp⟩ ?_ ?_
   ·rintro j σ H3 hj ⟨v4,ps,rfl,s3,h3,pp⟩
    refine⟨_,rfl,.inl ⟨rfl,_,cS.of h3⟩,_,rfl,_,rfl,by show 2<=sizeLine;decide,λp hp=>?_⟩
    have np:p≠l:=λz=>by rw[z,h3]at hp;cases hp
    have hlen:=Paired.len pp
    rw[List.length_append,Km,List.length_map,List.length_range]at hlen
    refine⟨l,_,_,rfl,rfl,by rw[au (Ne.symm np)];exact h3,?_,?_⟩
    ·rw[List.length_map,hlen]
     have:i*(s.cps.size+1)<=f.cps.size*(s.cps.size+1):=Nat.mul_le_mul_right _ (by omega)
     have e:(f.cps.size+1)*(s.cps.size+1)=f.cps.size*(s.cps.size+1)+(s.cps.size+1):=Nat.succ_mul _ _
     exact IQ hf hs (by omega)
    ·refine⟨_,ps++[p],rfl,rR s3 hl hp,by rw[ah,List.map_append];rfl,?_⟩
     rw[List.range_succ,List.map_append,←List.append_assoc]
     refine GP.Paired.snoc (Paired.iK pp λ_ _ z=>z.same (My hp)) ?_
     show Wo l _ p=some (.tup [.int (i:Int),.int (j:Int)])
     rw[Ho np,Int.zero_add,Int.zero_add]
   ·rintro σ H3 ⟨v4,ps,rfl,s3,h3,pp⟩
    exact⟨_,_,ps,rfl,s3,h3,by rw[Bv];exact pp⟩
  ·rintro σ H2 ⟨v3,v4,ps,rfl,s2,h2,pp⟩
   exact⟨_,rfl,kk l H2 s2 hl (Om h2 pp)⟩
theorem xR {iT ff i0:Addr} {gB dF gH:FuncData} {p:Pm} (T:Txt K mg p base) (fk:Dn K mg "steps_from" lK Ry iT gB) (cA:Dn K mg "pair_cost" kY OO ff dF) (pV:aK P w K mg base cD 1 ff dF OO (qO K p.aq)) (cK:Dn K mg "alone_cost" lR RC i0 gH) (sW:aK P w K mg base cD 3 i0 gH RC (ER K p.aq)):aK P w K mg base cD 4 iT gB Ry (EH K p.aq):=by
 refine fk.fn.ok kH (λvs H Q E h=>?_) (λcdv A outer s H vs Q E hr h=>?_)
 ·obtain⟨x,pl,T1,f,s,i,j,c,rfl,_⟩:=h
  rfl
 ·obtain⟨x,pl,T1,f,s,i,j,c,rfl,hP,of,os,hf,hs,hp,kk⟩:=h
  have lf:f.length<=sizeLine:=Nat.le_trans hf (by decide)
  have ls:s.length<=sizeLine:=Nat.le_trans hs (by decide)
  refine⟨_,(aj (aG (i:=5) kH.nd rfl (Or.inl rfl) (bw bR (pv 3) ai (λ_ _=>rfl)))
   (aj (aG (i:=6) kH.nd rfl (Or.inl rfl) (bw bR (pv 3) ai (λ_ _=>rfl)))
   (aj (aG (i:=7) kH.nd rfl (Or.inl rfl) (jO af))
   (bI (bJ (PW.pt (tN (aP rZ (pv 5) (aC (aY) rfl T.cN bG (aa (pv 1) af)) (aL _)) (rT (aP rZ (pv 6) (aC (aY) rfl T.cN bG (aa (pv 2) af)) (aL _))))) (ao (g6 (qz PySem.F.plainAttrs_list PySem.F.slot_list_append PySem.F.type_list_append iJ (pv 7) (aa (bP (aa (bP (aa (bP (aa (aE cR (pv 5) ai) (aa (aE cR (pv 6) ai) af))) (aa br af))) (aa (aA pV (hr.mono (by decide)) rfl cA.m cA.fn.kp cA.b .nil aR (aa (pv 0) (aa (bw tZ (pv 1) (pv 5) (λ_ _=>rfl)) (aa (bw tZ (pv 2) (pv 6) (λ_ _=>rfl)) af)))) af))) af)))) aU)
   (bI (bJ (aP rZ (pv 5) (aC (aY) rfl T.cN bG (aa (pv 1) af)) (aL _)) (ao (g6 (qz PySem.F.plainAttrs_list PySem.F.slot_list_append PySem.F.type_list_append iJ (pv 7) (aa (bP (aa (bP (aa (bP (aa (aE cR (pv 5) ai) (aa (pv 6) af))) (aa br af))) (aa (aA sW (hr.mono (by decide)) rfl cK.m cK.fn.kp cK.b .nil aR (aa (pv 0) (aa br (aa (pv 4) af)))) af))) af)))) aU)
   (bI (bJ (aP rZ (pv 6) (aC (aY) rfl T.cN bG (aa (pv 2) af)) (aL _)) (ao (g6 (qz PySem.F.plainAttrs_list PySem.F.slot_list_append PySem.F.type_list_append iJ (pv 7) (aa (bP (aa (bP (aa (bP (aa (pv 5) (aa (aE cR (pv 6) ai) af))) (aa br af))) (aa (aA sW (hr.mono (by decide)) rfl cK.m cK.fn.kp cK.b .nil aR (aa (pv 0) (aa br (aa (pv 4) af)))) af))) af)))) aU)
   (ao (aJ (pv 7))))))))),?_⟩
  refine⟨_,rfl,pl,_,_,_,rfl,rfl,cT.of hp,rfl,?_⟩
  refine⟨_,rfl,pl,_,_,_,rfl,rfl,cT.of hp,rfl,?_⟩
  refine⟨by show 0<=sizeLine;decide,λl hl=>?_⟩
  have Xl:∀{H2},ak H H2->mO K p.aq H2 x T1.1 T1.2.1 T1.2.2.1 T1.2.2.2:=λe=>mO.same e hP
  refine⟨λσ H'=>∃ps:List Addr,σ=[some (.ref x),some (.str f),some (.str s),some (.ref pl),some (.str ⟨#[c]⟩),some (.int (i:Int)),some (.int (j:Int)),some (.ref l)]/\ak H H'/\H' l=some (.lst (ps.map V.ref))/\ps.length<=1 ∧
   Paired (Ly (Wo l H')) ps (if i<f.cps.size/\j<s.cps.size then [((i+1,j+1,112),(t9 T1 f f s).pc i j)]else []),?_,?_⟩
  ·refine⟨_,rfl,_,rfl,_,_,rfl,⟨lf,rfl⟩,_,_,rfl,rfl,_,rfl,?_⟩
   refine fJ (λh1=>?_) (λh1=>?_)
   ·refine⟨_,rfl,_,rfl,_,_,rfl,⟨ls,rfl⟩,_,_,rfl,rfl,_,rfl,?_⟩
    have t7:i<f.cps.size:=by have z:(i:Int)<(f.cps.size:Int):=h1;omega
    refine fJ (λh2=>?_) (λh2=>?_)
    ·have h2':j<s.cps.size:=by have z:(j:Int)<(s.cps.size:Int):=h2;omega
     obtain⟨a,ha⟩:=An t7
     obtain⟨b,hb⟩:=An h2'
     obtain⟨i',j',fr,hi',hj',hat,Xy⟩:=Ik (u:=uT T1) hP.X5 (of a (ng ha)) (os b (ng hb))
     refine⟨_,rfl,.inl ⟨rfl,_,cS.of ah⟩,_,rfl,_,_,rfl,rfl,_,rfl,_,_,rfl,rfl,by show 2<=sizeLine;decide,λp1 hp1=>⟨by show 2<=sizeLine;decide,λq1 hq1=>?_⟩⟩
     have s0:=(ak.upd (o:=.lst []) hl).trans ((ak.upd hp1).trans (ak.upd (o:=.tup [.ref p1,.str (Str.ofString "p")]) hq1))
     refine⟨_,rfl,_,rfl,_,rfl,f,_,a,rfl,rfl,lf,g7 (je ha),_,rfl,_,rfl,s,_,b,rfl,rfl,ls,g7 (je hb),x,T1.1,T1.2.1,T1.2.2.1,T1.2.2.2,i',j',a,b,fr,rfl,Xl s0,hi',hj',hat,λH5 s5=>⟨by show 2<=sizeLine;decide,λr1 hr1=>?_⟩⟩
     obtain⟨h5,nr,sw,st⟩:=Dp (t:=((i+1,j+1,112),(t9 T1 f f s).pc i j)) (y:=.lst ([]++[.ref r1])) ah hp1 hq1 s5 hr1 rfl rfl sP (by
      show V.int (fr.1*(uT T1 / fr.2))=V.int (Q2 T1.1 T1.2.1 (uT T1) (f.cps.toList.getD i 0) (s.cps.toList.getD j 0))
      rw[List.getD_eq_getElem?_getD,List.getD_eq_getElem?_getD,je ha,je hb]
      exact congrArg V.int Xy.symm)
     refine⟨l,_,_,rfl,rfl,by rw[au (Ne.symm nr)];exact h5,by show 0<sizeLine;decide,[r1],rfl,rR (s0.trans s5) hl hr1,ah,Nat.le_refl _,?_⟩
     rw[if_pos ⟨t7,h2'⟩]
     exact .cons st .nil
    ·have h2':¬j<s.cps.size:=λz=>h2 (by show(j:Int)<(s.cps.size:Int);omega)
     exact⟨[],rfl,ak.upd hl,ah,Nat.zero_le _,by rw[if_neg (λz=>h2' z.2)];exact .nil⟩
   ·have t7:¬i<f.cps.size:=λz=>h1 (by show(i:Int)<(f.cps.size:Int);omega)
    refine iy ?_
    exact⟨[],rfl,ak.upd hl,ah,Nat.zero_le _,by rw[if_neg (λz=>t7 z.1)];exact .nil⟩
  rintro σ H2 ⟨ps,rfl,s2,h2,l2,pp⟩
  refine⟨λσ H'=>∃ps:List Addr,σ=[some (.ref x),some (.str f),some (.str s),some (.ref pl),some (.str ⟨#[c]⟩),some (.int (i:Int)),some (.int (j:Int)),some (.ref l)]/\ak H H'/\H' l=some (.lst (ps.map V.ref))/\ps.length<=2 ∧
   Paired (Ly (Wo l H')) ps ((if i<f.cps.size/\j<s.cps.size then [((i+1,j+1,112),(t9 T1 f f s).pc i j)]else [])++(if i<f.cps.size then [((i+1,j,97),(t9 T1 f f s).ac 97 c)]else [])),?_,?_⟩
  ·refine⟨_,rfl,_,rfl,_,_,rfl,⟨lf,rfl⟩,_,_,rfl,rfl,_,rfl,?_⟩
   refine fJ (λh1=>?_) (λh1=>?_)
   ·have t7:i<f.cps.size:=by have z:(i:Int)<(f.cps.size:Int):=h1;omega
    refine⟨_,rfl,.inl ⟨rfl,_,cS.of h2⟩,_,rfl,_,_,rfl,rfl,_,rfl,by show 2<=sizeLine;decide,λp1 hp1=>⟨by show 2<=sizeLine;decide,λq1 hq1=>?_⟩⟩
    have s0:=s2.trans ((ak.upd hp1).trans (ak.upd (o:=.tup [.ref p1,.str (Str.ofString "a")]) hq1))
    refine⟨_,rfl,_,rfl,x,T1.1,T1.2.1,T1.2.2.1,T1.2.2.2,_,_,rfl,Xl s0,by show 2<=sizeLine;decide,λr1 hr1=>?_⟩
    obtain⟨h5,nr,sw,st⟩:=Dp (t:=((i+1,j,97),(t9 T1 f f s).ac 97 c)) (y:=.lst (ps.map V.ref++[.ref r1])) h2 hp1 hq1 (ak.refl _) hr1 rfl rfl sA (Mq sA)
    refine⟨l,_,_,rfl,rfl,by rw[au (Ne.symm nr)];exact h5,by rw[List.length_map];exact Nat.lt_of_le_of_lt l2 (by decide),ps++[r1],rfl,rR s0 hl hr1,by rw[ah,List.map_append];rfl,by rw[List.length_append];exact Nat.succ_le_succ l2,?_⟩
    rw[if_pos t7]
    exact GP.Paired.snoc (Paired.iK pp λ_ _ z=>z.same sw) st
   ·have t7:¬i<f.cps.size:=λz=>h1 (by show(i:Int)<(f.cps.size:Int);omega)
    exact⟨ps,rfl,s2,h2,by omega,by rw[if_neg t7,List.append_nil];exact pp⟩
  rintro σ H3 ⟨ps,rfl,s3,h3,l3,pp⟩
  refine⟨λσ H'=>∃ps:List Addr,σ=[some (.ref x),some (.str f),some (.str s),some (.ref pl),some (.str ⟨#[c]⟩),some (.int (i:Int)),some (.int (j:Int)),some (.ref l)]/\ak H H'/\H' l=some (.lst (ps.map V.ref)) ∧
   Paired (Ly (Wo l H')) ps (((if i<f.cps.size/\j<s.cps.size then [((i+1,j+1,112),(t9 T1 f f s).pc i j)]else [])++(if i<f.cps.size then [((i+1,j,97),(t9 T1 f f s).ac 97 c)]else []))++(if j<s.cps.size then [((i,j+1,98),(t9 T1 f f s).ac 98 c)]else [])),?_,?_⟩
  ·refine⟨_,rfl,_,rfl,_,_,rfl,⟨ls,rfl⟩,_,_,rfl,rfl,_,rfl,?_⟩
   refine fJ (λh1=>?_) (λh1=>?_)
   ·have t7:j<s.cps.size:=by have z:(j:Int)<(s.cps.size:Int):=h1;omega
    refine⟨_,rfl,.inl ⟨rfl,_,cS.of h3⟩,_,rfl,_,rfl,_,_,rfl,rfl,by show 2<=sizeLine;decide,λp1 hp1=>⟨by show 2<=sizeLine;decide,λq1 hq1=>?_⟩⟩
    have s0:=s3.trans ((ak.upd hp1).trans (ak.upd (o:=.tup [.ref p1,.str (Str.ofString "b")]) hq1))
    refine⟨_,rfl,_,rfl,x,T1.1,T1.2.1,T1.2.2.1,T1.2.2.2,_,_,rfl,Xl s0,by show 2<=sizeLine;decide,λr1 hr1=>?_⟩
    obtain⟨h5,nr,sw,st⟩:=Dp (t:=((i,j+1,98),(t9 T1 f f s).ac 98 c)) (y:=.lst (ps.map V.ref++[.ref r1])) h3 hp1 hq1 (ak.refl _) hr1 rfl rfl sB (Mq sB)
    refine⟨l,_,_,rfl,rfl,by rw[au (Ne.symm nr)];exact h5,by rw[List.length_map];exact Nat.lt_of_le_of_lt l3 (by decide),ps++[r1],rfl,rR s0 hl hr1,by rw[ah,List.map_append];rfl,?_⟩
    rw[if_pos t7]
    exact GP.Paired.snoc (Paired.iK pp λ_ _ z=>z.same sw) st
   ·have t7:¬j<s.cps.size:=λz=>h1 (by show(j:Int)<(s.cps.size:Int);omega)
    exact⟨ps,rfl,s3,h3,by rw[if_neg t7,List.append_nil];exact pp⟩
  rintro σ H4 ⟨ps,rfl,s4,h4,pp⟩
  refine⟨_,rfl,kk l H4 s4 hl λm=>⟨ps,h4,?_⟩⟩
  rw[List.append_assoc]at pp
  exact Paired.iK pp λ_ _ z=>z.same Wo.sub
end
section
variable{P:Program}{w:World}{K:PySem.W.Frag}{mg:Str->Option Value}{base:Heap}
theorem z9 {jB iT:Addr} {iS gB:FuncData} {p:Pm} (T:Txt K mg p base) (gk:Dn K mg "all_steps" m5 Rx jB iS) (fk:Dn K mg "steps_from" lK Ry iT gB) (AI:aK P w K mg base cD 4 iT gB Ry (EH K p.aq)):aK P w K mg base cD 5 jB iS Rx (HS P w K p.aq):=by
 refine gk.fn.ok lJ (λvs H Q E h=>?_) (λcdv A outer s H vs Q E hr h=>?_)
 ·obtain⟨x,lp,T1,f,s,rfl,_⟩:=h
  rfl
 ·obtain⟨x,lp,T1,f,s,rfl,hP,of,os,hf,hs,⟨ps,Qa,pp⟩,kk⟩:=h
  have pw:=yO f.cps.size s.cps.size
  refine⟨_,(aj (aG (i:=4) lJ.nd rfl (Or.inl rfl) (EY (Pr:=P) (wo:=w) rfl rfl))
   (aj (fF PassesOwn.never rfl (oh (pv 3)) (aS (i:=5) lJ.nd rfl (Or.inl rfl)) (ao (fF PassesOwn.never rfl (Oo (fH (v:=.ref p.oJ) rfl T.Pb rfl)) (aS (i:=6) lJ.nd rfl (Or.inl rfl)) (ao (ET (Pr:=P) (wo:=w) (rC hr) (pv 4) (bP (aa (pv 5) (aa (pv 6) af))) (aA AI (hr.mono (by decide)) rfl fk.m fk.fn.kp fk.b .nil aR (aa (pv 0) (aa (pv 1) (aa (pv 2) (aa (pv 5) (aa (pv 6) af)))))) rfl rfl rfl)))))
   (ao (aJ (pv 4))))),?_⟩
  refine λd hd=>?_
  have s1:ak H (L2.upd H d (CZ P w d [])):=ak.upd hd
  refine⟨_,rfl,lp,rfl,⟨_,cS.of (s1 _ _ Qa)⟩,?_⟩
  refine pM (K:=K) (a:=lp) (xs:=ps.map V.ref) (λa σ H2=>∃v5 v6 kvs,σ=[some (.ref x),some (.str f),some (.str s),some (.ref lp),some (.ref d),v5,v6]/\ak H H2/\H2 d=some (CZ P w d kvs)/\(∀e∈kvs,lu (Wo d H2) e.2.1 e.1)/\∀m,GS (Wo d H2) (t9 T1 m f s) kvs (cX ((placesOf f.cps.size s.cps.size).take a)))
   ⟨_,_,[],rfl,s1,ah,(λe he=>nomatch he),λm=>by rw[List.take_zero];exact .nil⟩ (λa σ H2 _ ⟨_,_,_,_,s2,_⟩=>cS.of (s2 _ _ Qa)) ?_ ?_
  ·rintro a y σ H2 hy ⟨v5,v6,kvs,rfl,s2,hd2,hk2,hst⟩
   obtain⟨pl,hpl,rfl⟩:=mF hy
   obtain⟨q,hq,hpq⟩:=GP.Paired.at pp hpl
   have hqn:=jl.mp (List.mem_of_getElem? hq)
   refine⟨p.oJ,rfl,⟨_,T.HZ _⟩,?_⟩
   refine Lj (K:=K) (a:=p.oJ) (xs:=[V.str (Str.ofString "p"),V.str (Str.ofString "a"),V.str (Str.ofString "b")]) (λb σ H3=>∃v6 kvs,σ=[some (.ref x),some (.str f),some (.str s),some (.ref lp),some (.ref d),some (.ref pl),v6]/\ak H H3/\H3 d=some (CZ P w d kvs)/\(∀e∈kvs,lu (Wo d H3) e.2.1 e.1)/\∀m,GS (Wo d H3) (t9 T1 m f s) kvs (cX ((placesOf f.cps.size s.cps.size).take a)++st3 q b))
    ⟨_,kvs,rfl,s2,hd2,hk2,λm=>by show GS _ _ _ (_++[]);rw[List.append_nil];exact hst m⟩ (λb σ H3 _ _=>T.HZ _) ?_ ?_
   ·rintro b y σ H3 hy ⟨v6,kvs,rfl,s3,Le,TQ,hst⟩
    obtain⟨c,hc,rfl⟩:=Pn hy
    refine⟨_,rfl,_,rfl,_,rfl,_,rfl,_,rfl,x,pl,T1,f,s,q.1,q.2,c,rfl,hP.same s3,of,os,hf,hs,s3 _ _ hpq,λl H4 s4 hl hsl=>?_⟩
    refine⟨_,rfl,_,rfl,_,rfl,by show 2<=sizeLine;decide,λq1 hq1=>?_⟩
    have Ld:=s4 _ _ Le
    have nq:q1≠d:=λz=>by rw[z,Ld]at hq1;cases hq1
    have nl:l≠d:=λz=>by rw[z,Le]at hl;cases hl
    have kq:lu (L2.upd H4 q1 (.tup [.ref pl,.str ⟨#[c]⟩])) q1 (jM (q.1,q.2,c)):=⟨pl,ah,by rw[au (aM (s4 _ _ (s3 _ _ hpq)) hq1)];exact s4 _ _ (s3 _ _ hpq)⟩
    have sw:ak (Wo d H3) (L2.upd H4 q1 (.tup [.ref pl,.str ⟨#[c]⟩])):=λb u h=>ak.upd hq1 b u (s4 b u (Wo.sub b u h))
    have hno:=LN (hst f) (Ob pw hq hc)
    have hal:a<(placesOf f.cps.size s.cps.size).length:=(List.getElem?_eq_some_iff.mp hq).1
    have hlen:kvs.length<sizeLine:=by
     have z:=Oc (q:=q) (b:=b) hal
     rw[←Paired.len (hst f),places_len]at z
     exact IQ hf hs z
    refine⟨d,kvs,_,q1,rfl,rfl,⟨by rw[au (Ne.symm nq)];exact Ld,λe he=>lu.same (TQ e he) sw⟩,kq,hlen,?_⟩
    rw[Ip hno]
    have X4:ak (Wo d H3) (Wo d (L2.upd (L2.upd H4 q1 (.tup [.ref pl,.str ⟨#[c]⟩])) d (CZ P w d (kvs++[(jM (q.1,q.2,c),q1,.ref l)])))):=λb u h=>Wo.in (Wo.ne h) (by rw[au (Wo.ne h)];exact sw b u h)
    refine⟨_,_,rfl,?_,ah,λe he=>?_,λm=>?_⟩
    ·exact ak.at ((s3.trans s4).trans (ak.upd hq1)) hd
    ·rcases List.mem_append.mp he with he|he
     ·exact lu.same (TQ e he) X4
     ·rw[List.mem_singleton.mp he]
      obtain⟨ZK,k1,k2⟩:=kq
      exact⟨ZK,Wo.in nq (by rw[au nq];exact k1),Wo.in (λz=>by rw[z,au (Ne.symm nq),Ld]at k2;cases k2) (by rw[au (λz=>by rw[z,au (Ne.symm nq),Ld]at k2;cases k2)];exact k2)⟩
    ·rw[HD hc,←List.append_assoc]
     refine GP.Paired.snoc ((hst m).same X4) ⟨rfl,l,rfl,(hsl m).da.same λb u h=>?_⟩
     have h':H4 b=some u:=by
      unfold rM at h
      split at h
      ·next e=>cases h;exact e
      ·next e=>cases h;exact e
      ·cases h
     have nb:b≠d:=λz=>by
      rw[z,Ld]at h'
      unfold rM at h
      rw[z,Ld]at h
      cases h
     exact Wo.in nb (by rw[au nb];exact ak.upd hq1 _ _ h')
   ·rintro σ H3 ⟨v6,kvs,rfl,s3,Le,TQ,hst⟩
    exact⟨_,_,kvs,rfl,s3,Le,TQ,λm=>by rw[Bc hq];exact hst m⟩
  ·rintro σ H2 ⟨v5,v6,kvs,rfl,s2,hd2,hk2,hst⟩
   refine⟨_,rfl,kk d kvs H2 s2 hd ⟨hd2,λe he=>lu.same (hk2 e he) Wo.sub⟩ λm=>?_⟩
   have z:=(hst m).same Wo.sub
   rw[List.length_map,Paired.len pp,List.take_length]at z
   exact z
theorem BO {ku lX:Addr} {jt kg:FuncData} {p:Pm} (T:Txt K mg p base) (iC:Dn K mg "all_ends" n8 Rw ku jt) (jC:Dn K mg "may_end" qb RA lX kg) (G0:aK P w K mg base cD 1 lX kg RA (HL K)):aK P w K mg base cD 2 ku jt Rw EN:=by
 refine iC.fn.ok o5 (λvs H Q E h=>?_) (λcdv A outer s H vs Q E hr h=>?_)
 ·obtain⟨lp,f,s,m,rfl,_⟩:=h
  rfl
 ·obtain⟨lp,f,s,m,rfl,hf,hs,⟨ps,Qa,pp⟩,kk⟩:=h
  refine⟨_,(aj (aG (i:=4) o5.nd rfl (Or.inl rfl) BG)
   (aj (fF PassesOwn.never rfl (oh (pv 2)) (aS (i:=5) o5.nd rfl (Or.inl rfl)) (ao (EV (B6 hr) (pv 4) (pv 5) (aA G0 (hr.mono (by decide)) rfl jC.m jC.fn.kp jC.b .nil aR (aa (pv 3) (aa (pv 0) (aa (pv 1) (aa (pv 5) af))))) rfl)))
   (ao (aJ (pv 4))))),?_⟩
  refine λd hd=>?_
  have s1:ak H (L2.upd H d (.dT [])):=ak.upd hd
  refine⟨_,rfl,lp,rfl,⟨_,cS.of (s1 _ _ Qa)⟩,?_⟩
  refine pM (K:=K) (a:=lp) (xs:=ps.map V.ref) (λa σ H2=>∃v5 kvs,σ=[some (.str f),some (.str s),some (.ref lp),some (.str m),some (.ref d),v5]/\ak H H2/\H2 d=some (.dT kvs)/\kvs.length<=a/\∀q∈(placesOf f.cps.size s.cps.size).take a,lF kvs [.inl (q.1:Int),.inl (q.2:Int)]=some (.bl (Ab m f s (q.1,q.2))))
   ⟨_,[],rfl,s1,ah,Nat.le_refl _,λq hq=>by rw[List.take_zero]at hq;exact nomatch hq⟩ (λa σ H2 _ ⟨_,_,_,s2,_⟩=>cS.of (s2 _ _ Qa)) ?_ ?_
  ·rintro a y σ H2 hy ⟨v5,kvs,rfl,s2,hd2,hk2,hst⟩
   obtain⟨pl,hpl,rfl⟩:=mF hy
   obtain⟨q,hq,hpq⟩:=GP.Paired.at pp hpl
   have hal:=(List.getElem?_eq_some_iff.mp hq).1
   rw[places_len]at hal
   refine⟨_,rfl,_,rfl,_,rfl,_,rfl,m,f,s,pl,((q.1:Int),(q.2:Int)),rfl,cT.of (s2 _ _ hpq),by omega,by omega,?_⟩
   refine⟨_,rfl,_,rfl,d,_,rfl,G2.t (k:=[.inl (q.1:Int),.inl (q.2:Int)]) hd2 (s2 _ _ hpq) (IQ hf hs (by omega)),?_⟩
   refine⟨_,_,rfl,ak.at s2 hd,ah,Nat.le_trans (m6 _ _ _) (Nat.succ_le_succ hk2),λr hr=>?_⟩
   rw[take_snoc hq]at hr
   rw[A0]
   by_cases e:r=q
   ·rw[if_pos (by rw[e]),e]
   ·rw[if_neg (λz=>e ?_)]
    ·rcases List.mem_append.mp hr with hr|hr
     ·exact hst r hr
     ·exact absurd (List.mem_singleton.mp hr) e
    ·have z1:=(List.cons.inj z).1
     have z2:=(List.cons.inj (List.cons.inj z).2).1
     have e1:(r.1:Int)=q.1:=Sum.inl.inj z1
     have e2:(r.2:Int)=q.2:=Sum.inl.inj z2
     exact Prod.ext (by omega) (by omega)
  ·rintro σ H2 ⟨v5,kvs,rfl,s2,hd2,hk2,hst⟩
   refine⟨_,rfl,kk d kvs H2 s2 hd hd2 λT1 i j hi hj=>?_⟩
   rw[List.length_map,Paired.len pp,List.take_length]at hst
   exact hst (i,j) (jl.mpr ⟨hi,hj⟩)
theorem qY {bC iY fW i7 jB ju ku:Addr} {eE gG eV gK iS iL jt:FuncData} {p:Pm} (T:Txt K mg p base) (dj:Dm K "__init__" "Ground.__init__" bX PX bC eE) (fC:Dn K mg "check_rows" lQ RD iY gG) (AN:aK P w K mg base (vq P w) 4 iY gG RD (EI K p.aq p.aD)) (c5:Dn K mg "check_manner" jL ["manner"] fW eV) (xD:aK P w K mg base (vq P w) 1 fW eV ["manner"] (oX p.az)) (fE:Dn K mg "all_places" lT Rz i7 gK) (AQ:aK P w K mg base cD 1 i7 gK Rz LO) (gk:Dn K mg "all_steps" m5 Rx jB iS) (CV:aK P w K mg base cD 5 jB iS Rx (HS P w K p.aq)) (gb:Dn K mg "may_begin" mS RB ju iL) (CN:aK P w K mg base cD 1 ju iL RB (HM K)) (iC:Dn K mg "all_ends" n8 Rw ku jt) (Ey:aK P w K mg base cD 2 ku jt Rw EN):aK P w K mg base (vq P w) 6 bC eE PX (Bo P w K p.aq p.aV p.aD p.az):=by
 refine dj.fn.PM mq (λvs H Q E h=>?_) (λcdv A outer s H vs Q E hr h=>?_)
 ·obtain⟨x,dx,pr,T1,f,s,m,rfl,_⟩:=h
  rfl
 ·obtain⟨x,dx,pr,T1,f,s,m,rfl,hx,hP,hf,hs,kk,kS,kM⟩:=h
  refine⟨_,(aj (g6 (aA AN (hr.mono (by decide)) rfl fC.m fC.fn.kp fC.b .nil (Lets.passes qj) (aa (pv 1) (aa (jO (aa (pv 2) (aa (pv 3) af))) af))))
   (aj (g6 (aA xD (hr.mono (by decide)) rfl c5.m c5.fn.kp c5.b .nil (Lets.passes qj) (aa (pv 4) af)))
   (aj (aG (i:=5) mq.nd rfl (Or.inl rfl) (aA AQ (hr.mono (by decide)) rfl fE.m fE.fn.kp fE.b .nil aR (aa (pv 2) (aa (pv 3) af))))
   (aj (lC (pv 0) (aA CV (hr.mono (by decide)) rfl gk.m gk.fn.kp gk.b .nil aR (aa (pv 1) (aa (pv 2) (aa (pv 3) (aa (pv 5) af))))) rfl)
   (aj (lC (pv 0) (Ih (N:=["place","manner"]) rfl (c6.uC (nt:=1) (ix:=[4]) rfl (by decide +kernel) (by decide +kernel) (by kernel_rfl) rfl (by kernel_rfl)) (oh (pv 5)) (λ_ _ _ _ _ _ _=>(aS (i:=0) (show(["place","manner"]:List Str).Nodup by decide +kernel) rfl (Or.inl rfl))) (λ_ _ _ _ _ _ _=>(pv 0)) (λ_ _ _ _ _ _ _=>(fL (aA CN (hr.mono (by decide)) rfl gb.m gb.fn.kp gb.b .nil aR (aa (pv 1) (aa (pv 0) af)))))) rfl)
   (ao (lC (pv 0) (aA Ey (hr.mono (by decide)) rfl iC.m iC.fn.kp iC.b .nil aR (aa (pv 2) (aa (pv 3) (aa (pv 5) (aa (pv 4) af))))) rfl))))))),?_⟩
  refine⟨_,rfl,_,rfl,_,rfl,by show 2<=sizeLine;decide,λl hl=>?_⟩
  refine⟨pr,l,T1.1,T1.2.1,T1.2.2.1,T1.2.2.2,f,s,rfl,hP.same (ak.upd hl),ah,by omega,by omega,λof os H1 s1=>?_,λi j bad dx H1 s1 hd=>kS i j bad dx H1 ((ak.upd hl).trans s1) hd⟩
  have Tj:=(ak.upd (o:=.lst [.str f,.str s]) hl).trans s1
  refine⟨_,rfl,m,rfl,λhm=>?_,λhm=>⟨(kM of os hm).1,(kM of os hm).2 H1 Tj⟩⟩
  obtain⟨B9,B7,kk⟩:=kk of os hm
  refine⟨_,rfl,_,rfl,f,s,rfl,B9,B7,λlp H2 s2 Qa hpl=>?_⟩
  have QX:=Tj.trans s2
  refine⟨_,rfl,_,rfl,_,rfl,_,rfl,pr,lp,T1,f,s,rfl,hP.same QX,of,os,B9,B7,hpl,λd kvs H3 s3 hd hnd hst=>?_⟩
  have G5:=QX.trans s3
  have YA:=G5 _ _ hx
  refine⟨_,rfl,x,_,dx,[],rfl,YA,T.i8,T.jS,by show 0<1000;decide,?_⟩
  have d3:=Dat.set (fs':=aF "steps" (.ref d) []) YA
  have R0:=(hpl.same s3).da.same (rM.dat d3)
  obtain⟨ps,hps,pp⟩:=id R0
  have hlen:=Paired.len pp
  rw[places_len]at hlen
  refine⟨_,rfl,lp,rfl,⟨_,cS.of hps⟩,λlB hlB=>?_⟩
  have at_:∀i,i<ps.length->ps[i]? =some (ps.getD i 0)/\Et (L2.upd H3 x (.ins p.aV dx (aF "steps" (.ref d) []))) (ps.getD i 0) ((placesOf f.cps.size s.cps.size).getD i (0,0)):=λi hi=>by
   have e:ps[i]? =some (ps.getD i 0):=by rw[List.getD_eq_getElem?_getD,List.getElem?_eq_getElem hi];rfl
   obtain⟨q,hq,hpq⟩:=GP.Paired.at pp e
   refine⟨e,?_⟩
   rw[List.getD_eq_getElem?_getD (l:=placesOf _ _),hq]
   exact hpq
  refine Fy ps.length (λi=>xZ m (((placesOf f.cps.size s.cps.size).getD i (0,0)).1,((placesOf f.cps.size s.cps.size).getD i (0,0)).2)) (λi=>.ref (ps.getD i 0)) hlB (IQ B9 B7 (by omega)) (λi H4 s4 hi=>?_) (λH4 s4=>?_) (λi y H4 H5 R S s4 hi hy hR hS=>?_) λH4 s4 W0=>?_
  ·exact⟨_,_,cS.of (s4 _ _ hps),by rw[List.getElem?_map,(at_ i hi).1];rfl⟩
  ·exact⟨_,cS.of (s4 _ _ hps),by rw[List.length_map];exact Nat.le_refl _⟩
  ·obtain⟨rfl,hy⟩:=hy
   have ey:=hy _ (cS.of (s4 _ _ hps))
   rw[List.getElem?_map,(at_ i hi).1]at ey
   cases ey
   refine⟨Kp.HV,_,rfl,_,rfl,m,_,((((placesOf f.cps.size s.cps.size).getD i (0,0)).1:Int),(((placesOf f.cps.size s.cps.size).getD i (0,0)).2:Int)),rfl,cT.of (s4 _ _ (at_ i hi).2),_,rfl,?_⟩
   cases z:xZ m (((placesOf f.cps.size s.cps.size).getD i (0,0)).1,((placesOf f.cps.size s.cps.size).getD i (0,0)).2)with
   |true=>exact pL ⟨_,rfl,hR z _ (ak.refl _)⟩
   |false=>exact iy (hS z _ (ak.refl _))
  have RW:=s4 _ _ (ah (H:=H3) (a:=x) (o:=.ins p.aV dx (aF "steps" (.ref d) [])))
  refine⟨_,rfl,x,_,dx,_,rfl,RW,T.i8,T.oO,by show 1<1000;decide,?_⟩
  have d4:=Dat.set (fs':=aF "begins" (.ref lB) (aF "steps" (.ref d) [])) RW
  have WN:Hg H4 lp (placesOf f.cps.size s.cps.size):=R0.same s4
  have WM:=WN.da.same (rM.dat d4)
  refine⟨_,rfl,_,rfl,_,rfl,_,rfl,lp,f,s,m,rfl,B9,B7,WM,λdE kE H6 s6 hdE hE6 hE=>?_⟩
  have Me:=s6 _ _ (ah (H:=H4) (a:=x) (o:=.ins p.aV dx (aF "begins" (.ref lB) (aF "steps" (.ref d) []))))
  refine⟨_,rfl,x,_,dx,_,rfl,Me,T.i8,T.nE,by show 2<1000;decide,?_⟩
  have d6:=Dat.set (fs':=aF "ends" (.ref dE) (aF "begins" (.ref lB) (aF "steps" (.ref d) []))) Me
  have dd:Dat H3 (L2.upd H6 x (.ins p.aV dx (aF "ends" (.ref dE) (aF "begins" (.ref lB) (aF "steps" (.ref d) []))))):=(((d3.trans (Dat.of s4)).trans d4).trans (Dat.of s6)).trans d6
  have de:Dat H4 (L2.upd H6 x (.ins p.aV dx (aF "ends" (.ref dE) (aF "begins" (.ref lB) (aF "steps" (.ref d) []))))):=(d4.trans (Dat.of s6)).trans d6
  refine kk _ (λb u nb hb=>?_) ⟨dx,d,lB,dE,kvs,kE,ah,ND.dat hnd dd,(hst m).da.same (rM.dat dd),?_,d6 _ _ (λ_ _ _ z=>by cases z) hE6,hE T1⟩
  ·rw[au nb]
   refine s6 _ _ ?_
   rw[au nb]
   refine s4 _ _ ?_
   rw[au nb]
   exact G5 _ _ hb
  ·refine⟨((List.range ps.length).filter λi=>xZ m (((placesOf f.cps.size s.cps.size).getD i (0,0)).1,((placesOf f.cps.size s.cps.size).getD i (0,0)).2)).map λi=>ps.getD i 0,?_,?_⟩
   ·rw[List.map_map]
    exact de _ _ (λ_ _ _ z=>by cases z) W0
   ·unfold Jy
    rw[←Fp (placesOf f.cps.size s.cps.size) (0,0),places_len,←hlen]
    refine uv λi hi=>?_
    have hi':=List.mem_range.mp (List.mem_filter.mp hi).1
    exact de _ _ (λ_ _ _ z=>by cases z) (s4 _ _ (at_ i hi').2)
end
section
variable{P:Program}{w:World}{K:PySem.W.Frag}{mg:Str->Option Value}{base:Heap}
theorem vW {gM:Addr} {fN:FuncData} {p:Pm} (T:Txt K mg p base) (dM:Dn K mg "least_rests" kK ["ground"] gM fN)  :aK P w K mg base cD 1 gM fN ["ground"] (HH P w p.aV):=by
 refine dM.fn.ok jG (λvs H Q E h=>?_) (λcdv A outer s H vs Q E hr h=>?_)
 ·obtain⟨x,g,bs,rfl,_⟩:=h
  rfl
 ·obtain⟨x,g,bs,rfl,hG,ok,hn,hm,kk⟩:=h
  obtain⟨dx,dS,lB,dE,kS,kE,hx,hS,hst,hB,hE,Sj⟩:=id hG
  have hN:kS.length=g.states.length:=Paired.len hst
  have hN3:g.states.length=3*((g.n+1)*(g.m+1)):=by unfold Gd.states;rw[vH,places_len]
  refine⟨_,(aj (aG (i:=1) jG.nd rfl (Or.inr rfl) (EY (Pr:=P) (wo:=w) rfl rfl))
   (aj (fF PassesOwn.never rfl (Oq rfl T.C8 (aa (j6 (Ar (Pr:=P) (wo:=w) rfl rfl rfl) rfl T.vt sQ (aa (dm (pv 0) rfl) af)) af)) (aS (i:=2) jG.nd rfl (Or.inl rfl)) (aj (vR (i:=3) (N:=Wq) jG.nd rfl (Or.inl rfl) rfl (c6.uC (nt:=2) (ix:=[1]) rfl (by decide +kernel) (by decide +kernel) (by kernel_rfl) rfl (by kernel_rfl)) (oh (rU (Pr:=P) (wo:=w) (rC hr) (dm (pv 0) rfl) (pv 2) (λ_ _=>rfl) rfl rfl)) (λ_ _ _ _ _ _ _=>(EX (K':=K) (n:=2) rfl rfl (bT (aS (i:=0) (show(Wq:List Str).Nodup by decide +kernel) rfl (Or.inl rfl)) (bT (aS (i:=1) (show(Wq:List Str).Nodup by decide +kernel) rfl (Or.inl rfl)) kU)))) (λ_ _ _ _ _ _ _=>(aE cR (pv 1) (rU (Pr:=P) (wo:=w) (rC hr) (pv 2) (pv 0) (λ_ _=>rfl) rfl rfl))))
   (bI (bJ (fL (zR (B6 hr) (dm (pv 0) rfl) (bw bR (pv 2) ai (λ_ _=>rfl)) (λ_ _=>rfl))) (ao (g6 (qz PySem.F.plainAttrs_list PySem.F.slot_list_append PySem.F.type_list_append iJ (pv 3) (aa ai af)))) aU)
   (ao (ET (Pr:=P) (wo:=w) (rC hr) (pv 1) (pv 2) (aC (GL rfl) rfl T.Hj Em (aa (pv 3) af)) rfl rfl rfl)))))
   (ao (aJ (pv 1))))),?_⟩
  refine λd hd=>?_
  have s1:ak H (L2.upd H d (CZ P w d [])):=ak.upd hd
  refine⟨_,rfl,x,_,dx,_,_,rfl,s1 _ _ hx,T.i8,T.jS,t8,dS,kS,rfl,ND.same hS s1,λl hl=>?_⟩
  have s2:=s1.trans (ak.upd (o:=.lst (kS.map λe=>.ref e.2.1)) hl)
  have Yl:l≠d:=λz=>by rw[z,ah]at hl;cases hl
  refine⟨l,_,rfl,cS.of ah,?_⟩
  refine Lk (K:=K) (a:=l) (xs:=kS.map λe=>V.ref e.2.1) (λk σ H2=>∃v2 v3 kvs,σ=[some (.ref x),some (.ref d),v2,v3]/\ak H H2/\H2 l=some (.lst (kS.map λe=>V.ref e.2.1))/\H2 d=some (CZ P w d kvs)/\kvs.length<=k/\(∀e∈kvs,lu (Wo d H2) e.2.1 e.1)/\∀s∈g.states.drop (g.states.length-k),j3 kvs (jM s)=some (.int (g.rest s)))
   ⟨_,_,[],rfl,s2,ah,by rw[au (Ne.symm Yl),ah],Nat.le_refl _,(λe he=>nomatch he),λs hs=>by rw[Nat.sub_zero,List.drop_length]at hs;exact nomatch hs⟩ (λk σ H2 _ ⟨_,_,_,_,_,h2,_⟩=>cS.of h2) ?_ ?_
  ·rintro k y σ H2 hk hy ⟨v2,v3,kvs,rfl,s2,hl2,hd2,hlen,hkey,hval⟩
   rw[List.length_map,hN]at hk
   rw[List.length_map,hN]at hy
   obtain⟨e,he,rfl⟩:=mF hy
   obtain⟨s,hs,hek,l',hel,hsl⟩:=GP.Paired.at hst he
   have hin:=Gd.gu.mp (List.mem_of_getElem? hs)
   have hke:lu H e.2.1 (jM s):=by rw[←hek];exact hS.keys e (List.mem_of_getElem? he)
   obtain⟨l'',WQ,RY⟩:=zD hst (Gd.gu.mpr hin)
   obtain⟨ps,hps,pp⟩:=RY
   have hpl:=Paired.len pp
   refine⟨_,rfl,x,_,dx,_,_,rfl,s2 _ _ hx,T.i8,T.jS,t8,_,rfl,dS,kS,jM s,e.2.1,.ref l'',rfl,rfl,ND.same hS s2,lu.same hke s2,WQ,l'',rfl,⟨_,cS.of (s2 _ _ hps)⟩,λlc YJ=>?_⟩
   have WJ:(g.steps s).length<=3:=by unfold Gd.steps;split<;>split<;>split<;>simp
   refine Ek ps.length (λi=>.int (g.key ((g.steps s).getD i (s,0)))) YJ (Nat.lt_of_le_of_lt (show ps.length<=3 by omega) (by decide)) (λi H3 s3 hi=>?_) (λH3 s3=>?_) (λi y H3 H4 R s3 hi hy hR=>?_) λH3 s3 hl3=>?_
   ·exact⟨_,_,cS.of (s3 _ _ (s2 _ _ hps)),by rw[List.getElem?_map,List.getElem?_eq_getElem hi];rfl⟩
   ·exact⟨_,cS.of (s3 _ _ (s2 _ _ hps)),by rw[List.length_map];exact Nat.le_refl _⟩
   ·obtain⟨rfl,hy⟩:=hy
    have ey:=hy _ (cS.of (s3 _ _ (s2 _ _ hps)))
    rw[List.getElem?_map,List.getElem?_eq_getElem hi]at ey
    cases ey
    obtain⟨t,ht,q,hq1,hq2⟩:=GP.Paired.at pp (List.getElem?_eq_getElem hi)
    have et:(g.steps s).getD i (s,0)=t:=by rw[List.getD_eq_getElem?_getD,ht];rfl
    rw[et]at hR
    have hb:=Gd.Bb hs (List.mem_of_getElem? ht)
    rw[show g.states.length-1-k+1=g.states.length-k by omega]at hb
    refine⟨_,_,rfl,cT.of (s3 _ _ (s2 _ _ hq1)),rfl,_,_,rfl,_,_,rfl,rfl,Kp2,?_⟩
    exact⟨_,rfl,_,rfl,_,rfl,d,kvs,jM t.1,q,_,rfl,rfl,⟨s3 _ _ hd2,λe he=>lu.same (lu.same (hkey e he) Wo.sub) s3⟩,lu.same (lu.same hq2 s2) s3,hval t.1 hb,_,_,rfl,rfl,hR _ (ak.refl _)⟩
   have hls:(List.range ps.length).map (λi=>V.int (g.key ((g.steps s).getD i (s,0))))=((g.steps s).map g.key).map V.int:=by
    rw[List.map_map,hpl]
    refine List.ext_getElem (by simp) λi h1 h2=>?_
    simp only[List.getElem_map,List.getElem_range,Function.comp_apply]
    rw[List.getD_eq_getElem?_getD,List.getElem?_eq_getElem (by simpa using h2)]
    rfl
   rw[hls]at hl3
   have G5:=s2.trans s3
   have hcn:H2 lc=none:=YJ
   have ncd:lc≠d:=λz=>by rw[z,hd2]at hcn;cases hcn
   have ncl:lc≠l:=λz=>by rw[z,hl2]at hcn;cases hcn
   obtain⟨pk,hk1,hk2⟩:=hke
   refine⟨λσ H'=>σ=[some (.ref x),some (.ref d),some (.ref e.2.1),some (.ref lc)]/\ak H2 H'/\H' lc=some (.lst ((g.costs g.rest s).map V.int)),?_,?_⟩
   ·refine⟨_,rfl,x,_,dx,_,_,rfl,G5 _ _ hx,T.i8,T.nE,Ca,_,rfl,e.2.1,_,_,_,rfl,rfl,cT.of (G5 _ _ hk1),rfl,dE,.bl (g.en s.1 s.2.1),rfl,?_,_,rfl,?_⟩
    ·rw[←Sj s.1 s.2.1 hin.1 hin.2.1]
     exact CY.t (G5 _ _ hE) (G5 _ _ hk2)
    ·unfold Gd.costs
     cases z:g.en s.1 s.2.1 with
     |true =>
      refine pL ⟨_,rfl,.inl ⟨rfl,_,cS.of hl3⟩,lc,_,_,rfl,rfl,hl3,by rw[List.length_map,List.length_map];exact Nat.lt_of_le_of_lt WJ (by decide),rfl,ak.at s3 hcn,?_⟩
      rw[ah,if_pos rfl,List.map_append]
      rfl
     |false=>exact iy ⟨rfl,s3,by rw[if_neg Bool.false_ne_true,List.append_nil];exact hl3⟩
   rintro σ H4 ⟨rfl,s4,W0⟩
   refine⟨_,rfl,lc,_,rfl,cS.of W0,Gd.Cs ok hin,_,rfl,_,rfl,d,kvs,jM s,e.2.1,rfl,rfl,⟨s4 _ _ hd2,λe he=>lu.same (lu.same (hkey e he) Wo.sub) s4⟩,⟨pk,s4 _ _ (s2 _ _ hk1),s4 _ _ (s2 _ _ hk2)⟩,IQ hn hm (by omega),?_⟩
   rw[←g.rest_eq]
   have sw:ak (Wo d H2) (Wo d (L2.upd H4 d (CZ P w d (sr kvs (jM s) e.2.1 (.int (g.rest s)))))):=λb u h=>Wo.in (Wo.ne h) (by rw[au (Wo.ne h)];exact s4 _ _ (Wo.sub b u h))
   have Tu:∀{b:Addr} {xs:List V},H2 b=some (.tup xs)->b≠d:=λ{b xs} h z=>by rw[z,hd2]at h;cases h
   refine⟨_,_,_,rfl,ak.at (s2.trans s4) hd,by rw[au Yl];exact s4 _ _ hl2,ah,Nat.le_trans (BQ _ _ _ _) (Nat.succ_le_succ hlen),F4 (λe he=>lu.same (hkey e he) sw) (lu.same ⟨pk,Wo.in (Tu (s2 _ _ hk1)) (s2 _ _ hk1),Wo.in (Tu (s2 _ _ hk2)) (s2 _ _ hk2)⟩ sw),λr hr=>?_⟩
   rw[Io]
   rw[show g.states.length-(k+1)=g.states.length-1-k by omega,List.drop_eq_getElem_cons (by omega)]at hr
   rw[(List.getElem?_eq_some_iff.mp hs).2]at hr
   by_cases er:jM r=jM s
   ·rw[if_pos er,vO er]
   ·rw[if_neg er]
    rcases List.mem_cons.mp hr with hr|hr
    ·exact absurd (by rw[hr]) er
    ·exact hval r (by rw[show g.states.length-k=g.states.length-1-k+1 by omega];exact hr)
  ·rintro σ H2 ⟨v2,v3,kvs,rfl,s2,hl2,hd2,hlen,hkey,hval⟩
   rw[List.length_map,hN,Nat.sub_self,List.drop_zero]at hval
   exact⟨_,rfl,kk d kvs H2 s2 hd ⟨hd2,λe he=>lu.same (hkey e he) Wo.sub⟩ λs hs=>hval s (Gd.gu.mpr hs)⟩
theorem xV {iX:Addr} {gF:FuncData} {p:Pm} (T:Txt K mg p base) (fB:Dn K mg "ends_there" lP l9 iX gF)  :aK P w K mg base cD 1 iX gF l9 (EE P w p.aV):=by
 refine fB.fn.ok xN (λvs H Q E h=>?_) (λcdv A outer s H vs Q E hr h=>?_)
 ·obtain⟨x,d,q,g,bs,kvs,s,rfl,_⟩:=h
  rfl
 ·obtain⟨x,d,q,g,bs,kvs,s,rfl,⟨hG,hd,hR⟩,hq,hin,kk⟩:=h
  obtain⟨dx,dS,lB,dE,kS,kE,hx,hS,hst,hB,hE,Sj⟩:=id hG
  obtain⟨pk,hk1,hk2⟩:=id hq
  refine⟨_,(ao (aJ (jP (zR (B6 hr) (dm (pv 0) rfl) (bw bR (pv 2) ai (λ_ _=>rfl)) (λ_ _=>rfl)) (jN (bY b9 (rU (Pr:=P) (wo:=w) (rC hr) (pv 1) (pv 2) (λ_ _=>rfl) rfl rfl) ai (aL _)))))),?_⟩
  refine⟨_,rfl,x,_,dx,_,_,rfl,hx,T.i8,T.nE,Ca,_,rfl,q,_,_,_,rfl,rfl,cT.of hk1,rfl,dE,.bl (g.en s.1 s.2.1),rfl,?_,_,rfl,?_⟩
  ·rw[←Sj s.1 s.2.1 hin.1 hin.2.1]
   exact CY.t hE hk2
  ·unfold Gd.stop at kk
   cases z:g.en s.1 s.2.1 with
   |true =>
    rw[z,Bool.true_and]at kk
    refine pL ⟨_,rfl,_,rfl,d,kvs,jM s,q,_,rfl,rfl,hd,hq,hR s hin,rfl,?_⟩
    rw[oF]
    exact kk
   |false =>
    rw[z,Bool.false_and]at kk
    exact iy kk
theorem we {gT:Addr} {fR:FuncData} {p:Pm} (T:Txt K mg p base) (cW:Dn K mg "first_begin" kQ Rv gT fR)  :aK P w K mg base cD 1 gT fR Rv (Bp P w p.aV (qF K)):=by
 refine cW.fn.Yg T.wG (T.wF _ cW.m) vM (λvs H Q E h=>?_) (λcdv A outer s H vs Q E hC hr h=>?_)
 ·obtain⟨x,d,g,bs,kvs,rfl,_⟩:=h
  rfl
 ·obtain⟨x,d,g,bs,kvs,rfl,⟨hG,hd,hR⟩,hT,hne,hbs,kk⟩:=h
  obtain⟨dx,dS,lB,dE,kS,kE,hx,hS,hst,⟨ps,hps,pp⟩,hE,Sj⟩:=id hG
  have hlen:=Paired.len pp
  have at_:∀(i:Nat) (v:V),(ps.map V.ref)[i]? =some v->∃pl b,v= .ref pl/\bs[i]? =some b/\Et H pl b:=λi v hv=>by
   obtain⟨pl,hpl,rfl⟩:=mF hv
   obtain⟨b,hb,B8⟩:=GP.Paired.at pp hpl
   exact⟨pl,b,rfl,hb,B8⟩
  refine⟨_,(ao (aJ (EZ (Pr:=P) (wo:=w) (P:=d8 K "first_begin") (ir:=1) (KU ⟨λ_ _ _ _ _ _=>rfl,rfl,rfl,by decide +kernel,rfl,rfl,rfl,by decide,by decide,by decide⟩) KZ rfl rfl hC T.bm rfl (ES hr) (Fi hr) rfl T.Hj Em rfl rfl (aa (dm (pv 0) rfl) af) rfl rfl rfl))),?_⟩
  refine⟨_,rfl,x,_,dx,_,_,rfl,hx,T.i8,T.oO,D7,lB,_,.ref d,λi=>g.Ls (bs.getD i (0,0)),rfl,rfl,cS.of hps,?_,λi v hv=>?_,hT.a,λH2 ap e t i v hv hL=>?_⟩
  ·rw[List.length_map,hlen]
   exact List.length_pos_iff.mpr hne
  ·obtain⟨pl,b,rfl,hb,B8⟩:=at_ i v hv
   have hb':=hbs b (List.mem_of_getElem? hb)
   refine⟨pl,d,kvs,b.1,b.2,rfl,B8,rfl,hd,?_⟩
   have z:=hR (b.1,b.2,112) ⟨hb'.1,hb'.2,.inl rfl⟩
   have e:bs.getD i (0,0)=b:=by rw[List.getD_eq_getElem?_getD,hb];rfl
   dsimp only
   rw[e,sP]
   exact z
  ·obtain⟨pl,b,rfl,hb,B8⟩:=at_ i v hv
   have lo:=Lo.one (P:=P) (w:=w) (L:=qF K) hT ap e t
   refine kk pl b H2 lo (Aj hb λj y hy=>?_) (lo.tup B8)
   have z:=hL j (by rw[List.length_map,hlen];exact(List.getElem?_eq_some_iff.mp hy).1)
   dsimp only at z
   rw[List.getD_eq_getElem?_getD,List.getD_eq_getElem?_getD,hb,hy]at z
   exact z
theorem uQ {fV:Addr} {eT:FuncData} {p:Pm} (T:Txt K mg p base) (cJ:Dn K mg "state_behind" jK l9 fV eT)  :aK P w K mg base cD 1 fV eT l9 (HQ P w p.aV (qF K)):=by
 refine cJ.fn.Yg T.uW (T.uV _ cJ.m) uL (λvs H Q E h=>?_) (λcdv A outer s H vs Q E hC hr h=>?_)
 ·obtain⟨x,d,q,g,bs,kvs,s,rfl,_⟩:=h
  rfl
 ·obtain⟨x,d,q,g,bs,kvs,s,rfl,⟨hG,hd,hR⟩,hq,hin,hne,hT,kk⟩:=h
  obtain⟨dx,dS,lB,dE,kS,kE,hx,hS,hst,hB,hE,Sj⟩:=id hG
  obtain⟨l,WQ,ps,hps,pp⟩:=zD hst (Gd.gu.mpr hin)
  have hlen:=Paired.len pp
  have at_:∀(i:Nat) (v:V),(ps.map V.ref)[i]? =some v->∃pl t,v= .ref pl/\(g.steps s)[i]? =some t/\Ly H pl t:=λi v hv=>by
   obtain⟨pl,hpl,rfl⟩:=mF hv
   obtain⟨b,hb,B8⟩:=GP.Paired.at pp hpl
   exact⟨pl,b,rfl,hb,B8⟩
  refine⟨_,(ao (aJ (bw bR (EZ (Pr:=P) (wo:=w) (P:=d8 K "state_behind") (ir:=1) (KS ⟨λ_ _ _ _ _ _=>rfl,rfl,rfl,by decide +kernel,rfl,rfl,rfl,by decide,by decide,by decide⟩) KY rfl rfl hC T.bm rfl (ES hr) (Fi hr) rfl T.Hj Em rfl rfl (aa (rU (Pr:=P) (wo:=w) (rC hr) (dm (pv 0) rfl) (pv 2) (λ_ _=>rfl) rfl rfl) af) rfl rfl rfl) ai (λ_ _=>rfl)))),?_⟩
  refine⟨_,rfl,x,_,dx,_,_,rfl,hx,T.i8,T.jS,t8,_,rfl,dS,kS,jM s,q,.ref l,rfl,rfl,hS,hq,WQ,l,_,.ref d,λi=>g.key ((g.steps s).getD i (s,0)),rfl,rfl,cS.of hps,?_,λi v hv=>?_,hT.b,λH2 ap e t i v hv hL=>?_⟩
  ·rw[List.length_map,hlen]
   exact List.length_pos_iff.mpr hne
  ·obtain⟨pl,t,rfl,ht,q',h1,h2⟩:=at_ i v hv
   refine⟨pl,d,q',kvs,jM t.1,t.2,g.rest t.1,rfl,h1,h2,rfl,hd,hR t.1 (Gd.pZ (List.mem_of_getElem? ht) hin),?_⟩
   show g.key _=_
   rw[List.getD_eq_getElem?_getD,ht]
   rfl
  ·obtain⟨pl,u,rfl,hu,q',h1,h2⟩:=at_ i v hv
   have lo:=Lo.two (P:=P) (w:=w) (L:=qF K) hT ap e t
   refine⟨pl,_,_,_,rfl,rfl,cT.of (lo.tup h1),rfl,kk q' u H2 lo (Aj hu λj y hy=>?_) (lo.Yy h2)⟩
   have z:=hL j (by rw[List.length_map,hlen];exact(List.getElem?_eq_some_iff.mp hy).1)
   dsimp only at z
   rw[List.getD_eq_getElem?_getD,List.getD_eq_getElem?_getD,hu,hy]at z
   exact z
theorem wc {gQ iX fV:Addr} {fQ gF eT:FuncData} {p:Pm} (T:Txt K mg p base) (dP:Dn K mg "first_moves" kP Ru gQ fQ) (fB:Dn K mg "ends_there" lP l9 iX gF) (AM:aK P w K mg base cD 1 iX gF l9 (EE P w p.aV)) (cJ:Dn K mg "state_behind" jK l9 fV eT) (xC:aK P w K mg base cD 1 fV eT l9 (HQ P w p.aV (qF K))):aK P w K mg base cD 2 gQ fQ Ru (HK P w p.aV (qF K)):=by
 refine dP.fn.ok jI (λvs H Q E h=>?_) (λcdv A outer s H vs Q E hr h=>?_)
 ·obtain⟨x,d,pl,g,bs,kvs,b,rfl,_⟩:=h
  rfl
 ·obtain⟨x,d,pl,g,bs,kvs,b,rfl,hG,hb,hin,ok,hn,hm,hT,kk⟩:=h
  refine⟨_,(aj (aG (i:=3) jI.nd rfl (Or.inl rfl) (bP (aa (pv 2) (aa br af))))
   (aj (aG (i:=4) jI.nd rfl (Or.inl rfl) (jO af))
   (aj (BC PassesOwn.never (j5 (fL (aA AM (hr.mono (by decide)) rfl fB.m fB.fn.kp fB.b .nil aR (aa (pv 0) (aa (pv 1) (aa (pv 3) af)))))) (aj (aG (i:=3) jI.nd rfl (Or.inl rfl) (aA xC (hr.mono (by decide)) rfl cJ.m cJ.fn.kp cJ.b .nil aR (aa (pv 0) (aa (pv 1) (aa (pv 3) af)))))
   (ao (g6 (qz PySem.F.plainAttrs_list PySem.F.slot_list_append PySem.F.type_list_append iJ (pv 4) (aa (bw bR (pv 3) ai (λ_ _=>rfl)) af))))))
   (ao (aJ (qz PySem.F.plainAttrs_str PySem.F.slot_str_join PySem.F.type_str_join E6 br (aa (pv 4) af))))))),?_⟩
  refine⟨_,rfl,by show 2<=sizeLine;decide,λq hq=>⟨by show 0<=sizeLine;decide,λl hl=>?_⟩⟩
  have s1:ak H (L2.upd H q (.tup [.ref pl,.str (Str.ofString "p")])):=ak.upd hq
  have hln:H l=none:=ak.free s1 hl
  have Tp:q≠l:=λz=>by rw[z,ah]at hl;cases hl
  have k0:lu (L2.upd (L2.upd H q (.tup [.ref pl,.str (Str.ofString "p")])) l (.lst [])) q (jM (b.1,b.2,112)):=by
   refine⟨pl,by rw[au Tp,ah,sP];rfl,?_⟩
   exact ak.upd hl _ _ (s1 _ _ hb)
  refine⟨λn σ H'=>∃(q:Addr) (s:gY) (mv:List Nat),n=g.ht s/\σ=[some (.ref x),some (.ref d),some (.ref pl),some (.ref q),some (.ref l)]/\Lo P w (qF K) H H'/\lu H' q (jM s)/\g.In s/\H' l=some (.lst (mv.map sg))/\g.moves (b.1,b.2,112)=mv++g.moves s/\mv.length+g.ht s<=g.n+g.m,
   ⟨_,q,(b.1,b.2,112),[],rfl,rfl,.of hT (s1.trans (ak.upd hl)),k0,hin,ah,rfl,by show 0+(g.n-b.1+(g.m-b.2))<=_;omega⟩,?_⟩
  rintro n σ H1 ⟨q,s,mv,rfl,rfl,lo,hk,hs,hl1,TN,hle⟩
  refine⟨_,rfl,_,rfl,_,rfl,x,d,q,g,bs,kvs,s,rfl,lo.gR hG,hk,hs,_,rfl,?_⟩
  cases z:g.stop s with
  |true =>
   refine lE ⟨rfl,_,rfl,l,mv,rfl,rfl,cS.of hl1,by omega,?_⟩
   rw[Gd.wm z,List.append_nil]at TN
   rw[←TN]
   exact kk H1 lo
  |false =>
   obtain⟨t,hf,ht,hnx,_⟩:=g.go ok hs z
   refine Fd ⟨λσ' H'=>∃m',m'<g.ht s/\∃(q:Addr) (s:gY) (mv:List Nat),m'=g.ht s/\σ'=[some (.ref x),some (.ref d),some (.ref pl),some (.ref q),some (.ref l)]/\Lo P w (qF K) H H'/\lu H' q (jM s)/\g.In s/\H' l=some (.lst (mv.map sg))/\g.moves (b.1,b.2,112)=mv++g.moves s/\mv.length+g.ht s<=g.n+g.m,λσ' H' h=>h,?_⟩
   refine⟨_,rfl,_,rfl,_,rfl,x,d,q,g,bs,kvs,s,rfl,lo.gR hG,hk,hs,List.ne_nil_of_mem ht,lo.lt,λq' t' H2 lo2 hf' hk'=>?_⟩
   obtain rfl:t=t':=Option.some.inj (hf.symm.trans hf')
   have hl2:=lo2.nx _ _ (Nt.lst hl1)
   obtain⟨pk,hk1,hk2⟩:=id hk'
   have hht:=Gd.nU ht
   refine⟨_,rfl,.inl ⟨rfl,_,cS.of hl2⟩,_,rfl,q',_,_,_,rfl,rfl,cT.of hk1,rfl,l,_,_,rfl,rfl,hl2,by rw[List.length_map];exact Nat.lt_of_le_of_lt (show mv.length<=24 by omega) (by decide),g.ht t.1,hht,q',t.1,mv++[t.1.2.2],rfl,rfl,(lo.trans lo2).put hln hl2,K1 hk' hl2,Gd.pZ ht hs,by rw[ah,List.map_append];rfl,?_,?_⟩
   ·rw[TN,Gd.BS ok hs z,hnx,List.append_assoc]
    rfl
   ·rw[List.length_append]
    show mv.length+1+_<=_
    omega
theorem BN {gx bC gM gT gw gQ:Addr} {cY eE fN fR e7 fQ:FuncData} {p:Pm} (T:Txt K mg p base) (cu:Dn K mg "cheapest" mz L7 gx cY) (dj:Dm K "__init__" "Ground.__init__" bX PX bC eE) (xy:Mk K p.aV bC) (sZ:aK P w K mg base (vq P w) 6 bC eE PX (Bo P w K p.aq p.aV p.aD p.az)) (dM:Dn K mg "least_rests" kK ["ground"] gM fN) (ym:aK P w K mg base cD 1 gM fN ["ground"] (HH P w p.aV)) (cW:Dn K mg "first_begin" kQ Rv gT fR) (yr:aK P w K mg base cD 1 gT fR Rv (Bp P w p.aV (qF K))) (cV:Dn K mg "in_units" mw ON gw e7) (rL:aK P w K mg base cD 2 gw e7 ON (tK K p.aq)) (dP:Dn K mg "first_moves" kP Ru gQ fQ) (yq:aK P w K mg base cD 2 gQ fQ Ru (HK P w p.aV (qF K))):aK P w K mg base (vq P w) 8 gx cY L7 (zF P w K p.aq p.aD p.az (qF K)):=by
 refine cu.fn.PM mR (λvs H Q E h=>?_) (λcdv A outer s H vs Q E hr h=>?_)
 ·obtain⟨pr,T1,f,s,m,rfl,_⟩:=h
  rfl
 ·obtain⟨pr,T1,f,s,m,rfl,hP,hT,hf,hs,kk,kS,kM⟩:=h
  refine⟨_,(aj (aG (i:=4) mR.nd rfl (Or.inl rfl) (E2 xy sZ (hr.mono (by decide)) rfl T.Gk dj.b .nil (Lets.passes qj) (aa (pv 0) (aa (pv 1) (aa (pv 2) (aa (pv 3) af))))))
   (aj (aG (i:=5) mR.nd rfl (Or.inl rfl) (aA ym (hr.mono (by decide)) rfl dM.m dM.fn.kp dM.b .nil aR (aa (pv 4) af)))
   (aj (aG (i:=6) mR.nd rfl (Or.inl rfl) (aA yr (hr.mono (by decide)) rfl cW.m cW.fn.kp cW.b .nil aR (aa (pv 4) (aa (pv 5) af))))
   (ao (aJ (bP (aa (aA rL (hr.mono (by decide)) rfl cV.m cV.fn.kp cV.b .nil aR (aa (pv 0) (aa (rU (Pr:=P) (wo:=w) (rC hr) (pv 5) (bP (aa (pv 6) (aa br af))) (λ_ _=>rfl) rfl rfl) af))) (aa (pv 6) (aa (aA yq (hr.mono (by decide)) rfl dP.m dP.fn.kp dP.b .nil aR (aa (pv 4) (aa (pv 5) (aa (pv 6) af)))) af))))))))),?_⟩
  refine⟨_,rfl,_,rfl,_,rfl,_,rfl,λx dx hx hdx ZS=>?_⟩
  have s1:ak H (L2.upd (L2.upd H dx (.own x)) x (.ins p.aV dx [])):=ak.at (ak.upd hdx) hx
  refine⟨x,dx,pr,T1,f,s,m,rfl,ah,hP.same s1,hf,hs,λof os hm=>?_,λi j bad dx H1 s2 hd=>kS i j bad dx H1 (s1.trans s2) hd,λof os hm=>⟨(kM of os hm).1,λH1 s2=>(kM of os hm).2 H1 (s1.trans s2)⟩⟩
  obtain⟨B9,B7,kk⟩:=kk of os hm
  refine⟨B9,B7,λH1 e1 hG=>⟨rfl,?_⟩⟩
  have Tj:ak H H1:=λb u q=>e1 b u (aM q hx) (s1 b u q)
  have ok:=Je T1 m f s
  refine⟨_,rfl,x,_,_,rfl,hG,ok,B9,B7,λd kvs H2 s2 hd hnd hR=>?_⟩
  have QX:=Tj.trans s2
  refine⟨_,rfl,_,rfl,x,d,_,_,kvs,rfl,⟨hG.same s2,hnd,hR⟩,hT.same QX,Lu _ _ _,λb hb=>jl.mp (List.mem_filter.mp hb).1,λpb b H3 Wl hb B8=>?_⟩
  have Ri:=ak.lo QX hT Wl
  have Y3:=Wl.gR ⟨hG.same s2,hnd,hR⟩
  have hbi:(t9 T1 m f s).In (b.1,b.2,112):=by
   have:=jl.mp (List.mem_filter.mp (nN hb)).1
   exact⟨this.1,this.2,.inl rfl⟩
  refine⟨_,rfl,_,rfl,_,rfl,by show 2<=sizeLine;decide,λq hq=>?_⟩
  have s4:ak H3 (L2.upd H3 q (.tup [.ref pb,.str (Str.ofString "p")])):=ak.upd hq
  refine⟨d,kvs,jM (b.1,b.2,112),q,_,rfl,rfl,ND.same Y3.2.1 s4,⟨pb,by rw[ah,sP];rfl,s4 _ _ B8⟩,hR _ hbi,pr,_,T1.1,T1.2.1,T1.2.2.1,T1.2.2.2,rfl,(Ri.pr hP).same s4,λc H5 s5 hc hc5=>?_⟩
  have QU:=s4.trans s5
  refine⟨_,rfl,_,rfl,_,rfl,_,rfl,x,d,pb,_,_,kvs,b,rfl,Y3.same QU,QU _ _ B8,hbi,ok,B9,B7,Wl.lt.same QU,λH6 L6=>⟨by show 3<=sizeLine;decide,λr hr=>?_⟩⟩
  have Rh:=(Ri.then QU).trans L6
  have s7:ak H6 (L2.upd H6 r _):=ak.upd (o:=.tup [.ref c,.ref pb,.str ⟨((t9 T1 m f s).moves (b.1,b.2,112)).toArray⟩]) hr
  exact kk r _ (Rh.then s7) (Rh.dom r hr) ⟨b,c,pb,hb,ah,s7 _ _ (L6.tup hc5),s7 _ _ (L6.tup (QU _ _ B8))⟩
end
section
variable{P:Program}{w:World}{K:PySem.W.Frag}{mg:Str->Option Value}{base:Heap}
theorem BJ {aW:Addr} {aQ:FuncData} {p:Pm} (T:Txt K mg p base) (aB:Dn K mg "_law_next" dZ l5 aW aQ)  :aK P w K mg base cD 1 aW aQ l5 (nW K):=by
 refine aB.fn.ok o4 (λvs H Q E h=>?_) (λcdv A outer s H vs Q E hr h=>?_)
 ·obtain⟨s,t,ns,k,rfl,_⟩:=h
  rfl
 ·obtain⟨s,t,ns,k,rfl,hC,hk2,kk⟩:=h
  have ht:=hC.at_
  have hk:=hC.k0
  refine⟨_,(aj (o8 (aE cR (bw b7 (pv 1) ai (λ_ _=>rfl)) ai) (zQ (pv 1) ai set_list))
   (bI (aG (i:=2) o4.nd rfl (Or.inl rfl) (o9 (aP vV (aC (aY) rfl T.cN bG (aa (pv 0) af)) ai (aL _)) (bw b7 (pv 0) (aE bQ (bw b7 (pv 1) ai (λ_ _=>rfl)) (aC (aY) rfl T.cN bG (aa (pv 0) af))) (λ_ _=>rfl)) ai))
   (aj (aG (i:=3) o4.nd rfl (Or.inl rfl) (aE bQ (aE ny (aE cR (aE cR (aE bQ (pv 2) ai) (aE ny (aE ny (bw b7 (pv 1) ai (λ_ _=>rfl)) (bw b7 (pv 1) ai (λ_ _=>rfl))) ai)) ai) ai) ai))
   (ao (aJ (aE bQ (aE ny (pv 3) (pv 3)) ai)))))),?_⟩
  refine⟨_,rfl,t,_,_,_,rfl,rfl,cS.of ht,rfl,_,_,rfl,rfl,_,rfl,t,_,_,0,rfl,rfl,ht,rfl,?_⟩
  have hq:cS K (upd H t (.lst [.int (k+1)])) s (ns.map V.int):=hC.QM _
  have Sk:cS K (upd H t (.lst [.int (k+1)])) t [.int (k+1)]:=cS.of ah
  have rest:∀c:Int,∀m1:Int,m1=(c % 2147483647+(k+1)*(k+1)*7919+11)*48271 % 2147483647->Q (.int (m1*m1 % 1999999973)) (upd H t (.lst [.int (k+1)])):=λc m1 _ =>
   kk _ (Int.emod_nonneg _ (by decide)) (Int.emod_lt_of_pos _ (by decide))
  refine⟨λσ H2=>H2=upd H t (.lst [.int (k+1)])/\∃c:Int,σ=[some (.ref s),some (.ref t),some (.int c),none],?_,?_⟩
  ·refine⟨_,rfl,_,_,rfl,.inl ⟨_,hq,rfl⟩,_,_,rfl,rfl,_,rfl,?_⟩
   refine fJ (λh0=>?_) (λh0=>?_)
   ·have hn:0<ns.length:=by rw[List.length_map]at h0;omega
    have i1:=Int.emod_nonneg (k+1) (show((ns.length:Nat):Int)≠0 by omega)
    have i2:=Int.emod_lt_of_pos (k+1) (show(0:Int)<((ns.length:Nat):Int) by omega)
    obtain⟨j,hj⟩:∃j:Nat,(k+1) % ((ns.length:Nat):Int)=(j:Int):=⟨_,(Int.toNat_of_nonneg i1).symm⟩
    have hjl:j<ns.length:=by omega
    refine⟨_,rfl,_,rfl,t,_,_,_,rfl,rfl,Sk,rfl,_,rfl,_,_,rfl,.inl ⟨_,hq,rfl⟩,_,_,rfl,rfl,(by show(0:Int)<(((ns.map V.int).length:Nat):Int);rw[List.length_map];omega),?_⟩
    refine⟨s,_,_,.int ns[j],rfl,rfl,hq,?_,rfl,_,rfl⟩
    rw[List.length_map,hj]
    exact g7 (by rw[List.getElem?_map,List.getElem?_eq_getElem hjl];rfl)
   ·exact⟨rfl,_,rfl⟩
  ·rintro σ H2 ⟨rfl,c,rfl⟩
   refine⟨_,rfl,_,_,rfl,rfl,(by show(0:Int)<_;decide),?_⟩
   refine⟨_,rfl,t,_,_,_,rfl,rfl,Sk,rfl,_,rfl,t,_,_,_,rfl,rfl,Sk,rfl,_,_,rfl,rfl,.inl ⟨by omega,by omega⟩,_,_,rfl,rfl,.inr ⟨by decide,by decide⟩,_,_,rfl,rfl,_,_,rfl,rfl,_,_,rfl,rfl,.inr ⟨by decide,by decide⟩,_,_,rfl,rfl,(by show(0:Int)<_;decide),?_⟩
   have m0:=Int.emod_nonneg ((c % 2147483647+(k+1)*(k+1)*7919+11)*48271) (show(2147483647:Int)≠0 by decide)
   have m1:=Int.emod_lt_of_pos ((c % 2147483647+(k+1)*(k+1)*7919+11)*48271) (show(0:Int)<2147483647 by decide)
   exact⟨_,rfl,_,rfl,_,_,rfl,rfl,.inl ⟨by omega,by omega⟩,_,_,rfl,rfl,(by show(0:Int)<_;decide),rest c _ rfl⟩
theorem z5 {jz aW:Addr} {iQ aQ:FuncData} {p:Pm} (T:Txt K mg p base) (gi:Dn K mg "_law_great" mY l5 jz iQ) (aB:Dn K mg "_law_next" dZ l5 aW aQ) (bS:aK P w K mg base cD 1 aW aQ l5 (nW K)):aK P w K mg base cD 2 jz iQ l5 (EL K):=by
 refine gi.fn.ok nX (λvs H Q E h=>?_) (λcdv A outer s H vs Q E hr h=>?_)
 ·obtain⟨s,t,ns,k,rfl,_⟩:=h
  rfl
 ·obtain⟨s,t,ns,k,rfl,hC,hk2,kk⟩:=h
  have hk:=hC.k0
  refine⟨_,(aj (aG (i:=2) nX.nd rfl (Or.inl rfl) (aA bS (hr.mono (by decide)) rfl aB.m aB.fn.kp aB.b .nil aR (aa (pv 0) (aa (pv 1) af))))
   (bI (aG (i:=3) nX.nd rfl (Or.inl rfl) (o9 (aP vV (aC (aY) rfl T.cN bG (aa (pv 0) af)) ai (aL _)) (bw b7 (pv 0) (aE bQ (bw b7 (pv 1) ai (λ_ _=>rfl)) (aC (aY) rfl T.cN bG (aa (pv 0) af))) (λ_ _=>rfl)) ai))
   (ao (aJ (aE vU (aE bQ (aE cR (aE bQ (pv 3) (aE zS ai ai)) (aE ny (pv 2) (aE zS ai ai))) (aE ny ai (aE zS ai ai))) (aE zS ai ai)))))),?_⟩
  refine⟨_,rfl,_,rfl,s,t,ns,k,rfl,hC,hk2,λm hm hm2=>?_⟩
  have hq:cS K (upd H t (.lst [.int (k+1)])) s (ns.map V.int):=hC.QM _
  have Sk:cS K (upd H t (.lst [.int (k+1)])) t [.int (k+1)]:=cS.of ah
  refine⟨λσ H2=>H2=upd H t (.lst [.int (k+1)])/\∃c:Int,σ=[some (.ref s),some (.ref t),some (.int m),some (.int c)],?_,?_⟩
  ·refine⟨_,rfl,_,_,rfl,.inl ⟨_,hq,rfl⟩,_,_,rfl,rfl,_,rfl,?_⟩
   refine fJ (λh0=>?_) (λh0=>?_)
   ·have hn:0<ns.length:=by rw[List.length_map]at h0;omega
    have i1:=Int.emod_nonneg (k+1) (show((ns.length:Nat):Int)≠0 by omega)
    have i2:=Int.emod_lt_of_pos (k+1) (show(0:Int)<((ns.length:Nat):Int) by omega)
    obtain⟨j,hj⟩:∃j:Nat,(k+1) % ((ns.length:Nat):Int)=(j:Int):=⟨_,(Int.toNat_of_nonneg i1).symm⟩
    have hjl:j<ns.length:=by omega
    refine⟨_,rfl,_,rfl,t,_,_,_,rfl,rfl,Sk,rfl,_,rfl,_,_,rfl,.inl ⟨_,hq,rfl⟩,_,_,rfl,rfl,(by show(0:Int)<(((ns.map V.int).length:Nat):Int);rw[List.length_map];omega),?_⟩
    refine⟨s,_,_,.int ns[j],rfl,rfl,hq,?_,rfl,_,rfl⟩
    rw[List.length_map,hj]
    exact g7 (by rw[List.getElem?_map,List.getElem?_eq_getElem hjl];rfl)
   ·exact⟨rfl,_,rfl⟩
  ·rintro σ H2 ⟨rfl,c,rfl⟩
   have ZL:(0:Int)<(10:Int) ^ (39:Int).toNat:=by decide +kernel
   refine⟨_,rfl,_,_,rfl,rfl,⟨by decide,by decide,by decide⟩,_,_,rfl,rfl,ZL,_,rfl,_,_,rfl,rfl,⟨by decide,by decide,by decide⟩,_,_,rfl,rfl,.inl ⟨by omega,by omega⟩,_,_,rfl,rfl,?_⟩
   have p2:(0:Int)<2*(10:Int) ^ (39:Int).toNat:=by omega
   refine⟨_,_,rfl,rfl,⟨by decide,by decide,by decide⟩,_,_,rfl,rfl,.inl ⟨by decide,by decide⟩,_,_,rfl,rfl,p2,_,_,rfl,rfl,⟨by decide,by decide,by decide⟩,_,_,rfl,rfl,?_⟩
   have m0:=Int.emod_nonneg (c % (10:Int) ^ (39:Int).toNat+m*(10:Int) ^ (28:Int).toNat) (Int.ne_of_gt p2)
   have m1:=Int.emod_lt_of_pos (c % (10:Int) ^ (39:Int).toNat+m*(10:Int) ^ (28:Int).toNat) p2
   have Y8:(10:Int) ^ (39:Int).toNat=10 ^ 39:=rfl
   refine kk _ ?_ ?_
   ·rw[←Y8];omega
   ·rw[←Y8];omega
theorem zY {jw aW:Addr} {iN aQ:FuncData} {p:Pm} (T:Txt K mg p base) (gg:Dn K mg "_law_signs" mU JK jw iN) (aB:Dn K mg "_law_next" dZ l5 aW aQ) (bS:aK P w K mg base cD 1 aW aQ l5 (nW K)):aK P w K mg base cD 2 jw iN JK (Be K):=by
 refine gg.fn.ok jH (λvs H Q E h=>?_) (λcdv A outer s H vs Q E hr h=>?_)
 ·obtain⟨s,t,ns,k,n,rfl,_⟩:=h
  rfl
 ·obtain⟨s,t,ns,k,n,rfl,hC,hk,hn1,hn,kk⟩:=h
  refine⟨_,(aj (aG (i:=3) jH.nd rfl (Or.inr rfl) br)
   (aj (aG (i:=3) jH.nd rfl (Or.inr rfl) (aE mD (pv 3) br))
   (aj (aG (i:=4) jH.nd rfl (Or.inr rfl) (aA bS (hr.mono (by decide)) rfl aB.m aB.fn.kp aB.b .nil aR (aa (pv 0) (aa (pv 1) af))))
   (aj (aG (i:=5) jH.nd rfl (Or.inr rfl) (bw b7 (jO (aa ai (aa ai (aa ai (aa ai (aa ai (aa ai af))))))) (aE bQ (pv 4) ai) (λ_ _=>rfl)))
   (ao (aJ (qz PySem.F.plainAttrs_str PySem.F.slot_str_join PySem.F.type_str_join E6 br (aa (oj (N:=Yv) rfl (c6.uC (nt:=1) (ix:=[3,4,5]) rfl (by decide +kernel) (by decide +kernel) (by kernel_rfl) rfl (by kernel_rfl)) (gA rfl T.kD (aa (pv 2) af)) (λ_ _ _ _ _ _ _=>(aS (i:=0) (show(Yv:List Str).Nodup by decide +kernel) rfl (Or.inl rfl))) (λ_ _ _ _ _ _ _=>(bw tZ (pv 1) (aE bQ (aE cR (aE cE (pv 2) ai) (aE ny (pv 0) (pv 3))) (aC (As) rfl T.cN bG (aa (pv 1) af))) (λ_ _=>rfl)))) af)))))))),?_⟩
  refine⟨_,rfl,_,_,rfl,rfl,(by decide +kernel),?_⟩
  obtain⟨S,hS⟩:∃S:Str,S=Str.ofString " !#$&'()*+,./0123456789:;<=>?@ABCDEFGHIJKLMNOPQRSTUVWXYZ" ++Str.ofString "[\\]^_`abcdefghijklmnopqrstuvwxyz{|}~" :=⟨_,rfl⟩
  have YT:S.cps.size=92:=by rw[hS];kernel_rfl
  have Xh:S.cps.all oq=true:=by rw[hS];kernel_rfl
  have hS3:S.cps.toList.Nodup:=wK (by rw[hS];kernel_rfl)
  rw[←hS]
  refine⟨_,rfl,_,rfl,s,t,ns,k,rfl,hC,hk,λm hm hm2=>?_⟩
  refine⟨by show 6<=sizeLine;decide,λq hq=>?_⟩
  have s1:ak (upd H t (.lst [.int (k+1)])) (upd (upd H t (.lst [.int (k+1)])) q (.lst [.int 1,.int 3,.int 5,.int 7,.int 9,.int 11])):=ak.upd hq
  have hq1:upd (upd H t (.lst [.int (k+1)])) q (.lst [.int 1,.int 3,.int 5,.int 7,.int 9,.int 11]) q=some (.lst [.int 1,.int 3,.int 5,.int 7,.int 9,.int 11]):=ah
  generalize upd (upd H t (.lst [.int (k+1)])) q (.lst [.int 1,.int 3,.int 5,.int 7,.int 9,.int 11])=H1 at s1 hq1 ⊢
  obtain⟨tv,htv,⟨ht1,G9⟩,hat⟩:∃tv:Int,(tv=1\/tv=3\/tv=5\/tv=7\/tv=9\/tv=11)/\(0<=tv/\tv<=11)/\AU [V.int 1,.int 3,.int 5,.int 7,.int 9,.int 11] (m % 6)=some (.int tv):=by
   have h1:=Int.emod_nonneg m (show(6:Int)≠0 by decide)
   have h2:=Int.emod_lt_of_pos m (show(0:Int)<6 by decide)
   have e:m % 6=0\/m % 6=1\/m % 6=2\/m % 6=3\/m % 6=4\/m % 6=5:=by omega
   rcases e with e|e|e|e|e|e<;>rw[e]
   ·exact⟨1,by decide,by decide,rfl⟩
   ·exact⟨3,by decide,by decide,rfl⟩
   ·exact⟨5,by decide,by decide,rfl⟩
   ·exact⟨7,by decide,by decide,rfl⟩
   ·exact⟨9,by decide,by decide,rfl⟩
   ·exact⟨11,by decide,by decide,rfl⟩
  refine⟨_,rfl,_,_,rfl,rfl,(by show(0:Int)<6;decide),?_⟩
  refine⟨q,_,_,.int tv,rfl,rfl,cS.of hq1,hat,?_⟩
  refine⟨rfl,_,rfl,n,rfl,by omega,by omega,λl hl=>?_⟩
  refine Ek n (λi=>sg (S.cps.toList.getD ((m / 6+(i:Int)*tv) % 92).toNat 0)) hl (Nat.lt_of_le_of_lt hn (by decide)) (λi H2 s2 hi=>?_) (λH2 s2=>?_) (λi x H2 H3 R s2 hi y hR=>?_) λH2 s2 hl2=>?_
  ·show i<((n:Nat):Int).toNat
   omega
  ·show((n:Nat):Int).toNat<=n
   omega
  ·obtain⟨rfl,rfl⟩:=y
   refine⟨Kp.HV,?_⟩
   have i1:=Int.emod_nonneg (m / 6+(i:Int)*tv) (show(92:Int)≠0 by decide)
   have i2:=Int.emod_lt_of_pos (m / 6+(i:Int)*tv) (show(0:Int)<92 by decide)
   obtain⟨j,hj⟩:∃j:Nat,(m / 6+(i:Int)*tv) % 92=(j:Int):=⟨_,(Int.toNat_of_nonneg i1).symm⟩
   have hjl:j<S.cps.toList.length:=by rw[Array.length_toList];omega
   refine⟨_,rfl,_,rfl,_,_,rfl,rfl,⟨by decide,by decide⟩,_,rfl,_,rfl,_,_,rfl,rfl,.inl ⟨by omega,by omega⟩,_,_,rfl,rfl,_,rfl,S,rfl,(by show S.cps.size<=_;rw[YT];decide),_,_,rfl,rfl,(by show(0:Int)<(S.cps.size:Int);omega),?_⟩
   have eS:((S.length:Nat):Int)=92:=by show((S.cps.size:Nat):Int)=92;omega
   refine⟨S,_,S.cps.toList[j],rfl,rfl,(by show S.cps.size<=_;rw[YT];decide),(by rw[Int.zero_add,eS,hj];exact g7 (List.getElem?_eq_getElem hjl)),?_⟩
   have e:S.cps.toList[j]=S.cps.toList.getD ((m / 6+(i:Int)*tv) % 92).toNat 0:=by
    rw[hj,Int.toNat_natCast,ow (List.getElem?_eq_getElem hjl)]
   rw[e]
   exact hR _ (ak.refl _)
  ·refine⟨l,(List.range n).map (λi:Nat=>S.cps.toList.getD ((m / 6+(i:Int)*tv) % 92).toNat 0),rfl,rfl,?_,?_,kk _ H2 ⟨?_,?_,λc hc=>?_,DQ hS3 n (λi _=>?_) λi j hij hj=>JW htv hij (by omega)⟩ ?_ (s1.trans s2)⟩
   ·rw[List.map_map]
    exact cS.of hl2
   ·rw[List.length_map,List.length_range];omega
   ·show 0<((List.range n).map _).length
    rw[List.length_map,List.length_range];omega
   ·show((List.range n).map _).length<=100
    rw[List.length_map,List.length_range];omega
   ·obtain⟨i,hi,rfl⟩:=List.mem_map.mp (show c∈(List.range n).map _ from hc)
    have i1:=Int.emod_nonneg (m / 6+(i:Int)*tv) (show(92:Int)≠0 by decide)
    have i2:=Int.emod_lt_of_pos (m / 6+(i:Int)*tv) (show(0:Int)<92 by decide)
    obtain⟨j,hj⟩:∃j:Nat,(m / 6+(i:Int)*tv) % 92=(j:Int):=⟨_,(Int.toNat_of_nonneg i1).symm⟩
    have hjl:j<S.cps.toList.length:=by rw[Array.length_toList];omega
    rw[hj,Int.toNat_natCast,ow (List.getElem?_eq_getElem hjl)]
    exact Array.all_eq_true_iff_forall_mem.mp Xh _ (Array.mem_toList_iff.mp (List.getElem_mem hjl))
   ·have i1:=Int.emod_nonneg (m / 6+(i:Int)*tv) (show(92:Int)≠0 by decide)
    have i2:=Int.emod_lt_of_pos (m / 6+(i:Int)*tv) (show(0:Int)<92 by decide)
    rw[Array.length_toList]
    omega
   ·show((List.range n).map _).length=n
    rw[List.length_map,List.length_range]
theorem z0 {jy aW jz:Addr} {iP aQ iQ:FuncData} {p:Pm} (T:Txt K mg p base) (b8:Dn K mg "_law_price" mW Rt jy iP) (aB:Dn K mg "_law_next" dZ l5 aW aQ) (bS:aK P w K mg base cD 1 aW aQ l5 (nW K)) (gi:Dn K mg "_law_great" mY l5 jz iQ) (CT:aK P w K mg base cD 2 jz iQ l5 (EL K)):aK P w K mg base cD 3 jy iP Rt (Bh K):=by
 refine b8.fn.ok rQ (λvs H Q E h=>?_) (λcdv A outer s H vs Q E hr h=>?_)
 ·obtain⟨s,t,ns,k,c,rfl,_⟩:=h
  rfl
 ·obtain⟨s,t,ns,k,c,rfl,hC,hk2,kk⟩:=h
  have hk:=hC.k0
  refine⟨_,(aj (aG (i:=3) rQ.nd rfl (Or.inl rfl) (aA bS (hr.mono (by decide)) rfl aB.m aB.fn.kp aB.b .nil aR (aa (pv 0) (aa (pv 1) af))))
   (aj (bJ (aP b9 (pv 2) ai (aL _)) (ao (aJ (bP (aa (aE vU (aE bQ (pv 3) ai) ai) (aa ai af))))) aU)
   (aj (bJ (aP b9 (pv 2) ai (aL _)) (ao (aJ (bP (aa (aE vU (aE bQ (pv 3) ai) ai) (aa (aE cR ai (aE bQ (aE cE (pv 3) ai) ai)) af))))) aU)
   (aj (bJ (aP b9 (pv 2) ai (aL _)) (ao (aJ (bP (aa (aE vU (aE bQ (pv 3) ai) ai) (aa ai af))))) aU)
   (ao (aJ (bP (aa (aA CT (hr.mono (by decide)) rfl gi.m gi.fn.kp gi.b .nil aR (aa (pv 0) (aa (pv 1) af))) (aa (aE cR ai (aE bQ (aE cE (pv 3) ai) ai)) af))))))))),?_⟩
  refine⟨_,rfl,_,rfl,s,t,ns,k,rfl,hC,by omega,λm hm hm2=>?_⟩
  have ht:upd H t (.lst [.int (k+1)]) t=some (.lst [.int (k+1)]):=ah
  have last:∀(f:cG) (r:Addr),Pz f->upd H t (.lst [.int (k+1)]) r=none->Q (.ref r) (upd (upd H t (.lst [.int (k+1)])) r (.tup [.int f.1,.int f.2])):=λf r hf hr=>by
   have nr:r≠t:=λz=>by rw[z,ht]at hr;cases hr
   exact kk f r _ (k+1) hf (Wo.step (ak.upd hr)) (by rw[au (Ne.symm nr)];exact ht) (by omega) (by omega) (vD hr) ah
  refine⟨_,rfl,rfl,_,rfl,nF (λh0=>?_) λh0=>?_⟩
  ·exact⟨_,rfl,_,_,rfl,rfl,(by show(0:Int)<_;decide),_,_,rfl,rfl,by show 2<=sizeLine;decide,λr hr=>last (m % 7-1,1) r ⟨by show(1:Int)<=1;omega,by show(1:Int)<=999;omega,by show _<=m % 7-1;omega,by show m % 7-1<=_;omega⟩ hr⟩
  refine⟨_,rfl,rfl,_,rfl,nF (λh1=>?_) λh1=>?_⟩
  ·exact⟨_,rfl,_,_,rfl,rfl,(by show(0:Int)<_;decide),_,_,rfl,rfl,_,rfl,_,_,rfl,rfl,⟨by decide,by decide⟩,_,_,rfl,rfl,(by show(0:Int)<_;decide),_,_,rfl,rfl,by show 2<=sizeLine;decide,λr hr=>last (m % 13-4,1+m / 13 % 4) r ⟨by show 1<=1+m / 13 % 4;omega,by show 1+m / 13 % 4<=999;omega,by show _<=m % 13-4;omega,by show m % 13-4<=_;omega⟩ hr⟩
  refine⟨_,rfl,rfl,_,rfl,nF (λh2=>?_) λh2=>?_⟩
  ·exact⟨_,rfl,_,_,rfl,rfl,(by show(0:Int)<_;decide),_,_,rfl,rfl,by show 2<=sizeLine;decide,λr hr=>last (m % 9-6,1) r ⟨by show(1:Int)<=1;omega,by show(1:Int)<=999;omega,by show _<=m % 9-6;omega,by show m % 9-6<=_;omega⟩ hr⟩
  refine⟨_,rfl,_,rfl,s,t,ns,k+1,rfl,hC.step (by omega),by omega,λg g1 g2=>?_⟩
  refine⟨_,rfl,_,_,rfl,rfl,⟨by decide,by decide⟩,_,_,rfl,rfl,(by show(0:Int)<_;decide),_,_,rfl,rfl,by show 2<=sizeLine;decide,λr hr=>?_⟩
  have G9:upd (upd H t (.lst [.int (k+1)])) t (.lst [.int (k+1+1)]) t=some (.lst [.int (k+1+1)]):=ah
  have nr:r≠t:=λz=>by rw[z,G9]at hr;cases hr
  refine kk (g,1+m / 13 % 999) r _ (k+1+1) ⟨by show 1<=1+m / 13 % 999;omega,by show 1+m / 13 % 999<=999;omega,g1,g2⟩ ?_ (by rw[au (Ne.symm nr)];exact G9) (by omega) (by omega) (vD (vD hr)) ah
  have e:=Wo.step (H:=upd H t (.lst [.int (k+1)])) (ak.upd (o:=.tup [.int g,.int (1+m / 13 % 999)]) hr)
  rw[Wo.set]at e
  exact e
end
section
variable{P:Program}{w:World}{K:PySem.W.Frag}{mg:Str->Option Value}{base:Heap}
theorem zX {jv aW jw jy:Addr} {iM aQ iN iP:FuncData} {p:Pm} (T:Txt K mg p base) (gf:Dn K mg "_law_table" mT JK jv iM) (aB:Dn K mg "_law_next" dZ l5 aW aQ) (bS:aK P w K mg base cD 1 aW aQ l5 (nW K)) (gg:Dn K mg "_law_signs" mU JK jw iN) (CP:aK P w K mg base cD 2 jw iN JK (Be K)) (b8:Dn K mg "_law_price" mW Rt jy iP) (pW:aK P w K mg base cD 3 jy iP Rt (Bh K)):aK P w K mg base cD 4 jv iM JK (EF K):=by
 refine gf.fn.ok dB (λvs H Q E h=>?_) (λcdv A outer s H vs Q E hr h=>?_)
 ·obtain⟨s,t,ns,k,n,rfl,_⟩:=h
  rfl
 ·obtain⟨s,t,ns,k,n,rfl,hC,hk,hn1,hn6,kk⟩:=h
  have hk0:=hC.k0
  refine⟨_,(aj (aG (i:=3) dB.nd rfl (Or.inl rfl) (aA bS (hr.mono (by decide)) rfl aB.m aB.fn.kp aB.b .nil aR (aa (pv 0) (aa (pv 1) af))))
   (bI (aG (i:=4) dB.nd rfl (Or.inr rfl) (bw b7 (jO (aa ai (aa ai (aa ai (aa ai (aa ai (aa ai (aa ai (aa ai af))))))))) (aE bQ (pv 3) ai) (λ_ _=>rfl)))
   (bI (aG (i:=5) dB.nd rfl (Or.inl rfl) (aA CP (hr.mono (by decide)) rfl gg.m gg.fn.kp gg.b .nil aR (aa (pv 0) (aa (pv 1) (aa (pv 2) af)))))
   (bI (vR (i:=6) (N:=Yu) dB.nd rfl (Or.inl rfl) rfl (c6.uC (nt:=1) (ix:=[0,1,2,4]) rfl (by decide +kernel) (by decide +kernel) (by kernel_rfl) rfl (by kernel_rfl)) (gA rfl T.kD (aa (pv 2) af)) (λ_ _ _ _ _ _ _=>(aS (i:=0) (show(Yu:List Str).Nodup by decide +kernel) rfl (Or.inl rfl))) (λ_ _ _ _ _ _ _=>(oj (N:=Yt) rfl (c6.uC (nt:=1) (ix:=[1,2,4]) rfl (by decide +kernel) (by decide +kernel) (by kernel_rfl) rfl (by kernel_rfl)) (gA rfl T.kD (aa (pv 3) af)) (λ_ _ _ _ _ _ _=>(aS (i:=0) (show(Yt:List Str).Nodup by decide +kernel) rfl (Or.inl rfl))) (λ_ _ _ _ _ _ _=>(aA pW (hr.mono (by decide)) rfl b8.m b8.fn.kp b8.b .nil aR (aa (pv 1) (aa (pv 2) (aa (pv 3) af))))))))
   (bI (fF PassesOwn.never rfl (gA rfl T.kD (aa (pv 2) af)) (aS (i:=7) dB.nd rfl (Or.inl rfl)) (bI (bJ (aP vV (aE bQ (aE cE (pv 3) ai) ai) ai (aL _)) (ao (o8 (bP (aa (aE vU (bw bR (bw b7 (bw b7 (pv 6) (pv 7) (λ_ _=>rfl)) (pv 7) (λ_ _=>rfl)) ai (λ_ _=>rfl)) ai) (aa (bw bR (bw b7 (bw b7 (pv 6) (pv 7) (λ_ _=>rfl)) (pv 7) (λ_ _=>rfl)) ai (λ_ _=>rfl)) af))) (zQ (bw b7 (pv 6) (pv 7) (λ_ _=>rfl)) (pv 7) set_list))) aU)
   (ao (fF PassesOwn.never rfl (gA rfl T.kD (aa (pv 7) af)) (aS (i:=8) dB.nd rfl (Or.inl rfl)) (ao (bJ (aP b9 (aE bQ (aE cE (pv 3) ai) ai) ai (aL _)) (ao (o8 (bw b7 (bw b7 (pv 6) (pv 8) (λ_ _=>rfl)) (pv 7) (λ_ _=>rfl)) (zQ (bw b7 (pv 6) (pv 7) (λ_ _=>rfl)) (pv 8) set_list))) aU))))))
   (bI (aG (i:=9) dB.nd rfl (Or.inl rfl) (o9 (aP vV (aE bQ (aE cE (pv 3) ai) ai) ai (aL _)) (bP (aa (aE bQ (aE cE (pv 3) ai) ai) (aa ai af))) (aA pW (hr.mono (by decide)) rfl b8.m b8.fn.kp b8.b .nil aR (aa (pv 0) (aa (pv 1) (aa (pv 4) af))))))
   (bI (aG (i:=10) dB.nd rfl (Or.inl rfl) (o9 (aP vV (aE bQ (aE cE (pv 3) ai) ai) ai (aL _)) (bP (aa (aE bQ (aE cE (pv 3) ai) ai) (aa ai af))) (aA pW (hr.mono (by decide)) rfl b8.m b8.fn.kp b8.b .nil aR (aa (pv 0) (aa (pv 1) (aa (pv 4) af))))))
   (ao (aJ (bP (aa (pv 5) (aa (pv 6) (aa (pv 9) (aa (pv 10) af)))))))))))))),?_⟩
  refine⟨_,rfl,_,rfl,s,t,ns,k,rfl,hC,by omega,λm hm hm2=>?_⟩
  have w1:ak (Wo t H) (Wo t (upd H t (.lst [.int (k+1)]))):=by rw[Wo.set];exact ak.refl _
  have ht1:upd H t (.lst [.int (k+1)]) t=some (.lst [.int (k+1)]):=ah
  have C1:=hC.step (k':=k+1) (by omega)
  generalize upd H t (.lst [.int (k+1)])=H1 at w1 ht1 C1 ⊢
  refine⟨λσ H2=>∃c:Int,σ=[some (.ref s),some (.ref t),some (.int n),some (.int m),some (.int c),none,none,none,none,none,none]/\ak H1 H2,?_,?_⟩
  ·refine⟨by show 8<=sizeLine;decide,λq hq=>⟨_,rfl,_,_,rfl,rfl,(by show(0:Int)<8;decide),?_⟩⟩
   obtain⟨c,hc⟩:∃c:Int,AU [V.int 0,.int 1,.int 2,.int 0,.int 3,.int 2,.int 0,.int 1] (m % 8)=some (.int c):=by
    have e:m % 8=0\/m % 8=1\/m % 8=2\/m % 8=3\/m % 8=4\/m % 8=5\/m % 8=6\/m % 8=7:=by omega
    rcases e with e|e|e|e|e|e|e|e<;>rw[e]<;>exact⟨_,rfl⟩
   exact⟨q,_,_,.int c,rfl,rfl,cS.of ah,hc,c,rfl,ak.upd hq⟩
  rintro σ H2 ⟨c,rfl,s2⟩
  refine⟨λσ H3=>∃sg,zp sg/\sg.cps.size=n/\σ=[some (.ref s),some (.ref t),some (.int n),some (.int m),some (.int c),some (.str sg),none,none,none,none,none]/\ak (Wo t H) (Wo t H3)/\H3 t=some (.lst [.int (k+1+1)]),?_,?_⟩
  ·refine⟨_,rfl,_,rfl,_,rfl,s,t,ns,k+1,n,rfl,C1.same s2,by omega,hn1,hn6,λsg H3 hsg hz s3=>⟨sg,hsg,hz,rfl,w1.trans ((Wo.same s2).trans (Wo.step s3)),s3 _ _ ah⟩⟩
  rintro σ H3 ⟨sg,hsg,hz,rfl,w3,OW⟩
  refine⟨λσ H4=>∃l k1,σ=[some (.ref s),some (.ref t),some (.int n),some (.int m),some (.int c),some (.str sg),some (.ref l),none,none,none,none]/\xu K H t l n 0 k1 H4/\H l=none/\k<=k1/\k1<=k+100,?_,?_⟩
  ·refine⟨_,rfl,n,rfl,by omega,by omega,λl hl=>?_⟩
   have PR:l≠t:=λz=>by rw[z,OW]at hl;cases hl
   have YK:H l=none:=Wo.back w3 OW hl
   refine⟨λi m' ys H4=>m'=n-i/\i<=n/\∃rs rows k1,ys=rs.map V.ref/\rs.length=i/\sV K (Wo t H4) l rs rows/\(∀r∈rows,r.length=n)/\(∀r∈rows,∀f∈r,Pz f)/\(∀r∈rs,H r=none)/\ak (Wo t H3) (Wo t H4)/\H4 t=some (.lst [.int k1])/\k+2<=k1/\k1<=k+2+12*(i:Int),
    ⟨n,rfl,Nat.zero_le _,[],[],_,rfl,rfl,?_,(λr hr=>by cases hr),(λr hr=>by cases hr),(λr hr=>by cases hr),?_,(by rw[au PR.symm];exact OW),by omega,by omega⟩,?_⟩
   ·rw[Wo.au PR]
    exact⟨rfl,ah,List.nodup_nil,(by simp),λi r row h1=>by simp at h1⟩
   ·rw[Wo.au PR];exact ak.upd (Wo.free hl)
   rintro i m' ys H4 ⟨rfl,hi,rs,rows,k1,rfl,hrs,LM,r1,r2,r3,s4,La,P8,Tw⟩
   have w4:=w3.trans s4
   by_cases hlt:i<n
   ·refine .inr ⟨(by show i<((n:Nat):Int).toNat;omega),?_⟩
    rintro x H5 ⟨rfl,rfl⟩
    refine⟨Kp.HV,?_⟩
    refine⟨_,rfl,n,rfl,by omega,by omega,λl2 hl2=>?_⟩
    have DR:l2≠t:=λz=>by rw[z,La]at hl2;cases hl2
    have W2:H l2=none:=Wo.back w4 La hl2
    refine⟨λj m' ys H6=>m'=n-j/\j<=n/\H6 l2=some (.lst ys)/\∃ps row k2,ys=ps.map V.ref/\ps.length=j/\Paired (jY K (Wo t H6)) ps row/\(∀f∈row,Pz f)/\ak (Wo t H5) (Wo t H6)/\H6 t=some (.lst [.int k2])/\k1<=k2/\k2<=k1+2*(j:Int),
     ⟨n,rfl,Nat.zero_le _,ah,[],[],k1,rfl,rfl,.nil,(λf hf=>by cases hf),?_,(by rw[au DR.symm];exact La),by omega,by omega⟩,?_⟩
    ·rw[Wo.au DR];exact ak.upd (Wo.free hl2)
    rintro j m' ys H6 ⟨rfl,hj,YL,ps,row,k2,rfl,hps,hP,ok,s6,K9,Tv,Wu⟩
    by_cases TR:j<n
    ·refine .inr ⟨(by show j<((n:Nat):Int).toNat;omega),?_⟩
     rintro x H7 ⟨rfl,rfl⟩
     refine⟨Kp.HV,?_⟩
     refine⟨_,rfl,_,rfl,_,rfl,s,t,ns,k2,c,rfl,hC.off (w4.trans s6) K9 (by omega),by omega,λf q H8 k3 JJ w8 Tz P1 P0 hqn YD=>?_⟩
     have nq:q≠t:=pq YD Tz (by intro z;cases z)
     have WY:Wo t H8 l2=some (.lst (ps.map V.ref)):=w8 _ _ (Wo.in DR YL)
     refine⟨Wo.sub _ _ WY,?_,n-(j+1),by omega,rfl,TR,ah,ps++[q],row++[f],k3,by rw[List.map_append];rfl,by rw[List.length_append,hps];rfl,?_,?_,?_,by rw[au DR.symm];exact Tz,by omega,by omega⟩
     ·rw[List.length_map,hps]
      exact Nat.lt_of_lt_of_le (show j<100 by omega) (by decide)
     ·rw[Wo.au DR]
      refine GP.Paired.snoc (Paired.iK hP λa b z=>cT.off WY (z.same w8)) ?_
      exact cT.off WY (cT.of (Wo.in nq YD))
     ·intro g hg
      rcases List.mem_append.mp hg with hg|hg
      ·exact ok g hg
      ·rw[List.mem_singleton.mp hg];exact JJ
     ·rw[Wo.au DR]
      exact ak.at (s6.trans w8) (Wo.free hl2)
    ·have ej:j=n:=by omega
     refine .inl ⟨(by show((n:Nat):Int).toNat<=j;omega),?_⟩
     have hlo:Wo t H6 l=some (.lst (rs.map V.ref)):=s6 _ _ LM.at_
     refine⟨Wo.sub _ _ hlo,?_,n-(i+1),by omega,rfl,hlt,rs++[l2],rows++[row],k2,by rw[List.map_append];rfl,by rw[List.length_append,hrs];rfl,?_,?_,?_,?_,?_,by rw[au PR.symm];exact K9,by omega,by omega⟩
     ·rw[List.length_map,hrs]
      exact Nat.lt_of_lt_of_le (show i<100 by omega) (by decide)
     ·rw[Wo.au PR]
      exact LM.snoc s6 (Wo.free hl2) (Wo.in DR YL) hP
     ·intro r hr
      rcases List.mem_append.mp hr with hr|hr
      ·exact r1 r hr
      ·rw[List.mem_singleton.mp hr,←Paired.len hP,hps,ej]
     ·intro r hr
      rcases List.mem_append.mp hr with hr|hr
      ·exact r2 r hr
      ·rw[List.mem_singleton.mp hr];exact ok
     ·intro r hr
      rcases List.mem_append.mp hr with hr|hr
      ·exact r3 r hr
      ·rw[List.mem_singleton.mp hr];exact W2
     ·rw[Wo.au PR]
      exact ak.at (s4.trans s6) (Wo.free hl)
   ·have ei:i=n:=by omega
    subst ei
    refine .inl ⟨(by show((i:Nat):Int).toNat<=i;omega),?_⟩
    refine⟨l,k1,rfl,⟨rs,rows,LM,⟨by rw[←LM.len,hrs],r1⟩,λa b f hf=>?_,r3,w4,La⟩,YK,by omega,by omega⟩
    obtain⟨r,hr,hfr⟩:=hf.mem
    exact⟨(r2 r hr f hfr).l,λ_ _=>r2 r hr f hfr⟩
  rintro σ H4 ⟨l,k1,rfl,P4,YK,P8,Tw⟩
  refine⟨λσ H5=>∃v7 v8,σ=[some (.ref s),some (.ref t),some (.int n),some (.int m),some (.int c),some (.str sg),some (.ref l),v7,v8,none,none]/\xu K H t l n n k1 H5,?_,?_⟩
  ·refine⟨_,rfl,n,rfl,by omega,by omega,?_⟩
   rw[show((n:Nat):Int).toNat=n by omega]
   refine kc (lo:=0) (n:=n) (λa σ H5=>∃v7 v8,σ=[some (.ref s),some (.ref t),some (.int n),some (.int m),some (.int c),some (.str sg),some (.ref l),v7,v8,none,none]/\xu K H t l n a k1 H5) ⟨_,_,rfl,P4⟩ ?_ (λσ H5 h=>h)
   rintro a σ H5 ha ⟨v7,v8,rfl,P5⟩
   refine⟨λσ H6=>σ=[some (.ref s),some (.ref t),some (.int n),some (.int m),some (.int c),some (.str sg),some (.ref l),some (.int (0+(a:Int))),v8,none,none]/\xu K H t l n (a+1) k1 H6,?_,?_⟩
   ·refine⟨_,rfl,_,_,rfl,rfl,⟨by decide,by decide⟩,_,_,rfl,rfl,(by show(0:Int)<3;decide),_,_,rfl,rfl,_,rfl,?_⟩
    obtain⟨rs,rows,LM,sq,dg,nw,s5,G8⟩:=P5
    refine fJ (λ_=>?_) λ_=>⟨rfl,rs,rows,LM,sq,λi j f hf=>⟨(dg i j f hf).1,λe h=>(dg i j f hf).2 e (by omega)⟩,nw,s5,G8⟩
    have ha':a<rows.length:=by rw[sq.1];exact ha
    have ha2:a<rs.length:=by rw[LM.len];exact ha'
    obtain⟨ps,OZ,hPa⟩:=LM.row a _ _ (List.getElem?_eq_getElem ha2) (List.getElem?_eq_getElem ha')
    have la:=sq.2 rows[a] (List.getElem_mem ha')
    have hap:a<ps.length:=by rw[Paired.len hPa,la];exact ha
    obtain⟨f,ef,hf⟩:=Paired.at hPa (List.getElem?_eq_getElem hap)
    have JJ:=(dg a a f ⟨_,List.getElem?_eq_getElem ha',ef⟩).2 rfl (Nat.le_refl _)
    have Qc:=Wo.sub _ _ LM.at_
    have OY:=Wo.sub _ _ OZ
    have hf':cT K H5 ps[a] [.int f.1,.int f.2]:=jY.same Wo.sub hf
    have ea:AU (rs.map V.ref) (0+(a:Int))=some (.ref rs[a]):=by rw[Int.zero_add];exact g7 (by rw[List.getElem?_map,List.getElem?_eq_getElem ha2];rfl)
    have eb:AU (ps.map V.ref) (0+(a:Int))=some (.ref ps[a]):=by rw[Int.zero_add];exact g7 (by rw[List.getElem?_map,List.getElem?_eq_getElem hap];rfl)
    refine⟨_,rfl,_,rfl,l,_,_,_,rfl,rfl,cS.of Qc,ea,_,rfl,rs[a],_,_,_,rfl,rfl,cS.of OY,eb,ps[a],_,_,_,rfl,rfl,hf',rfl,_,_,rfl,rfl,_,rfl,_,rfl,l,_,_,_,rfl,rfl,cS.of Qc,ea,_,rfl,rs[a],_,_,_,rfl,rfl,cS.of OY,eb,ps[a],_,_,_,rfl,rfl,hf',rfl,by show 2<=sizeLine;decide,λq hq=>?_⟩
    have nq:q≠t:=λz=>by rw[z,G8]at hq;cases hq
    have Og:ak H5 (upd H5 q (.tup [.int (f.1-4),.int f.2])):=ak.upd hq
    have LM1:=LM.same (Wo.same (t:=t) Og)
    have WL:=Wo.same (t:=t) Og _ _ OZ
    have Oz:rs[a]≠t:=Wo.ne OZ
    refine⟨_,rfl,_,rfl,l,_,_,.ref rs[a],rfl,rfl,cS.of (Og _ _ Qc),ea,_,rfl,rs[a],_,_,a,rfl,rfl,Og _ _ OY,by rw[Int.zero_add];exact D5 (by rw[List.length_map];exact hap),rfl,rs,rows.set a (rows[a].set a (f.1-4,f.2)),?_,⟨by rw[List.length_set];exact sq.1,λr hr=>?_⟩,λi j g hg=>?_,nw,?_,?_⟩
    ·rw[Wo.au Oz]
     exact LM1.put (List.getElem?_eq_getElem ha2) (List.getElem?_eq_getElem ha') WL (Paired.iK hPa λ_ _ z=>z.same (Wo.same Og)) (cT.of (Wo.in nq ah))
    ·rcases List.mem_or_eq_of_mem_set hr with hr|hr
     ·exact sq.2 r hr
     ·rw[hr,List.length_set];exact la
    ·rcases FE (List.getElem?_eq_getElem ha') hg with⟨rfl,rfl,rfl⟩|hg
     ·exact⟨⟨JJ.1,JJ.2.1,QJ (by have:=JJ.2.2.1;show _<=f.1-4;omega) (by have:=JJ.2.2.2;show f.1-4<=_;omega)⟩,λ_ z=>by omega⟩
     ·exact⟨(dg i j g hg).1,λe h=>(dg i j g hg).2 e (by omega)⟩
    ·rw[Wo.au Oz]
     exact ak.at (s5.trans (Wo.same Og)) (Wo.free (nw _ (List.getElem_mem ha2)))
    ·rw[au Oz.symm];exact Og _ _ G8
   rintro σ H6 ⟨rfl,P6⟩
   refine⟨_,rfl,_,rfl,by omega,by omega,?_⟩
   rw[show(0+(a:Int)).toNat=a by omega]
   refine kc (lo:=0) (n:=a) (λb σ H7=>∃v8,σ=[some (.ref s),some (.ref t),some (.int n),some (.int m),some (.int c),some (.str sg),some (.ref l),some (.int (0+(a:Int))),v8,none,none]/\xu K H t l n (a+1) k1 H7) ⟨_,rfl,P6⟩ ?_ (λσ H7 ⟨v8,h1,h2⟩=>⟨_,v8,h1,h2⟩)
   rintro b σ H7 hb ⟨v8,rfl,P7⟩
   obtain⟨rs,rows,LM,sq,dg,nw,s7,G7⟩:=P7
   refine⟨_,rfl,_,_,rfl,rfl,⟨by decide,by decide⟩,_,_,rfl,rfl,(by show(0:Int)<2;decide),rfl,_,rfl,?_⟩
   refine nF (λ_=>?_) λ_=>⟨_,rfl,rs,rows,LM,sq,dg,nw,s7,G7⟩
   have ha':a<rows.length:=by rw[sq.1];exact ha
   have hb':b<rows.length:=by rw[sq.1];omega
   have ha2:a<rs.length:=by rw[LM.len];exact ha'
   have hb2:b<rs.length:=by rw[LM.len];exact hb'
   obtain⟨ZA,OZ,hPa⟩:=LM.row a _ _ (List.getElem?_eq_getElem ha2) (List.getElem?_eq_getElem ha')
   obtain⟨X8,hrb,YV⟩:=LM.row b _ _ (List.getElem?_eq_getElem hb2) (List.getElem?_eq_getElem hb')
   have la:=sq.2 rows[a] (List.getElem_mem ha')
   have lb:=sq.2 rows[b] (List.getElem_mem hb')
   have hab:a<X8.length:=by rw[Paired.len YV,lb];exact ha
   have hba:b<ZA.length:=by rw[Paired.len hPa,la];omega
   obtain⟨f,ef,hf⟩:=Paired.at YV (List.getElem?_eq_getElem hab)
   have Qc:=Wo.sub _ _ LM.at_
   have Oz:rs[a]≠t:=Wo.ne OZ
   refine⟨_,rfl,_,rfl,l,_,_,.ref rs[b],rfl,rfl,cS.of Qc,(by rw[Int.zero_add];exact g7 (by rw[List.getElem?_map,List.getElem?_eq_getElem hb2];rfl)),?_⟩
   refine⟨_,rfl,rs[b],_,_,.ref X8[a],rfl,rfl,cS.of (Wo.sub _ _ hrb),(by rw[Int.zero_add];exact g7 (by rw[List.getElem?_map,List.getElem?_eq_getElem hab];rfl)),?_⟩
   refine⟨_,rfl,_,rfl,l,_,_,.ref rs[a],rfl,rfl,cS.of Qc,(by rw[Int.zero_add];exact g7 (by rw[List.getElem?_map,List.getElem?_eq_getElem ha2];rfl)),?_⟩
   refine⟨_,rfl,rs[a],_,_,b,rfl,rfl,Wo.sub _ _ OZ,by rw[Int.zero_add];exact D5 (by rw[List.length_map];exact hba),_,rfl,rs,rows.set a (rows[a].set b f),?_,⟨by rw[List.length_set];exact sq.1,λr hr=>?_⟩,λi j g hg=>?_,nw,?_,?_⟩
   ·rw[Wo.au Oz]
    exact LM.put (List.getElem?_eq_getElem ha2) (List.getElem?_eq_getElem ha') OZ hPa hf
   ·rcases List.mem_or_eq_of_mem_set hr with hr|hr
    ·exact sq.2 r hr
    ·rw[hr,List.length_set];exact la
   ·rcases FE (List.getElem?_eq_getElem ha') hg with⟨rfl,rfl,rfl⟩|hg
    ·exact⟨(dg _ _ _ ⟨_,List.getElem?_eq_getElem hb',ef⟩).1,λz=>by omega⟩
    ·exact dg i j g hg
   ·rw[Wo.au Oz]
    exact ak.at s7 (Wo.free (nw _ (List.getElem_mem ha2)))
   ·rw[au Oz.symm];exact G7
  rintro σ H5 ⟨v7,v8,rfl,rs,rows,LM,sq,dg,nw,w5,G8⟩
  have C5:tE K H5 s t ns k1:=hC.off w5 G8 (by omega)
  refine⟨λσ H6=>∃o fo k2,σ=[some (.ref s),some (.ref t),some (.int n),some (.int m),some (.int c),some (.str sg),some (.ref l),v7,v8,some (.ref o),none]/\JN fo/\TupAt (Wo t H6) o fo/\ak (Wo t H5) (Wo t H6)/\H6 t=some (.lst [.int k2])/\k1<=k2/\k2<=k1+2,?_,?_⟩
  ·refine⟨_,rfl,_,_,rfl,rfl,⟨by decide,by decide⟩,_,_,rfl,rfl,(by show(0:Int)<3;decide),_,_,rfl,rfl,_,rfl,?_⟩
   refine fJ (λ_=>?_) λ_=>?_
   ·refine⟨_,rfl,_,_,rfl,rfl,⟨by decide,by decide⟩,_,_,rfl,rfl,(by show(0:Int)<4;decide),by show 2<=sizeLine;decide,λq hq=>?_⟩
    have nq:q≠t:=λz=>by rw[z,G8]at hq;cases hq
    exact⟨q,(m / 48 % 4,1),k1,rfl,⟨by show(1:Int)<=1;omega,by show(1:Int)<=999;omega,wZ (by show _<=m / 48 % 4;omega) (by show m / 48 % 4<=_;omega)⟩,Wo.in nq ah,Wo.same (ak.upd hq),ak.upd hq _ _ G8,by omega,by omega⟩
   ·exact⟨_,rfl,_,rfl,_,rfl,s,t,ns,k1,c,rfl,C5,by omega,λf q H6 k3 JJ w6 K9 P1 P0 hqn YF=>⟨q,f,k3,rfl,JJ.l,Wo.in (pq YF K9 (by intro z;cases z)) YF,w6,K9,P1,P0⟩⟩
  rintro σ H6 ⟨o,fo,k2,rfl,Il,ho,w6,K9,Tv,Wu⟩
  have C6:tE K H6 s t ns k2:=C5.off w6 K9 (by omega)
  refine⟨λσ H7=>∃mo fm k3,σ=[some (.ref s),some (.ref t),some (.int n),some (.int m),some (.int c),some (.str sg),some (.ref l),v7,v8,some (.ref o),some (.ref mo)]/\JN fm/\TupAt (Wo t H7) mo fm/\ak (Wo t H6) (Wo t H7)/\H7 t=some (.lst [.int k3])/\k2<=k3/\k3<=k2+2,?_,?_⟩
  ·refine⟨_,rfl,_,_,rfl,rfl,⟨by decide,by decide⟩,_,_,rfl,rfl,(by show(0:Int)<3;decide),_,_,rfl,rfl,_,rfl,?_⟩
   refine fJ (λ_=>?_) λ_=>?_
   ·refine⟨_,rfl,_,_,rfl,rfl,⟨by decide,by decide⟩,_,_,rfl,rfl,(by show(0:Int)<4;decide),by show 2<=sizeLine;decide,λq hq=>?_⟩
    have nq:q≠t:=λz=>by rw[z,K9]at hq;cases hq
    exact⟨q,(m / 768 % 4,1),k2,rfl,⟨by show(1:Int)<=1;omega,by show(1:Int)<=999;omega,wZ (by show _<=m / 768 % 4;omega) (by show m / 768 % 4<=_;omega)⟩,Wo.in nq ah,Wo.same (ak.upd hq),ak.upd hq _ _ K9,by omega,by omega⟩
   ·exact⟨_,rfl,_,rfl,_,rfl,s,t,ns,k2,c,rfl,C6,by omega,λf q H7 k3 JJ w7 G7 P1 P0 hqn YE=>⟨q,f,k3,rfl,JJ.l,Wo.in (pq YE G7 (by intro z;cases z)) YE,w7,G7,P1,P0⟩⟩
  rintro σ H7 ⟨mo,fm,k3,rfl,Im,hm7,w7,G7,P1,P0⟩
  refine⟨_,rfl,_,rfl,_,rfl,_,rfl,by show 4<=sizeLine;decide,λr hr=>?_⟩
  have s8:ak H7 (upd H7 r (.tup [.str sg,.ref l,.ref o,.ref mo])):=ak.upd hr
  have w8:=Wo.same (t:=t) s8
  exact kk r l o mo rs rows fo fm sg _ k3 hsg hz ah (LM.same ((w6.trans w7).trans w8)) sq (Jp dg) ((ho.same w7).same w8) Il (hm7.same w8) Im (((w5.trans w6).trans w7).trans w8) (s8 _ _ G7) (by omega) (by omega)
end
section
variable{P:Program}{w:World}{K:PySem.W.Frag}{mg:Str->Option Value}{base:Heap}
theorem xT {iV aW jv bB:Addr} {gD aQ iM ee:FuncData} {p:Pm} (T:Txt K mg p base) (fu:Dn K mg "_law_prices" lN l5 iV gD) (aB:Dn K mg "_law_next" dZ l5 aW aQ) (bS:aK P w K mg base cD 1 aW aQ l5 (nW K)) (gf:Dn K mg "_law_table" mT JK jv iM) (CO:aK P w K mg base cD 4 jv iM JK (EF K)) (c9:Dm K "__init__" "Prices.__init__" bV PZ bB ee) (xw:Mk K p.aq bB) (sX:aK P w K mg base cD 5 bB ee PZ (HP K p.aq)):aK P w K mg base cD 7 iV gD l5 (yK K p.aq):=by
 refine fu.fn.ok jb (λvs H Q E h=>?_) (λcdv A outer s H vs Q E hr h=>?_)
 ·obtain⟨s,t,ns,k,rfl,_⟩:=h
  rfl
 ·obtain⟨s,t,ns,k,rfl,hC,hk,kk⟩:=h
  have hk0:=hC.k0
  refine⟨_,(aj (o8 (aA CO (hr.mono (by decide)) rfl gf.m gf.fn.kp gf.b .nil aR (aa (pv 0) (aa (pv 1) (aa (aE cR ai (aE bQ (aA bS (hr.mono (by decide)) rfl aB.m aB.fn.kp aB.b .nil aR (aa (pv 0) (aa (pv 1) af))) ai)) af)))) (oi (n:=4) rfl (bT (aS (i:=2) jb.nd rfl (Or.inl rfl)) (bT (aS (i:=3) jb.nd rfl (Or.inl rfl)) (bT (aS (i:=4) jb.nd rfl (Or.inl rfl)) (bT (aS (i:=5) jb.nd rfl (Or.inl rfl)) kU))))))
   (ao (aJ (E2 xw sX (hr.mono (by decide)) rfl T.Gf c9.b .nil aR (aa (pv 2) (aa (pv 3) (aa (pv 4) (aa (pv 5) af)))))))),?_⟩
  refine⟨_,rfl,_,rfl,_,rfl,_,rfl,s,t,ns,k,rfl,hC,by omega,λm hm hm2=>?_⟩
  refine⟨_,_,rfl,rfl,(by show(0:Int)<4;decide),_,_,rfl,rfl,?_⟩
  obtain⟨n,hn⟩:∃n:Nat,1+m % 4=(n:Int):=⟨(1+m % 4).toNat,by omega⟩
  refine⟨s,t,ns,k+1,n,(by show [V.ref s,V.ref t,V.int (1+m % 4)]=_;rw[hn]),hC.step (by omega),by omega,by omega,by omega,λr l o mo rs rows fo fm sg H5 k5 hsg hz hr LM sq Q5 ho Il hmo Im w5 G8 k51 k52=>?_⟩
  rw[Wo.set]at w5
  refine⟨r,_,rfl,cT.of hr,rfl,_,_,rfl,_,_,rfl,_,_,rfl,_,_,rfl,rfl,?_⟩
  refine⟨_,rfl,_,rfl,_,rfl,_,rfl,λx dx hx hdx ZS=>?_⟩
  have s6:ak H5 (upd (upd H5 dx (.own x)) x (.ins p.aq dx [])):=ak.at (ak.upd hdx) hx
  have Me:upd (upd H5 dx (.own x)) x (.ins p.aq dx []) x=some (.ins p.aq dx []):=ah
  generalize upd (upd H5 dx (.own x)) x (.ins p.aq dx [])=H6 at s6 Me ⊢
  refine⟨x,dx,o,mo,sg,.lst l,rows,fo,fm,rfl,Me,hsg,by omega,((LM.same Wo.sub).same s6).Wj,(by rw[hz];exact sq),λr hr f hf=>(Q5 r hr f hf).h,TupAt.fr ((ho.same Wo.sub).same s6),Il.h,TupAt.fr ((hmo.same Wo.sub).same s6),Im.h,λH7 P7 f7 ZR=>⟨rfl,?_⟩⟩
  have s7:ak H5 H7:=λb u e=>f7 b u (s6 b u e) λz=>by rw[z,hx]at e;cases e
  exact kk x H7 k5 (sg,x6 rows,j0 fo,j0 fm) (P7.wo (s7 _ _ G8) (ZR t (by rw[s6 _ _ G8];exact λz=>nomatch z))) (by show sg.cps.size<=4;omega) (Wo.back w5 G8 hx) (w5.trans (Wo.same s7)) (s7 _ _ G8) (by omega) (by omega)
theorem DI {lY aW:Addr} {kh aQ:FuncData} {p:Pm} (T:Txt K mg p base) (fX:Dn K mg "_law_row" qc Rr lY kh) (aB:Dn K mg "_law_next" dZ l5 aW aQ) (bS:aK P w K mg base cD 1 aW aQ l5 (nW K)):aK P w K mg base cD 2 lY kh Rr (HG K):=by
 refine fX.fn.ok jj (λvs H Q E h=>?_) (λcdv A outer s H vs Q E hr h=>?_)
 ·obtain⟨s,t,ns,k,n,sg,rfl,_⟩:=h
  rfl
 ·obtain⟨s,t,ns,k,n,sg,rfl,hC,hk,hn,hs0,hs1,kk⟩:=h
  have hk0:=hC.k0
  have Yr:sg.length<=sizeLine:=Nat.le_trans hs1 (by decide)
  refine⟨_,(aj (aG (i:=4) jj.nd rfl (Or.inl rfl) (aA bS (hr.mono (by decide)) rfl aB.m aB.fn.kp aB.b .nil aR (aa (pv 0) (aa (pv 1) af))))
   (aj (aG (i:=5) jj.nd rfl (Or.inl rfl) (aE bQ (aE cE (pv 4) ai) ai))
   (aj (aG (i:=6) jj.nd rfl (Or.inl rfl) br)
   (aj (fF PassesOwn.never rfl (gA rfl T.kD (aa (aE bQ (pv 4) (aE cR (pv 3) ai)) af)) (aS (i:=7) jj.nd rfl (Or.inl rfl)) (bI (bJ (aP vV (pv 5) ai (aL _)) (ao (aG (i:=4) jj.nd rfl (Or.inl rfl) (aA bS (hr.mono (by decide)) rfl aB.m aB.fn.kp aB.b .nil aR (aa (pv 0) (aa (pv 1) af))))) aU)
   (ao (aG (i:=6) jj.nd rfl (Or.inl rfl) (aE mD (pv 6) (bw tZ (pv 2) (aE bQ (aE cE (pv 4) ai) (aC (aY) rfl T.cN bG (aa (pv 2) af))) (λ_ _=>rfl)))))))
   (ao (aJ (pv 6))))))),?_⟩
  refine⟨_,rfl,_,rfl,s,t,ns,k,rfl,hC,by omega,λm hm hm2=>?_⟩
  refine⟨_,rfl,_,_,rfl,rfl,⟨by decide,by decide⟩,_,_,rfl,rfl,(by show(0:Int)<4;decide),?_⟩
  have hm0:=Int.emod_nonneg m (show((n:Int)+1)≠0 by omega)
  have hm1:=Int.emod_lt_of_pos m (show(0:Int)<(n:Int)+1 by omega)
  refine⟨_,rfl,_,rfl,_,_,rfl,rfl,_,_,rfl,rfl,(by show(0:Int)<(n:Int)+1;omega),_,rfl,by omega,by omega,?_⟩
  have w1:ak (Wo t H) (Wo t (upd H t (.lst [.int (k+1)]))):=by rw[Wo.set];exact ak.refl _
  refine kc (lo:=0) (n:=(m % ((n:Int)+1)).toNat) (λi σ H2=>∃(m1 k1:Int) (f:Str) (v7:Option V),σ=[some (.ref s),some (.ref t),some (.str sg),some (.int n),some (.int m1),some (.int (m / 97 % 4)),some (.str f),v7]/\0<=m1/\Of sg f/\f.cps.size=i/\ak (Wo t H) (Wo t H2)/\H2 t=some (.lst [.int k1])/\k<=k1/\k1<=k+1+(i:Int))
   ⟨m,k+1,_,_,rfl,hm,(λc hc=>by cases hc),rfl,w1,ah,by omega,by omega⟩ ?_ ?_
  ·rintro i σ H2 hi ⟨m1,k1,f,v7,rfl,R8,of,hf,w2,G9,P8,Tw⟩
   refine⟨λσ H3=>∃(m2 k2:Int),σ=[some (.ref s),some (.ref t),some (.str sg),some (.int n),some (.int m2),some (.int (m / 97 % 4)),some (.str f),some (.int (0+(i:Int)))]/\0<=m2/\ak (Wo t H) (Wo t H3)/\H3 t=some (.lst [.int k2])/\k<=k2/\k2<=k1+1,?_,?_⟩
   ·refine⟨_,rfl,_,_,rfl,rfl,_,rfl,?_⟩
    refine fJ (λ_=>?_) λ_=>⟨m1,k1,rfl,R8,w2,G9,P8,by omega⟩
    refine⟨_,rfl,_,rfl,s,t,ns,k1,rfl,hC.off w2 G9 (by omega),by omega,λm3 h3 _=>⟨m3,k1+1,rfl,h3,by rw[Wo.set];exact w2,ah,by omega,by omega⟩⟩
   rintro σ H3 ⟨m2,k2,rfl,WS,w3,OW,Tv,Wu⟩
   have i1:=Int.emod_nonneg (m2 / 5) (show((sg.cps.size:Nat):Int)≠0 by omega)
   have i2:=Int.emod_lt_of_pos (m2 / 5) (show(0:Int)<((sg.cps.size:Nat):Int) by omega)
   obtain⟨j,hj⟩:∃j:Nat,(m2 / 5) % ((sg.cps.size:Nat):Int)=(j:Int):=⟨_,(Int.toNat_of_nonneg i1).symm⟩
   have hjl:j<sg.cps.toList.length:=by rw[Array.length_toList];omega
   refine⟨_,rfl,_,rfl,_,rfl,_,_,rfl,rfl,⟨by decide,by decide⟩,_,rfl,_,_,rfl,⟨Yr,rfl⟩,_,_,rfl,rfl,(by show(0:Int)<(sg.cps.size:Int);omega),sg,_,sg.cps.toList[j],rfl,rfl,Yr,?_,_,_,rfl,rfl,?_,?_⟩
   ·show AU sg.cps.toList ((m2 / 5) % ((sg.cps.size:Nat):Int))=_
    rw[hj]
    exact g7 (List.getElem?_eq_getElem hjl)
   ·show f.cps.size+1<=sizeLine
    exact Nat.le_trans (show _<=100 by omega) (by decide)
   ·refine⟨m2,k2,_,_,rfl,WS,λc hc=>?_,?_,w3,OW,Tv,by omega⟩
    ·have e:(f.cps++ #[sg.cps.toList[j]]).toList=f.cps.toList++[sg.cps.toList[j]]:=by simp
     have hc':c∈f.cps.toList++[sg.cps.toList[j]]:=by rw[←e];exact hc
     rcases List.mem_append.mp hc' with hc|hc
     ·exact of c hc
     ·rw[List.mem_singleton.mp hc];exact List.getElem_mem hjl
    ·show(f.cps++ #[sg.cps.toList[j]]).size=i+1
     rw[Array.size_append,hf]
     rfl
  ·rintro σ H2 ⟨m1,k1,f,v7,rfl,R8,of,hf,w2,G9,P8,Tw⟩
   exact⟨_,rfl,kk f H2 k1 of (by omega) w2 G9 P8 (by omega)⟩
theorem xU {iW:Addr} {gE:FuncData} {p:Pm} (T:Txt K mg p base) (fz:Dn K mg "_law_manner" lO ["_law_m"] iW gE)  :aK P w K mg base cD 1 iW gE ["_law_m"] Bk:=by
 refine fz.fn.ok xM (λvs H Q E h=>?_) (λcdv A outer s H vs Q E hr h=>?_)
 ·obtain⟨m,rfl,_⟩:=h
  rfl
 ·obtain⟨m,rfl,hm,kk⟩:=h
  refine⟨_,(ao (aJ (bw b7 (jO (aa br (aa br (aa br (aa br af))))) (aE bQ (pv 0) ai) (λ_ _=>rfl)))),?_⟩
  refine⟨by show 4<=sizeLine;decide,λq hq=>⟨_,rfl,_,_,rfl,rfl,(by show(0:Int)<4;decide),?_⟩⟩
  obtain⟨x,hx,hi⟩:∃x:Str,AU [V.str (Str.ofString "whole"),.str (Str.ofString "within"),.str (Str.ofString "over"),.str (Str.ofString "stretch")] (m % 4)=some (.str x)/\jU x=true:=by
   have e:m % 4=0\/m % 4=1\/m % 4=2\/m % 4=3:=by omega
   rcases e with e|e|e|e<;>rw[e]
   ·exact⟨_,rfl,by decide +kernel⟩
   ·exact⟨_,rfl,by decide +kernel⟩
   ·exact⟨_,rfl,by decide +kernel⟩
   ·exact⟨_,rfl,by decide +kernel⟩
  exact⟨q,_,_,_,rfl,rfl,cS.of ah,hx,kk x _ hi (ak.upd hq)⟩
end
section
variable{P:Program}{w:World}{K:PySem.W.Frag}{mg:Str->Option Value}{base:Heap}
theorem vY {bU:Addr} {bH:FuncData} {p:Pm} (T:Txt K mg p base) (aO:Dn K mg "_law_same" jk l7 bU bH)  :aK P w K mg base cD 1 bU bH l7 (qa K 0):=by
 refine aO.fn.ok ur (λvs H Q E h=>?_) (λcdv A outer s H vs Q E hr h=>?_)
 ·obtain⟨v,u,rfl,_⟩:=h
  rfl
 ·obtain⟨v,u,rfl,hE,k⟩:=h
  refine⟨_,(aj (bJ (PW.pt (uu (fL (aC (bA) rfl T.bf aT (aa (pv 1) (aa (dD (v:=.ty "list") rfl T.vt sQ rfl) af)))) (qS (fL (aC (bA) rfl T.bf aT (aa (pv 1) (aa (dD (v:=.ty "tuple") rfl T.mP k9 rfl) af))))))) iI aU)
   (aj (bJ (aP zT (pv 1) tO (by with_unfolding_all rfl)) iI aU)
   (aj (bJ (fL (aC (bA) rfl T.bf aT (aa (pv 1) (aa (dD (v:=.ty "str") rfl T.AV wX rfl) af)))) (ao (aJ (jP (aC (bA) rfl T.bf aT (aa (pv 0) (aa (dD (v:=.ty "str") rfl T.AV wX rfl) af))) (jN (bY b9 (pv 0) (pv 1) (aL _)))))) aU)
   (ao (aJ (jP (aC (bA) rfl T.bf aT (aa (pv 0) (aa (dD (v:=.ty "int") rfl T.AW wY rfl) af))) (jP (Ie (aC (bA) rfl T.bf aT (aa (pv 0) (aa (dD (v:=.ty "bool") rfl T.Hl FA rfl) af)))) (jN (bY b9 (pv 0) (pv 1) (aL _)))))))))),?_⟩
  rcases hE with⟨x,rfl,rfl⟩|⟨n,rfl,rfl⟩
  ·refine⟨_,rfl,_,_,_,_,rfl,.inl (.str x),sF,_,rfl,iy ?_⟩
   refine⟨_,rfl,_,_,_,_,rfl,.inl (.str x),qG,_,rfl,iy ?_⟩
   refine⟨_,rfl,rfl,_,rfl,iy ?_⟩
   refine⟨_,rfl,_,_,_,_,rfl,.inl (.str x),gz,_,rfl,pL ?_⟩
   refine⟨_,rfl,_,_,_,_,rfl,.inl (.str x),gz,_,rfl,pL ?_⟩
   refine⟨_,rfl,_,rfl,rfl,?_⟩
   rw[decide_eq_true rfl]
   exact k H (ak.refl H)
  ·refine⟨_,rfl,_,_,_,_,rfl,.inl (.int n),sG,_,rfl,iy ?_⟩
   refine⟨_,rfl,_,_,_,_,rfl,.inl (.int n),qH,_,rfl,iy ?_⟩
   refine⟨_,rfl,rfl,_,rfl,iy ?_⟩
   refine⟨_,rfl,_,_,_,_,rfl,.inl (.int n),ux,_,rfl,iy ?_⟩
   refine⟨_,rfl,_,_,_,_,rfl,.inl (.int n),gz,_,rfl,pL ?_⟩
   refine⟨_,rfl,_,_,_,_,rfl,.inl (.int n),sH,_,rfl,_,rfl,pL ?_⟩
   refine⟨_,rfl,_,rfl,rfl,?_⟩
   rw[decide_eq_true rfl]
   exact k H (ak.refl H)
theorem qA {d:Nat} {bU:Addr} {bH:FuncData} {p:Pm} (T:Txt K mg p base) (aO:Dn K mg "_law_same" jk l7 bU bH) (gy:aK P w K mg base cD (d+1) bU bH l7 (qa K d)):aK P w K mg base cD (d+2) bU bH l7 (qa K (d+1)):=by
 refine aO.fn.ok ur (λvs H Q E h=>?_) (λcdv A outer s H vs Q E hr h=>?_)
 ·obtain⟨v,u,rfl,_⟩:=h
  rfl
 ·obtain⟨v,u,rfl,hE,k⟩:=h
  refine⟨_,(aj (bJ (PW.pt (uu (fL (aC (bA) rfl T.bf aT (aa (pv 1) (aa (dD (v:=.ty "list") rfl T.vt sQ rfl) af)))) (qS (fL (aC (bA) rfl T.bf aT (aa (pv 1) (aa (dD (v:=.ty "tuple") rfl T.mP k9 rfl) af))))))) (aj (bJ (PW.pt (uu (aP rY (aC (bA) rfl T.bf aT (aa (pv 0) (aa (dD (v:=.ty "list") rfl T.vt sQ rfl) af))) (aC (bA) rfl T.bf aT (aa (pv 1) (aa (dD (v:=.ty "list") rfl T.vt sQ rfl) af))) (aL _)) (qS (aP rY (aC (bA) rfl T.bf aT (aa (pv 0) (aa (dD (v:=.ty "tuple") rfl T.mP k9 rfl) af))) (aC (bA) rfl T.bf aT (aa (pv 1) (aa (dD (v:=.ty "tuple") rfl T.mP k9 rfl) af))) (aL _))))) (ao (aJ nL)) aU)
   (ao (aJ (jP (bY b9 (aC (aY) rfl T.cN bG (aa (pv 0) af)) (aC (aY) rfl T.cN bG (aa (pv 1) af)) (aL _)) (jN (aC (uG rfl) rfl T.LD Jx (aa (oj (N:=["_law_a","_law_b"]) rfl (λ_=>⟨[],c6.plain (by decide +kernel) rfl (by decide +kernel) (by decide +kernel)⟩) (DE rfl rfl T.Hi (aa (pv 0) (aa (pv 1) af))) (λ_ _ _ _ _ _ _=>(EX (K':=K) (n:=2) rfl rfl (bT (aS (i:=0) (show(["_law_a","_law_b"]:List Str).Nodup by decide +kernel) rfl (Or.inl rfl)) (bT (aS (i:=1) (show(["_law_a","_law_b"]:List Str).Nodup by decide +kernel) rfl (Or.inl rfl)) kU)))) (λ_ _ _ _ _ _ _=>(aA gy (hr.mono (by omega)) rfl aO.m aO.fn.kp aO.b .nil aR (aa (pv 0) (aa (pv 1) af))))) af))))))) aU)
   (aj (bJ (aP zT (pv 1) tO (by with_unfolding_all rfl)) iI aU)
   (aj (bJ (fL (aC (bA) rfl T.bf aT (aa (pv 1) (aa (dD (v:=.ty "str") rfl T.AV wX rfl) af)))) (ao (aJ (jP (aC (bA) rfl T.bf aT (aa (pv 0) (aa (dD (v:=.ty "str") rfl T.AV wX rfl) af))) (jN (bY b9 (pv 0) (pv 1) (aL _)))))) aU)
   (ao (aJ (jP (aC (bA) rfl T.bf aT (aa (pv 0) (aa (dD (v:=.ty "int") rfl T.AW wY rfl) af))) (jP (Ie (aC (bA) rfl T.bf aT (aa (pv 0) (aa (dD (v:=.ty "bool") rfl T.Hl FA rfl) af)))) (jN (bY b9 (pv 0) (pv 1) (aL _)))))))))),?_⟩
  rcases hE with(⟨x,rfl,rfl⟩|⟨n,rfl,rfl⟩)|⟨p,q,xs,ys,rfl,rfl,hp,hq,hlen,Sa,hall⟩
  ·refine⟨_,rfl,_,_,_,_,rfl,.inl (.str x),sF,_,rfl,iy ?_⟩
   refine⟨_,rfl,_,_,_,_,rfl,.inl (.str x),qG,_,rfl,iy ?_⟩
   refine⟨_,rfl,rfl,_,rfl,iy ?_⟩
   refine⟨_,rfl,_,_,_,_,rfl,.inl (.str x),gz,_,rfl,pL ?_⟩
   refine⟨_,rfl,_,_,_,_,rfl,.inl (.str x),gz,_,rfl,pL ?_⟩
   refine⟨_,rfl,_,rfl,rfl,?_⟩
   rw[decide_eq_true rfl]
   exact k H (ak.refl H)
  ·refine⟨_,rfl,_,_,_,_,rfl,.inl (.int n),sG,_,rfl,iy ?_⟩
   refine⟨_,rfl,_,_,_,_,rfl,.inl (.int n),qH,_,rfl,iy ?_⟩
   refine⟨_,rfl,rfl,_,rfl,iy ?_⟩
   refine⟨_,rfl,_,_,_,_,rfl,.inl (.int n),ux,_,rfl,iy ?_⟩
   refine⟨_,rfl,_,_,_,_,rfl,.inl (.int n),gz,_,rfl,pL ?_⟩
   refine⟨_,rfl,_,_,_,_,rfl,.inl (.int n),sH,_,rfl,_,rfl,pL ?_⟩
   refine⟨_,rfl,_,rfl,rfl,?_⟩
   rw[decide_eq_true rfl]
   exact k H (ak.refl H)
  ·have tp:∀{H':Hp} {a:Addr} {zs:List V},cT K H' a zs->(rK K H' (.ref a) (.type "tuple")\/∃b ws,V.ref a= .ref b/\cT K H' b ws/\Value.type "tuple" = .type "tuple"):=λ{H' a zs} z=>.inr ⟨a,zs,rfl,z,rfl⟩
   refine⟨_,rfl,_,_,_,_,rfl,tp hq,mG,_,rfl,iy ?_⟩
   refine⟨_,rfl,_,_,_,_,rfl,tp hq,gz,_,rfl,pL ?_⟩
   refine⟨_,rfl,_,_,_,_,rfl,tp hp,mG,_,rfl,_,_,_,_,rfl,tp hq,mG,rfl,_,rfl,iy ?_⟩
   refine⟨_,rfl,_,_,_,_,rfl,tp hp,gz,_,rfl,_,_,_,_,rfl,tp hq,gz,rfl,_,rfl,iy ?_⟩
   refine⟨_,rfl,_,_,rfl,.inr ⟨_,hp,rfl⟩,_,rfl,_,_,rfl,.inr ⟨_,hq,rfl⟩,rfl,_,rfl,?_⟩
   refine nF (λ_=>?_) λz=>absurd (congrArg Nat.cast hlen) z
   refine⟨_,rfl,_,rfl,.tup p,.tup q,_,_,rfl,hp,hq,λl hl=>?_⟩
   refine Ek xs.length (λ_=>V.bl true) hl (Nat.lt_of_le_of_lt Sa (by decide)) (λi H2 s2 hi=>?_) (λH2 s2=>⟨_,_,ak.tup s2 hp,ak.tup s2 hq,.inl (Nat.le_refl _)⟩) (λi z H2 H3 R s2 hi hy hR=>?_) λH2 s2 hl2=>?_
   ·exact⟨_,_,_,_,ak.tup s2 hp,ak.tup s2 hq,List.getElem?_eq_getElem hi,List.getElem?_eq_getElem (by rw[←hlen];exact hi)⟩
   ·obtain⟨p',x',y',rfl,TL,rfl,hxy⟩:=hy
    obtain⟨ex,ey⟩:=hxy _ _ (ak.tup s2 hp) (ak.tup s2 hq)
    refine⟨p',_,rfl,cT.of ah,rfl,_,_,rfl,_,_,rfl,rfl,Kp.rep _ _,?_⟩
    exact⟨_,rfl,_,rfl,x',y',rfl,(hall i x' y' ex ey).same (s2.trans (ak.upd TL)),λH5 s5=>hR H5 ((ak.upd TL).trans s5)⟩
   ·refine⟨l,(List.range xs.length).map λ_=>true,rfl,cS.of (by rw[hl2,List.map_map];rfl),?_⟩
    rw[show((List.range xs.length).map λ_=>true).all id=true from List.all_eq_true.mpr λb hb=>by
     obtain⟨_,_,rfl⟩:=List.mem_map.mp hb
     rfl]
    exact k H2 s2
theorem DJ {lZ fh cH:Addr} {ki dG cg:FuncData} {p:Pm} (T:Txt K mg p base) (fY:Dn K mg "_law_gap" qe Rq lZ ki) (bD:Dn K mg "more_cost" kZ l6 fh dG) (ly:aK P w K mg base cD 2 fh dG l6 (Dq K p.aq)) (bE:Dn K mg "opening_cost" ie l6 cH cg) (mH:aK P w K mg base cD 2 cH cg l6 (tH K p.aq)):aK P w K mg base cD 3 lZ ki Rq (LQ K p.aq):=by
 refine fY.fn.ok Du (λvs H Q E h=>?_) (λcdv A outer s H vs Q E hr h=>?_)
 ·obtain⟨x,T1,b,rfl,_⟩:=h
  rfl
 ·obtain⟨x,T1,b,rfl,hP,kk⟩:=h
  refine⟨_,(ao (aJ (o9 (fL (pv 1)) (aA ly (hr.mono (by decide)) rfl bD.m bD.fn.kp bD.b .nil aR (aa (pv 0) af)) (aE cR (aA mH (hr.mono (by decide)) rfl bE.m bE.fn.kp bE.b .nil aR (aa (pv 0) af)) (aA ly (hr.mono (by decide)) rfl bD.m bD.fn.kp bD.b .nil aR (aa (pv 0) af)))))),?_⟩
  refine⟨_,rfl,_,rfl,?_⟩
  cases b with
  |true=>exact pL ⟨_,rfl,x,T1.1,T1.2.1,T1.2.2.1,T1.2.2.2,rfl,hP,by rw[if_pos rfl]at kk;exact kk⟩
  |false=>exact iy ⟨_,rfl,x,T1.1,T1.2.1,T1.2.2.1,T1.2.2.2,rfl,hP,_,rfl,x,T1.1,T1.2.1,T1.2.2.1,T1.2.2.2,rfl,hP,_,_,rfl,rfl,by rw[if_neg Bool.false_ne_true]at kk;exact kk⟩
theorem tR {eX:Addr} {dW:FuncData} {p:Pm} (T:Txt K mg p base) (cP:Dn K mg "_law_may_begin" jg Rp eX dW)  :aK P w K mg base cD 1 eX dW Rp EK:=by
 refine cP.fn.ok tM (λvs H Q E h=>?_) (λcdv A outer s H vs Q E hr h=>?_)
 ·obtain⟨m,i,j,rfl,_⟩:=h
  rfl
 ·obtain⟨m,i,j,rfl,hm,kk⟩:=h
  refine⟨_,(aj (bJ (aP b9 (pv 0) br (aL _)) (ao (aJ (jP (bY b9 (pv 1) ai (aL _)) (jN (bY b9 (pv 2) ai (aL _)))))) aU)
   (aj (bJ (aP b9 (pv 0) br (aL _)) (ao (aJ (bY b9 (pv 1) ai (aL _)))) aU)
   (ao (aJ (LY (bY b9 (pv 0) br (aL _)) (jN (bY b9 (pv 2) ai (aL _)))))))),?_⟩
  unfold xZ at kk
  refine⟨_,rfl,rfl,_,rfl,uy (λh1=>?_) λh1=>?_⟩
  ·rw[if_pos h1]at kk
   refine⟨_,rfl,rfl,_,rfl,nF (λhi=>⟨_,rfl,rfl,?_⟩) λhi=>?_⟩
   ·rw[Cr]
    rwa [decide_eq_true hi,Bool.true_and]at kk
   ·rwa [decide_eq_false hi,Bool.false_and]at kk
  rw[if_neg h1]at kk
  refine⟨_,rfl,rfl,_,rfl,uy (λh2=>?_) λh2=>?_⟩
  ·rw[if_pos h2]at kk
   exact⟨_,rfl,rfl,by rw[Cr];exact kk⟩
  rw[if_neg h2]at kk
  refine⟨_,rfl,rfl,_,rfl,uy (λh3=>?_) λh3=>?_⟩
  ·rw[if_neg (λz=>by rw[h3]at z;exact absurd z (by decide +kernel))]at kk
   exact kk
  ·have h4:m=Str.ofString "over" :=by
    rcases OU hm with z|z|z|z
    ·exact absurd z h1
    ·exact absurd z h2
    ·exact z
    ·exact absurd z h3
   rw[if_pos h4]at kk
   exact⟨_,rfl,rfl,by rw[Cr];exact kk⟩
theorem vZ {gP:Addr} {fP:FuncData} {p:Pm} (T:Txt K mg p base) (dO:Dn K mg "_law_may_end" kO Ro gP fP)  :aK P w K mg base cD 1 gP fP Ro EJ:=by
 refine dO.fn.ok vK (λvs H Q E h=>?_) (λcdv A outer s H vs Q E hr h=>?_)
 ·obtain⟨m,f,s,i,j,rfl,_⟩:=h
  rfl
 ·obtain⟨m,f,s,i,j,rfl,hm,hf,hs,kk⟩:=h
  have lf:f.length<=sizeLine:=Nat.le_trans hf (by decide)
  have ls:s.length<=sizeLine:=Nat.le_trans hs (by decide)
  refine⟨_,(aj (bJ (aP b9 (pv 0) br (aL _)) (ao (aJ (jP (bY b9 (pv 3) (aC (aY) rfl T.cN bG (aa (pv 1) af)) (aL _)) (jN (bY b9 (pv 4) (aC (aY) rfl T.cN bG (aa (pv 2) af)) (aL _)))))) aU)
   (ao (aJ (LY (bY b9 (pv 0) br (aL _)) (jN (bY b9 (pv 3) (aC (aY) rfl T.cN bG (aa (pv 1) af)) (aL _))))))),?_⟩
  unfold Ab at kk
  refine⟨_,rfl,rfl,_,rfl,uy (λh1=>?_) λh1=>?_⟩
  ·rw[if_pos h1]at kk
   refine⟨_,rfl,_,rfl,_,_,rfl,⟨lf,rfl⟩,rfl,_,rfl,nF (λhi=>⟨_,rfl,_,rfl,_,_,rfl,⟨ls,rfl⟩,rfl,?_⟩) λhi=>?_⟩
   ·rw[Cr]
    rwa [decide_eq_true (show i=(f.cps.size:Int) from hi),Bool.true_and]at kk
   ·rwa [decide_eq_false (show ¬i=(f.cps.size:Int) from hi),Bool.false_and]at kk
  rw[if_neg h1]at kk
  refine⟨_,rfl,rfl,_,rfl,uy (λh3=>?_) λh3=>?_⟩
  ·rw[if_pos h3]at kk
   exact kk
  ·rw[if_neg h3]at kk
   exact⟨_,rfl,_,rfl,_,_,rfl,⟨lf,rfl⟩,rfl,by rw[Cr];exact kk⟩
theorem BI {ko ff lZ:Addr} {jq dF ki:FuncData} {p:Pm} (T:Txt K mg p base) (iA:Dn K mg "_law_walk" nY Rn ko jq) (cA:Dn K mg "pair_cost" kY OO ff dF) (pV:aK P w K mg base cD 1 ff dF OO (qO K p.aq)) (fY:Dn K mg "_law_gap" qe Rq lZ ki) (zw:aK P w K mg base cD 3 lZ ki Rq (LQ K p.aq)):aK P w K mg base cD 4 ko jq Rn (HF K p.aq):=by
 refine iA.fn.ok cy (λvs H Q E h=>?_) (λcdv A outer s H vs Q E hr h=>?_)
 ·obtain⟨x,b,T1,m,f,s,mv,q,rfl,_⟩:=h
  rfl
 ·obtain⟨x,b,T1,m,f,s,mv,q,rfl,hP,of,os,hf,hs,TN,hb,kN,kk⟩:=h
  have lf:f.length<=sizeLine:=Nat.le_trans hf (by decide)
  have ls:s.length<=sizeLine:=Nat.le_trans hs (by decide)
  generalize hg:t9 T1 m f s=g at kN kk
  have gn:g.n=f.cps.size:=by rw[←hg];rfl
  have gm:g.m=s.cps.size:=by rw[←hg];rfl
  refine⟨_,(aj (o8 (pv 3) (oi (n:=2) rfl (bT (aS (i:=5) cy.nd rfl (Or.inl rfl)) (bT (aS (i:=6) cy.nd rfl (Or.inl rfl)) kU))))
   (aj (aG (i:=7) cy.nd rfl (Or.inl rfl) ai)
   (aj (aG (i:=8) cy.nd rfl (Or.inl rfl) br)
   (aj (fF PassesOwn.never rfl (DF (pv 4)) (aS (i:=9) cy.nd rfl (Or.inl rfl)) (bI (bJ (PW.pt (tN (aP b9 (pv 9) br (aL _)) (tN (aP rZ (pv 5) (aC (aY) rfl T.cN bG (aa (pv 1) af)) (aL _)) (rT (aP rZ (pv 6) (aC (aY) rfl T.cN bG (aa (pv 2) af)) (aL _)))))) (aj (aG (i:=7) cy.nd rfl (Or.inl rfl) (aE cR (pv 7) (aA pV (hr.mono (by decide)) rfl cA.m cA.fn.kp cA.b .nil aR (aa (pv 0) (aa (bw tZ (pv 1) (pv 5) (λ_ _=>rfl)) (aa (bw tZ (pv 2) (pv 6) (λ_ _=>rfl)) af))))))
   (ao (Ib (i:=5) (j:=6) rfl cy.nd rfl rfl (by decide) rfl rfl (aa (aE cR (pv 5) ai) (aa (aE cR (pv 6) ai) af)) (by rfl)))) (ao (bJ (PW.pt (tN (aP b9 (pv 9) br (aL _)) (rT (aP rZ (pv 5) (aC (aY) rfl T.cN bG (aa (pv 1) af)) (aL _))))) (aj (aG (i:=7) cy.nd rfl (Or.inl rfl) (aE cR (pv 7) (aA zw (hr.mono (by decide)) rfl fY.m fY.fn.kp fY.b .nil aR (aa (pv 0) (aa (bY b9 (pv 8) br (aL _)) af)))))
   (ao (aG (i:=5) cy.nd rfl (Or.inl rfl) (aE cR (pv 5) ai)))) (ao (bJ (PW.pt (tN (aP b9 (pv 9) br (aL _)) (rT (aP rZ (pv 6) (aC (aY) rfl T.cN bG (aa (pv 2) af)) (aL _))))) (aj (aG (i:=7) cy.nd rfl (Or.inl rfl) (aE cR (pv 7) (aA zw (hr.mono (by decide)) rfl fY.m fY.fn.kp fY.b .nil aR (aa (pv 0) (aa (bY b9 (pv 8) br (aL _)) af)))))
   (ao (aG (i:=6) cy.nd rfl (Or.inl rfl) (aE cR (pv 6) ai)))) (ao (aJ tO)))))))
   (ao (aG (i:=8) cy.nd rfl (Or.inl rfl) (pv 9)))))
   (ao (aJ (bP (aa (pv 7) (aa (bP (aa (pv 5) (aa (pv 6) af))) af))))))))),?_⟩
  refine⟨_,rfl,b,_,rfl,cT.of hb,rfl,_,_,rfl,_,_,rfl,rfl,?_⟩
  refine⟨_,rfl,mv,rfl,Li (x:=mv) (λi σ H2=>∃(tot:Int) (e:gY) (L:Str) (v9:Option V),σ=[some (.ref x),some (.str f),some (.str s),some (.ref b),some (.str mv),some (.int (e.1:Int)),some (.int (e.2.1:Int)),some (.int tot),some (.str L),v9]/\ak H H2/\g.walk (q.1,q.2,112) (mv.cps.toList.take i)=some (tot,e)/\(L=⟨#[97]⟩↔e.2.2=97)/\(L=⟨#[98]⟩↔e.2.2=98))
   ⟨0,(q.1,q.2,112),_,_,rfl,ak.refl H,rfl,(by show Str.ofString "" =⟨#[97]⟩↔(112:Nat)=97;decide +kernel),(by show Str.ofString "" =⟨#[98]⟩↔(112:Nat)=98;decide +kernel)⟩ ?_ ?_⟩
  ·rintro i v σ H2 hv ⟨tot,e,L,v9,rfl,s2,hw,Qg,Qf⟩
   have hvl:=je hv
   have Xk:=hP.same s2
   refine⟨λσ H3=>∃t∈g.steps e,t.1.2.2=v/\σ=[some (.ref x),some (.str f),some (.str s),some (.ref b),some (.str mv),some (.int (t.1.1:Int)),some (.int (t.1.2.1:Int)),some (.int (tot+t.2)),some (.str L),some (.str ⟨#[v]⟩)]/\ak H H3,?_,?_⟩
   ·have fin:(∀t∈g.steps e,t.1.2.2≠v)->Q .i9 H2:=λhn=>by
     refine kN ?_ H2 s2
     have e1:mv.cps.toList=mv.cps.toList.take i++v::mv.cps.toList.drop (i+1):=by
      have hi:=(List.getElem?_eq_some_iff.mp hvl).1
      have e2:=(List.take_append_drop i mv.cps.toList).symm
      rw[List.drop_eq_getElem_cons hi,(List.getElem?_eq_some_iff.mp hvl).2]at e2
      exact e2
     rw[e1]
     exact Gd.Dc hw hn
    have pN:v≠112->¬(⟨#[v]⟩:Str)=Str.ofString "p" :=λz=>by rw[sP];exact DG z
    have aN:v≠97->¬(⟨#[v]⟩:Str)=Str.ofString "a" :=λz=>by rw[sA];exact DG z
    have bN:v≠98->¬(⟨#[v]⟩:Str)=Str.ofString "b" :=λz=>by rw[sB];exact DG z
    by_cases v1:v=112
    ·subst v1
     by_cases hi:e.1<f.cps.size
     ·by_cases hj:e.2.1<s.cps.size
      ·obtain⟨a,ha⟩:=An hi
       obtain⟨c,hc⟩:=An hj
       obtain⟨i',j',fr,hi',hj',hat,Xy⟩:=Ik (u:=uT T1) hP.X5 (of a (ng ha)) (os c (ng hc))
       refine⟨_,rfl,rfl,_,rfl,its sP.symm ⟨_,rfl,_,rfl,_,_,rfl,⟨lf,rfl⟩,_,_,rfl,rfl,_,rfl,K4 (by show(e.1:Int)<(f.cps.size:Int);omega) ⟨_,rfl,_,rfl,_,_,rfl,⟨ls,rfl⟩,_,_,rfl,rfl,_,rfl,K4 (by show(e.2.1:Int)<(s.cps.size:Int);omega) ?_⟩⟩⟩
       refine⟨_,rfl,_,rfl,_,rfl,_,rfl,f,_,a,rfl,rfl,lf,g7 (je ha),_,rfl,_,rfl,s,_,c,rfl,rfl,ls,g7 (je hc),x,T1.1,T1.2.1,T1.2.2.1,T1.2.2.2,i',j',a,c,fr,rfl,Xk,hi',hj',hat,λH5 s5=>⟨_,_,rfl,rfl,?_⟩⟩
       refine⟨_,rfl,_,_,rfl,rfl,_,rfl,_,_,rfl,rfl,_,_,rfl,((e.1+1,e.2.1+1,112),g.pc e.1 e.2.1),Gd.j9.mpr (.inl ⟨by omega,by omega,rfl⟩),rfl,?_,s2.trans s5⟩
       have ep:g.pc e.1 e.2.1=fr.1*(uT T1 / fr.2):=by
        rw[←hg]
        show Q2 T1.1 T1.2.1 (uT T1) (f.cps.toList.getD e.1 0) (s.cps.toList.getD e.2.1 0)=_
        rw[ow (je ha),ow (je hc),Xy]
       show _=[_,_,_,_,_,_,_,some (V.int (tot+g.pc e.1 e.2.1)),_,_]
       rw[ep]
       rfl
      ·exact⟨_,rfl,rfl,_,rfl,its sP.symm ⟨_,rfl,_,rfl,_,_,rfl,⟨lf,rfl⟩,_,_,rfl,rfl,_,rfl,K4 (by show(e.1:Int)<(f.cps.size:Int);omega) ⟨_,rfl,_,rfl,_,_,rfl,⟨ls,rfl⟩,_,_,rfl,rfl,_,rfl,Gv (by show ¬(e.2.1:Int)<(s.cps.size:Int);omega) ⟨_,rfl,rfl,_,rfl,B3 (aN (by decide)) (iy ⟨_,rfl,rfl,_,rfl,B3 (bN (by decide)) (iy (fin (Gd.su (by omega) (by omega) (by omega))))⟩)⟩⟩⟩⟩
     ·exact⟨_,rfl,rfl,_,rfl,its sP.symm ⟨_,rfl,_,rfl,_,_,rfl,⟨lf,rfl⟩,_,_,rfl,rfl,_,rfl,Gv (by show ¬(e.1:Int)<(f.cps.size:Int);omega) (iy ⟨_,rfl,rfl,_,rfl,B3 (aN (by decide)) (iy ⟨_,rfl,rfl,_,rfl,B3 (bN (by decide)) (iy (fin (Gd.su (by omega) (by omega) (by omega))))⟩)⟩)⟩⟩
    ·refine⟨_,rfl,rfl,_,rfl,B3 (pN v1) (iy ?_)⟩
     by_cases v2:v=97
     ·subst v2
      refine⟨_,rfl,rfl,_,rfl,its sA.symm ⟨_,rfl,_,rfl,_,_,rfl,⟨lf,rfl⟩,_,_,rfl,rfl,_,rfl,?_⟩⟩
      by_cases hi:e.1<f.cps.size
      ·refine K4 (by show(e.1:Int)<(f.cps.size:Int);omega) ?_
       refine⟨_,rfl,_,rfl,_,rfl,rfl,x,T1,_,rfl,Xk,_,_,rfl,rfl,_,rfl,_,_,rfl,rfl,((e.1+1,e.2.1,97),g.ac 97 e.2.2),Gd.j9.mpr (.inr (.inl ⟨by omega,rfl⟩)),rfl,?_,s2⟩
       show _=[_,_,_,_,_,_,_,some (V.int (tot+g.ac 97 e.2.2)),_,_]
       rw[Jd hg (sA.symm▸Qg)]
       rfl
      ·exact Gv (by show ¬(e.1:Int)<(f.cps.size:Int);omega) ⟨_,rfl,rfl,_,rfl,B3 (bN (by decide)) (iy (fin (Gd.su (by omega) (by omega) (by omega))))⟩
     ·refine⟨_,rfl,rfl,_,rfl,B3 (aN v2) (iy ?_)⟩
      by_cases v3:v=98
      ·subst v3
       refine⟨_,rfl,rfl,_,rfl,its sB.symm ⟨_,rfl,_,rfl,_,_,rfl,⟨ls,rfl⟩,_,_,rfl,rfl,_,rfl,?_⟩⟩
       by_cases hj:e.2.1<s.cps.size
       ·refine K4 (by show(e.2.1:Int)<(s.cps.size:Int);omega) ?_
        refine⟨_,rfl,_,rfl,_,rfl,rfl,x,T1,_,rfl,Xk,_,_,rfl,rfl,_,rfl,_,_,rfl,rfl,((e.1,e.2.1+1,98),g.ac 98 e.2.2),Gd.j9.mpr (.inr (.inr ⟨by omega,rfl⟩)),rfl,?_,s2⟩
        show _=[_,_,_,_,_,_,_,some (V.int (tot+g.ac 98 e.2.2)),_,_]
        rw[Jd hg (sB.symm▸Qf)]
        rfl
       ·exact Gv (by show ¬(e.2.1:Int)<(s.cps.size:Int);omega) (fin (Gd.su (by omega) (by omega) (by omega)))
      ·exact⟨_,rfl,rfl,_,rfl,B3 (bN v3) (iy (fin (Gd.su (by omega) (by omega) (by omega))))⟩
   ·rintro σ H3 ⟨t,ht,hv',rfl,s3⟩
    refine⟨_,rfl,tot+t.2,t.1,⟨#[v]⟩,_,rfl,s3,?_,?_,?_⟩
    ·rw[take_snoc hvl,←hv']
     exact Gd.FO hw ht
    ·rw[hv'];exact⟨λz=>by simpa using congrArg Str.cps z,λz=>by rw[z]⟩
    ·rw[hv'];exact⟨λz=>by simpa using congrArg Str.cps z,λz=>by rw[z]⟩
  ·rintro σ H2 ⟨tot,e,L,v9,rfl,s2,hw,Qg,Qf⟩
   rw[List.take_of_length_le (by rw[Array.length_toList];exact Nat.le_refl _)]at hw
   refine⟨_,rfl,_,rfl,_,rfl,by show 2<=sizeLine;decide,λp1 hp1=>⟨by show 2<=sizeLine;decide,λr1 hr1=>?_⟩⟩
   have s3:=s2.trans (ak.upd (o:=.tup [.int (e.1:Int),.int (e.2.1:Int)]) hp1)
   exact kk tot e hw r1 p1 _ (s3.trans (ak.upd hr1)) (ak.free s3 hr1) ah (by show upd _ _ _ _=_;rw[au (aM ah hr1),ah])
end
section
variable{P:Program}{w:World}{K:PySem.W.Frag}{mg:Str->Option Value}{base:Heap}
theorem z6 {fj gx:Addr} {dH cY:FuncData} {p:Pm} (T:Txt K mg p base) (cB:Dn K mg "_law_asked" k6 OM fj dH) (cu:Dn K mg "cheapest" mz L7 gx cY) {nT:Tok} (mJ:Binds K cY L7 [.str (Str.ofString "whole") nT]) (oM:aK P w K mg base (vq P w) 8 gx cY L7 (zF P w K p.aq p.aD p.az (qF K))):aK P w K mg base cD 9 fj dH OM (HR K p.aq (qF K)):=by
 refine cB.fn.ok gq (λvs H Q E h=>?_) (λcdv A outer s H vs Q E hr h=>?_)
 ·obtain⟨pr,T1,f,s,m,rfl,_⟩:=h
  rfl
 ·obtain⟨pr,T1,f,s,m,rfl,hP,hT,hf,hs,kk⟩:=h
  refine⟨_,(bI (Ol Pc (λ_ _ _ LT PO=>(ao (aG (i:=4) gq.nd rfl (Or.inl rfl) (bP (aa br (aa (Ij oM (hr.mono (by decide)) rfl cu.m cu.fn.kp cu.b .nil LT (aa (pv 0) (aa (pv 1) (aa (pv 2) (aa (pv 3) af))))) af)))))) (LW (i:=6) gq.nd rfl rfl rfl T.tV T.FL (λea=>(ao (aG (i:=4) gq.nd rfl (Or.inl rfl) (bP (aa br (aa (BF (K':=K) rfl (pv 6) rfl) (aa (BF (K':=K) rfl (pv 6) rfl) af))))))) (LW (i:=6) gq.nd rfl rfl rfl T.uw T.AZ (λea=>(aj (aG (i:=5) gq.nd rfl (Or.inl rfl) (aC (wV (K':=K) rfl) rfl T.bf aT (aa (pv 6) (aa (bP (aa (fH (v:=.ref p.f6) rfl T.DY rfl) (aa (fH (v:=.ref p.eK) rfl T.BX rfl) (aa (fH (v:=.ref p.iG) rfl T.Gj rfl) (aa (fH (v:=.ref p.iF) rfl T.Gi rfl) (aa (fH (v:=.ref p.fZ) rfl T.DX rfl) (aa (fH (v:=.ref p.eG) rfl T.BW rfl) (aa (fH (v:=.ref p.jZ) rfl T.IC rfl) (aa (fH (v:=.ref p.aD) rfl T.tV rfl) (aa (fH (v:=.ref p.iE) rfl T.Gh rfl) (aa (fH (v:=.ref p.iD) rfl T.Gg rfl) af))))))))))) af))))
   (ao (aG (i:=4) gq.nd rfl (Or.inl rfl) (bP (aa br (aa (j6 (ud) rfl T.AW wY (aa (pv 5) af)) (aa (j6 (ud) rfl T.AW wY (aa (aC (wW (K':=K) rfl) rfl T.bf aT (aa (pv 6) (aa (fH (v:=.ref p.cL) rfl T.qB rfl) af))) af)) af)))))))) Ot)))
   (ao (aJ (pv 4)))),?_⟩
  refine⟨λσ' H'=>∃r v5 v6,σ'=[some (.ref pr),some (.str f),some (.str s),some (.str m),some (.ref r),v5,v6]/\Q (.ref r) H',?_,?_⟩
  ·refine⟨_,rfl,_,rfl,_,rfl,_,rfl,pr,T1,f,s,m,rfl,hP,hT,hf,hs,λof os hm=>?_,λi j bad dx H' s' hd=>?_,λof os hm=>?_⟩
   ·rcases kk with⟨i,j,hB,_⟩|⟨_,_,hm',_⟩
    ·exact absurd ⟨of,os⟩ hB.no
    ·rw[hm]at hm';cases hm'
   ·rcases kk with⟨i',j',hB,kk⟩|⟨of,os,_⟩
    ·obtain⟨rfl,rfl⟩:=hB.uniq bad
     refine⟨_,_,rfl,T.tY,pL λea W8=>?_⟩
     have s2:ak H' (upd H' ea (Ft ea (.ref p.aD) (some dx))):=ak.upd W8
     refine⟨_,rfl,ea,_,dx,_,_,rfl,ah,s2 _ _ hd,T.yy,T.sC,Jh,_,rfl,ea,_,dx,_,_,rfl,ah,s2 _ _ hd,T.yy,T.pB,Ef,by show 3<=sizeLine;decide,λt1 ht1=>?_⟩
     exact⟨t1,_,_,rfl,kk t1 _ ((s'.trans s2).trans (ak.upd ht1)) ah⟩
    ·exact absurd ⟨of,os⟩ bad.no
   ·rcases kk with⟨i,j,hB,_⟩|⟨_,_,_,hl,kk⟩
    ·exact absurd ⟨of,os⟩ hB.no
    ·refine⟨hl,λH' s'=>⟨_,_,rfl,T.qZ,iy ⟨_,_,rfl,T.pI,pL λea W8=>?_⟩⟩⟩
     have s2:ak H' (upd H' ea (Ft ea (.ref p.az) none)):=ak.upd W8
     have ZV:PySem.W.kitAny K (.ref p.az) ([p.f6,p.eK,p.iG,p.iF,p.fZ,p.eG,p.jZ,p.aD,p.iE,p.iD].map Value.ref)=some false:=jc T.qt (jc T.pK (jc T.rq (jc T.rm (jc T.qp (jc T.pJ (jc T.sJ (jc T.rj (jc T.q9 (jc T.q8 K0)))))))))
     refine⟨_,rfl,by show 10<=sizeLine;decide,λt1 ht1=>?_⟩
     have s3:=s2.trans (ak.upd (o:=.tup ([p.f6,p.eK,p.iG,p.iF,p.fZ,p.eG,p.jZ,p.aD,p.iE,p.iD].map V.ref)) ht1)
     have YN:upd (upd H' ea (Ft ea (.ref p.az) none)) t1 (.tup ([p.f6,p.eK,p.iG,p.iF,p.fZ,p.eG,p.jZ,p.aD,p.iE,p.iD].map V.ref)) ea=some (Ft ea (.ref p.az) none):=ak.upd ht1 _ _ ah
     refine⟨ea,p.az,none,t1,[p.f6,p.eK,p.iG,p.iF,p.fZ,p.eG,p.jZ,p.aD,p.iE,p.iD],false,rfl,ah,YN,.inl rfl,T.uo,ZV,?_⟩
     refine⟨_,rfl,.inr ⟨false,rfl,_,rfl,ea,p.az,none,_,_,true,rfl,.inl ⟨_,rfl,rfl⟩,YN,.inl rfl,T.uo,T.om,.inr ⟨true,rfl,by show 3<=sizeLine;decide,λt2 G9=>?_⟩⟩⟩
     exact⟨t2,_,_,rfl,kk t2 _ ((s'.trans s3).trans (ak.upd G9)) ah⟩
  ·rintro σ' H1 ⟨r,v5,v6,rfl,q⟩
   exact⟨_,rfl,q⟩
theorem vX {gO aW fj bU:Addr} {fO aQ dH bH:FuncData} {p:Pm} (T:Txt K mg p base) (dN:Dn K mg "_law_strange" kL Rm gO fO) (aB:Dn K mg "_law_next" dZ l5 aW aQ) (bS:aK P w K mg base cD 1 aW aQ l5 (nW K)) (cB:Dn K mg "_law_asked" k6 OM fj dH) (pX:aK P w K mg base cD 9 fj dH OM (HR K p.aq (qF K))) (aO:Dn K mg "_law_same" jk l7 bU bH) (gy:aK P w K mg base cD 2 bU bH l7 (qa K 1)):aK P w K mg base cD 10 gO fO Rm (EG K p.aq (qF K)):=by
 refine dN.fn.ok bF (λvs H Q E h=>?_) (λcdv A outer s H vs Q E hr h=>?_)
 ·obtain⟨s,t,pr,ns,k,T1,f,g,rfl,_⟩:=h
  rfl
 ·obtain⟨s,t,pr,ns,k,T1,f,g,rfl,hC,hk,hP,h4,hT,of,og,hf,hg,kk⟩:=h
  have hk0:=hC.k0
  have lf:f.length<=sizeLine:=Nat.le_trans hf (by decide)
  have lg:g.length<=sizeLine:=Nat.le_trans hg (by decide)
  refine⟨_,(aj (aG (i:=5) bF.nd rfl (Or.inl rfl) (aA bS (hr.mono (by decide)) rfl aB.m aB.fn.kp aB.b .nil aR (aa (pv 0) (aa (pv 1) af))))
   (bI (BD (i:=6) (N:=["_law_sign","_law_prices_here"]) bF.nd rfl (Or.inl rfl) rfl (c6.uC (nt:=1) (ix:=[2]) rfl (by decide +kernel) (by decide +kernel) (by kernel_rfl) rfl (by kernel_rfl)) (DF br) (λ_ _ _ _ _ _ _=>(aS (i:=0) (show(["_law_sign","_law_prices_here"]:List Str).Nodup by decide +kernel) rfl (Or.inl rfl))) (λ_ _ _ _ _ _ _=>(pv 0)) (λ_ _ _ _ _ _ _=>(aP rW (pv 0) (Ks (K':=K) rfl (pv 1) rfl) (by with_unfolding_all rfl))))
   (bI (aG (i:=7) bF.nd rfl (Or.inl rfl) (bw b7 (pv 6) (aE bQ (aE cE (pv 5) ai) ai) (λ_ _=>rfl)))
   (bI (aG (i:=8) bF.nd rfl (Or.inl rfl) (aE Kw (bw b7 (pv 6) (aE bQ (aE cE (pv 5) ai) ai) (λ_ _=>rfl)) (j6 (ud) rfl T.AW wY (aa (bY b9 (aE bQ (aE cE (pv 5) ai) ai) ai (aL _)) af))))
   (aj (aG (i:=9) bF.nd rfl (Or.inl rfl) (jO (aa (pv 3) (aa (pv 4) af))))
   (bI (aG (i:=10) bF.nd rfl (Or.inl rfl) (jO (aa (aE bQ (aE cE (pv 5) ai) (aE cR (aC (aY) rfl T.cN bG (aa (pv 3) af)) ai)) (aa (aE bQ (aE cE (pv 5) ai) (aE cR (aC (aY) rfl T.cN bG (aa (pv 4) af)) ai)) af))))
   (aj (aG (i:=11) bF.nd rfl (Or.inl rfl) tO)
   (bI (fF PassesOwn.never rfl (gA rfl T.kD (aa ai af)) (aS (i:=12) bF.nd rfl (Or.inl rfl)) (ao (bJ (aP rY (aE bQ (pv 5) ai) (pv 12) (aL _)) (bI (Ib (i:=13) (j:=14) rfl bF.nd rfl rfl (by decide) rfl rfl (aa (bw b7 (pv 9) (pv 12) (λ_ _=>rfl)) (aa (bw b7 (pv 10) (pv 12) (λ_ _=>rfl)) af)) (by rfl))
   (aj (o8 (aE mD (aE mD (aE mD (vS HU (pv 13) zN (zM (pv 14))) (pv 7)) (vS HU (pv 13) (zM (pv 14)) zN)) (pv 8)) (zQ (pv 9) (pv 12) set_list))
   (ao (bJ (aP zT (pv 11) tO (by with_unfolding_all rfl)) (ao (aG (i:=11) bF.nd rfl (Or.inl rfl) (bP (aa br (aa (pv 12) (aa (pv 14) af)))))) aU)))) aU)))
   (bI (aG (i:=15) bF.nd rfl (Or.inl rfl) (bw b7 (jO (aa br (aa br (aa br (aa br (aa br af)))))) (aE bQ (aE cE (pv 5) ai) ai) (λ_ _=>rfl)))
   (ao (aJ (aA gy (hr.mono (by decide)) rfl aO.m aO.fn.kp aO.b .nil aR (aa (aA pX (hr.mono (by decide)) rfl cB.m cB.fn.kp cB.b .nil aR (aa (pv 2) (aa (bw b7 (pv 9) ai (λ_ _=>rfl)) (aa (bw b7 (pv 9) ai (λ_ _=>rfl)) (aa (pv 15) af))))) (aa (pv 11) af)))))))))))))),?_⟩
  refine⟨_,rfl,_,rfl,s,t,ns,k,rfl,hC,by omega,λm hm hm2=>?_⟩
  have w1:ak (Wo t H) (Wo t (upd H t (.lst [.int (k+1)]))):=by rw[Wo.set];exact ak.refl _
  have ht1:upd H t (.lst [.int (k+1)]) t=some (.lst [.int (k+1)]):=ah
  have hT1:LT (qF K) (upd H t (.lst [.int (k+1)])):=hT.put hC.at_
  generalize upd H t (.lst [.int (k+1)])=H1 at w1 ht1 hT1 ⊢
  have Qe:CJ K p.aq H1 pr T1:=(hP.same w1).same Wo.sub
  refine⟨λσ H2=>∃l,σ=[some (.ref s),some (.ref t),some (.ref pr),some (.str f),some (.str g),some (.int m),some (.ref l),none,none,none,none,none,none,none,none,none]/\ak H1 H2/\H2 l=some (.lst ((sj T1.1).map sg)),?_,?_⟩
  ·refine⟨_,rfl,λl hl=>?_⟩
   have e9:(Str.ofString "qxQX07+~ ").cps.size=9:=by kernel_rfl
   obtain⟨_,_,_,_,_,_,_,dx,Pp,o,mo,d,kvs,P9,_⟩:=id Qe
   refine Fy 9 (λi=>!decide (wj.getD i 0∈T1.1.cps.toList)) (λi=>sg (wj.getD i 0)) hl (by decide) (λi H2 s2 hi=>?_) (λH2 s2=>?_) (λi y H2 H3 R S s2 hi hy hR hS=>?_) λH2 s2 hl2=>?_
   ·show i<_;rw[e9];exact hi
   ·show _<=9;rw[e9];exact Nat.le_refl _
   ·obtain⟨rfl,c,hc,rfl⟩:=hy
    have ec:wj.getD i 0=c:=ow (by rw[←KC];exact je hc)
    rw[ec]at hR hS
    refine⟨Kp.HV,_,rfl,_,rfl,pr,_,dx,_,_,rfl,s2 _ _ P9,T.bz,T.fM,oB,_,_,rfl,rfl,_,rfl,?_⟩
    rw[StrLaws.found_one]
    by_cases q:c∈T1.1.cps.toList
    ·rw[decide_eq_true q]at hS ⊢
     exact lE (hS rfl _ (ak.refl _))
    ·rw[decide_eq_false q]at hR ⊢
     exact Fd ⟨_,rfl,hR rfl _ (ak.refl _)⟩
   ·refine⟨l,rfl,s2,?_⟩
    rw[hl2]
    unfold sj
    rw[←Fp wj 0,List.map_map]
    rfl
  rintro σ H2 ⟨l,rfl,s2,hl2⟩
  have I0:=KD h4
  have Yi:∀(a:Int) (b:Nat),0<=a->b=2\/b=3->∃c,c∉T1.1.cps.toList/\AU ((sj T1.1).map sg) (a % (b:Int))=some (sg c):=λa b ha hb=>by
   have h1:=Int.emod_nonneg a (show(b:Int)≠0 by omega)
   have h2:=Int.emod_lt_of_pos a (show(0:Int)<(b:Int) by omega)
   obtain⟨j,hj⟩:∃j:Nat,a % (b:Int)=(j:Int):=⟨_,(Int.toNat_of_nonneg h1).symm⟩
   have hjl:j<(sj T1.1).length:=by omega
   exact⟨(sj T1.1)[j],Ox (List.getElem_mem hjl),by rw[hj];exact g7 (by rw[List.getElem?_map,List.getElem?_eq_getElem hjl];rfl)⟩
  obtain⟨c,hc,hca⟩:=Yi (m / 3500) 2 (by omega) (.inl rfl)
  obtain⟨c2,_,Xe⟩:=Yi (m / 7000) 3 (by omega) (.inr rfl)
  refine⟨λσ H3=>σ=[some (.ref s),some (.ref t),some (.ref pr),some (.str f),some (.str g),some (.int m),some (.ref l),some (.str ⟨#[c]⟩),none,none,none,none,none,none,none,none]/\H2=H3,?_,?_⟩
  ·exact⟨_,rfl,_,rfl,_,_,rfl,rfl,⟨by decide,by decide⟩,_,_,rfl,rfl,(by show(0:Int)<2;decide),l,_,_,_,rfl,rfl,cS.of hl2,hca,rfl,rfl⟩
  rintro σ H3 ⟨rfl,rfl⟩
  refine⟨λσ H3=>∃bh:Str,bh.cps.size<=1/\σ=[some (.ref s),some (.ref t),some (.ref pr),some (.str f),some (.str g),some (.int m),some (.ref l),some (.str ⟨#[c]⟩),some (.str bh),none,none,none,none,none,none,none]/\H2=H3,?_,?_⟩
  ·refine⟨_,rfl,_,rfl,_,_,rfl,rfl,⟨by decide,by decide⟩,_,_,rfl,rfl,(by show(0:Int)<3;decide),l,_,_,_,rfl,rfl,cS.of hl2,Xe,?_⟩
   refine⟨_,rfl,_,_,rfl,rfl,⟨by decide,by decide⟩,_,_,rfl,rfl,(by show(0:Int)<3;decide),rfl,.inr ⟨_,rfl,_,_,rfl,rfl,?_,?_,by show 1<=1000000;decide,?_,_,?_,rfl,rfl⟩⟩
   ·split<;>decide
   ·split<;>decide
   ·split
    ·show 1*1<=sizeLine;decide
    ·show 0*1<=sizeLine;decide
   ·split
    ·show(#[]++ #[c2]).size<=1;simp
    ·exact Nat.zero_le _
  rintro σ H3 ⟨bh,hbh,rfl,rfl⟩
  have m0:=Int.emod_nonneg (m / 6) (show(f.cps.size:Int)+1≠0 by omega)
  have m1:=Int.emod_lt_of_pos (m / 6) (show(0:Int)<(f.cps.size:Int)+1 by omega)
  have n0:=Int.emod_nonneg (m / 66) (show(g.cps.size:Int)+1≠0 by omega)
  have n1:=Int.emod_lt_of_pos (m / 66) (show(0:Int)<(g.cps.size:Int)+1 by omega)
  obtain⟨a1,ha1⟩:∃a:Nat,m / 6 % ((f.cps.size:Int)+1)=(a:Int):=⟨_,(Int.toNat_of_nonneg m0).symm⟩
  obtain⟨b1,hb1⟩:∃a:Nat,m / 66 % ((g.cps.size:Int)+1)=(a:Int):=⟨_,(Int.toNat_of_nonneg n0).symm⟩
  refine⟨_,rfl,_,rfl,by show 2<=sizeLine;decide,λlr hlr=>?_⟩
  refine⟨λσ H4=>∃ls,σ=[some (.ref s),some (.ref t),some (.ref pr),some (.str f),some (.str g),some (.int m),some (.ref l),some (.str ⟨#[c]⟩),some (.str bh),some (.ref lr),some (.ref ls),none,none,none,none,none]/\ak H2 H4/\H2 lr=none/\H4 lr=some (.lst [.str f,.str g])/\H4 ls=some (.lst [.int (a1:Int),.int (b1:Int)])/\ls≠lr,?_,?_⟩
  ·refine⟨_,rfl,_,_,rfl,rfl,⟨by decide,by decide⟩,_,rfl,_,_,rfl,⟨lf,rfl⟩,_,_,rfl,rfl,_,_,rfl,rfl,(by show(0:Int)<(f.cps.size:Int)+1;omega),_,rfl,_,_,rfl,rfl,⟨by decide,by decide⟩,_,rfl,_,_,rfl,⟨lg,rfl⟩,_,_,rfl,rfl,_,_,rfl,rfl,(by show(0:Int)<(g.cps.size:Int)+1;omega),by show 2<=sizeLine;decide,λls hls=>?_⟩
   have Tq:ls≠lr:=λz=>by rw[z,ah]at hls;cases hls
   refine⟨ls,rfl,(ak.upd hlr).trans (ak.upd hls),hlr,by rw[au (Ne.symm Tq),ah],?_,Tq⟩
   rw[ah,←ha1,←hb1]
   rfl
  rintro σ H4 ⟨ls,rfl,s4,WV,WW,WU,Tq⟩
  have QW:=s2.trans s4
  have Zc:(a1:Int)<=(f.cps.size:Int):=by omega
  have Zb:(b1:Int)<=(g.cps.size:Int):=by omega
  have zf:=yW (c:=c) (bh:=bh) (Int.natCast_nonneg a1) Zc
  have zg:=yW (c:=c) (bh:=bh) (Int.natCast_nonneg b1) Zb
  have Bf:=B5 (bh:=bh) (Int.natCast_nonneg a1) Zc of hc
  have Bg:=B5 (bh:=bh) (Int.natCast_nonneg b1) Zb og hc
  rw[Int.toNat_natCast]at Bf Bg
  refine⟨λσ H5=>∃(a b:Str) (d:Addr) (i j:Nat) (MB MA Mz:Option V),σ=[some (.ref s),some (.ref t),some (.ref pr),some (.str f),some (.str g),some (.int m),some (.ref l),some (.str ⟨#[c]⟩),some (.str bh),some (.ref lr),some (.ref ls),some (.ref d),MB,MA,Mz,none]/\ak H2 H5/\H5 lr=some (.lst [.str a,.str b])/\vn T1.1 a b i j/\a.cps.size<=20/\b.cps.size<=20/\H5 d=some (.tup [.str (Str.ofString "no sign"),.int (i:Int),.int (j:Int)]),?_,?_⟩
  ·refine⟨2,rfl,by decide,by decide,?_⟩
   refine kc (lo:=0) (n:=2) (λi σ H5=>∃(a b:Str) (v:V) (MB MA Mz:Option V),σ=[some (.ref s),some (.ref t),some (.ref pr),some (.str f),some (.str g),some (.int m),some (.ref l),some (.str ⟨#[c]⟩),some (.str bh),some (.ref lr),some (.ref ls),some v,MB,MA,Mz,none]/\ak H2 H5/\H5 lr=some (.lst [.str a,.str b])/\H5 ls=some (.lst [.int (a1:Int),.int (b1:Int)]) ∧
    ((i=0/\a=f/\b=g/\v= .i9)\/(i=1/\b=g/\m % 3=0/\a=f/\v= .i9)\/(1<=i/\m % 3≠0/\a=rB f a1 c bh/\(b=g\/b=rB g b1 c bh)/\(i=1->b=g)/\∃d,v= .ref d/\H5 d=some (.tup [.str (Str.ofString "no sign"),.int ((0:Nat):Int),.int (a1:Int)]))\/(i=2/\a=f/\b=rB g b1 c bh/\∃d,v= .ref d/\H5 d=some (.tup [.str (Str.ofString "no sign"),.int ((1:Nat):Int),.int (b1:Int)]))))
    ⟨f,g,.i9,_,_,_,rfl,s4,WW,WU,.inl ⟨rfl,rfl,rfl,rfl⟩⟩ ?_ ?_
   ·rintro i σ H5 hi ⟨a,b,v,MB,MA,Mz,rfl,s5,Af,Lc,hcn⟩
    refine⟨_,rfl,_,_,rfl,rfl,(by show(0:Int)<3;decide),_,rfl,rfl,_,rfl,rz (λhk=>?_) λhk=>?_⟩
    ·obtain⟨x,sp,hx,Fj,hxz,Lb⟩:∃(x:Str) (sp:Nat),AU [V.str a,.str b] (0+(i:Int))=some (.str x)/\AU [V.int (a1:Int),.int (b1:Int)] (0+(i:Int))=some (.int (sp:Int))/\(i=0->x=a/\sp=a1)/\(i=1->x=b/\sp=b1):=by
      rcases(show i=0\/i=1 by omega)with rfl|rfl
      ·exact⟨a,a1,rfl,rfl,λ_=>⟨rfl,rfl⟩,λz=>absurd z (by decide)⟩
      ·exact⟨b,b1,rfl,rfl,(λz=>absurd z (by decide)),λ_=>⟨rfl,rfl⟩⟩
     have hfg:(i=0/\x=f/\sp=a1/\a=f/\b=g/\v= .i9)\/(i=1/\x=g/\sp=b1/\b=g/\((m % 3=0/\a=f/\v= .i9)\/(m % 3≠0/\a=rB f a1 c bh/\∃d,v= .ref d/\H5 d=some (.tup [.str (Str.ofString "no sign"),.int ((0:Nat):Int),.int (a1:Int)])))):=by
      rcases hcn with⟨rfl,rfl,rfl,rfl⟩|⟨rfl,rfl,h3,rfl,rfl⟩|⟨h1,h3,ha,_,hb,hd⟩|⟨rfl,_⟩
      ·exact .inl ⟨rfl,(hxz rfl).1,(hxz rfl).2,rfl,rfl,rfl⟩
      ·exact .inr ⟨rfl,(Lb rfl).1,(Lb rfl).2,rfl,.inl ⟨h3,rfl,rfl⟩⟩
      ·have e1:i=1:=by omega
       exact .inr ⟨e1,by rw[(Lb e1).1];exact hb e1,(Lb e1).2,hb e1,.inr ⟨h3,ha,hd⟩⟩
      ·exact absurd hi (by decide)
     have hxs:x.cps.size<=12/\(sp:Int)<=(x.cps.size:Int):=by rcases hfg with⟨_,rfl,rfl,_⟩|⟨_,rfl,rfl,_⟩<;>omega
     have lx:x.length<=sizeLine:=Nat.le_trans hxs.1 (by decide)
     have l1:=Txt.slice_le x none (some (sp:Int))
     have l2:=Txt.slice_le x (some (sp:Int)) none
     have xl:x.length<=12:=hxs.1
     have l3:(Txt.slice x none (some (sp:Int))++(⟨#[c]⟩:Str)).length=(Txt.slice x none (some (sp:Int))).length+1:=by
      show((Txt.slice x none (some (sp:Int))).cps++ #[c]).size=_
      rw[Array.size_append]
      rfl
     have l4:((Txt.slice x none (some (sp:Int))++(⟨#[c]⟩:Str))++Txt.slice x (some (sp:Int)) none).length=(Txt.slice x none (some (sp:Int))++(⟨#[c]⟩:Str)).length+(Txt.slice x (some (sp:Int)) none).length:=Array.size_append ..
     have lbh:bh.length<=1:=hbh
     refine⟨λσ H6=>σ=[some (.ref s),some (.ref t),some (.ref pr),some (.str f),some (.str g),some (.int m),some (.ref l),some (.str ⟨#[c]⟩),some (.str bh),some (.ref lr),some (.ref ls),some v,some (.int (0+(i:Int))),some (.str x),some (.int (sp:Int)),none]/\H5=H6,?_,?_⟩
     ·exact⟨_,rfl,_,rfl,lr,_,_,_,rfl,rfl,cS.of Af,hx,_,rfl,_,rfl,ls,_,_,_,rfl,rfl,cS.of Lc,Fj,_,_,rfl,rfl,rfl⟩
     rintro σ _ ⟨rfl,rfl⟩
     refine⟨_,rfl,_,rfl,_,rfl,x,rfl,lx,_,rfl,_,_,rfl,rfl,Nat.le_trans (show _+1<=100 by omega) (by decide),_,rfl,_,rfl,_,rfl,x,rfl,lx,_,_,rfl,rfl,Nat.le_trans (show _<=100 by omega) (by decide),_,rfl,_,_,rfl,rfl,Nat.le_trans (show _<=100 by omega) (by decide),?_⟩
     refine⟨_,rfl,_,rfl,lr,_,_,i,rfl,rfl,Af,by rw[Int.zero_add];exact D5 hi,?_⟩
     have s6:ak H2 (upd H5 lr (.lst ([V.str a,.str b].set i (.str (rB x sp c bh))))):=ak.at s5 WV
     have O4:upd H5 lr (.lst ([V.str a,.str b].set i (.str (rB x sp c bh)))) ls=some (.lst [.int (a1:Int),.int (b1:Int)]):=by rw[au Tq];exact Lc
     have Gy:upd H5 lr (.lst ([V.str a,.str b].set i (.str (rB x sp c bh)))) lr=some (.lst ([V.str a,.str b].set i (.str (rB x sp c bh)))):=ah
     have hd6:∀{d ys},H5 d=some (.tup ys)->upd H5 lr (.lst ([V.str a,.str b].set i (.str (rB x sp c bh)))) d=some (.tup ys):=λ{d ys} h=>by rw[au (λz=>by rw[z,Af]at h;cases h)];exact h
     rcases hfg with⟨rfl,rfl,rfl,rfl,rfl,rfl⟩|⟨rfl,rfl,rfl,rfl,⟨h3,rfl,rfl⟩|⟨h3,rfl,d,rfl,hd⟩⟩
     ·refine⟨_,rfl,rfl,_,rfl,K4 rfl ⟨_,rfl,_,rfl,by show 3<=sizeLine;decide,λd hd=>?_⟩⟩
      have s7:=ak.upd (o:=.tup [.str (Str.ofString "no sign"),.int (0+((0:Nat):Int)),.int (sp:Int)]) hd
      exact⟨_,_,_,_,_,_,rfl,s6.trans s7,s7 _ _ Gy,s7 _ _ O4,.inr (.inr (.inl ⟨Nat.le_refl _,hk,rfl,.inl rfl,λ_=>rfl,d,rfl,ah⟩))⟩
     ·refine⟨_,rfl,rfl,_,rfl,K4 rfl ⟨_,rfl,_,rfl,by show 3<=sizeLine;decide,λd hd=>?_⟩⟩
      have s7:=ak.upd (o:=.tup [.str (Str.ofString "no sign"),.int (0+((1:Nat):Int)),.int (sp:Int)]) hd
      exact⟨_,_,_,_,_,_,rfl,s6.trans s7,s7 _ _ Gy,s7 _ _ O4,.inr (.inr (.inr ⟨rfl,rfl,rfl,d,rfl,ah⟩))⟩
     ·exact⟨_,rfl,rfl,_,rfl,Gv (λz=>by cases z) ⟨_,_,_,_,_,_,rfl,s6,Gy,O4,.inr (.inr (.inl ⟨by decide,h3,rfl,.inr rfl,(λz=>absurd z (by decide)),d,rfl,hd6 hd⟩))⟩⟩
    ·refine⟨a,b,v,_,_,_,rfl,s5,Af,Lc,?_⟩
     rcases hcn with⟨rfl,rfl,rfl,rfl⟩|⟨rfl,rfl,h3,rfl,rfl⟩|⟨h1,h3,ha,hb,_,hd⟩|⟨rfl,_⟩
     ·exact .inr (.inl ⟨rfl,rfl,hk,rfl,rfl⟩)
     ·rw[h3]at hk;exact absurd hk (by decide)
     ·exact .inr (.inr (.inl ⟨by omega,h3,ha,hb,λz=>by omega,hd⟩))
     ·exact absurd hi (by decide)
   ·rintro σ H5 ⟨a,b,v,MB,MA,Mz,rfl,s5,Af,Lc,⟨z,_⟩|⟨z,_⟩|⟨_,hm3,rfl,hb,_,d,rfl,hd⟩|⟨_,rfl,rfl,d,rfl,hd⟩⟩
    ·cases z
    ·cases z
    ·refine⟨_,b,d,0,a1,_,_,_,rfl,s5,Af,.inl ⟨rfl,Bf.1,Bf.2⟩,by omega,?_,hd⟩
     rcases hb with rfl|rfl<;>omega
    ·exact⟨a,_,d,1,b1,_,_,_,rfl,s5,Af,.inr ⟨rfl,of,Bg.1,Bg.2⟩,by omega,by omega,hd⟩
  rintro σ H5 ⟨a,b,d,i,j,MB,MA,Mz,rfl,s5,Af,hB,za,zb,hd⟩
  have Zu:=s2.trans s5
  refine⟨λσ H6=>∃wd:Str,σ=[some (.ref s),some (.ref t),some (.ref pr),some (.str f),some (.str g),some (.int m),some (.ref l),some (.str ⟨#[c]⟩),some (.str bh),some (.ref lr),some (.ref ls),some (.ref d),MB,MA,Mz,some (.str wd)]/\ak H5 H6,?_,?_⟩
  ·refine⟨by show 5<=sizeLine;decide,λq hq=>⟨_,rfl,_,_,rfl,rfl,⟨by decide,by decide⟩,_,_,rfl,rfl,(by show(0:Int)<5;decide),?_⟩⟩
   obtain⟨wd,hw⟩:∃wd:Str,AU [V.str (Str.ofString "whole"),.str (Str.ofString ""),.str (Str.ofString "none"),.str (Str.ofString "Whole"),.str (Str.ofString "stretch")] (m / 700 % 5)=some (.str wd):=by
    have e:m / 700 % 5=0\/m / 700 % 5=1\/m / 700 % 5=2\/m / 700 % 5=3\/m / 700 % 5=4:=by omega
    rcases e with e|e|e|e|e<;>rw[e]<;>exact⟨_,rfl⟩
   exact⟨q,_,_,_,rfl,rfl,cS.of ah,hw,wd,rfl,ak.upd hq⟩
  rintro σ H6 ⟨wd,rfl,s6⟩
  have VY:=Zu.trans s6
  have Gy:=s6 _ _ Af
  refine⟨_,rfl,_,rfl,lr,_,_,.str a,rfl,rfl,cS.of Gy,rfl,_,rfl,lr,_,_,.str b,rfl,rfl,cS.of Gy,rfl,_,rfl,pr,T1,a,b,wd,rfl,Qe.same VY,hT1.same VY,za,zb,.inl ⟨i,j,hB,λr H7 s7 Z8=>?_⟩⟩
  refine⟨_,rfl,_,_,rfl,xE.of (cT.of Z8) (cT.of (s7 _ _ (s6 _ _ hd))) (by show 3<=100;decide) (.cons .str (.cons .int (.cons .int .nil))),λH8 s8=>?_⟩
  have VX:=(VY.trans s7).trans s8
  exact kk H8 (w1.trans (Wo.same VX)) (VX _ _ ht1) (hT1.same VX)
end
section
variable{P:Program}{w:World}{K:PySem.W.Frag}{mg:Str->Option Value}{base:Heap}
theorem BK {kr bU ko gw eX gP:Addr} {jr bH jq e7 dW fP:FuncData} {p:Pm} (T:Txt K mg p base) (iB:Dn K mg "_law_laid" nZ Rl kr jr) (aO:Dn K mg "_law_same" jk l7 bU bH) (gy:aK P w K mg base cD 2 bU bH l7 (qa K 1)) (iA:Dn K mg "_law_walk" nY Rn ko jq) (Ew:aK P w K mg base cD 4 ko jq Rn (HF K p.aq)) (cV:Dn K mg "in_units" mw ON gw e7) (rL:aK P w K mg base cD 2 gw e7 ON (tK K p.aq)) (cP:Dn K mg "_law_may_begin" jg Rp eX dW) (vj:aK P w K mg base cD 1 eX dW Rp EK) (dO:Dn K mg "_law_may_end" kO Ro gP fP) (yp:aK P w K mg base cD 1 gP fP Ro EJ):aK P w K mg base cD 6 kr jr Rl (HN K p.aq):=by
 refine iB.fn.ok jo (λvs H Q E h=>?_) (λcdv A outer s H vs Q E hr h=>?_)
 ·obtain⟨pr,r,T1,f,s,m,rfl,_⟩:=h
  rfl
 ·obtain⟨pr,r,T1,f,s,m,rfl,hP,of,os,hf,hs,hm,⟨b,c,pb,hb,htr,hc,B8⟩,kk⟩:=h
  have lf:f.length<=sizeLine:=Nat.le_trans hf (by decide)
  have ls:s.length<=sizeLine:=Nat.le_trans hs (by decide)
  have hbm:=List.mem_filter.mp (nN hb)
  have TX:=jl.mp hbm.1
  obtain⟨e,hw,hei,hee⟩:=Gd.vA (Je T1 m f s) _ (b.1,b.2,112) ⟨TX.1,TX.2,.inl rfl⟩ (Nat.le_refl _)
  have tp:∀{H':Hp} {a:Addr} {zs:List V},cT K H' a zs->(rK K H' (.ref a) (.type "tuple")\/∃b ws,V.ref a= .ref b/\cT K H' b ws/\Value.type "tuple" = .type "tuple"):=λ{H' a zs} z=>.inr ⟨a,zs,rfl,z,rfl⟩
  refine⟨_,(aj (bJ (PW.pt (uu (j5 (fL (aC (bA) rfl T.bf aT (aa (pv 4) (aa (dD (v:=.ty "tuple") rfl T.mP k9 rfl) af))))) (uu (aP rY (aC (aY) rfl T.cN bG (aa (pv 4) af)) ai (aL _)) (qS (j5 (fL (aC (bA) rfl T.bf aT (aa (bw bR (pv 4) ai (λ_ _=>rfl)) (aa (dD (v:=.ty "str") rfl T.AV wX rfl) af))))))))) (ao (aJ nL)) aU)
   (aj (bJ (PW.pt (uu (j5 (fL (aC (bA) rfl T.bf aT (aa (bw bR (pv 4) ai (λ_ _=>rfl)) (aa (dD (v:=.ty "tuple") rfl T.mP k9 rfl) af))))) (qS (aP rY (aC (aY) rfl T.cN bG (aa (bw bR (pv 4) ai (λ_ _=>rfl)) af)) ai (aL _))))) (ao (aJ nL)) aU)
   (aj (o8 (bw bR (pv 4) ai (λ_ _=>rfl)) (oi (n:=2) rfl (bT (aS (i:=5) jo.nd rfl (Or.inl rfl)) (bT (aS (i:=6) jo.nd rfl (Or.inl rfl)) kU))))
   (aj (bJ (PW.pt (uu (j5 (fL (aA gy (hr.mono (by decide)) rfl aO.m aO.fn.kp aO.b .nil aR (aa (bw bR (pv 4) ai (λ_ _=>rfl)) (aa (bP (aa (pv 5) (aa (pv 6) af))) af))))) (qS (j5 (BB yP yP ai (pv 5) (aC (aY) rfl T.cN bG (aa (pv 1) af))))))) (ao (aJ nL)) aU)
   (aj (bJ (j5 (BB yP yP ai (pv 6) (aC (aY) rfl T.cN bG (aa (pv 2) af)))) (ao (aJ nL)) aU)
   (aj (aG (i:=7) jo.nd rfl (Or.inl rfl) (aA Ew (hr.mono (by decide)) rfl iA.m iA.fn.kp iA.b .nil aR (aa (pv 0) (aa (pv 1) (aa (pv 2) (aa (bw bR (pv 4) ai (λ_ _=>rfl)) (aa (bw bR (pv 4) ai (λ_ _=>rfl)) af)))))))
   (aj (bJ (PW.pt (uu (aP zT (pv 7) tO (by with_unfolding_all rfl)) (qS (j5 (fL (aA gy (hr.mono (by decide)) rfl aO.m aO.fn.kp aO.b .nil aR (aa (bw bR (pv 4) ai (λ_ _=>rfl)) (aa (aA rL (hr.mono (by decide)) rfl cV.m cV.fn.kp cV.b .nil aR (aa (pv 0) (aa (bw bR (pv 7) ai (λ_ _=>rfl)) af))) af)))))))) (ao (aJ nL)) aU)
   (aj (o8 (bw bR (pv 7) ai (λ_ _=>rfl)) (oi (n:=2) rfl (bT (aS (i:=8) jo.nd rfl (Or.inl rfl)) (bT (aS (i:=9) jo.nd rfl (Or.inl rfl)) kU))))
   (ao (aJ (jP (aA vj (hr.mono (by decide)) rfl cP.m cP.fn.kp cP.b .nil aR (aa (pv 3) (aa (pv 5) (aa (pv 6) af)))) (jN (aA yp (hr.mono (by decide)) rfl dO.m dO.fn.kp dO.b .nil aR (aa (pv 3) (aa (pv 1) (aa (pv 2) (aa (pv 8) (aa (pv 9) af)))))))))))))))))),?_⟩
  refine⟨_,rfl,_,_,_,_,rfl,tp (cT.of htr),gz,_,rfl,lE ?_⟩
  refine⟨_,rfl,_,_,rfl,.inr ⟨_,cT.of htr,rfl⟩,rfl,_,rfl,rz (λz=>absurd rfl z) λ_=>?_⟩
  refine⟨_,rfl,r,_,_,_,rfl,rfl,cT.of htr,rfl,_,_,_,_,rfl,.inl (.str _),gz,_,rfl,lE ?_⟩
  refine⟨_,rfl,r,_,_,_,rfl,rfl,cT.of htr,rfl,_,_,_,_,rfl,tp (cT.of B8),gz,_,rfl,lE ?_⟩
  refine⟨_,rfl,r,_,_,_,rfl,rfl,cT.of htr,rfl,_,_,rfl,.inr ⟨_,cT.of B8,rfl⟩,rfl,_,rfl,rz (λz=>absurd rfl z) λ_=>?_⟩
  refine⟨_,rfl,r,_,_,_,rfl,rfl,cT.of htr,rfl,pb,_,rfl,cT.of B8,rfl,_,_,rfl,_,_,rfl,rfl,?_⟩
  refine⟨_,rfl,r,_,_,_,rfl,rfl,cT.of htr,rfl,_,rfl,_,rfl,by show 2<=sizeLine;decide,λp2 hp2=>?_⟩
  have s2:ak H (upd H p2 (.tup [.int (b.1:Int),.int (b.2:Int)])):=ak.upd hp2
  refine⟨_,_,rfl,xE.of (cT.of (s2 _ _ B8)) (cT.of ah) (by show 2<=100;decide) (.cons .int (.cons .int .nil)),λH3 s3=>⟨_,rfl,lE ?_⟩⟩
  have G5:=s2.trans s3
  refine⟨_,rfl,_,_,rfl,rfl,_,rfl,K4 (Int.natCast_nonneg _) ⟨_,rfl,_,_,rfl,⟨lf,rfl⟩,_,_,rfl,rfl,_,rfl,?_⟩⟩
  rw[decide_eq_true (show(b.1:Int)<=(f.length:Int) from Int.ofNat_le.mpr TX.1)]
  refine lE ?_
  refine⟨_,rfl,_,_,rfl,rfl,_,rfl,K4 (Int.natCast_nonneg _) ⟨_,rfl,_,_,rfl,⟨ls,rfl⟩,_,_,rfl,rfl,_,rfl,?_⟩⟩
  rw[decide_eq_true (show(b.2:Int)<=(s.length:Int) from Int.ofNat_le.mpr TX.2)]
  refine lE ?_
  have RX:=G5 _ _ htr
  refine⟨_,rfl,_,rfl,_,rfl,_,rfl,r,_,_,_,rfl,rfl,cT.of RX,rfl,_,rfl,r,_,_,_,rfl,rfl,cT.of RX,rfl,pr,pb,T1,m,f,s,_,b,rfl,hP.same G5,of,os,by omega,by omega,?_,G5 _ _ B8,λz=>?_,λc' e' Z3 wr q H4 s4 _ hwr hq=>?_⟩
  ·show(((t9 T1 m f s).moves (b.1,b.2,112)).toArray).size<=1000
   rw[List.size_toArray]
   exact Nat.le_trans (Gd.Gb _) (by show f.cps.size-b.1+(s.cps.size-b.2)<=1000;omega)
  ·rw[hw]at z;cases z
  obtain⟨rfl,rfl⟩:=Prod.mk.inj (Option.some.inj (hw.symm.trans Z3))
  have QW:=G5.trans s4
  refine⟨_,rfl,rfl,_,rfl,Gv (λz=>by cases z) ?_⟩
  refine⟨_,rfl,r,_,_,_,rfl,rfl,cT.of (QW _ _ htr),rfl,_,rfl,_,rfl,wr,_,_,_,rfl,rfl,cT.of hwr,rfl,pr,_,T1.1,T1.2.1,T1.2.2.1,T1.2.2.2,rfl,hP.same QW,λq2 H5 s5 hq2 hq5=>?_⟩
  refine⟨_,_,rfl,xE.of (cT.of (s5 _ _ (QW _ _ hc))) (cT.of hq5) (by show 2<=100;decide) (.cons .int (.cons .int .nil)),λH6 s6=>⟨_,rfl,lE ?_⟩⟩
  have VW:=s5.trans s6
  refine⟨_,rfl,wr,_,_,_,rfl,rfl,cT.of (VW _ _ hwr),rfl,q,_,rfl,cT.of (VW _ _ hq),rfl,_,_,rfl,_,_,rfl,rfl,?_⟩
  refine⟨_,rfl,_,rfl,_,rfl,m,_,_,rfl,hm,_,rfl,?_⟩
  rw[hbm.2]
  refine pL ⟨_,rfl,_,rfl,_,rfl,_,rfl,_,rfl,m,f,s,_,_,rfl,hm,by omega,by omega,?_⟩
  rw[show Ab m f s ((e.1:Int),(e.2.1:Int))=true from hee]
  exact kk H6 (QW.trans VW)
theorem zZ {jx iV lY iW aW gx kr bU fj gO:Addr} {iO gD kh gE aQ cY jr bH dH fO:FuncData} {p:Pm} (T:Txt K mg p base) (gh:Dn K mg "_law_round" mV l5 jx iO) (fu:Dn K mg "_law_prices" lN l5 iV gD) (AK:aK P w K mg base cD 7 iV gD l5 (yK K p.aq)) (fX:Dn K mg "_law_row" qc Rr lY kh) (zv:aK P w K mg base cD 2 lY kh Rr (HG K)) (fz:Dn K mg "_law_manner" lO ["_law_m"] iW gE) (AL:aK P w K mg base cD 1 iW gE ["_law_m"] Bk) (aB:Dn K mg "_law_next" dZ l5 aW aQ) (bS:aK P w K mg base cD 1 aW aQ l5 (nW K)) (cu:Dn K mg "cheapest" mz L7 gx cY) {nT:Tok} (mJ:Binds K cY L7 [.str (Str.ofString "whole") nT]) (oM:aK P w K mg base cD 8 gx cY L7 (nv (zF P w K p.aq p.aD p.az (qF K)))) (iB:Dn K mg "_law_laid" nZ Rl kr jr) (Ex:aK P w K mg base cD 6 kr jr Rl (HN K p.aq)) (aO:Dn K mg "_law_same" jk l7 bU bH) (gy:aK P w K mg base cD 3 bU bH l7 (qa K 2)) (cB:Dn K mg "_law_asked" k6 OM fj dH) (pX:aK P w K mg base cD 9 fj dH OM (HR K p.aq (qF K))) (dN:Dn K mg "_law_strange" kL Rm gO fO) (yo:aK P w K mg base cD 10 gO fO Rm (EG K p.aq (qF K))):aK P w K mg base cD 11 jx iO l5 (yJ P w K (qF K)):=by
 refine gh.fn.ok gp (λvs H Q E h=>?_) (λcdv A outer s H vs Q E hr h=>?_)
 ·obtain⟨s,t,ns,k,rfl,_⟩:=h
  rfl
 ·obtain⟨s,t,ns,k,rfl,hC,hk,hT,kk⟩:=h
  have hk0:=hC.k0
  refine⟨_,(aj (aG (i:=2) gp.nd rfl (Or.inl rfl) (aA AK (hr.mono (by decide)) rfl fu.m fu.fn.kp fu.b .nil aR (aa (pv 0) (aa (pv 1) af))))
   (aj (aG (i:=3) gp.nd rfl (Or.inl rfl) (aA zv (hr.mono (by decide)) rfl fX.m fX.fn.kp fX.b .nil aR (aa (pv 0) (aa (pv 1) (aa (dm (pv 2) rfl) (aa ai af))))))
   (aj (aG (i:=4) gp.nd rfl (Or.inl rfl) (aA zv (hr.mono (by decide)) rfl fX.m fX.fn.kp fX.b .nil aR (aa (pv 0) (aa (pv 1) (aa (dm (pv 2) rfl) (aa ai af))))))
   (bI (aG (i:=5) gp.nd rfl (Or.inl rfl) (aA AL (hr.mono (by decide)) rfl fz.m fz.fn.kp fz.b .nil aR (aa (aA bS (hr.mono (by decide)) rfl aB.m aB.fn.kp aB.b .nil aR (aa (pv 0) (aa (pv 1) af))) af)))
   (bI (aG (i:=6) gp.nd rfl (Or.inl rfl) (aA oM (hr.mono (by decide)) rfl cu.m cu.fn.kp cu.b .nil aR (aa (pv 2) (aa (pv 3) (aa (pv 4) (aa (pv 5) af))))))
   (bI (bJ (j5 (fL (aA Ex (hr.mono (by decide)) rfl iB.m iB.fn.kp iB.b .nil aR (aa (pv 2) (aa (pv 3) (aa (pv 4) (aa (pv 5) (aa (pv 6) af)))))))) (ao (aJ nL)) aU)
   (bI (bJ (PW.pt (tN (aP b9 (pv 5) br (aL _)) (rT (j5 (fL (aA gy (hr.mono (by decide)) rfl aO.m aO.fn.kp aO.b .nil aR (aa (aA (dvs:=[.str (Str.ofString "whole")]) oM (hr.mono (by decide)) rfl cu.m cu.fn.kp mJ (.cons ⟨_,rfl⟩ .nil) aR (aa (pv 2) (aa (pv 3) (aa (pv 4) af)))) (aa (pv 6) af)))))))) (ao (aJ nL)) aU)
   (bI (aG (i:=7) gp.nd rfl (Or.inl rfl) (bw b7 (jO (aa br (aa br (aa br (aa br af))))) (aE bQ (aA bS (hr.mono (by decide)) rfl aB.m aB.fn.kp aB.b .nil aR (aa (pv 0) (aa (pv 1) af))) ai) (λ_ _=>rfl)))
   (bI (bJ (j5 (fL (aA gy (hr.mono (by decide)) rfl aO.m aO.fn.kp aO.b .nil aR (aa (aA pX (hr.mono (by decide)) rfl cB.m cB.fn.kp cB.b .nil aR (aa (pv 2) (aa (pv 3) (aa (pv 4) (aa (pv 7) af))))) (aa (bP (aa br (aa ai (aa ai af)))) af))))) (ao (aJ nL)) aU)
   (ao (aJ (aA yo (hr.mono (by decide)) rfl dN.m dN.fn.kp dN.b .nil aR (aa (pv 0) (aa (pv 1) (aa (pv 2) (aa (pv 3) (aa (pv 4) af))))))))))))))))),?_⟩
  refine⟨_,rfl,_,rfl,s,t,ns,k,rfl,hC,by omega,λx H1 k1 T1 Qe h4 hx w1 ht1 P8 Tw=>?_⟩
  have C1:=hC.off w1 ht1 (by omega)
  obtain⟨sig,_,_,_,_,_,_,dx,Pp,o,mo,d,kvs,P9,_⟩:=id Qe
  have WD:=Wo.sub _ _ P9
  refine⟨_,rfl,_,rfl,_,rfl,x,_,dx,_,_,rfl,WD,T.bz,T.fM,oB,s,t,ns,k1,7,T1.1,rfl,C1,by omega,by decide,sig.1,sig.2.1,λf H2 k2 of hf w2 G9 Tv Wu=>?_⟩
  have C2:=C1.off w2 G9 (by omega)
  refine⟨_,rfl,_,rfl,_,rfl,x,_,dx,_,_,rfl,Wo.sub _ _ (w2 _ _ P9),T.bz,T.fM,oB,s,t,ns,k2,7,T1.1,rfl,C2,by omega,by decide,sig.1,sig.2.1,λg H3 k3 og hg w3 OW P1 P0=>?_⟩
  have C3:=C2.off w3 OW (by omega)
  have Zk:=(w1.trans w2).trans w3
  refine⟨λσ H4=>∃m,jU m=true/\σ=[some (.ref s),some (.ref t),some (.ref x),some (.str f),some (.str g),some (.str m),none,none]/\ak (Wo t H3) (Wo t H4)/\H4 t=some (.lst [.int (k3+1)]),?_,?_⟩
  ·refine⟨_,rfl,_,rfl,s,t,ns,k3,rfl,C3,by omega,λm0 hm0 _=>⟨m0,rfl,hm0,λm H4 hm s4=>⟨m,hm,rfl,?_,s4 _ _ ah⟩⟩⟩
   exact Wo.step s4
  rintro σ H4 ⟨m,hm,rfl,w4,La⟩
  have XY:=Zk.trans w4
  have YR:=hT.step hC.at_ XY
  have Xj:=(Qe.same ((w2.trans w3).trans w4)).same Wo.sub
  refine⟨λσ H5=>∃r,σ=[some (.ref s),some (.ref t),some (.ref x),some (.str f),some (.str g),some (.str m),some (.ref r),none]/\Lo P w (qF K) H4 H5/\xF H5 r T1 m f g,?_,?_⟩
  ·refine⟨_,rfl,_,rfl,_,rfl,_,rfl,x,T1,f,g,m,rfl,Xj,YR,by omega,by omega,λ_ _ _=>⟨by omega,by omega,λr H5 lo _ hch=>⟨r,rfl,lo,hch⟩⟩,λi j bad=>absurd ⟨of,og⟩ bad.no,λ_ _ z=>by rw[hm]at z;cases z⟩
  rintro σ H5 ⟨r,rfl,Ys,hch⟩
  refine⟨λσ H6=>σ=[some (.ref s),some (.ref t),some (.ref x),some (.str f),some (.str g),some (.str m),some (.ref r),none]/\ak H5 H6,?_,?_⟩
  ·refine⟨_,rfl,_,rfl,_,rfl,_,rfl,_,rfl,x,r,T1,f,g,m,rfl,Ys.pr Xj,of,og,by omega,by omega,hm,hch,λH6 s6=>⟨_,rfl,lE ⟨rfl,s6⟩⟩⟩
  rintro σ H6 ⟨rfl,s6⟩
  have L6:=Ys.then s6
  refine⟨λσ H7=>σ=[some (.ref s),some (.ref t),some (.ref x),some (.str f),some (.str g),some (.str m),some (.ref r),none]/\Lo P w (qF K) H4 H7,?_,?_⟩
  ·refine⟨_,rfl,rfl,_,rfl,uy (λhw=>?_) λ_=>iy ⟨rfl,L6⟩⟩
   subst hw
   refine⟨_,rfl,_,rfl,_,rfl,x,T1,f,g,_,rfl,L6.pr Xj,L6.lt,by omega,by omega,λ_ _ _=>⟨by omega,by omega,λr2 H7 PU _ Xd=>?_⟩,λi j bad=>absurd ⟨of,og⟩ bad.no,λ_ _ z=>by rw[hm]at z;cases z⟩
   exact⟨_,rfl,_,_,rfl,Xd.eq (PU.ch (hch.same s6)),λH8 s8=>⟨_,rfl,lE ⟨rfl,(L6.trans PU).then s8⟩⟩⟩
  rintro σ H7 ⟨rfl,PU⟩
  have G7:=PU.nx _ _ (Nt.lst La)
  have Rg:Lo P w (qF K) (Wo t H) H7:=(Lo.of (hT.wo hC.at_) (XY.trans Wo.sub)).trans PU
  have C7:tE K H7 s t ns (k3+1):=Rg.XF hC G7 (by omega)
  refine⟨λσ H8=>∃wd:Str,jU wd=false/\(reprText wd).length<=20/\σ=[some (.ref s),some (.ref t),some (.ref x),some (.str f),some (.str g),some (.str m),some (.ref r),some (.str wd)]/\ak (Wo t H7) (Wo t H8)/\H8 t=some (.lst [.int (k3+1+1)]),?_,?_⟩
  ·refine⟨by show 4<=sizeLine;decide,λq hq=>?_⟩
   have s8:=ak.upd (o:=.lst [.str (Str.ofString ""),.str (Str.ofString "Whole"),.str (Str.ofString "none"),.str (Str.ofString "stretch ")]) hq
   refine⟨_,rfl,_,rfl,s,t,ns,k3+1,rfl,C7.same s8,by omega,λm0 hm0 _=>?_⟩
   have nq:q≠t:=λz=>by rw[z,G7]at hq;cases hq
   obtain⟨wd,hw1,WE,ha⟩:∃wd:Str,jU wd=false/\(reprText wd).length<=20/\AU [V.str (Str.ofString ""),.str (Str.ofString "Whole"),.str (Str.ofString "none"),.str (Str.ofString "stretch ")] (m0 % 4)=some (.str wd):=by
    have e:m0 % 4=0\/m0 % 4=1\/m0 % 4=2\/m0 % 4=3:=by omega
    rcases e with e|e|e|e<;>rw[e]<;>exact⟨_,by decide +kernel,by decide +kernel,rfl⟩
   refine⟨_,_,rfl,rfl,(by show(0:Int)<4;decide),q,_,_,_,rfl,rfl,cS.of (by rw[au nq,ah]),ha,wd,hw1,WE,rfl,?_,ah⟩
   rw[Wo.set]
   exact Wo.same s8
  rintro σ H8 ⟨wd,hw1,WE,rfl,w8,Tz⟩
  have Rf:Lo P w (qF K) (Wo t H) H8:=((Rg.wo G7).then w8).then Wo.sub
  have Wk:Lo P w (qF K) (Wo t H4) (Wo t H8):=((PU.cut YR La).wo G7).then w8
  have YW:CJ K p.aq (Wo t H8) x T1:=Wk.pr (Qe.same ((w2.trans w3).trans w4))
  refine⟨λσ H9=>σ=[some (.ref s),some (.ref t),some (.ref x),some (.str f),some (.str g),some (.str m),some (.ref r),some (.str wd)]/\ak H8 H9,?_,?_⟩
  ·refine⟨_,rfl,_,rfl,_,rfl,_,rfl,x,T1,f,g,wd,rfl,YW.same Wo.sub,Rf.lt,by omega,by omega,.inr ⟨of,og,hw1,WE,λr2 H9 s9 hr2=>⟨by show 3<=sizeLine;decide,λr3 Z9=>?_⟩⟩⟩
   have X6:=ak.upd (o:=.tup [.str (Str.ofString "no manner"),.int 0,.int 1]) Z9
   exact⟨_,_,rfl,xE.of (cT.of (X6 _ _ hr2)) (cT.of ah) (by show 3<=100;decide) (.cons .str (.cons .int (.cons .int .nil))),λZh QV=>⟨_,rfl,lE ⟨rfl,(s9.trans X6).trans QV⟩⟩⟩
  rintro σ H9 ⟨rfl,s9⟩
  have OH:=Rf.then s9
  have YB:=s9 _ _ Tz
  refine⟨_,rfl,_,rfl,_,rfl,_,rfl,_,rfl,s,t,x,ns,k3+1+1,T1,f,g,rfl,OH.XF hC YB (by omega),by omega,YW.same (Wo.same s9),h4,OH.lt,of,og,by omega,by omega,λH' w' ht' Xg=>?_⟩
  exact kk H' _ (((OH.wo YB).then w').then Wo.sub) ht' (by omega) (by omega)
theorem Ow {yZ jx:Addr} {Ji iO:FuncData} {p:Pm} (T:Txt K mg p base) (JH:Dn K mg "law" qv PV yZ Ji) (gh:Dn K mg "_law_round" mV l5 jx iO) (CQ:aK P w K mg base cD 11 jx iO l5 (yJ P w K (qF K))):aK P w K mg base cD 12 yZ Ji PV (zE K (qF K)):=by
 refine JH.fn.ok Dv (λvs H Q E h=>?_) (λcdv A outer s H vs Q E hr h=>?_)
 ·obtain⟨a,ns,rfl,_⟩:=h
  rfl
 ·obtain⟨a,ns,rfl,ha,hl,hT,kk⟩:=h
  refine⟨_,(aj (aG (i:=1) Dv.nd rfl (Or.inl rfl) (jO (aa ai af)))
   (aj (fF PassesOwn.never rfl (gA rfl T.kD (aa (aE cR ai (aE cE (aC (aY) rfl T.cN bG (aa (vS Kg (pv 0) zN (zM ai)) af)) ai)) af)) (aS (i:=2) Dv.nd rfl (Or.inl rfl)) (ao (bJ (j5 (fL (aA CQ (hr.mono (by decide)) rfl gh.m gh.fn.kp gh.b .nil aR (aa (pv 0) (aa (pv 1) af))))) (ao (aJ nL)) aU)))
   (ao (aJ nL)))),?_⟩
  refine⟨by show 1<=sizeLine;decide,λt ht=>?_⟩
  have c1:tE K (upd H t (.lst [.int 0])) a t ns 0:=by
   refine⟨?_,hl,ah,by decide⟩
   rw[Wo.set]
   exact ak.seq (λb u e=>Wo.in (aM e ht) e) ha
  have hT1:LT (qF K) (upd H t (.lst [.int 0])):=hT.same (ak.upd ht)
  generalize upd H t (.lst [.int 0])=H1 at c1 hT1 ⊢
  have hcl:=uF (ns.map V.int) none (some 63)
  rw[List.length_map]at hcl
  refine⟨_,rfl,_,rfl,a,_,rfl,c1.Zs,λp1 hp1=>⟨_,_,rfl,.inl ⟨_,cS.of ah,rfl⟩,_,_,rfl,rfl,⟨by decide,by decide⟩,_,_,rfl,rfl,_,rfl,?_,?_,?_⟩⟩
  ·omega
  ·omega
  have s2:=ak.upd (o:=.lst (Eh (ns.map V.int) none (some 63))) hp1
  have c2:=c1.same s2
  have hT2:=hT1.same s2
  generalize upd H1 p1 (.lst (Eh (ns.map V.int) none (some 63)))=H2 at c2 hT2 ⊢
  obtain⟨n,hn⟩:∃n:Nat,(1+(((Eh (ns.map V.int) none (some 63)).length:Nat):Int) / 30).toNat=n:=⟨_,rfl⟩
  have hn2:n<=4:=by omega
  rw[hn]
  refine kc (lo:=0) (n:=n) (λi σ' H3=>∃(v2:Option V) (k:Int),σ'=[some (.ref a),some (.ref t),v2]/\tE K H3 a t ns k/\LT (qF K) H3/\k<=500*(i:Int)) ⟨_,0,rfl,c2,hT2,by omega⟩ ?_ ?_
  ·rintro i σ' H3 hi ⟨v2,k,rfl,c3,Xf,hk⟩
   have k0:=c3.k0
   exact⟨_,rfl,_,rfl,a,t,ns,k,rfl,c3,by omega,Xf,λH4 k' lo La b1 b2=>⟨_,rfl,lE ⟨_,k',rfl,lo.XF c3 La (by omega),lo.lt,by omega⟩⟩⟩
  ·rintro σ' H3 ⟨v2,k,rfl,c3,Xf,hk⟩
   exact kk H3 Xf
end
def j4(K:PySem.W.Frag)(x y:Str)(s:Stmt):Prop:=∃f oc od sl kV dc pm an cd ct,PySem.W.nsIn K mainGlobals x=some (some (.ref f))/\K.lookup f=some ⟨oc,od,.func (PySem.W.fnOf y y (fK s) (dI s) (ay s) .none kV dc pm an cd ct),sl⟩/\PySem.W.codeIn K cd y=true/\PySem.W.keepIn K (.ref f)=true
theorem j4.mk{K:PySem.W.Frag}{x y:Str}{s:Stmt}{f:Addr}{oc kV dc pm cd ct:Value}{od an:Option Addr}{sl:Array (Option Value)}(a:PySem.W.nsIn K mainGlobals x=some (some (.ref f)))(l:K.lookup f=some ⟨oc,od,.func (PySem.W.fnOf y y (fK s) (dI s) (ay s) .none kV dc pm an cd ct),sl⟩)(c:PySem.W.codeIn K cd y=true)(k:PySem.W.keepIn K (.ref f)=true):j4 K x y s:=⟨f,oc,od,sl,kV,dc,pm,an,cd,ct,a,l,c,k⟩
theorem SA{K:PySem.W.Frag}{h:Heap}{mg:Str->Option Value}{x y:Str}{s:Stmt}{ps:List Str}(X:K.In h)(G:h.Ns mainGlobals mg)(d:j4 K x y s)(b:∀(kV doc pm:Value) (an:Option Addr) (cdv ct:Value) (us:List Value),us.length=ps.length->bindArgs (PySem.W.fnOf y y (fK s) (dI s) (ay s) .none kV doc pm an cdv ct) ⟨us,[]⟩=pure (ps.zip us):=by intro _ _ _ _ _ _ us hl;first|(obtain⟨_,rfl⟩:=GP.KR hl;exact rfl)|(obtain⟨_,_,rfl⟩:=GP.OL hl;exact rfl)|(obtain⟨_,_,_,rfl⟩:=GP.IP hl;exact rfl)|(obtain⟨_,_,_,_,rfl⟩:=GP.KQ hl;exact rfl)|(obtain⟨_,_,_,_,_,rfl⟩:=GP.IM hl;exact rfl)|(obtain⟨_,_,_,_,_,_,rfl⟩:=GP.Rk hl;exact rfl)):∃f fd,Da K mg x y s ps f fd:=by
 obtain⟨f,oc,od,sl,kV,dc,pm,an,cd,ct,a,l,c,k⟩:=d
 exact⟨f,_,ua l c k,Binds.all (b kV dc pm an cd ct),PySem.W.mg_of X G a⟩
theorem bK{K:PySem.W.Frag}{h:Heap}{mg:Str->Option Value}{x:Str}{s:Stmt}{ps:List Str}(X:K.In h)(G:h.Ns mainGlobals mg)(d:j4 K x x s)(b:∀(kV doc pm:Value) (an:Option Addr) (cdv ct:Value) (us:List Value),us.length=ps.length->bindArgs (PySem.W.fnOf x x (fK s) (dI s) (ay s) .none kV doc pm an cdv ct) ⟨us,[]⟩=pure (ps.zip us):=by intro _ _ _ _ _ _ us hl;first|(obtain⟨_,rfl⟩:=GP.KR hl;exact rfl)|(obtain⟨_,_,rfl⟩:=GP.OL hl;exact rfl)|(obtain⟨_,_,_,rfl⟩:=GP.IP hl;exact rfl)|(obtain⟨_,_,_,_,rfl⟩:=GP.KQ hl;exact rfl)|(obtain⟨_,_,_,_,_,rfl⟩:=GP.IM hl;exact rfl)|(obtain⟨_,_,_,_,_,_,rfl⟩:=GP.Rk hl;exact rfl)):∃f fd,Dn K mg x s ps f fd:=by
 obtain⟨f,fd,e⟩:=SA X G d b
 exact⟨f,fd,e.fn,e.b,e.m⟩
theorem j4.ns{K:PySem.W.Frag}{h:Heap}{mg:Str->Option Value}{x y:Str}{s:Stmt}(d:j4 K x y s)(X:K.In h)(G:h.Ns mainGlobals mg):∀f,mg x=some (.ref f)->PySem.W.nsIn K mainGlobals x=some (some (.ref f)):=λf hf=>by
 obtain⟨f',oc,od,sl,kV,dc,pm,an,cd,ct,a,_⟩:=d
 have e:=(PySem.W.mg_of X G a).symm.trans hf
 cases e
 exact a
def S7(K:PySem.W.Frag)(x:Str)(s:Stmt)(v:Str):Prop:=∃f oc od sl D u Q6 n sl2 kV dc pm an cd ct,PySem.W.nsIn K mainGlobals x=some (some (.ref f))/\K.lookup f=some ⟨oc,od,.func (PySem.W.fnOf x x (fK s) (dI s) (ay s) (.ref D) kV dc pm an cd ct),sl⟩/\PySem.W.codeIn K cd x=true/\PySem.W.keepIn K (.ref f)=true/\K.lookup D=some ⟨.type "tuple",Q6,.seq #[.str v u] n,sl2⟩
theorem S7.mk {K:PySem.W.Frag} {x v:Str} {s:Stmt} {f D:Addr} {oc kV dc pm cd ct:Value} {od Q6 an:Option Addr} {sl sl2:Array (Option Value)} {u:Tok} {n:Nat} (a:PySem.W.nsIn K mainGlobals x=some (some (.ref f))) (l:K.lookup f=some ⟨oc,od,.func (PySem.W.fnOf x x (fK s) (dI s) (ay s) (.ref D) kV dc pm an cd ct),sl⟩) (c:PySem.W.codeIn K cd x=true) (k:PySem.W.keepIn K (.ref f)=true) (e:K.lookup D=some ⟨.type "tuple",Q6,.seq #[.str v u] n,sl2⟩):S7 K x s v:=⟨f,oc,od,sl,D,u,Q6,n,sl2,kV,dc,pm,an,cd,ct,a,l,c,k,e⟩
theorem Pg{K:PySem.W.Frag}{h:Heap}{mg:Str->Option Value}{x v a1 a2 a3 a4:Str}{s:Stmt}(X:K.In h)(G:h.Ns mainGlobals mg)(d:S7 K x s v)
  (b:∀(D:Addr) (kV doc pm:Value) (an:Option Addr) (cdv ct v1 v2 v3 v4:Value) (sh:Shared) (o:Obj) (u:Tok) (n:Nat),sh.heap.get? D=some o->o.data= .seq #[.str v u] n->BindsTo sh (PySem.W.fnOf x x (fK s) (dI s) (ay s) (.ref D) kV doc pm an cdv ct) ⟨[v1,v2,v3,v4],[]⟩ [(a1,v1),(a2,v2),(a3,v3),(a4,v4)]:=by intro _ _ _ _ _ _ _ _ _ _ _ _ _ _ _ ho hs;exact BindsTo.of_defaults rfl ho hs rfl rfl)
  (b2:∀(D:Addr) (kV doc pm:Value) (an:Option Addr) (cdv ct v1 v2 v3:Value) (sh:Shared) (o:Obj) (u:Tok) (n:Nat),sh.heap.get? D=some o->o.data= .seq #[.str v u] n->BindsTo sh (PySem.W.fnOf x x (fK s) (dI s) (ay s) (.ref D) kV doc pm an cdv ct) ⟨[v1,v2,v3],[]⟩ [(a1,v1),(a2,v2),(a3,v3),(a4,.str v u)]:=by intro _ _ _ _ _ _ _ _ _ _ _ _ _ _ ho hs;exact BindsTo.of_defaults rfl ho hs rfl rfl):∃f fd u,Dn K mg x s [a1,a2,a3,a4] f fd/\Binds K fd [a1,a2,a3,a4] [.str v u]:=by
 obtain⟨f,oc,od,sl,D,u,Q6,n,sl2,kV,dc,pm,an,cd,ct,a,l,c,k,e⟩:=d
 refine⟨f,_,u,⟨ua l c k,λsh us hX hl=>?_,PySem.W.mg_of X G a⟩,λsh us hX hl=>?_⟩
 ·rw[List.append_nil]at hl ⊢
  obtain⟨v1,v2,v3,v4,rfl⟩:=GP.KQ hl
  exact b D kV dc pm an cd ct v1 v2 v3 v4 sh _ u n (hX _ _ e) rfl
 ·obtain⟨v1,v2,v3,rfl⟩:=GP.IP (show us.length=3 by rw[List.length_append]at hl;exact Nat.succ.inj hl)
  exact b2 D kV dc pm an cd ct v1 v2 v3 sh _ u n (hX _ _ e) rfl
theorem all_mk {l:PySem.W.OpenLaw} {w:World} {K:PySem.W.Frag} {h:Heap} {mg:Str->Option Value} {fa:Addr} (X:K.In h) (G:h.Ns mainGlobals mg) (hfa:mg "law" =some (.ref fa))
  {lG:Tok}
  {mQ:Tok}
  {jm:Addr} {BP:Option Addr} {DU:Nat} {Bt:Array (Option Value)} {A9 A8 A7:Tok}
  {kB:Addr} {DM:Option Addr} {F9:Nat} {Dr:Array (Option Value)} {Di Dh Dg Df:Tok}
  {oJ:Addr} {KG:Option Addr} {OD:Nat} {Kh:Array (Option Value)} {Ka JZ JY:Tok}
  {aq:Addr}
  {aV:Addr}
  {cL:Addr}
  {az:Addr}
  {aD:Addr}
  {f6:Addr}
  {eK:Addr}
  {iG:Addr}
  {iF:Addr}
  {fZ:Addr}
  {eG:Addr}
  {jZ:Addr}
  {iE:Addr}
  {iD:Addr}
  (u0:oR K "first_begin" =true)
  (u1:oR K "state_behind" =true)
  (u2:PySem.W.nsIn K mainGlobals "FIRST_SIGN" =some (some (.int 32 lG)))
  (u3:PySem.W.nsIn K mainGlobals "LAST_SIGN" =some (some (.int 126 mQ)))
  (u4:PySem.W.nsIn K mainGlobals "NO_SIGNS" =some (some (.ref jm)))
  (u5:K.lookup jm=some ⟨.type "tuple",BP,.seq #[.int 34 A9,.int 37 A8,.int 45 A7] DU,Bt⟩)
  (u6:PySem.W.nsIn K mainGlobals "MANNERS" =some (some (.ref kB)))
  (u7:K.lookup kB=some ⟨.type "tuple",DM,.seq #[.str (Str.ofString "whole") Di,.str (Str.ofString "within") Dh,.str (Str.ofString "over") Dg,.str (Str.ofString "stretch") Df] F9,Dr⟩)
  (u8:PySem.W.nsIn K mainGlobals "CAME" =some (some (.ref oJ)))
  (u9:K.lookup oJ=some ⟨.type "tuple",KG,.seq #[.str (Str.ofString "p") Ka,.str (Str.ofString "a") JZ,.str (Str.ofString "b") JY] OD,Kh⟩)
  (VA:PySem.W.nsIn K mainGlobals "Prices" =some (some (.ref aq)))
  (Vz:PySem.W.plainGet K aq Str.empty=true) (Vy:PySem.W.hasDictIn K aq=true) (Vx:PySem.W.plainOver K aq=true) (Vw:PySem.W.findIn K (.ref aq) "__setattr__" =some (some (.builtin "object.__setattr__"))) (Vv:PySem.W.makesIn K aq=true) (Vu:PySem.W.keepIn K (.ref aq)=true)
  (u17:bL K aq "signs")
  (Vt:bL K aq "pairs")
  (Vs:bL K aq "opening")
  (Vr:bL K aq "more")
  (Vq:bL K aq "factors")
  (Vp:bL K aq "unit")
  (Vo:bL K aq "costs")
  (Vn:bL K aq "opening_units")
  (Vm:bL K aq "more_units")
  (Vl:PySem.W.nsIn K mainGlobals "Ground" =some (some (.ref aV)))
  (Vk:PySem.W.plainGet K aV Str.empty=true) (Vj:PySem.W.hasDictIn K aV=true) (Vi:PySem.W.plainOver K aV=true) (Vh:PySem.W.findIn K (.ref aV) "__setattr__" =some (some (.builtin "object.__setattr__"))) (Vg:PySem.W.makesIn K aV=true) (Vf:PySem.W.keepIn K (.ref aV)=true)
  (Ve:bL K aV "steps")
  (Vd:bL K aV "begins")
  (Vc:bL K aV "ends")
  (Vb:PySem.W.nsIn K mainGlobals "WeaveError" =some (some (.ref cL)))
  (Va:PySem.W.nsIn K mainGlobals "NoManner" =some (some (.ref az)))
  (u38:PySem.W.excIn K az [.type "ValueError",.type "Exception",.type "BaseException",.type "object"] "ValueError.__new__" =true)
  (U9:PySem.W.hasDictIn K az=true) (U8:PySem.W.typeIn K (.ref az)=some (.type "type")) (U7:PySem.W.mroIn K az (.type "BaseException")=some true)
  (U6:PySem.W.findIn K (.ref az) "__getattribute__" =some (some (.builtin "BaseException.__getattribute__")))
  (U5:PySem.W.findIn K (.ref az) "__getattr__" =some none)
  (U4:PySem.W.hasDictIn K az=true)
  (U3:PySem.W.findIn K (.ref az) "__class__" =some (some (.builtin "object.__class__")))
  (U1:PySem.W.specialIn K (.builtin "object.__class__") "__get__" =some (some (.builtin "getset_descriptor.__get__")))
  (U0:PySem.W.takesIn K (.builtin "object.__class__")=some true)
  (UZ:PySem.W.mroIn K az (.type "object")=some true)
  (UY:PySem.W.mroIn K az (.type "BaseException")=some true)
  (UX:PySem.W.nsIn K mainGlobals "NoSign" =some (some (.ref aD)))
  (UW:PySem.W.hasDictIn K aD=true) (UU:PySem.W.typeIn K (.ref aD)=some (.type "type")) (UT:PySem.W.mroIn K aD (.type "BaseException")=some true)
  (US:PySem.W.findIn K (.ref aD) "__getattribute__" =some (some (.builtin "BaseException.__getattribute__")))
  (UR:PySem.W.findIn K (.ref aD) "__getattr__" =some none)
  (UQ:PySem.W.hasDictIn K aD=true)
  (UP:PySem.W.findIn K (.ref aD) "__class__" =some (some (.builtin "object.__class__")))
  (UO:PySem.W.specialIn K (.builtin "object.__class__") "__get__" =some (some (.builtin "getset_descriptor.__get__")))
  (UN:PySem.W.takesIn K (.builtin "object.__class__")=some true)
  (UM:PySem.W.mroIn K aD (.type "object")=some true)
  (UL:PySem.W.mroIn K aD (.type "BaseException")=some true)
  (UK:PySem.W.nsIn K mainGlobals "NoBlock" =some (some (.ref f6)))
  (UJ:PySem.W.nsIn K mainGlobals "NoLaying" =some (some (.ref eK)))
  (UI:PySem.W.nsIn K mainGlobals "NoMost" =some (some (.ref iG)))
  (UH:PySem.W.nsIn K mainGlobals "NoNote" =some (some (.ref iF)))
  (UG:PySem.W.nsIn K mainGlobals "NoPlace" =some (some (.ref fZ)))
  (UE:PySem.W.nsIn K mainGlobals "NoPrices" =some (some (.ref eG)))
  (UD:PySem.W.nsIn K mainGlobals "NoRow" =some (some (.ref jZ)))
  (UC:PySem.W.nsIn K mainGlobals "NoText" =some (some (.ref iE)))
  (UB:PySem.W.nsIn K mainGlobals "NoTree" =some (some (.ref iD)))
  (UA:PySem.W.hasDictIn K aD=true) (Uz:((PySem.W.clsIn K aD).any λcd=>qL cd.mro)=true) (Uy:PySem.W.findIn K (.ref aD) "__setattr__" =some (some (.builtin "object.__setattr__"))) (Ux:PySem.W.keepIn K (.ref aD)=true)
  (Uw:bL K aD "row")
  (Uv:bL K aD "place")
  (Uu:PySem.W.specialIn K (.ref cL) "__getattribute__" =some (some (.builtin "type.__getattribute__"))) (Ut:PySem.W.readsIn K cL (.type "type")=true) (Us:PySem.W.findCls K (.ref cL) (.type "type") "__init__" =some (.val (.builtin "ValueError.__init__")))
  (Ur:PySem.W.subIn K (.ref aD) (.ref aD)=some true)
  (Uq:PySem.W.subIn K (.ref az) (.ref aD)=some false)
  (Up:PySem.W.subIn K (.ref az) (.ref az)=some true)
  (u83:PySem.W.kitOne K (.ref az) (.ref f6)=some false)
  (Uo:PySem.W.kitOne K (.ref az) (.ref eK)=some false)
  (Um:PySem.W.kitOne K (.ref az) (.ref iG)=some false)
  (Ul:PySem.W.kitOne K (.ref az) (.ref iF)=some false)
  (Uk:PySem.W.kitOne K (.ref az) (.ref fZ)=some false)
  (Uj:PySem.W.kitOne K (.ref az) (.ref eG)=some false)
  (Ui:PySem.W.kitOne K (.ref az) (.ref jZ)=some false)
  (Uh:PySem.W.kitOne K (.ref az) (.ref iE)=some false)
  (Ug:PySem.W.kitOne K (.ref az) (.ref iD)=some false)
  (Ue:PySem.W.kitOne K (.ref az) (.ref aD)=some false)
  (Ud:PySem.W.kitOne K (.ref az) (.ref cL)=some true)
  {ZM an0:Option Addr} {Zr:Array (Option Value)} {ZN ZU dc0 ZC Y9 ct0:Value} {bq:Addr}
  (XZ:PySem.W.findIn K (.ref aD) "__init__" =some (some (.ref bq))) (Uc:PySem.W.isFn K (.ref bq)=true) (Ub:K.lookup bq=some ⟨ZN,ZM,.func (PySem.W.fnOf "__init__" "NoSign.__init__" (fK bW) (dI bW) (ay bW) .none ZU dc0 ZC an0 Y9 ct0),Zr⟩) (Ua:PySem.W.codeIn K Y9 "NoSign.__init__" =true) (T9:PySem.W.keepIn K (.ref bq)=true)
  (u99:j4 K "greatest_divisor" "greatest_divisor" cU)
  (N2:j4 K "lowest" "lowest" rS)
  (N1:j4 K "is_sign" "is_sign" qf)
  (NZ:j4 K "are_signs" "are_signs" mZ)
  (NY:j4 K "check_signs" "check_signs" kR)
  (NX:j4 K "check_lengths" "check_lengths" jh)
  (NW:j4 K "lowest_price" "lowest_price" ig)
  (NV:j4 K "lowest_prices" "lowest_prices" jf)
  (NU:j4 K "all_unders" "all_unders" lS)
  (NT:j4 K "unit_factors" "unit_factors" jJ)
  (NS:j4 K "product_of" "product_of" lM)
  (NR:j4 K "by_unit" "by_unit" nK)
  (NQ:j4 K "costs_by_signs" "costs_by_signs" iH)
  {Wa XJ:Option Addr} {VS:Array (Option Value)} {Wd Wt XC V5 SH XH:Value} {bB:Addr}
  (NP:PySem.W.findIn K (.ref aq) "__init__" =some (some (.ref bB))) (NO:PySem.W.isFn K (.ref bB)=true) (NN:K.lookup bB=some ⟨Wd,Wa,.func (PySem.W.fnOf "__init__" "Prices.__init__" (fK bV) (dI bV) (ay bV) .none Wt XC V5 XJ SH XH),VS⟩) (NL:PySem.W.codeIn K SH "Prices.__init__" =true) (NJ:PySem.W.keepIn K (.ref bB)=true)
  (NI:j4 K "pair_cost" "pair_cost" kY)
  (NH:j4 K "opening_cost" "opening_cost" ie)
  (NG:j4 K "more_cost" "more_cost" kZ)
  (NF:j4 K "in_units" "in_units" mw)
  (NC:j4 K "check_known" "check_known" kT)
  (NB:j4 K "check_rows" "check_rows" lQ)
  (Nz:j4 K "check_manner" "check_manner" jL)
  (Ny:j4 K "alone_cost" "alone_cost" lR)
  (Nx:j4 K "may_begin" "may_begin" mS)
  (Nv:j4 K "may_end" "may_end" qb)
  (Nu:j4 K "all_places" "all_places" lT)
  (Nr:j4 K "steps_from" "steps_from" lK)
  (Nq:j4 K "all_steps" "all_steps" m5)
  (Np:j4 K "all_ends" "all_ends" n8)
  {V9 XI:Option Addr} {VR:Array (Option Value)} {Wc Ws XA V4 SG XG:Value} {bC:Addr}
  (Nn:PySem.W.findIn K (.ref aV) "__init__" =some (some (.ref bC))) (Nm:PySem.W.isFn K (.ref bC)=true) (Nl:K.lookup bC=some ⟨Wc,V9,.func (PySem.W.fnOf "__init__" "Ground.__init__" (fK bX) (dI bX) (ay bX) .none Ws XA V4 XI SG XG),VR⟩) (Nk:PySem.W.codeIn K SG "Ground.__init__" =true) (Nj:PySem.W.keepIn K (.ref bC)=true)
  (Ni:j4 K "least_rests" "least_rests" kK)
  (Nh:j4 K "ends_there" "ends_there" lP)
  (JV:j4 K "first_begin" "first_begin" kQ)
  (JU:j4 K "state_behind" "state_behind" jK)
  (Ng:j4 K "first_moves" "first_moves" kP)
  (u141:S7 K "cheapest" mz (Str.ofString "whole"))
  (Nf:j4 K "_law_next" "_law_next" dZ)
  (Nd:j4 K "_law_great" "_law_great" mY)
  (Nc:j4 K "_law_signs" "_law_signs" mU)
  (Nb:j4 K "_law_price" "_law_price" mW)
  (Na:j4 K "_law_table" "_law_table" mT)
  (M8:j4 K "_law_prices" "_law_prices" lN)
  (M7:j4 K "_law_row" "_law_row" qc)
  (M6:j4 K "_law_manner" "_law_manner" lO)
  (M5:j4 K "_law_same" "_law_same" jk)
  (M4:j4 K "_law_gap" "_law_gap" qe)
  (M3:j4 K "_law_walk" "_law_walk" nY)
  (M1:j4 K "_law_may_begin" "_law_may_begin" jg)
  (M0:j4 K "_law_may_end" "_law_may_end" kO)
  (MZ:j4 K "_law_asked" "_law_asked" k6)
  (MY:j4 K "_law_strange" "_law_strange" kL)
  (MX:j4 K "_law_laid" "_law_laid" nZ)
  (MW:j4 K "_law_round" "_law_round" mV)
  {V8 SI:Option Addr} {VQ:Array (Option Value)} {Wb RK Sy Q0 Pk SD:Value} {yZ:Addr}
  (JT:PySem.W.nsIn K mainGlobals "law" =some (some (.ref yZ))) (MV:K.lookup yZ=some ⟨Wb,V8,.func (PySem.W.fnOf "law" "law" (fK qv) (dI qv) (ay qv) .none RK Sy Q0 SI Pk SD),VQ⟩) (MU:PySem.W.codeIn K Pk "law" =true) (MT:PySem.W.keepIn K (.ref yZ)=true)
  (JS:Eg K aD bq=true)
  (MS:PySem.W.nsIn K mainGlobals "abs" =some none)
  (MR:PySem.W.nsIn K mainGlobals "len" =some none)
  (MQ:PySem.W.nsIn K mainGlobals "ord" =some none)
  (MP:PySem.W.nsIn K mainGlobals "set" =some none)
  (MO:PySem.W.nsIn K mainGlobals "tuple" =some none)
  (MN:PySem.W.nsIn K mainGlobals "zip" =some none)
  (MM:PySem.W.nsIn K mainGlobals "enumerate" =some none)
  (ML:PySem.W.nsIn K mainGlobals "range" =some none)
  (MK:PySem.W.nsIn K mainGlobals "isinstance" =some none)
  (MJ:PySem.W.nsIn K mainGlobals "int" =some none)
  (MI:PySem.W.nsIn K mainGlobals "bool" =some none)
  (MH:PySem.W.nsIn K mainGlobals "all" =some none)
  (MG:PySem.W.nsIn K mainGlobals "list" =some none)
  (MF:PySem.W.nsIn K mainGlobals "str" =some none)
  (ME:PySem.W.nsIn K mainGlobals "min" =some none)
  (MD:PySem.W.nsIn K mainGlobals "reversed" =some none)
  : ∃fd:FuncData,(∀(s:Shared) (v:Value),BindsTo s fd ⟨[v],[]⟩ [("_law_script",v)])/\∀base:Heap,K.In base->base.Ns mainGlobals mg->Mx base mg->aK l.prog w K mg base cD 12 fa fd PV (zE K (qF K)):=by
 have e:=hfa.symm.trans (PySem.W.mg_of X G JT)
 cases e
 obtain⟨p,hp⟩:∃p:Pm,p=(⟨lG,mQ,jm,kB,oJ,aq,aV,cL,az,aD,f6,eK,iG,iF,fZ,eG,jZ,iE,iD⟩:Pm):=⟨_,rfl⟩
 have tw:=ua (st:=bW) Ub Ua T9
 have dh:Dm K "__init__" "NoSign.__init__" bW PY _ _:=⟨tw,Binds.all (ps:=PY) λus hl=>by obtain⟨_,_,_,rfl⟩:=GP.IP hl;exact rfl⟩
 obtain⟨bu,aZ,aI⟩:=bK (ps:=KW) X G u99
 obtain⟨nP,lW,lz⟩:=bK (ps:=RJ) X G N2
 obtain⟨mh,kj,jD⟩:=bK (ps:=["sign"]) X G N1
 obtain⟨jA,iR,gj⟩:=bK (ps:=["text"]) X G NZ
 obtain⟨gU,fS,dQ⟩:=bK (ps:=["signs"]) X G NY
 obtain⟨eY,dX,cQ⟩:=bK (ps:=RH) X G NX
 obtain⟨cI,cj,bx⟩:=bK (ps:=l8) X G NW
 obtain⟨eW,dU,cO⟩:=bK (ps:=["row"]) X G NV
 obtain⟨i6,gJ,fD⟩:=bK (ps:=RI) X G NU
 obtain⟨fU,eO,cZ⟩:=bK (ps:=["unders"]) X G NT
 obtain⟨iU,gC,fq⟩:=bK (ps:=["factors"]) X G NS
 obtain⟨iZ,gv,cM⟩:=bK (ps:=OP) X G NR
 obtain⟨dY,c8,cC⟩:=bK (ps:=RG) X G NQ
 have tu:=ua (st:=bV) NN NL NJ
 have c9:Dm K "__init__" "Prices.__init__" bV PZ _ _:=⟨tu,Binds.all (ps:=PZ) λus hl=>by obtain⟨_,_,_,_,_,rfl⟩:=GP.IM hl;exact rfl⟩
 obtain⟨ff,dF,cA⟩:=bK (ps:=OO) X G NI
 obtain⟨cH,cg,bE⟩:=bK (ps:=l6) X G NH
 obtain⟨fh,dG,bD⟩:=bK (ps:=l6) X G NG
 obtain⟨gw,e7,cV⟩:=bK (ps:=ON) X G NF
 obtain⟨gW,fT,dR⟩:=bK (ps:=RE) X G NC
 obtain⟨iY,gG,fC⟩:=bK (ps:=RD) X G NB
 obtain⟨fW,eV,c5⟩:=bK (ps:=["manner"]) X G Nz
 obtain⟨i0,gH,cK⟩:=bK (ps:=RC) X G Ny
 obtain⟨ju,iL,gb⟩:=bK (ps:=RB) X G Nx
 obtain⟨lX,kg,jC⟩:=bK (ps:=RA) X G Nv
 obtain⟨i7,gK,fE⟩:=bK (ps:=Rz) X G Nu
 obtain⟨iT,gB,fk⟩:=bK (ps:=Ry) X G Nr
 obtain⟨jB,iS,gk⟩:=bK (ps:=Rx) X G Nq
 obtain⟨ku,jt,iC⟩:=bK (ps:=Rw) X G Np
 have tD:=ua (st:=bX) Nl Nk Nj
 have dj:Dm K "__init__" "Ground.__init__" bX PX _ _:=⟨tD,Binds.all (ps:=PX) λus hl=>by obtain⟨_,_,_,_,_,rfl⟩:=GP.IM hl;exact rfl⟩
 obtain⟨gM,fN,dM⟩:=bK (ps:=["ground"]) X G Ni
 obtain⟨iX,gF,fB⟩:=bK (ps:=l9) X G Nh
 obtain⟨gT,fR,cW⟩:=bK (ps:=Rv) X G JV
 obtain⟨fV,eT,cJ⟩:=bK (ps:=l9) X G JU
 obtain⟨gQ,fQ,dP⟩:=bK (ps:=Ru) X G Ng
 obtain⟨gx,cY,nT,cu,mJ⟩:=Pg (a1:= "prices") (a2:= "first") (a3:= "second") (a4:= "manner") X G u141
 obtain⟨aW,aQ,aB⟩:=bK (ps:=l5) X G Nf
 obtain⟨jz,iQ,gi⟩:=bK (ps:=l5) X G Nd
 obtain⟨jw,iN,gg⟩:=bK (ps:=JK) X G Nc
 obtain⟨jy,iP,b8⟩:=bK (ps:=Rt) X G Nb
 obtain⟨jv,iM,gf⟩:=bK (ps:=JK) X G Na
 obtain⟨iV,gD,fu⟩:=bK (ps:=l5) X G M8
 obtain⟨lY,kh,fX⟩:=bK (ps:=Rr) X G M7
 obtain⟨iW,gE,fz⟩:=bK (ps:=["_law_m"]) X G M6
 obtain⟨bU,bH,aO⟩:=bK (ps:=l7) X G M5
 obtain⟨lZ,ki,fY⟩:=bK (ps:=Rq) X G M4
 obtain⟨ko,jq,iA⟩:=bK (ps:=Rn) X G M3
 obtain⟨eX,dW,cP⟩:=bK (ps:=Rp) X G M1
 obtain⟨gP,fP,dO⟩:=bK (ps:=Ro) X G M0
 obtain⟨fj,dH,cB⟩:=bK (ps:=OM) X G MZ
 obtain⟨gO,fO,dN⟩:=bK (ps:=Rm) X G MY
 obtain⟨kr,jr,iB⟩:=bK (ps:=Rl) X G MX
 obtain⟨jx,iO,gh⟩:=bK (ps:=l5) X G MW
 have S5:=ua (st:=qv) MV MU MT
 have JH:Dn K mg "law" qv PV _ _:=⟨S5,Binds.all (ps:=PV) λus hl=>by obtain⟨_,rfl⟩:=GP.KR hl;exact rfl,PySem.W.mg_of X G JT⟩
 have xx:XN K p.aD bq:=by subst hp;exact⟨AX JS,Uc,Ux⟩
 have xw:Mk K p.aq bB:=by subst hp;exact⟨Vv,NP,NO,Vu⟩
 have xy:Mk K p.aV bC:=by subst hp;exact⟨Vg,Nn,Nm,Vf⟩
 refine⟨PySem.W.fnOf "law" "law" (fK qv) (dI qv) (ay qv) .none RK Sy Q0 SI Pk SD,λs v=>.of_eq rfl,λbase _ _ bb=>?_⟩
 have T:Txt K mg p base:=by subst hp;exact⟨PySem.W.mg_none_of X G MS,PySem.W.mg_none_of X G MR,PySem.W.mg_none_of X G MQ,PySem.W.mg_none_of X G MP,PySem.W.mg_none_of X G MO,PySem.W.mg_none_of X G MN,PySem.W.mg_none_of X G MM,PySem.W.mg_none_of X G ML,PySem.W.mg_none_of X G MK,PySem.W.mg_none_of X G MJ,PySem.W.mg_none_of X G MI,PySem.W.mg_none_of X G MH,PySem.W.mg_none_of X G MG,PySem.W.mg_none_of X G MF,PySem.W.mg_none_of X G ME,PySem.W.mg_none_of X G MD,PySem.W.mg_of X G u2,PySem.W.mg_of X G u3,PySem.W.mg_of X G u4,λH=>.inr ⟨_,_,_,u5,rfl,rfl,(by show 3<=sizeLine;decide),.cons ⟨_,rfl⟩ (.cons ⟨_,rfl⟩ (.cons ⟨_,rfl⟩ (.nil)))⟩,PySem.W.mg_of X G u6,λH=>.inr ⟨_,_,_,u7,rfl,rfl,(by show 4<=sizeLine;decide),.cons ⟨_,rfl⟩ (.cons ⟨_,rfl⟩ (.cons ⟨_,rfl⟩ (.cons ⟨_,rfl⟩ (.nil))))⟩,PySem.W.mg_of X G u8,λH=>.inr ⟨_,_,_,u9,rfl,rfl,(by show 3<=sizeLine;decide),.cons ⟨_,rfl⟩ (.cons ⟨_,rfl⟩ (.cons ⟨_,rfl⟩ (.nil)))⟩,PySem.W.mg_of X G VA,⟨Vz,Vy,Vx,Vw⟩,u17,Vt,Vs,Vr,Vq,Vp,Vo,Vn,Vm,PySem.W.mg_of X G Vl,⟨Vk,Vj,Vi,Vh⟩,Ve,Vd,Vc,PySem.W.mg_of X G Vb,PySem.W.mg_of X G Va,JR u38,⟨U9,U8,U7⟩,⟨U6,U5,U4,U3,U1,U0,UZ,UY⟩,PySem.W.mg_of X G UX,⟨UW,UU,UT⟩,⟨US,UR,UQ,UP,UO,UN,UM,UL⟩,PySem.W.mg_of X G UK,PySem.W.mg_of X G UJ,PySem.W.mg_of X G UI,PySem.W.mg_of X G UH,PySem.W.mg_of X G UG,PySem.W.mg_of X G UE,PySem.W.mg_of X G UD,PySem.W.mg_of X G UC,PySem.W.mg_of X G UB,⟨UA,Uz,Uy⟩,⟨_,AX JS⟩,Uw,Uv,⟨Uu,Ut,Us⟩,Ur,Uq,Up,u83,Uo,Um,Ul,Uk,Uj,Ui,Uh,Ug,Ue,Ud,bb,u0,JV.ns X G,u1,JU.ns X G⟩
 have jn:=qm (P:=l.prog) (w:=w) (base:=base) T aI
 have JB:=F2 T lz aI jn
 have pU:=uS T bx lz JB
 have vd:=tQ T cO bx pU
 have AG:=xX (P:=l.prog) (w:=w) (base:=base) T fD
 have xh:=uP T cZ aI jn
 have Az:=xS (P:=l.prog) (w:=w) (base:=base) T fq
 have zq:=DL (P:=l.prog) (w:=w) (base:=base) T cM
 have GX:=DK (P:=l.prog) (w:=w) (base:=base) T jD
 have CH:=z7 T gj jD GX
 have yl:=wg T dQ gj CH
 have vf:=tS (P:=l.prog) (w:=w) (base:=base) T cQ
 have ue:=r9 T cC cM zq
 have uI:=zU (P:=l.prog) (w:=w) (base:=base) T cA
 have pS:=uR (P:=l.prog) (w:=w) (base:=base) T bE
 have uJ:=zV (P:=l.prog) (w:=w) (base:=base) T bD
 have xm:=BL T cV aI jn
 have sR:=qW T c9 dQ yl cQ vf cO vd bx pU fD AG cZ xh fq Az cC ue cM zq
 have sS:=qX (P:=l.prog) (w:=w) (base:=base) T dh
 have vg:=tT T dR dh xx sS
 have xq:=uU T fC dR vg
 have AF:=xW T cK bD uJ bE pS
 have Cz:=zW (P:=l.prog) (w:=w) (base:=base) T gb
 have GU:=DH (P:=l.prog) (w:=w) (base:=base) T jC
 have uf:=se (P:=l.prog) (w:=w) (base:=base) T c5
 have AH:=xY (P:=l.prog) (w:=w) (base:=base) T fE
 have Ay:=xR T fk cA uI cK AF
 have CI:=z9 T gk fk Ay
 have Es:=BO T iC jC GU
 have sU:=qY T dj fC xq c5 uf fE AH gk CI gb Cz iC Es
 have yf:=vW (P:=l.prog) (w:=w) (base:=base) T dM
 have AE:=xV (P:=l.prog) (w:=w) (base:=base) T fB
 have yk:=we (P:=l.prog) (w:=w) (base:=base) T cW
 have xj:=uQ (P:=l.prog) (w:=w) (base:=base) T cJ
 have yj:=wc T dP fB AE cJ xj
 have xr:=BN T cu dj xy sU dM yf cW yk cV xm dP yj
 have iz:=BJ (P:=l.prog) (w:=w) (base:=base) T aB
 have CF:=z5 T gi aB iz
 have CB:=zY T gg aB iz
 have CD:=z0 T b8 aB iz gi CF
 have CA:=zX T gf aB iz gg CB b8 CD
 have AB:=xT T fu aB iz gf CA c9 xw sR
 have GV:=DI T fX aB iz
 have AD:=xU (P:=l.prog) (w:=w) (base:=base) T fz
 have yh:=vY (P:=l.prog) (w:=w) (base:=base) T aO
 have oK:=qA (d:=0) T aO yh
 have AA:=qA (d:=1) T aO oK
 have GW:=DJ T fY bD uJ bE pS
 have ve:=tR (P:=l.prog) (w:=w) (base:=base) T cP
 have yi:=vZ (P:=l.prog) (w:=w) (base:=base) T dO
 have Ep:=BI T iA cA uI fY GW
 have uK:=z6 T cB cu mJ xr
 have yg:=vX T dN aB iz cB uK aO oK
 have Er:=BK T iB aO oK iA Ep cV xm cP ve dO yi
 have CC:=zZ T gh fu AB fX GV fz AD aB iz cu mJ (aK.nv xr) iB Er aO AA cB uK dN yg
 have SK:=Ow T JH gh CC
 exact SK
theorem walk{l:PySem.W.OpenLaw}{q:Program}{loose:List Str}{XP:(Str->Option Value)->Heap->Prop}{YP:World->Heap->Prop}{d:DefRec}{K:Params->PySem.W.Frag}(hn:l.most=some 63)(hdf:d.params.defaults=[])
  (hY:∀(w:World) (h:Heap),YP w h->(K w.params).In h) (hY1:∀(w:World) (h:Heap),YP w h->h.get? (d8 (K w.params) "first_begin")=some (PySem.W.tabObj #[])) (hY2:∀(w:World) (h:Heap),YP w h->h.get? (d8 (K w.params) "state_behind")=some (PySem.W.tabObj #[])) (Qg:∀w:World,oR (K w.params) "first_begin" =true) (Qf:∀w:World,oR (K w.params) "state_behind" =true)
  (hne:∀w:World,Nat.beq (d8 (K w.params) "first_begin") (d8 (K w.params) "state_behind")=false) (hG:∀w:World,PySem.W.nsIn (K w.params) mainGlobals "GAP" =some none)
  (F:∀(w:World) (mg:Str->Option Value) (fa:Addr) (h:Heap),(K w.params).In h->h.Ns mainGlobals mg->mg d.name=some (.ref fa) →
   ∃fd:FuncData,(∀(s:Shared) (u:Value),BindsTo s fd ⟨[u],[]⟩ [("_law_script",u)])/\∀base:Heap,(K w.params).In base->base.Ns mainGlobals mg->Mx base mg->aK l.prog w (K w.params) mg base cD 12 fa fd PV (zE (K w.params) (qF (K w.params)))) :
  PySem.W.WalkO q loose XP YP l.row.toRowW d [] (λf vs=>PySem.call f vs) :=
 L2.Hr (n:=63) (k:=12) (x:= "_law_script") (nms:=["first_begin","state_behind"]) (CX:=λ_=>cD) (sp:=λw=>zE (K w.params) (qF (K w.params))) hn (by decide) hdf ⟨rfl,by decide,by decide⟩ hY (λw h Y=>zA (hY1 w h Y) (hY2 w h Y)) (λw=>zA (Qg w) (Qf w)) hG F
  (λw H a ns hl hT hS=>⟨a,ns,rfl,hS,hl,⟨.inl (hT _ List.mem_cons_self),.inl (hT _ (List.mem_cons_of_mem _ List.mem_cons_self)),Nat.ne_of_beq_eq_false (hne w)⟩,λH' Xg=>⟨rfl,zA (A5 Xg.a) (A5 Xg.b)⟩⟩) λ_ _ _ _ _ z=>z
end S4
namespace PySem.W.Fast
def tw423822321849865804:=0
def tw650262685081477073:=0
def tw7684108950017173315:=0
def tw6988656261545183820:=0
def tw13066605446089026009:=0
def tw11254453391914743234:=0
def tw612709272850874395:=0
def tw16947023944327920668:=0
def tw6065455426409985160:=0
def tw3698916813999683473:=0
def tw17215010014578002215:=0
def tw10001012202701724054:=0
def tw13104544149339467718:=0
def tw11904696131108254583:=0
def tw7720906768029486062:=0
def tw14467518575416202269:=0
def tw11229408547703754307:=0
def tw8592428192557301077:=0
def tw16616813387218522047:=0
def tw13892504832275705340:=0
def tw13033019705859052802:=0
def tw9786379685970944180:=0
def tw12307345315386548004:=0
def tw6435147265930920291:=0
def tw7519291256428749851:=0
def tw2802982705311697167:=0
def tw5036263230928549090:=0
def tw15397911151534051484:=0
def tw13791644441521164577:=0
def tw15659561295335605520:=0
def tw6568674291023854832:=0
def tw7649132427323429038:=0
def tw8057790177943530485:=0
def tw10749840765090858358:=0
def tw10764700554552272419:=0
def tw3849329436125557655:=0
def tw7629066995436776242:=0
def tw7665253980169823758:=0
def tw11073340856010753531:=0
def tw16650980883596068525:=0
def tw174385529401753672:=0
def tw1851888018206277735:=0
def tw6658771612304748998:=0
def tw2421186228492068408:=0
def tw13564389375237447374:=0
def tw1516571449602569444:=0
def tw2947450710318058716:=0
def tw11491226885385396248:=0
def tw10665119860309928100:=0
def tw6105579008487462304:=0
def tw10328943631733319567:=0
def tw569523484849894759:=0
def tw13514499320793250842:=0
def tw15336241885246306865:=0
def tw12663299309747395079:=0
def tw8480960925971071751:=0
def tw8230758199106294613:=0
def tw15849776452414422663:=0
def tw8905198433280342035:=0
def tw4788906368002619617:=0
def tw7472854922767016583:=0
def tw530174352381805740:=0
def tw6590906935872841292:=0
def tw8879773736936384151:=0
def tw12056498338298024312:=0
def tw15469273891831502966:=0
def tw14732272536738282758:=0
def tw10955415089952410535:=0
def tw7335040720704022273:=0
def tw2261606044146549933:=0
def tw6612531604451907408:=0
def tw7114646755799726634:=0
def tw16968054389873979990:=0
def tw7807648852970316454:=0
def tw6813937227674896293:=0
def tw13661789293715639852:=0
def tw8254579881599957537:=0
def tw959821006180192771:=0
def tw11238533513173053379:=0
def tw16382227518262030478:=0
def tw5165949268638063545:=0
def tw5700791894975137024:=0
def tw9461007743964995708:=0
def tw4955276654347879596:=0
def tw2143084025882118649:=0
def tw8750425503770664349:=0
def tw12013356541806577146:=0
def tw7740604583896644582:=0
def tw2901728324747114231:=0
def tw14175960268619862995:=0
def tw18162313334301368825:=0
def tw3105173648386959884:=0
def tw13207788635799563922:=0
def tw14941508830572908382:=0
def tw14557683426571663261:=0
def tw17460480169907151153:=0
def tw6639367589435683825:=0
def tw17554775911151752121:=0
def tw519738455715648516:=0
def tw17797171777877819977:=0
def tw8437162621072292855:=0
def tw540521082022617650:=0
def tw891472392043822672:=0
def tw18276610167756209431:=0
def tw15557567984097904760:=0
def tw219836591019158515:=0
def tw11342263073507513092:=0
def tw12710795768116282306:=0
def tw15918483104765941024:=0
def tw7523983660131833490:=0
def tw10064030098869154217:=0
def tw9388494741176451450:=0
def tw4022250496585811848:=0
def tw12036019531234556885:=0
def tw4320620396134678038:=0
def tw15444745774441312732:=0
def tw7179283648985703794:=0
def tw2980997546276096891:=0
def tw15604868125528507255:=0
def tw9307521690987494220:=0
def tw17207693819199265629:=0
def tw6308501720021093887:=0
def tw10850559954454536106:=0
def tw4662664872699648865:=0
def tw5415022287072671418:=0
def tw17716783023477532052:=0
def tw15963601244430018979:=0
def tw6724068905370540615:=0
def tw2189914163217463781:=0
def tw16505910507920757240:=0
def tw10276645654929310430:=0
def tw6367189240405392484:=0
def tw8898293753254989151:=0
def tw14024782956993523223:=0
def tw3424227656403199745:=0
def tw12593914716402278851:=0
def tw14048231865500489487:=0
def tw2584111482102151772:=0
def tw7675382320019646944:=0
def tw6378450251308352370:=0
def tw10361945166989841509:=0
def tw13293061526348315856:=0
def tw9867168732526247034:=0
def tw1359343934723268974:=0
def tw1973309171148012050:=0
def tw15766972794671337576:=0
def tw15129212517048327660:=0
def tw13189221780973675752:=0
def tw217886330893164992:=0
def tw12800559511329393932:=0
def tw16278269787864556821:=0
def tw791164045663898641:=0
def tw6127488466683636256:=0
def tw15980711610347311478:=0
def tw13206130509360031662:=0
def tw10185272368066966959:=0
def tw15064611040270312488:=0
def tw12998959337632901756:=0
def tw15158443848034332488:=0
def tw3425518312732553274:=0
def tw2451128864086821011:=0
def tw11662862668125840954:=0
def tw12792087651639849329:=0
def tw17804239892926732279:=0
def tw711352221202352437:=0
def tw4924913461198681531:=0
def tw8874502673915396097:=0
def tw10796580408006856950:=0
def tw8250824825300905875:=0
def tw11668044469030615868:=0
def tw5567684220344909842:=0
def tw17518000770163309490:=0
def tw2313721021936722083:=0
def tw18120390685423821602:=0
def tw5993454146754960586:=0
def tw13008930644599236617:=0
def tw636634678082139391:=0
def tw4777002926655804108:=0
def tw12618917788525293365:=0
def tw11501257324845106526:=0
def tw13994537515250704275:=0
def tw3117332109793683310:=0
def tw5402177190071167560:=0
def tw11672011357153483190:=0
def tw17789366928804417268:=0
def tw10026011779980792497:=0
def tw6193787706581941141:=0
def tw3875352513732484516:=0
def tw45992507234258697:=0
def tw14499397096855092476:=0
def tw4675244907039269151:=0
def tw8199353349281179882:=0
def tw7357898196185830612:=0
def tw3706607757540727269:=0
def tw17229756379765277573:=0
def tw9999978401841393416:=0
def tw8406104947805704698:=0
def tw14580335778523550818:=0
def tw8187787205005217408:=0
def tw15321092185280712712:=0
def tw18203961381796308450:=0
def tw140467973970130045:=0
def tw1193721998709842271:=0
def tw2957333673943893175:=0
def tw3665347841979174131:=0
def tw8239900221623255171:=0
def tw12033387918477371619:=0
def tw461790644217112965:=0
def tw15469408606050220191:=0
def tw1654712452939310474:=0
def tw7086510806579208601:=0
def tw15432494322045702399:=0
def tw9296182818817521575:=0
def tw11781908630507998187:=0
def tw6088040249112446856:=0
def tw8308999278067320488:=0
def tw10364907929328706030:=0
def tw14302920484751431322:=0
def tw1925097520680255799:=0
def tw13511531629134198447:=0
def tw5112607311046572726:=0
def tw3767759391080659319:=0
def tw11725395785782126212:=0
def tw15771067764605752412:=0
def tw10967855490993701836:=0
def tw17166911827265707067:=0
def tw11577881682853864193:=0
def tw3226317034039831378:=0
def tw16580468932359116453:=0
def tw13287791151292049260:=0
def tw13187809305044546779:=0
def tw1851855174948398338:=0
def tw15066893567079188879:=0
def tw4853908635878633756:=0
def tw2772907609643988515:=0
def tw4884026749005326442:=0
def tw11016368958109290771:=0
def tw10918414016998690260:=0
def tw12552041496952537660:=0
def tw8427016471198351677:=0
def tw11262334138225466665:=0
def tw5662460092332979784:=0
def tw17975139776807414900:=0
def tw14880294438893989574:=0
def tw16294081885667140447:=0
def tw18442599102736081686:=0
def tw340078149053207271:=0
def tw16094358988517787108:=0
def tw5704273931440650989:=0
def tw15137393588074128377:=0
def tw7616046649595759863:=0
def tw12953606715212936432:=0
def tw17311754186522545585:=0
def tw8833032759503529469:=0
def tw5804096900573801058:=0
def tw102689065901998877:=0
def tw2925008692980777608:=0
def tw17432516751133928535:=0
def tw13719855561809739713:=0
def tw4935631545312407657:=0
def tw5906800414596510079:=0
def tw7704862234061604688:=0
def tw17371188728837961096:=0
def tw10765862204912066871:=0
def tw15468118159991825634:=0
def tw1512967124680912273:=0
def tw9344187116031665300:=0
def tw3902266616817174963:=0
def tw14747991770653586926:=0
def tw13525306274557660105:=0
def tw16254284439998945482:=0
def tw10157965710736051096:=0
def tw14264019817162261010:=0
def tw17163078530441009528:=0
def tw6159677547050893265:=0
def tw121730427658531824:=0
def tw17665633953795593159:=0
def tw7561679990402461468:=0
def tw4087570604721977233:=0
def tw4100774050872572391:=0
def tw4805770080595963149:=0
def tw12159179074023473786:=0
def tw15106738712017992109:=0
def tw2329974435692337071:=0
def tw2879935921005590270:=0
def tw14444850121581285284:=0
def tw9881953494915258072:=0
def tw8245019634735040317:=0
def tw5391952994121577096:=0
def tw7975384854229953981:=0
def tw15872434471747397229:=0
def tw2324759017829216765:=0
def tw13702622915247241741:=0
def tw1742512720587126490:=0
def tw14917193913845163357:=0
def tw12688363601107773368:=0
def tw9258585603068739390:=0
def tw3851240300336718228:=0
def tw7114777199879351042:=0
def tw6688312524909181681:=0
def tw3237652276877757813:=0
def tw5046976578944398306:=0
def tw9912812230581138441:=0
def tw6138228146046243085:=0
def tw11968321451915627397:=0
def tw9268142974772501351:=0
def tw2029687593149247538:=0
def tw9988887336466932217:=0
def tw15733994690045209784:=0
def tw2662113351396931282:=0
def tw1944901752058182598:=0
def tw17565873343219524440:=0
def tw14063438302500185521:=0
def tw6177215929099965246:=0
def tw1792877285522009438:=0
def tw11083239197068080867:=0
def tw5274502721468992702:=0
def tw14791448727225999799:=0
def tw17558713599578939548:=0
def tw5175428713784991724:=0
def tw8124773686163121041:=0
def tw13912917344823326448:=0
def tw11504101992688816993:=0
def tw9811756791264417679:=0
def tw4335836871731733383:=0
def tw10453118536213511001:=0
def tw15174922714339252921:=0
def tw1454431459925832689:=0
def tw2178435454116630285:=0
def tw8519837739742600944:=0
def tw15588959639112807193:=0
def tw8655001560034795727:=0
def tw17843824808703894958:=0
def tw17091401359301262168:=0
def tw13555558240789693437:=0
def tw7181966807434809689:=0
def tw3205480105945260113:=0
def tw17006299179158773464:=0
def tw1829470945295692251:=0
def tw7424403306108257856:=0
def tw18336421766268323752:=0
def tw16711176637693517558:=0
def tw4384665479314989041:=0
def tw12244110070795425320:=0
def tw10062552617967362714:=0
def tw113467732979194718:=0
def tw8214899191080707696:=0
def tw4138786880818522393:=0
def tw14918630793692173030:=0
def tw8041548934926929656:=0
def tw17428888727623807683:=0
def tw14856488281407874563:=0
def tw2814307419115787354:=0
def tw4501734380829400865:=0
def tw11014441642952794925:=0
def tw5297149862696370325:=0
def tw9617124068111558396:=0
def tw12934198679255875431:=0
def tw4438527559207709958:=0
def tw12779624669148358542:=0
def tw12143049132217028274:=0
def tw1143875903910901214:=0
def tw18056967063798106022:=0
def tw8345630484801360913:=0
def tw3459165408196545887:=0
def tw3623033007853591842:=0
def tw16546692278430479727:=0
def tw8880305499629785089:=0
def tw14821399781940422920:=0
def tw16831817937464125424:=0
def tw7133891342168979794:=0
def tw1659396087500535882:=0
def tw17794338142365752712:=0
def tw2099148875994561026:=0
def tw14385951131210576361:=0
def tw7948723089759738339:=0
def tw9412073805873668078:=0
def tw17379046863646962457:=0
def tw3896486338233941885:=0
def tw15695937786312416313:=0
def tw5277456827383325206:=0
def tw10804300080883564303:=0
def tw6505357715723648830:=0
def tw13329079882775545115:=0
def tw14827364654944326730:=0
def tw922233287743096498:=0
def tw3008664866593253791:=0
def tw7105158299774884789:=0
def tw13485466667288841148:=0
def tw2376240345766542906:=0
def tw8461601173850198143:=0
def tw1864898036685475709:=0
def tw12789898039335073085:=0
def tw10985673307118137138:=0
def tw7941813896345374000:=0
def tw16416246700699510565:=0
def tw12930806144629958768:=0
def tw1322754242855731275:=0
def tw9647114344423901145:=0
def tw12846094087143933311:=0
def tw4368984334230592508:=0
def tw9757452003036533629:=0
def tw6287192646656733087:=0
def tw8105607542585367351:=0
def tw1207317965459078653:=0
def tw7919021385850113957:=0
def tw12582947827302416481:=0
def tw9529834320599489004:=0
def tw9040521759722916535:=0
def tw12542079710788183821:=0
def tw12651311275053730585:=0
def tw17720484988806715021:=0
def tw15925863991800743338:=0
def tw12039442927653120282:=0
def tw14100571640487980751:=0
def tw9595109931150112805:=0
def tw1088523886983638547:=0
def tw4227911664301423343:=0
def tw104670316968082140:=0
def tw12438596604130258420:=0
def tw11529838344204772665:=0
def tw10491364621042151411:=0
def tw9659109295439635203:=0
def tw3773201921651694328:=0
def tw392880489276150952:=0
def tw13191976465395566969:=0
def tw7942493110707087620:=0
def tw8385574472689202746:=0
def tw2766131817411969612:=0
def tw10097280134150278382:=0
def tw6012581780996657374:=0
def tw669538620674603587:=0
def tw14062571237590322717:=0
def tw11648403642795408455:=0
def tw13170113894244852596:=0
def tw6884593914437995028:=0
def tw8148487948468811845:=0
def tw67699547758031537:=0
def tw1922024328607897746:=0
def tw3560610185406946761:=0
def tw9788358482971044738:=0
def tw793187009662125975:=0
def tw8740534587549492907:=0
def tw8057154131528781899:=0
def tw15470339903831901753:=0
def tw9379268337253767198:=0
def tw11449543762671540985:=0
def tw3520796368375523521:=0
def tw11868421731393932432:=0
def tw15336431113345259878:=0
def tw6741795874829678008:=0
def tw1725122940233387683:=0
def tw2967994171397059094:=0
def tw3770609259006249841:=0
def tw2130749233598479479:=0
def tw12412788138377367096:=0
def tw8757351492203973681:=0
def tw16851769392029053270:=0
def tw11189081556127148777:=0
def tw3929430054533605629:=0
def tw3304045530747660126:=0
def tw6384941400432248922:=0
def tw11516137800966964162:=0
def tw5505194403490260829:=0
def tw3557405516152982644:=0
def tw14228019600239747375:=0
def tw8588051162205590843:=0
def tw2936129485454142956:=0
def tw3399812823049730884:=0
def tw11726267739342165705:=0
def tw15915229843847249366:=0
def tw10108319729797035145:=0
def tw14529467583105934052:=0
def tw12279411237664435703:=0
def tw4624753371117947138:=0
def tw187711567697692990:=0
def tw3841915401006491433:=0
def tw7154863427651584103:=0
def tw3293045152498949177:=0
def tw16136141087863946876:=0
def tw1764729774002863711:=0
def tw4809508618628345540:=0
def tw17088829498621678665:=0
def tw2818879225364608847:=0
def tw13955324809259500801:=0
def tw14386921343935972689:=0
def tw3280898865948711445:=0
def tw1118971611372344384:=0
def tw18165712676708663155:=0
def tw15211640412821515964:=0
def tw12839587584827683246:=0
def tw13268998423275052770:=0
def tw13971878489616233444:=0
def tw6904032554844562880:=0
def tw2827153335390881047:=0
def tw2635492811854370091:=0
def tw6568871876561227049:=0
def tw7301286724363806769:=0
def tw14916004345219649001:=0
def tw12161916354671521464:=0
def tw9584127275431245926:=0
def tw2476602324539711774:=0
def tw6612522924668199004:=0
def tw3776348289763381240:=0
def tw12297735654615831606:=0
def tw11786635604478815856:=0
def tw1962232354742333528:=0
def tw10241050693796588065:=0
def tw120450225406308151:=0
def tw17555364410704458136:=0
def tw7372988173463706998:=0
def tw17246317574663671218:=0
def tw3445390677305742070:=0
def tw8672673861450660791:=0
def tw9448679185195844134:=0
def tw8535993046109975722:=0
def tw12265840739162354873:=0
def tw6480873881201248960:=0
def tw838490285543644073:=0
def tw4551524460082577118:=0
def tw7619393102156690741:=0
def tw4286384498378393929:=0
def tw1965986923904109119:=0
def tw13963896021991899085:=0
def tw13787372095636848839:=0
def tw9583346229797613724:=0
def tw6968063361071913176:=0
def tw16026977680704479997:=0
def tw15835985193216374545:=0
def tw4256551718728003828:=0
def tw8655143300732878972:=0
def tw14164785568172792081:=0
def tw6581102156926061521:=0
def tw993642249062736138:=0
def tw13102517210586824602:=0
def tw2673901448623270492:=0
def tw17514400586684146908:=0
def tw8399223268537466590:=0
def tw10595213269922084859:=0
def tw14841991128191577006:=0
def tw610363079341618228:=0
def tw14055882410375404599:=0
def tw4737726063479444687:=0
def tw4823782253613951835:=0
def tw3576645111106638731:=0
def tw13008771219980695424:=0
def tw15921767265238951468:=0
def tw3994661968840900101:=0
def tw11473105203349988029:=0
def tw11617788614668651053:=0
def tw1879127337341258326:=0
def tw2106619806541449361:=0
def tw4849252503956894345:=0
def tw1067347763210897995:=0
def tw13929737767237559397:=0
end PySem.W.Fast
open PySem PySem.W PyProof.Rows
set_option maxRecDepth 100000 in
set_option maxHeartbeats 0 in
theorem PySem.Challenge.cw_gapweave_k20_cheapest_told_holds : PySem.Challenge.rw_gapweave_k20_cheapest_told.Holds := by
 w_on;o_law;k_head;(case hw=>w_witness2)
 k_fill
 refine S4.walk (l:=PySem.Challenge.rw_gapweave_k20_cheapest_told) rfl rfl (λw h Y=>PySem.W.km_in_of Y) (λw h Y=>PySem.W.km_tabs_of Y _ (List.elem_iff.mp (by kernel_rfl))) (λw h Y=>PySem.W.km_tabs_of Y _ (List.elem_iff.mp (by kernel_rfl))) (λw=>by kernel_rfl) (λw=>by kernel_rfl) (λw=>by kernel_rfl) (λw=>by kernel_rfl) ?F
 case F =>
  intro w mg fa h KX G hmg
  refine' S4.all_mk KX G hmg ?u0 ?u1 ?u2 ?u3 ?u4 ?u5 ?u6 ?u7 ?u8 ?u9 ?VA ?Vz ?Vy ?Vx ?Vw ?Vv ?Vu ?u17 ?Vt ?Vs ?Vr ?Vq ?Vp ?Vo ?Vn ?Vm ?Vl ?Vk ?Vj ?Vi ?Vh ?Vg ?Vf ?Ve ?Vd ?Vc ?Vb ?Va ?u38 ?U9 ?U8 ?U7 ?U6 ?U5 ?U4 ?U3 ?U1 ?U0 ?UZ ?UY ?UX ?UW ?UU ?UT ?US ?UR ?UQ ?UP ?UO ?UN ?UM ?UL ?UK ?UJ ?UI ?UH ?UG ?UE ?UD ?UC ?UB ?UA ?Uz ?Uy ?Ux ?Uw ?Uv ?Uu ?Ut ?Us ?Ur ?Uq ?Up ?u83 ?Uo ?Um ?Ul ?Uk ?Uj ?Ui ?Uh ?Ug ?Ue ?Ud ?XZ ?Uc ?Ub ?Ua ?T9 ?u99 ?N2 ?N1 ?NZ ?NY ?NX ?NW ?NV ?NU ?NT ?NS ?NR ?NQ ?NP ?NO ?NN ?NL ?NJ ?NI ?NH ?NG ?NF ?NC ?NB ?Nz ?Ny ?Nx ?Nv ?Nu ?Nr ?Nq ?Np ?Nn ?Nm ?Nl ?Nk ?Nj ?Ni ?Nh ?JV ?JU ?Ng ?u141 ?Nf ?Nd ?Nc ?Nb ?Na ?M8 ?M7 ?M6 ?M5 ?M4 ?M3 ?M1 ?M0 ?MZ ?MY ?MX ?MW ?JT ?MV ?MU ?MT ?JS ?MS ?MR ?MQ ?MP ?MO ?MN ?MM ?ML ?MK ?MJ ?MI ?MH ?MG ?MF ?ME ?MD
  case u2|u3|u4|u5|u6|u7|u8|u9|VA|Vz|Vy|Vx|Vw|Vv|Vu|Vl|Vk|Vj|Vi|Vh|Vg|Vf|Vb|Va|U9|U8|U7|U6|U5|U4|U3|U1|U0|UZ|UY|UX|UW|UU|UT|US|UR|UQ|UP|UO|UN|UM|UL|UK|UJ|UI|UH|UG|UE|UD|UC|UB|UA|Uy|Ux|Ur|Uq|Up|XZ|Uc|Ub|Ua|T9|NP|NO|NN|NL|NJ|Nn|Nm|Nl|Nk|Nj|JT|MV|MU|MT|MS|MR|MQ|MP|MO|MN|MM|ML|MK|MJ|MI|MH|MG|MF|ME|MD=>k_is
  case u0|u1|Uz|Uu|Ut|Us|JS=>kernel_rfl
  case u17|Vt|Vs|Vr|Vq|Vp|Vo|Vn|Vm|Ve|Vd|Vc|Uw|Uv=>(show PySem.W.findIn _ _ _=_;k_is)
  case u38=>k_exc
  case u83|Uo|Um|Ul|Uk|Uj|Ui|Uh|Ug|Ue|Ud=>kit_is
  case u99|N2|N1|NZ|NY|NX|NW|NV|NU|NT|NS|NR|NQ|NI|NH|NG|NF|NC|NB|Nz|Ny|Nx|Nv|Nu|Nr|Nq|Np|Ni|Nh|JV|JU|Ng|Nf|Nd|Nc|Nb|Na|M8|M7|M6|M5|M4|M3|M1|M0|MZ|MY|MX|MW=>(refine' S4.j4.mk ?a ?l ?c ?k;(case a=>k_is);(case l=>k_is);(case c=>k_is);(case k=>k_is))
  case u141=>(refine' S4.S7.mk ?a ?l ?c ?k ?e;(case a=>k_is);(case l=>k_is);(case c=>k_is);(case k=>k_is);(case e=>k_is))
