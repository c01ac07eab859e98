import PyProof.Rows.All
import Wide.All
import OpenK.AllK
import Wide.FinOn
import Lean
import PyProof.EqAt
import PyProof.EqKinds
import PyProof.TupleCall
import PyProof.NeKinds
import PyProof.Rows.StrStrike
import PyProof.SumWalkG
import PyProof.StrCalls2
import PyProof.Rows.StrItems
import PyProof.Rows.StrJoin2
import PyProof.Truth
import PyProof.DictRoadsH
import PyProof.DictKeyH
import KE.KDictList
import KE.KMinKey
import KE.KLam
import KE.KNestM
import PyProof.MinMaxWalk
import PyProof.WalkInts
import KE.KRevIter
import PySem.Challenge.RW_gapweave_k21_paper_walked
set_option Elab.async false
set_option linter.all false
set_option maxRecDepth 100000
namespace TK
open PySem
theorem qL{M:Model}{Γ:Ctx}{p:Pos}{t:Sem PySem.Fin}{fs:List Frame}{s s':Shared}{e:End}(h:Runs M Γ p t fs s e s'):s.toks<=s'.toks:=by
 induction h with
 |fresh _ ih=>exact Nat.le_trans (Nat.le_succ _) ih
 |call _ _ a b=>exact Nat.le_trans a b
 |segRet _ _ a b=>exact Nat.le_trans a b
 |segGen _ _ a b=>exact Nat.le_trans a b
 |resumeFresh _ _ _ _ a b=>exact Nat.le_trans a b
 |resumeSuspended _ _ _ _ a b=>exact Nat.le_trans a b
 |segSuspGen _ _ _ _ a b=>exact Nat.le_trans a b
 |_=>first|exact Nat.le_refl _|assumption
theorem Ec{M:Model}{Γ:Ctx}{p:Pos}{g:Nat}{r:Resume}{s s':Shared}{res:GenResult}(h:Wakes M Γ p g r s res s'):s.toks<=s'.toks:=by
 unfold Wakes at h
 split at h
 ·exact h.elim
 ·split at h
  ·obtain⟨e,s1,a,_,_,rfl⟩:=h;have z:=qL a;exact z
  ·obtain⟨_,rfl⟩:=h;exact Nat.le_refl _
  ·obtain⟨_,rfl⟩:=h;exact Nat.le_refl _
 ·obtain⟨e,s1,a,_,_,rfl⟩:=h;have z:=qL a;exact z
 ·obtain⟨_,rfl⟩:=h;exact Nat.le_refl _
 ·obtain⟨_,rfl⟩:=h;exact Nat.le_refl _
theorem Rn{α:Type}{M:Model}{Γ:Ctx}{n:Nat}(t:Sem α):∀{Q:α->Pos->Shared->Prop} {E:Value->Pos->Shared->Prop} {p:Pos} {s:Shared},n<=s.toks →
  Sem.wp M Γ t (λa p s'=>n<=s'.toks->Q a p s') (λe p s'=>n<=s'.toks->E e p s') p s->Sem.wp M Γ t Q E p s:=by
 induction t with
 |pure a=>intro Q E p s hn h;exact h hn
 |raise e=>intro Q E p s hn h;exact h hn
 |unsupported w=>intro Q E p s hn h;exact h
 |finish e=>intro Q E p s hn h;exact h
 |rule t k ih=>intro Q E p s hn h;exact ih () hn h
 | «at» p' k ih=>intro Q E p s hn h;exact ih () hn h
 |load a q k ih=>intro Q E p s hn h;obtain⟨o,e,h⟩:=h;exact⟨o,e,ih o hn h⟩
 |update a q f k ih=>intro Q E p s hn h;exact⟨h.1,ih () hn h.2⟩
 |alloc o k ih=>intro Q E p s hn h;exact ih _ hn h
 |loadIfAlive a k ih=>intro Q E p s hn h;exact ih _ hn h
 |point l k ih=>intro Q E p s hn h;exact ih () hn h
 |register a k ih=>intro Q E p s hn h;exact h
 |fresh k ih=>intro Q E p s hn h;exact ih _ (Nat.le_succ_of_le hn) h
 |ask k ih=>intro Q E p s hn h;exact ih _ hn h
 |choose src m k ih=>intro Q E p s hn h;exact⟨h.1,ih _ hn h.2⟩
 |os q l k ih=>intro Q E p s hn h;exact ih _ hn h
 |call c hd g l k ih=>intro Q E p s hn h;obtain⟨r,s1,a,h⟩:=h;exact⟨r,s1,a,ih r (Nat.le_trans hn (qL a)) h⟩
 |handled own k ih=>intro Q E p s hn h;exact ih _ hn h
 |newGen c k ih=>intro Q E p s hn h;exact ih _ hn h
 |genState g k ih=>intro Q E p s hn h;obtain⟨st,e,h⟩:=h;exact⟨st,e,ih _ hn h⟩
 |resume g r l k ih=>intro Q E p s hn h;obtain⟨res,s1,a,h⟩:=h;exact⟨res,s1,a,ih _ (Nat.le_trans hn (Ec a)) h⟩
 |yield v g l k ih=>intro Q E p s hn h;exact h
 |stack k ih=>intro Q E p s hn h;exact ih _ hn h
 |fork c k ih=>intro Q E p s hn h;exact h
 |thread k ih=>intro Q E p s hn h;exact ih _ hn h
 |await a tk tm l k ih=>intro Q E p s hn h;exact h
theorem bY{α:Type}{M:Model}{A:Around}{t:Sem α}{Q:α->Shared->Prop}{E:Value->Shared->Prop}{s:Shared}{n:Nat}(hn:n<=s.toks)(h:wpAny M A t (λa s'=>n<=s'.toks->Q a s') (λe s'=>n<=s'.toks->E e s') s):wpAny M A t Q E s :=
 λΓ p hΓ=>Rn t hn (h Γ p hΓ)
theorem Ff{M:Model}{A:Around}{c:Code}{R:Result->Shared->Prop}{s:Shared}{n:Nat}(hn:n<=s.toks)(h:codeAny M A c (λr s'=>n<=s'.toks->R r s') s):codeAny M A c R s:=λΓ p hc hb=>by
 obtain⟨r,s1,a,h⟩:=h Γ p hc hb
 exact⟨r,s1,a,h (Nat.le_trans hn (qL a))⟩
end TK
set_option Elab.async false
set_option linter.all false
set_option maxRecDepth 100000
namespace L2
open PySem PySem.Spec PyProof.Rows
abbrev Key:=Sum Int Str
def zV:Key->Value->Bool
 | .inl k,v=>Value.isInt k v
 | .inr x,v=>Value.isStrOf x v
def Xs(w:World):Key->Int
 | .inl k=>hashInt k
 | .inr x=>hashStr w x
theorem fC:∀{k:Key} {v:Value},zV k v=true->(∃i t,k=Sum.inl i/\v=Value.int i t)\/(∃x t,k=Sum.inr x/\v=Value.str x t)
 | .inl i,v,h=>by
  obtain⟨t,e⟩:=Value.isInt_shape (k:=i) (v:=v) h
  exact .inl ⟨i,t,rfl,e⟩
 | .inr x,v,h=>by
  obtain⟨t,e⟩:=Value.isStrOf_shape (x:=x) (v:=v) h
  exact .inr ⟨x,t,rfl,e⟩
theorem Hw(i:Int)(t:Tok):zV (.inl i) (.int i t)=true:=by simp[zV,Value.isInt]
theorem Hv(x:Str)(t:Tok):zV (.inr x) (.str x t)=true:=by simp[zV,Value.isStrOf]
theorem Qc(a b:Int):decide ((Sum.inl a:Key)=Sum.inl b)=(a==b):=by
 by_cases e:a=b
 ·subst e;simp
 ·have h:¬(Sum.inl a:Key)=Sum.inl b:=λq=>e (Sum.inl.inj q)
  rw[decide_eq_false h]
  exact(beq_eq_false_iff_ne.mpr e).symm
theorem P8(a b:Str):decide ((Sum.inr a:Key)=Sum.inr b)=decide (a=b):=by
 by_cases e:a=b
 ·subst e;simp
 ·have h:¬(Sum.inr a:Key)=Sum.inr b:=λq=>e (Sum.inr.inj q)
  rw[decide_eq_false h,decide_eq_false e]
theorem Qa(a:Int)(b:Str):decide ((Sum.inl a:Key)=Sum.inr b)=false:=decide_eq_false (λq=>nomatch q)
theorem P9(a:Str)(b:Int):decide ((Sum.inr a:Key)=Sum.inl b)=false:=decide_eq_false (λq=>nomatch q)
def bW(prog:Program)(w:World):PySem.KeyKind prog w Key where
 is:=zV
 hash:=Xs w
 inj:=λv a b ha hb=>by
  rcases fC ha with⟨i,t,rfl,rfl⟩|⟨x,t,rfl,rfl⟩
  ·rcases fC hb with⟨j,u,rfl,e⟩|⟨y,u,rfl,e⟩
   ·injection e with e1 _;rw[e1]
   ·exact nomatch e
  ·rcases fC hb with⟨j,u,rfl,e⟩|⟨y,u,rfl,e⟩
   ·exact nomatch e
   ·injection e with e1 _;rw[e1]
 byValue:=λk v h=>by
  rcases fC h with⟨i,t,rfl,rfl⟩|⟨x,t,rfl,rfl⟩<;>rfl
 pyHash:=λhv h=>by
  rcases fC hv with⟨i,t,rfl,rfl⟩|⟨x,t,rfl,rfl⟩
  ·exact wpAny_pyHash_int h
  ·exact wpAny_pyHash_str h
 eqBool:=λhu hv h=>by
  rcases fC hu with⟨i,t,rfl,rfl⟩|⟨x,t,rfl,rfl⟩
  ·rcases fC hv with⟨j,u,rfl,rfl⟩|⟨y,u,rfl,rfl⟩
   ·rw[Qc]at h;exact wpAny_eqBool_int h
   ·rw[Qa]at h;exact SeqAt.EqAt.int_str i t y u _ _ _ _ h
  ·rcases fC hv with⟨j,u,rfl,rfl⟩|⟨y,u,rfl,rfl⟩
   ·rw[P9]at h;exact SeqAt.EqAt.str_int x t j u _ _ _ _ h
   ·rw[P8]at h;exact wpAny_eqBool_str h
 «strs» :=λk x t v h=>by
  rcases fC h with⟨i,u,rfl,e⟩|⟨y,u,rfl,e⟩
  ·exact nomatch e
  ·injection e with e1 _
   subst e1
   cases v<;>rfl
theorem C8(prog:Program)(w:World)(i:Int)(t:Tok):(bW prog w).is (.inl i) (.int i t)=true:=Hw i t
theorem qf(prog:Program)(w:World)(x:Str)(t:Tok):(bW prog w).is (.inr x) (.str x t)=true:=Hv x t
end L2
namespace L2
open PySem PySem.Spec PyProof.Rows
inductive V where
 |iP|bl (b:Bool)|int (i:Int)|str (x:Str)|GD (b:Array UInt8)|Qy (b:UInt64)|ref (a:Addr)|ty (n:String)
 deriving DecidableEq
def RelV:V->Value->Prop
 | .iP,u=>u=Value.none
 | .bl b,u=>u=Value.bool b
 | .int i,u=>∃t,u=Value.int i t
 | .str x,u=>∃t,u=Value.str x t
 | .GD b,u=>∃t,u=Value.bytes b t
 | .Qy b,u=>∃t,u=Value.float b t
 | .ref a,u=>u=Value.ref a
 | .ty n,u=>u=Value.type n
abbrev Vals:List V->List Value->Prop:=Paired RelV
theorem Vals.length{xs:List V}{us:List Value}(r:Vals xs us):xs.length=us.length:=Paired.length r
theorem Vals.get:∀{xs:List V} {us:List Value} {i:Nat} {x:V},Vals xs us->xs[i]? =some x->∃u,us[i]? =some u/\RelV x u
 |_,_,_,_,.nil,e=>by simp at e
 |_,_,0,_,.cons r _,e=>by simp at e;subst e;exact⟨_,rfl,r⟩
 |_,_,i+1,x,.cons _ t,e=>by
  obtain⟨u,h1,h2⟩:=Vals.get (i:=i) (x:=x) t (by simpa using e)
  exact⟨u,by simpa using h1,h2⟩
theorem Vals.set{x:V}{u:Value}(r:RelV x u):∀{xs:List V} {us:List Value} (i:Nat),Vals xs us->Vals (xs.set i x) (us.set i u)
 |_,_,_,.nil=>.nil
 |_,_,0,.cons _ t=>.cons r t
 |_,_,i+1,.cons q t=>.cons q (Vals.set r i t)
theorem Vals.append:∀{xs ys:List V} {us ws:List Value},Vals xs us->Vals ys ws->Vals (xs++ys) (us++ws)
 |_,_,_,_,.nil,s=>s
 |_,_,_,_,.cons r t,s=>.cons r (Vals.append t s)
theorem Vals.none_of:∀{xs:List V} {us:List Value} {i:Nat},Vals xs us->xs[i]? =none->us[i]? =none:=λ{xs us i} r e=>by
 have h1:=r.length
 have h2:xs.length<=i:=List.getElem?_eq_none_iff.mp e
 exact List.getElem?_eq_none_iff.mpr (by omega)
def lP:Option V->Option Value->Prop
 |some v,some u=>RelV v u
 |none,none=>True
 |_,_=>False
def KV{κ:Type}:List (κ×V)->List (κ×Value)->Prop:=Paired λ(p:κ×V) (q:κ×Value)=>p.1=q.1/\RelV p.2 q.2
def kV:Key->V
 | .inl i=>.int i
 | .inr x=>.str x
inductive HO where
 |lst (xs:List V)
 |tup (xs:List V)
 |dK (kvs:List (Key×V))|dT (kvs:List (List Key×V))
 |set (S:Int->Bool) (n:Nat)
 |ins (C dx:Addr) (fs:List (Str×V))
 |own (x:Addr)
 |xd (fs:List (Str×V))
 |met (f x:Addr)
 |UH (lo hi:Int)
 |su (o:Obj) (u:HO)
 |MS (ps:Array Value)
 |ext (φ:Heap->Prop)
abbrev Hp:=Addr->Option HO
def upd(H:Hp)(a:Addr)(o:HO):Hp:=λb=>if b=a then some o else H b
theorem ah{H:Hp}{a:Addr}{o:HO}:upd H a o a=some o:=by unfold upd;rw[if_pos rfl]
theorem aq{H:Hp}{a b:Addr}{o:HO}(h:b≠a):upd H a o b=H b:=by unfold upd;rw[if_neg h]
theorem qb{H:Hp}{a b:Addr}{o u:HO}(h:H a=some o)(h':H b=some u)(d:o≠u):a≠b:=by
 intro e;subst e;rw[h]at h';exact d (Option.some.inj h')
theorem aM{H:Hp}{a b:Addr}{o:HO}(h:H a=some o)(h':H b=none):a≠b:=by
 intro e;subst e;rw[h]at h';cases h'
section
variable(P:Program)(w:World)
def bI(H:Hp)(h:Heap)(a:Addr):HO->Prop
 | .lst xs=>xs.length<=sizeLine/\∃(its:List Value) (n:Nat),Vals xs its/\h.get? a=some { cls:=.type "list",data:=.seq its.toArray n }
 | .tup xs=>xs.length<=sizeLine/\∃its:List Value,Vals xs its/\IsTup h a its.toArray
 | .dK kvs=>kvs.length<=sizeLine/\(a==sysModules)=false/\∃vs,KV kvs vs/\h.DictOf (bW P w) a vs
 | .dT kvs=>kvs.length<=sizeLine/\(a==sysModules)=false/\∃xs:List (List Key×Addr×Value),
   Paired (λ(p:List Key×V) (q:List Key×Addr×Value)=>p.1=q.1/\H q.2.1=some (.tup (p.1.map kV))/\RelV p.2 q.2.2) kvs xs ∧
   ∃o es ep,h.get? a=some o/\o.ExactDict/\o.data= .dict es ep/\es.toList=xs.map (entryOfKey (tupleKind (bW P w)))/\(xs.map (·.1)).Nodup
 | .set S n=>h.SetOf (intKind P w) a S n
 | .ins C dx fs=>H dx=some (.own a)/\fs.length<=1000/\dx≠a/\h.get? a=some (PySem.W.instObj C dx) ∧
   ∃mA,h.Ns1 dx mA/\(∀f,lP (fs.lookup f) (mA f))/\PySem.Within mA (fs.map (·.1))
 | .own _=>∃o,h.get? a=some o
 | .xd fs=>∃mA,h.Ns1 a mA/\∀f,lP (fs.lookup f) (mA f)
 | .UH lo hi=>∃t u v,h.get? a=some { cls:=.type "range",data:=.fields #[.int lo t,.int hi u,.int 1 v] }
 | .su o u=>h.get? a=some o/\bI H h a u
 | .MS ps=>h.get? a=some { cls:=.none,data:=.fields ps }
 | .met f x=>h.get? a=some (PySem.W.methodObj (.ref f) (.ref x))
 | .ext φ=>φ h/\(∃o,h.get? a=some o)/\∀h1 h2:Heap,φ h1->(∀o,h1.get? a=some o->h2.get? a=some o)->φ h2
def lS(H:Hp)(h:Heap):Prop:=∀a o,H a=some o->bI P w H h a o
end
section
variable{P:Program}{w:World}{H H':Hp}{h h':Heap}{a:Addr}{o:HO}
theorem bI.lt(x:bI P w H h a o):a<h.objs.size:=by
 cases o with
 |lst xs=>obtain⟨_,_,_,_,e⟩:=x;exact Heap.lt_size e
 |tup xs=>obtain⟨_,_,_,p⟩:=x;exact p.lt
 |dK kvs=>obtain⟨_,_,_,_,o,_,_,e,_⟩:=x;exact Heap.lt_size e
 |dT kvs=>obtain⟨_,_,_,_,o,_,_,e,_⟩:=x;exact Heap.lt_size e
 |set S n=>obtain⟨o,_,_,_,e,_⟩:=x;exact Heap.lt_size e
 |ins C dx fs=>obtain⟨_,_,_,e,_⟩:=x;exact Heap.lt_size e
 |own y=>obtain⟨_,e⟩:=x;exact Heap.lt_size e
 |xd fs=>obtain⟨_,⟨_,_,_,e,_⟩,_⟩:=x;exact Heap.lt_size e
 |UH lo hi=>obtain⟨_,_,_,e⟩:=x;exact Heap.lt_size e
 |su ob u=>obtain⟨e,_⟩:=x;exact Heap.lt_size e
 |MS ps=>exact Heap.lt_size (show h.get? a=some _ from x)
 |met f y=>exact Heap.lt_size (show h.get? a=some _ from x)
 |ext φ=>obtain⟨_,⟨_,e⟩,_⟩:=x;exact Heap.lt_size e
theorem Paired.iS{α β:Type}{F G:α->β->Prop}:∀{l₁:List α} {l₂:List β},Paired F l₁ l₂->(∀a b,F a b->G a b)->Paired G l₁ l₂
 |_,_,.nil,_=>.nil
 |_,_,.cons r t,f=>.cons (f _ _ r) (Paired.iS t f)
theorem bI.stay(x:bI P w H h a o)(k:∀b u,(b=a\/H b=some (.own a))->h.get? b=some u->h'.get? b=some u)
  (ho:∀b,H b=some (.own a)->H' b=some (.own a)) (ht:∀b xs,H b=some (.tup xs)->H' b=some (.tup xs)):bI P w H' h' a o:=by
 induction o with
 |lst xs=>obtain⟨z,its,n,r,e⟩:=x;exact⟨z,its,n,r,k _ _ (.inl rfl) e⟩
 |tup xs=>obtain⟨z,its,r,ob,e,c⟩:=x;exact⟨z,its,r,ob,k _ _ (.inl rfl) e,c⟩
 |dK kvs=>obtain⟨z,y,vs,r,ob,es,ep,e,c⟩:=x;exact⟨z,y,vs,r,ob,es,ep,k _ _ (.inl rfl) e,c⟩
 |dT kvs =>
  obtain⟨z,y,xs,r,ob,es,ep,e,c⟩:=x
  exact⟨z,y,xs,Paired.iS r λp q z=>⟨z.1,ht _ _ z.2.1,z.2.2⟩,ob,es,ep,k _ _ (.inl rfl) e,c⟩
 |set S n=>obtain⟨ob,es,ep,t,e,c⟩:=x;exact⟨ob,es,ep,t,k _ _ (.inl rfl) e,c⟩
 |ins C dx fs =>
  obtain⟨d,z,ne,e,mA,⟨od,es,ep,e2,c⟩,r⟩:=x
  exact⟨ho _ d,z,ne,k _ _ (.inl rfl) e,mA,⟨od,es,ep,k _ _ (.inr d) e2,c⟩,r⟩
 |own y=>obtain⟨ob,e⟩:=x;exact⟨ob,k _ _ (.inl rfl) e⟩
 |xd fs=>obtain⟨mA,⟨od,es,ep,e,c⟩,r⟩:=x;exact⟨mA,⟨od,es,ep,k _ _ (.inl rfl) e,c⟩,r⟩
 |UH lo hi=>obtain⟨t,u,v,e⟩:=x;exact⟨t,u,v,k _ _ (.inl rfl) e⟩
 |su ob u ih=>obtain⟨e,q⟩:=x;exact⟨k _ _ (.inl rfl) e,ih q⟩
 |MS ps =>
  have e:h.get? a=some { cls:=.none,data:=.fields ps }:=x
  show h'.get? a=some { cls:=.none,data:=.fields ps }
  exact k a _ (.inl rfl) e
 |met f y =>
  have e:h.get? a=some (PySem.W.methodObj (.ref f) (.ref y)):=x
  show h'.get? a=some (PySem.W.methodObj (.ref f) (.ref y))
  exact k a _ (.inl rfl) e
 |ext φ=>obtain⟨p,⟨o,e⟩,st⟩:=x;exact⟨st _ _ p λo q=>k _ _ (.inl rfl) q,⟨o,k _ _ (.inl rfl) e⟩,st⟩
theorem lS.lt(x:lS P w H h)(e:H a=some o):a<h.objs.size:=(x a o e).lt
theorem lS.fresh(x:lS P w H h)(e:h.objs.size<=a):H a=none:=by
 cases q:H a with
 |none=>rfl
 |some u=>exact absurd (Nat.lt_of_lt_of_le (x.lt q) e) (Nat.lt_irrefl _)
theorem lS.kept(x:lS P w H h)(k:∀b u,h.get? b=some u->h'.get? b=some u):lS P w H h':=λa o e =>
 (x a o e).stay (λb u _ q=>k b u q) (λ_ q=>q) λ_ _ q=>q
theorem lS.laid(x:lS P w H h)(k:∀b u,h.get? b=some u->h'.get? b=some u)(hp:h.objs.size<=a)(new:bI P w (upd H a o) h' a o):lS P w (upd H a o) h':=λb u e=>by
 have hn:=x.fresh hp
 by_cases hb:b=a
 ·subst hb;rw[ah]at e;cases e;exact new
 ·rw[aq hb]at e
  exact(x b u e).stay (λc v _ q=>k c v q) (λc q=>by rw[aq (aM q hn)];exact q) λc xs q=>by rw[aq (aM q hn)];exact q
end
def Rd(H:Hp)(a:Addr)(u:HO):Prop:=H a=some u\/∃o,H a=some (.su o u)
theorem Rd.ok{P:Program}{w:World}{H:Hp}{h:Heap}{a:Addr}{u:HO}(r:Rd H a u)(x:lS P w H h):bI P w H h a u:=by
 rcases r with r|⟨o,r⟩
 ·exact x a u r
 ·obtain⟨_,q⟩:=x a _ r
  exact q
def Uh:Option HO->Prop
 |some (.lst _)=>True
 |some (.dK _)=>True
 |some (.dT _)=>True
 |some (.set _ _)=>True
 |some (.ins _ _ _)=>True
 |some (.ext _)=>True
 |_=>False
section
variable{P:Program}{w:World}{H:Hp}{h h':Heap}{x e:Addr}{o':HO}
theorem lS.write(ok:lS P w H h)(mu:Uh (H x))(he:e=x\/H e=some (.own x))(k:∀b u,b≠e->h.get? b=some u->h'.get? b=some u)(Q8:∃u,h'.get? e=some u)
  (new:bI P w (upd H x o') h' x o'):lS P w (upd H x o') h':=λb u q=>by
 have R3:∀c y,H c=some (.own y)->c≠x:=λc y r z=>by subst z;rw[r]at mu;exact mu
 have Xg:∀c xs,H c=some (.tup xs)->c≠x:=λc xs r z=>by subst z;rw[r]at mu;exact mu
 by_cases hb:b=x
 ·subst hb;rw[ah]at q;cases q;exact new
 ·rw[aq hb]at q
  by_cases Kd:b=e
  ·have q':H b=some (.own x):=by
    rcases he with z|z
    ·exact absurd (Kd.trans z) hb
    ·rw[Kd];exact z
   rw[q]at q';cases q'
   obtain⟨v,hv⟩:=Q8
   exact⟨v,by rw[Kd];exact hv⟩
  ·refine(ok b u q).stay (λc v hc r=>k c v ?_ r) (λc r=>by rw[aq (R3 c b r)];exact r) λc xs r=>by rw[aq (Xg c xs r)];exact r
   rcases hc with rfl|hc
   ·exact Kd
   ·rintro rfl
    rcases he with z|z
    ·exact R3 c b hc z
    ·rw[hc]at z;cases z;exact hb rfl
end
structure Un(fs ex:List Addr)(H H':Hp)(h h':Heap):Prop where
 keep:∀b o,h.get? b=some o->H b=none->b∉fs->b∉ex->h'.get? b=some o
 slot:∀b o,h.get? b=some o->H b=none->b∈fs->b∉ex->∃sl,h'.get? b=some { o with slots:=sl }
 free:∀b o,h.get? b=some o->H b=none->b∉ex->H' b=none
 there:∀b o,h.get? b=some o->b∉ex->∃o',h'.get? b=some o'
 tups:∀b xs,H b=some (.tup xs)->H' b=some (.tup xs)
 qV:∀b o u,H b=some (.su o u)->H' b=some (.su o u)
 rL:∀b ps,H b=some (.MS ps)->∃more,H' b=some (.MS (ps++more))
section
variable{fs fs' ex ex':List Addr}{H H1 H2:Hp}{h h1 h2 h':Heap}{a x e:Addr}{o:HO}
theorem Un.any(u:Un fs ex H H1 h h1){b:Addr}{ob:Obj}(q:h.get? b=some ob)(n:H b=none)(hx:b∉ex):∃sl,h1.get? b=some { ob with slots:=sl }:=by
 by_cases hb:b∈fs
 ·exact u.slot b ob q n hb hx
 ·exact⟨ob.slots,u.keep b ob q n hb hx⟩
theorem Un.kept(k:∀b u,h.get? b=some u->h'.get? b=some u):Un fs ex H H h h' :=
 ⟨λb ob q _ _ _=>k b ob q,λb ob q _ _ _=>⟨ob.slots,k b ob q⟩,λ_ _ _ n _=>n,λb ob q _=>⟨ob,k b ob q⟩,λ_ _ q=>q,λ_ _ _ q=>q,λ_ ps q=>⟨#[],by rw[q];simp⟩⟩
theorem Un.refl:Un fs ex H H h h:=Un.kept λ_ _ q=>q
theorem Un.laid(k:∀b u,h.get? b=some u->h'.get? b=some u)(hp:h.objs.size<=a)(hn:H a=none):Un fs ex H (upd H a o) h h' where
 keep:=λb u q _ _ _=>k b u q
 slot:=λb u q _ _ _=>⟨u.slots,k b u q⟩
 free:=λb u q n _=>by rw[aq (Nat.ne_of_lt (Nat.lt_of_lt_of_le (Heap.lt_size q) hp))];exact n
 there:=λb u q _=>⟨u,k b u q⟩
 tups:=λb xs q=>by rw[aq (aM q hn)];exact q
 qV:=λb u xs q=>by rw[aq (aM q hn)];exact q
 rL:=λb ps q=>⟨#[],by rw[aq (aM q hn),q];simp⟩
theorem Un.write(mu:Uh (H x))(he:e=x\/H e=some (.own x))(k:∀b u,b≠e->h.get? b=some u->h'.get? b=some u)(Q8:∃u,h'.get? e=some u):Un fs ex H (upd H x o) h h':=by
 have hx:∀b,H b=none->b≠x:=λb n z=>by subst z;rw[n]at mu;exact mu
 have hb:∀b,H b=none->b≠e:=λb n z=>by
  subst z
  rcases he with r|r
  ·exact hx b n r
  ·rw[n]at r;cases r
 have hm:∀b u,H b=some u->¬Uh (some u)->b≠x:=λb u q nm z=>by subst z;rw[q]at mu;exact nm mu
 refine⟨λb u q n _ _=>k b u (hb b n) q,λb u q n _ _=>⟨u.slots,k b u (hb b n) q⟩,λb u q n _=>by rw[aq (hx b n)];exact n,λb u q _=>?_,
  λb xs q=>by rw[aq (hm b _ q λz=>z)];exact q,λb u xs q=>by rw[aq (hm b _ q λz=>z)];exact q,λb ps q=>⟨#[],by rw[aq (hm b _ q λz=>z),q];simp⟩⟩
 by_cases Kd:b=e
 ·subst Kd;exact Q8
 ·exact⟨u,k b u Kd q⟩
end
def UC(h:Heap)(H:Hp):List Addr:=(List.range h.objs.size).filter λa=>(H a).isSome
def yN(h:Heap)(H:Hp):Heap:=PySem.W.hideAll h (UC h H)
theorem HB(h:Heap)(H:Hp):(yN h H).objs.size=h.objs.size:=PySem.W.hideAll_size _ _
theorem Ka{h:Heap}{H:Hp}{b:Addr}{o:Obj}(e:h.get? b=some o)(n:H b=none):(yN h H).get? b=some o :=
 PySem.W.hideAll_get _ e λhm=>by
  have q:(H b).isSome=true:=(List.mem_filter.mp hm).2
  rw[n]at q;simp at q
theorem LR{h:Heap}{H:Hp}{b:Addr}{o:Obj}(e:(yN h H).get? b=some o):h.get? b=some o/\H b=none:=by
 have e':h.get? b=some o:=PySem.W.of_hideAll (UC h H) e
 refine⟨e',?_⟩
 cases q:H b with
 |none=>rfl
 |some x =>
  have hm:b∈UC h H:=List.mem_filter.mpr ⟨List.mem_range.mpr (Heap.lt_size e'),by simp[q]⟩
  have z:(yN h H).get? b=none:=PySem.W.hideAll_none (UC h H) hm
  rw[z]at e;cases e
end L2
namespace L2
open PySem PySem.Spec PyProof.Rows
structure Mod(K:PySem.W.Frag)(mg:Str->Option Value)(base:Heap):Prop where
 Nc:K.In base
 glob:base.Ns mainGlobals mg
 blt:∃mb,base.Ns builtinsNs mb/\∀x:Str,x≠ "__name__" ->mb x=bootBuiltins x
 nolimit:base.NoLimit
structure Cx where
 prog:Program
 w:World
 K:PySem.W.Frag
 mg:Str->Option Value
 base:Heap
 A:Around
 N:List Str
 s₀:Shared
 H₀:Hp
 env:Env
 outer:List Env
 stack:List Env
 ex:List Addr
 fn:Str->Bool
 calm:Bool
 pn:List (Addr×Obj)
 xe:Value->Shared->Prop
def frs(l:List Env):List Addr:=l.filterMap (·.frame)
abbrev Cx.fs(X:Cx):List Addr:=frs X.outer
def Vb(sc:Scope)(x:Str):Prop:=sc.names.lookup x=some .local\/sc.names.lookup x=some .cell\/sc.names.lookup x=some .free
def Loc(sc:Scope)(x:Str):Prop:=sc.names.lookup x=some .local\/sc.names.lookup x=some .cell
def Look(env:Env)(h:Heap)(m:Str->Option Value)(x:Str)(u:Value):Prop :=
 (env.kindOf x=some .local/\m x=some u)\/((env.kindOf x=some .cell\/env.kindOf x=some .free)/\∃c,env.cells.lookup x=some c/\h.IsCell c (some u))
def Fl(mg:Str->Option Value)(n:Nat):Prop:=∀v u,mg "GAP" =some (.str v u)->u<n/\u≠0
theorem Fl.mono{mg:Str->Option Value}{n m:Nat}(h:Fl mg n)(l:n<=m):Fl mg m:=λv u e=>⟨Nat.lt_of_lt_of_le (h v u e).1 l,(h v u e).2⟩
structure Cx.Ok(X:Cx):Prop where
 mod:Mod X.K X.mg X.base
 kind:X.env.scope.kind= .function
 glob:X.env.globals=mainGlobals
 blt:X.env.builtins=builtinsNs
 above:X.s₀.heap.objs.size<=X.env.locals
 inj:∀x y c,X.env.cells.lookup x=some c->X.env.cells.lookup y=some c->x=y
 has:∀x,(X.env.kindOf x=some .cell\/X.env.kindOf x=some .free)->∃c,X.env.cells.lookup x=some c
 MG:∀x c,X.fn x=true->X.env.cells.lookup x=some c->X.s₀.heap.objs.size<=c
 hd:X.calm=true->X.A.handled=none
 frames:X.A.frames=some X.stack
 stk:X.stack=X.outer\/(X.stack=X.env::X.outer/\X.env.frame=some X.env.locals)
 U7:∀b∈X.ex,b≠X.env.locals/\∀x c,X.env.cells.lookup x=some c->c≠b
 bs:∀b o,X.base.get? b=some o->X.s₀.heap.get? b=some o/\X.H₀ b=none
 KH:X.base.objs.size<=X.s₀.heap.objs.size
 EL:∀b o,X.base.get? b=some o->b∉X.ex
 HF:∀b∈X.ex,b∉X.fs
 sr:X.s₀.heap.FunFrames X.base X.outer
 Mz:∀b∈X.fs,X.H₀ b=none
 tk:Fl X.mg X.s₀.toks
structure Inv(X:Cx)(pins:List (Addr×Obj))(σ:List (Option V))(H:Hp)(s:Shared):Prop where
 ok:X.Ok
 os:s.os=X.s₀.os
 bare:AllBare s.gens
 base:Un X.fs X.ex X.H₀ H X.s₀.heap s.heap
 loc:∃m,s.heap.Ns X.env.locals m/\∀(i:Nat) (x:Str) (v:V),X.N[i]? =some x->σ[i]? =some (some v)->Vb X.env.scope x->∃u,RelV v u/\Look X.env s.heap m x u
 cell:∀x c,X.env.cells.lookup x=some c->∃v,s.heap.IsCell c v
 free:H X.env.locals=none
 jF:∀x c,X.env.cells.lookup x=some c->H c=none
 pin:∀p∈X.pn++pins,s.heap.get? p.1=some p.2/\H p.1=none/\p.1≠X.env.locals/\p.1∉X.fs/\∀v,p.2.data≠ .cell v
 hok:lS X.prog X.w H s.heap
 len:σ.length=X.N.length
 up:X.s₀.toks<=s.toks
section
variable{X:Cx}{pins:List (Addr×Obj)}{σ:List (Option V)}{H H':Hp}{s:Shared}{h':Heap}
theorem Cx.Ok.Xi(ok:X.Ok){b:Addr}{o:Obj}(e:X.base.get? b=some o):b∉X.fs:=λhb=>by
 have:=(ok.sr.mem hb).1
 rw[e]at this;cases this
theorem Inv.tk(I:Inv X pins σ H s):Fl X.mg s.toks:=I.ok.tk.mono I.up
theorem Inv.bs(I:Inv X pins σ H s):∀b o,X.base.get? b=some o->s.heap.get? b=some o/\H b=none:=λb o e =>
 ⟨I.base.keep b o (I.ok.bs b o e).1 (I.ok.bs b o e).2 (I.ok.Xi e) (I.ok.EL b o e),I.base.free b o (I.ok.bs b o e).1 (I.ok.bs b o e).2 (I.ok.EL b o e)⟩
theorem Inv.bk(I:Inv X pins σ H s):∀b o,X.base.get? b=some o->s.heap.get? b=some o:=λb o e=>(I.bs b o e).1
theorem Inv.mod(I:Inv X pins σ H s):Mod X.K X.mg X.base:=I.ok.mod
theorem Inv.pL(I:Inv X pins σ H s):X.K.In s.heap:=I.ok.mod.Nc.keeps I.bk
theorem Inv.nolimit(I:Inv X pins σ H s):s.heap.NoLimit:=I.ok.mod.nolimit.keeps I.bk
theorem Inv.lt(I:Inv X pins σ H s):X.env.locals<s.heap.objs.size:=let ⟨_,hn,_⟩:=I.loc;hn.lt
theorem Inv.sz(I:Inv X pins σ H s):X.s₀.heap.objs.size<=s.heap.objs.size:=Nat.le_trans I.ok.above (Nat.le_of_lt I.lt)
theorem Inv.Xh(I:Inv X pins σ H s){a:Addr}(h:s.heap.objs.size<=a):a∉X.fs:=λhb=>by
 obtain⟨_,o,ho,_⟩:=I.ok.sr.mem hb
 exact absurd (Nat.lt_of_lt_of_le (Heap.lt_size ho) (Nat.le_trans I.sz h)) (Nat.lt_irrefl _)
theorem Inv.Nr(I:Inv X pins σ H s):∀x c,X.env.cells.lookup x=some c->c≠X.env.locals:=λx c e z=>by
 obtain⟨v,o,ho,hd⟩:=I.cell x c e
 obtain⟨m,⟨o',es,ep,ho',hd',_⟩,_⟩:=I.loc
 rw[z,ho']at ho;cases ho;rw[hd']at hd;cases hd
theorem Inv.sr(I:Inv X pins σ H s):s.heap.FunFrames X.base X.outer:=by
 have all:∀(l:List Env),(∀b∈frs l,b∈X.fs)->X.s₀.heap.FunFrames X.base l->s.heap.FunFrames X.base l:=by
  intro l
  induction l with
  |nil=>intro _ _;trivial
  |cons env r ih =>
   intro hs hl
   obtain⟨hk,⟨L,o,hf,hn,ho,hd⟩,hr⟩:=hl
   have hL:L∈X.fs:=hs L (by unfold frs;rw[List.filterMap_cons,hf];exact List.mem_cons_self)
   obtain⟨sl,e⟩:=I.base.slot L o ho (I.ok.Mz L hL) hL λz=>I.ok.HF L z hL
   exact⟨hk,⟨L,_,hf,hn,e,hd⟩,ih (λb hb=>hs b (by unfold frs;rw[List.filterMap_cons,hf];exact List.mem_cons_of_mem _ hb)) hr⟩
 exact all X.outer (λ_ hb=>hb) I.ok.sr
theorem Inv.stack(I:Inv X pins σ H s):s.heap.FunFrames X.base X.stack:=by
 rcases I.ok.stk with e|⟨e,hf⟩
 ·rw[e];exact I.sr
 ·rw[e]
  obtain⟨m,hn,_⟩:=I.loc
  refine .cons (by rw[I.ok.kind];decide) hf hn ?_ I.sr
  exact Heap.get?_none_of_le (Nat.le_trans I.ok.KH I.ok.above)
theorem Inv.rO(I:Inv X pins σ H s):∀b∈frs X.stack,b∈X.env.locals::X.fs:=λb hb=>by
 rcases I.ok.stk with e|⟨e,hf⟩
 ·rw[e]at hb;exact List.mem_cons_of_mem _ hb
 ·rw[e]at hb
  unfold frs at hb
  rw[List.filterMap_cons,hf]at hb
  exact hb
theorem Inv.Ar(I:Inv X pins σ H s):∀b∈frs X.stack,H b=none:=λb hb=>by
 rcases List.mem_cons.mp (I.rO b hb)with e|hb
 ·rw[e];exact I.free
 ·obtain⟨_,o,ho,_⟩:=I.ok.sr.mem hb
  exact I.base.free b o ho (I.ok.Mz b hb) λz=>I.ok.HF b z hb
theorem Inv.step{g':Array GenState}{t':Nat}{d':Drawn}{ch:List Addr}(I:Inv X pins σ H s)
  (hch:∀b∈ch,(b∈X.ex\/X.s₀.heap.objs.size<=b)/\b≠X.env.locals/\(∀x c,X.env.cells.lookup x=some c->c≠b)/\∀p∈X.pn++pins,p.1≠b)
  (keep:∀b o,b≠X.env.locals->b∉X.fs->b∉ch->s.heap.get? b=some o->H b=none->h'.get? b=some o)
  (slot:∀b o,b≠X.env.locals->b∈X.fs->b∉ch->s.heap.get? b=some o->H b=none->∃sl,h'.get? b=some { o with slots:=sl }) (free:∀b o,b∉ch->s.heap.get? b=some o->H b=none->H' b=none)
  (there:∀b o,b∉ch->s.heap.get? b=some o->∃o',h'.get? b=some o')
  (tups:∀b xs,H b=some (.tup xs)->H' b=some (.tup xs)) (qV:∀b o u,H b=some (.su o u)->H' b=some (.su o u)) (rL:∀b ps,H b=some (.MS ps)->∃more,H' b=some (.MS (ps++more)))
  (ns:∀m,s.heap.Ns X.env.locals m->h'.Ns X.env.locals m) (hok:lS X.prog X.w H' h') (hg:AllBare g') (ht:X.s₀.toks<=t') :
  Inv X pins σ H' { s with heap:=h',gens:=g',drawn:=d',toks:=t' }:=by
 have Zn:∀b o,X.s₀.heap.get? b=some o->b≠X.env.locals:=λb o e=>Nat.ne_of_lt (Nat.lt_of_lt_of_le (Heap.lt_size e) I.ok.above)
 have UL:∀b o,X.s₀.heap.get? b=some o->b∉X.ex->b∉ch:=λb o e hx hb=>by
  rcases(hch b hb).1 with z|z
  ·exact hx z
  ·exact absurd (Nat.lt_of_lt_of_le (Heap.lt_size e) z) (Nat.lt_irrefl _)
 have cellK:∀x c,X.env.cells.lookup x=some c->∀v,s.heap.IsCell c v->h'.IsCell c v:=λx c e v ⟨o,ho,hd⟩=>by
  have M7:c∉ch:=λz=>(hch c z).2.2.1 x c e rfl
  by_cases hc:c∈X.fs
  ·obtain⟨sl,q⟩:=slot c o (I.Nr x c e) hc M7 ho (I.jF x c e)
   exact⟨_,q,hd⟩
  ·exact⟨o,keep c o (I.Nr x c e) hc M7 ho (I.jF x c e),hd⟩
 refine⟨I.ok,I.os,hg,⟨λb o e n hb hx=>?_,λb o e n hb hx=>?_,λb o e n hx=>?_,λb o e hx=>?_,λb xs e=>tups b xs (I.base.tups b xs e),λb o xs e=>qV b o xs (I.base.qV b o xs e),λb ps e=>?_⟩,?_,λx c e=>?_,?_,λx c e=>?_,λp hp=>?_,hok,I.len,ht⟩
 ·exact keep b o (Zn b o e) hb (UL b o e hx) (I.base.keep b o e n hb hx) (I.base.free b o e n hx)
 ·obtain⟨sl,e1⟩:=I.base.slot b o e n hb hx
  obtain⟨Ij,e2⟩:=slot b _ (Zn b o e) hb (UL b o e hx) e1 (I.base.free b o e n hx)
  exact⟨Ij,e2⟩
 ·obtain⟨o',e1⟩:=I.base.there b o e hx
  exact free b o' (UL b o e hx) e1 (I.base.free b o e n hx)
 ·obtain⟨o',e1⟩:=I.base.there b o e hx
  exact there b o' (UL b o e hx) e1
 ·obtain⟨m1,e1⟩:=I.base.rL b ps e
  obtain⟨m2,e2⟩:=rL b _ e1
  exact⟨m1++m2,by rw[e2,Array.append_assoc]⟩
 ·obtain⟨m,hn,hl⟩:=I.loc
  refine⟨m,ns m hn,λi x v e1 e2 e3=>?_⟩
  obtain⟨u,r,l⟩:=hl i x v e1 e2 e3
  refine⟨u,r,?_⟩
  rcases l with l|⟨k,c,e,z⟩
  ·exact .inl l
  ·exact .inr ⟨k,c,e,cellK x c e _ z⟩
 ·obtain⟨v,z⟩:=I.cell x c e
  exact⟨v,cellK x c e v z⟩
 ·obtain⟨m,⟨o,_,_,ho,_⟩,_⟩:=I.loc
  exact free _ o (λz=>(hch _ z).2.1 rfl) ho I.free
 ·obtain⟨v,o,ho,hd⟩:=I.cell x c e
  exact free c o (λz=>(hch c z).2.2.1 x c e rfl) ho (I.jF x c e)
 ·obtain⟨e,n,ne,nf,d⟩:=I.pin p hp
  have M7:p.1∉ch:=λz=>(hch p.1 z).2.2.2 p hp rfl
  exact⟨keep p.1 p.2 ne nf M7 e n,free p.1 p.2 M7 e n,ne,nf,d⟩
theorem Inv.un{t':Nat}(I:Inv X pins σ H s)(u:Un X.fs [] H H' s.heap h')(hok:lS X.prog X.w H' h')(ht:s.toks<=t':=by first|exact Nat.le_refl _|exact Nat.le_succ _|assumption|omega):Inv X pins σ H' { s with heap:=h',toks:=t' }:=by
 obtain⟨m,⟨o,es,ep,ho,r⟩,_⟩:=id I.loc
 obtain⟨sl,hL⟩:=u.any ho I.free (by simp)
 exact I.step (g':=s.gens) (d':=s.drawn) (ch:=[]) (λ_ z=>nomatch z) (λb o _ hb _ e n=>u.keep b o e n hb (by simp)) (λb o _ hb _ e n=>u.slot b o e n hb (by simp)) (λb o _ e n=>u.free b o e n (by simp)) (λb o _ e=>u.there b o e (by simp)) u.tups u.qV u.rL (λm' hm=>by
  obtain⟨o',es',U8,ho',r'⟩:=hm
  rw[ho]at ho';cases ho'
  exact⟨_,es',U8,hL,r'⟩) hok I.bare (Nat.le_trans I.up ht)
theorem Inv.call{g':Array GenState}{t':Nat}{d':Drawn}{ch:List Addr}(I:Inv X pins σ H s)(u:Un (frs X.stack) ch H H' s.heap h')(hok:lS X.prog X.w H' h')(hg:AllBare g')
  (hch:∀b∈ch,(b∈X.ex\/X.s₀.heap.objs.size<=b)/\b≠X.env.locals/\(∀x c,X.env.cells.lookup x=some c->c≠b)/\∀p∈X.pn++pins,p.1≠b) (ht:X.s₀.toks<=t') :
  Inv X pins σ H' { s with heap:=h',gens:=g',drawn:=d',toks:=t' }:=by
 obtain⟨m,⟨o,es,ep,ho,r⟩,_⟩:=id I.loc
 obtain⟨sl,hL⟩:=u.any ho I.free λz=>(hch _ z).2.1 rfl
 exact I.step (ch:=ch) hch (λb o hL hb hc e n=>u.keep b o e n (λz=>(List.mem_cons.mp (I.rO b z)).elim hL hb) hc) (λb o _ _ hc e n=>u.any e n hc) (λb o hc e n=>u.free b o e n hc) (λb o hc e=>u.there b o e hc) u.tups u.qV u.rL (λm' hm=>by
  obtain⟨o',es',U8,ho',r'⟩:=hm
  rw[ho]at ho';cases ho'
  exact⟨_,es',U8,hL,r'⟩) hok hg ht
theorem Inv.turned{t':Nat}{it:Addr}(I:Inv X pins σ H s)(k:∀b o,b≠it->s.heap.get? b=some o->h'.get? b=some o)(hn:H it=none)(hL:it≠X.env.locals)
  (h1:it∈X.ex\/X.s₀.heap.objs.size<=it) (h2:∀x c,X.env.cells.lookup x=some c->c≠it) (h3:∀p∈X.pn++pins,p.1≠it) (ht:s.toks<=t':=by first|exact Nat.le_refl _|exact Nat.le_succ _|assumption|omega):Inv X pins σ H { s with heap:=h',toks:=t' }:=by
 have Zm:∀b u,H b=some u->b≠it:=λb u e z=>by rw[z,hn]at e;cases e
 refine I.step (g':=s.gens) (d':=s.drawn) (ch:=[it]) (λb hb=>?_) (λb o _ _ hc e _=>k b o (λz=>hc (by simp[z])) e) (λb o _ _ hc e _=>⟨o.slots,k b o (λz=>hc (by simp[z])) e⟩) (λ_ _ _ _ n=>n)
  (λb o hc e=>⟨o,k b o (λz=>hc (by simp[z])) e⟩) (λ_ _ e=>e) (λ_ _ _ e=>e) (λb ps e=>⟨#[],by rw[e];simp⟩) (λm hm=>?_) (λb u e=>?_) I.bare (Nat.le_trans I.up ht)
 ·have e:b=it:=by simpa using hb
  subst e
  exact⟨h1,hL,h2,h3⟩
 ·obtain⟨o,es,ep,ho,r⟩:=hm
  exact⟨o,es,ep,k _ o (Ne.symm hL) ho,r⟩
 ·refine(I.hok b u e).stay (λc v hc q=>k c v ?_ q) (λ_ q=>q) λ_ _ q=>q
  rcases hc with z|z
  ·rw[z];exact Zm b u e
  ·exact Zm c _ z
theorem Inv.tok(I:Inv X pins σ H s)(t':Nat)(ht:s.toks<=t':=by first|exact Nat.le_refl _|exact Nat.le_succ _|assumption|omega):Inv X pins σ H { s with toks:=t' }:=I.un (h':=s.heap) (t':=t') Un.refl I.hok ht
theorem Inv.kept{t':Nat}(I:Inv X pins σ H s)(k:∀b u,s.heap.get? b=some u->h'.get? b=some u)(ht:s.toks<=t':=by first|exact Nat.le_refl _|exact Nat.le_succ _|assumption|omega):Inv X pins σ H { s with heap:=h',toks:=t' }:=I.un (Un.kept k) (I.hok.kept k) ht
theorem Inv.laid{a:Addr}{o:HO}{t':Nat}(I:Inv X pins σ H s)(k:∀b u,s.heap.get? b=some u->h'.get? b=some u)(hp:s.heap.objs.size<=a)(new:bI X.prog X.w (upd H a o) h' a o)(ht:s.toks<=t':=by first|exact Nat.le_refl _|exact Nat.le_succ _|assumption|omega):
  Inv X pins σ (upd H a o) { s with heap:=h',toks:=t' }:=I.un (Un.laid k hp (I.hok.fresh hp)) (I.hok.laid k hp new) ht
theorem Inv.write{x e:Addr}{o:HO}{t':Nat}(I:Inv X pins σ H s)(mu:Uh (H x))(he:e=x\/H e=some (.own x))(k:∀b u,b≠e->s.heap.get? b=some u->h'.get? b=some u)(Q8:∃u,h'.get? e=some u)
  (new:bI X.prog X.w (upd H x o) h' x o) (ht:s.toks<=t':=by first|exact Nat.le_refl _|exact Nat.le_succ _|assumption|omega):Inv X pins σ (upd H x o) { s with heap:=h',toks:=t' }:=I.un (Un.write mu he k Q8) (I.hok.write mu he k Q8 new) ht
theorem Inv.weak{σ':List (Option V)}(I:Inv X pins σ H s)(hl:σ'.length=σ.length)(w:∀(i:Nat) v,σ'[i]? =some (some v)->σ[i]? =some (some v)):Inv X pins σ' H s :=
 ⟨I.ok,I.os,I.bare,I.base,let ⟨m,hn,hl'⟩:=I.loc;⟨m,hn,λi x v e1 e2 e3=>hl' i x v e1 (w i v e2) e3⟩,I.cell,I.free,I.jF,I.pin,I.hok,hl.trans I.len,I.up⟩
theorem Inv.AD{M4:List (Addr×Obj)}(I:Inv X pins σ H s)(h:∀p∈M4,s.heap.get? p.1=some p.2/\H p.1=none/\p.1≠X.env.locals/\p.1∉X.fs/\∀v,p.2.data≠ .cell v):Inv X M4 σ H s :=
 ⟨I.ok,I.os,I.bare,I.base,I.loc,I.cell,I.free,I.jF,λp hp=>(List.mem_append.mp hp).elim (λz=>I.pin p (List.mem_append_left _ z)) (h p),I.hok,I.len,I.up⟩
theorem xA{N:List Str}(hN:N.Nodup){i j:Nat}{x:Str}(a:N[i]? =some x)(b:N[j]? =some x):i=j:=by
 obtain⟨h1,e1⟩:=List.getElem?_eq_some_iff.mp a
 obtain⟨h2,e2⟩:=List.getElem?_eq_some_iff.mp b
 exact(List.getElem_inj hN).mp (e1.trans e2.symm)
theorem uf{M:Model}{A:Around}{E:Value->Shared->Prop}{i:Nat}{x:Str}{v:V}{u:Value}{Q:Unit->Shared->Prop}(I:Inv X pins σ H s)(hN:X.N.Nodup)(hi:X.N[i]? =some x)(hx:Loc X.env.scope x)(r:RelV v u)
  (h:∀s',Inv X pins (σ.set i (some v)) H s'->(∃a,Heap.SameBut a s.heap s'.heap/\(a=X.env.locals\/X.env.cells.lookup x=some a))->Q () s') (hf:X.fn x=true\/X.env.scope.names.lookup x=some .local:=by first|exact .inl rfl|exact .inr rfl|assumption):wpAny M A (storeName X.env x u) Q E s:=by
 obtain⟨m,hn,hl⟩:=id I.loc
 have hcls:(X.env.scope.kind== .class||(X.env.scope.kind== .module&&X.env.locals != X.env.globals))=false:=by rw[I.ok.kind];rfl
 have Tn:i<σ.length:=by rw[I.len];exact(List.getElem?_eq_some_iff.mp hi).1
 have Nr:=I.Nr
 have tracked:∀{a:Addr} {h':Heap},(∃o,s.heap.get? a=some o/\H a=none)->Heap.SameBut a s.heap h'->lS X.prog X.w H h':=λ{a h'} ha hs b ob e=>by
  obtain⟨_,_,hfree⟩:=ha
  refine(I.hok b ob e).stay (λc w' hc q=>(hs.2 c ?_).trans q) (λ_ q=>q) λ_ _ q=>q
  rintro rfl
  rcases hc with rfl|hc
  ·rw[hfree]at e;cases e
  ·rw[hfree]at hc;cases hc
 rcases hx with hk|hk
 ·refine wpAny_storeName_local hk hn (λh' hn' hs=>?_) hcls
  obtain⟨oL,_,_,hoL,_⟩:=id hn
  refine h _ ⟨I.ok,I.os,I.bare,⟨λb o e n hb hx=>?_,λb o e n hb hx=>?_,I.base.free,λb o e hx=>?_,I.base.tups,I.base.qV,I.base.rL⟩,⟨_,hn',λj y v' e1 e2 e3=>?_⟩,λy c e=>?_,I.free,I.jF,λp hp=>?_,tracked ⟨oL,hoL,I.free⟩ hs,by simpa using I.len,Nat.le_trans I.up (by first|exact Nat.le_refl _|exact Nat.le_succ _|exact Nat.le_add_right _ _)⟩ ⟨_,hs,.inl rfl⟩
  ·exact(hs.2 b (Nat.ne_of_lt (Nat.lt_of_lt_of_le (Heap.lt_size e) I.ok.above))).trans (I.base.keep b o e n hb hx)
  ·obtain⟨sl,e1⟩:=I.base.slot b o e n hb hx
   exact⟨sl,(hs.2 b (Nat.ne_of_lt (Nat.lt_of_lt_of_le (Heap.lt_size e) I.ok.above))).trans e1⟩
  ·obtain⟨o',e1⟩:=I.base.there b o e hx
   exact⟨o',(hs.2 b (Nat.ne_of_lt (Nat.lt_of_lt_of_le (Heap.lt_size e) I.ok.above))).trans e1⟩
  ·by_cases hj:j=i
   ·subst hj
    rw[hi]at e1;cases e1
    rw[List.getElem?_set_self Tn]at e2
    cases e2
    exact⟨u,r,.inl ⟨hk,by simp⟩⟩
   ·rw[List.getElem?_set_ne (Ne.symm hj)]at e2
    obtain⟨u',r',q⟩:=hl j y v' e1 e2 e3
    refine⟨u',r',?_⟩
    rcases q with⟨k,e⟩|⟨k,c,e,z⟩
    ·refine .inl ⟨k,?_⟩
     have:y≠x:=λe=>hj (xA hN e1 (e▸hi))
     simp[this,e]
    ·exact .inr ⟨k,c,e,z.sameBut hs (Nr y c e)⟩
  ·obtain⟨w',z⟩:=I.cell y c e
   exact⟨w',z.sameBut hs (Nr y c e)⟩
  ·obtain⟨e,n,ne,nf,d⟩:=I.pin p hp
   exact⟨(hs.2 p.1 ne).trans e,n,ne,nf,d⟩
 ·have hfn:X.fn x=true:=by
   rcases hf with z|z
   ·exact z
   ·rw[z]at hk;cases hk
  obtain⟨c,hc⟩:=I.ok.has x (.inl hk)
  obtain⟨w',z⟩:=I.cell x c hc
  refine wpAny_storeName_cell I.ok.kind hk hc z (λh' hc' hs=>?_)
  obtain⟨oc,hoc,XY⟩:=id z
  refine h { s with heap:=h' } ⟨I.ok,I.os,I.bare,⟨λb o e n hb hx=>?_,λb o e n hb hx=>?_,I.base.free,λb o e hx=>?_,I.base.tups,I.base.qV,I.base.rL⟩,⟨m,hn.sameBut hs (Ne.symm (Nr x c hc)),λj y v' e1 e2 e3=>?_⟩,λy c' e=>?_,I.free,I.jF,λp hp=>?_,tracked ⟨oc,hoc,I.jF x c hc⟩ hs,by simpa using I.len,I.up⟩ ⟨c,hs,.inr hc⟩
  ·exact(hs.2 b (Nat.ne_of_lt (Nat.lt_of_lt_of_le (Heap.lt_size e) (I.ok.MG x c hfn hc)))).trans (I.base.keep b o e n hb hx)
  ·obtain⟨sl,e1⟩:=I.base.slot b o e n hb hx
   exact⟨sl,(hs.2 b (Nat.ne_of_lt (Nat.lt_of_lt_of_le (Heap.lt_size e) (I.ok.MG x c hfn hc)))).trans e1⟩
  ·obtain⟨o',e1⟩:=I.base.there b o e hx
   exact⟨o',(hs.2 b (Nat.ne_of_lt (Nat.lt_of_lt_of_le (Heap.lt_size e) (I.ok.MG x c hfn hc)))).trans e1⟩
  ·by_cases hj:j=i
   ·subst hj
    rw[hi]at e1;cases e1
    rw[List.getElem?_set_self Tn]at e2
    cases e2
    exact⟨u,r,.inr ⟨.inl hk,c,hc,hc'⟩⟩
   ·rw[List.getElem?_set_ne (Ne.symm hj)]at e2
    obtain⟨u',r',q⟩:=hl j y v' e1 e2 e3
    refine⟨u',r',?_⟩
    rcases q with q|⟨k,c',e,z'⟩
    ·exact .inl q
    ·refine .inr ⟨k,c',e,z'.sameBut hs ?_⟩
     rintro rfl
     exact hj (xA hN e1 (I.ok.inj _ _ _ e hc▸hi))
  ·by_cases hcc:c'=c
   ·subst hcc;exact⟨_,hc'⟩
   ·obtain⟨w2,z2⟩:=I.cell y c' e
    exact⟨w2,z2.sameBut hs hcc⟩
  ·obtain⟨e,n,ne,nf,d⟩:=I.pin p hp
   refine⟨(hs.2 p.1 ?_).trans e,n,ne,nf,d⟩
   intro q
   rw[q,hoc]at e
   have q':oc=p.2:=Option.some.inj e
   exact d w' (by rw[←q'];exact XY)
theorem wL{M:Model}{A:Around}{E:Value->Shared->Prop}{i:Nat}{x:Str}{v:V}{u:Value}{Q:Unit->Shared->Prop}(I:Inv X pins σ H s)(hN:X.N.Nodup)(hi:X.N[i]? =some x)(hx:Loc X.env.scope x)(r:RelV v u)
  (h:∀s',Inv X pins (σ.set i (some v)) H s'->Q () s') (hf:X.fn x=true\/X.env.scope.names.lookup x=some .local:=by first|exact .inl rfl|exact .inr rfl|assumption):wpAny M A (storeName X.env x u) Q E s :=
 uf I hN hi hx r (λs' I' _=>h s' I') hf
theorem Inv.KG{s':Shared}{ch:List Addr}(I:Inv X pins σ H s)(ho:s'.os=s.os)(u:Un (frs X.stack) ch H H' s.heap s'.heap)(hok:lS X.prog X.w H' s'.heap)(hg:AllBare s'.gens)
  (hch:∀b∈ch,(b∈X.ex\/X.s₀.heap.objs.size<=b)/\b≠X.env.locals/\(∀x c,X.env.cells.lookup x=some c->c≠b)/\∀p∈X.pn++pins,p.1≠b) (ht:X.s₀.toks<=s'.toks):Inv X pins σ H' s':=by
 obtain⟨h',g',d',t',o'⟩:=s'
 have e:o'=s.os:=ho
 subst e
 exact I.call (g':=g') (t':=t') (d':=d') u hok hg hch ht
end
abbrev XK:=Value->Option Addr->Hp->Prop
abbrev St:=List (Option V)
abbrev VK:=V->Hp->Prop
abbrev TE:=St->Hp->VK->Prop
abbrev TT:=St->Hp->(Bool->Hp->Prop)->Prop
abbrev TA:=St->Hp->(List V->Hp->Prop)->Prop
structure Ends where
 nx:St->Hp->Prop
 rt:VK
 bk:St->Hp->Prop:=λ_ _=>False
 ct:St->Hp->Prop:=λ_ _=>False
abbrev TS:=Ends->St->Hp->Prop
def EP(X:Cx)(pins:List (Addr×Obj))(σ:St)(Q:VK)(u:Value)(s':Shared):Prop:=∃v H',Inv X pins σ H' s'/\RelV v u/\Q v H'
def TP(X:Cx)(pins:List (Addr×Obj))(σ:St)(Q:Bool->Hp->Prop)(b:Bool)(s':Shared):Prop:=∃H',Inv X pins σ H' s'/\Q b H'
def AP(X:Cx)(pins:List (Addr×Obj))(σ:St)(Q:List V->Hp->Prop)(us:List Value)(s':Shared):Prop:=∃vs H',Inv X pins σ H' s'/\Vals vs us/\Q vs H'
def SP(X:Cx)(pins:List (Addr×Obj))(D:Ends)(f:Flow)(s':Shared):Prop :=
 match f with
 | .next=>∃ σ' H',Inv X pins σ' H' s'/\D.nx σ' H'
 | .brk=>∃ σ' H',Inv X pins σ' H' s'/\D.bk σ' H'
 | .cont=>∃ σ' H',Inv X pins σ' H' s'/\D.ct σ' H'
 | .ret u=>∃v σ' H',Inv X pins σ' H' s'/\RelV v u/\D.rt v H'
def PE(X:Cx)(e:Expr)(t:TE):Prop :=
 ∀(pins:List (Addr×Obj)) (s:Shared) (σ:St) (H:Hp) (Q:VK),Inv X pins σ H s->t σ H Q->wpAny (model X.prog X.w) X.A (eval e X.env) (EP X pins σ Q) X.xe s
def PT(X:Cx)(e:Expr)(t:TT):Prop :=
 ∀(pins:List (Addr×Obj)) (s:Shared) (σ:St) (H:Hp) (Q:Bool->Hp->Prop),Inv X pins σ H s->t σ H Q->wpAny (model X.prog X.w) X.A (isTrue e X.env (eval e X.env)) (TP X pins σ Q) X.xe s
def PW(X:Cx)(e:Expr)(t:TT):Prop :=
 ∀(whole:Sem Value) (pins:List (Addr×Obj)) (s:Shared) (σ:St) (H:Hp) (Q:Bool->Hp->Prop),Inv X pins σ H s->t σ H Q->wpAny (model X.prog X.w) X.A (isTrue e X.env whole) (TP X pins σ Q) X.xe s
theorem PW.pt{X:Cx}{e:Expr}{t:TT}(h:PW X e t):PT X e t:=h _
def PA(X:Cx)(es:List Expr)(t:TA):Prop :=
 ∀(pos:Pos) (pins:List (Addr×Obj)) (s:Shared) (σ:St) (H:Hp) (Q:List V->Hp->Prop),Inv X pins σ H s->t σ H Q->wpAny (model X.prog X.w) X.A (spliced (backTo pos (starEach es X.env))) (AP X pins σ Q) X.xe s
def PS(X:Cx)(st:Stmt)(t:TS):Prop :=
 ∀(pins:List (Addr×Obj)) (s:Shared) (σ:St) (H:Hp) (D:Ends),Inv X pins σ H s->t D σ H->wpAny (model X.prog X.w) X.A (exec st X.env) (SP X pins D) X.xe s
def Al(X:Cx)(st:List Stmt)(t:TS):Prop :=
 ∀(pins:List (Addr×Obj)) (s:Shared) (σ:St) (H:Hp) (D:Ends),Inv X pins σ H s->t D σ H->wpAny (model X.prog X.w) X.A (execs st X.env) (SP X pins D) X.xe s
theorem dI{α:Type}{t:Sem α}{Q Q':α->Shared->Prop}{M:Model}{A:Around}{E:Value->Shared->Prop}{s:Shared}(h:wpAny M A t Q E s)(hQ:∀a s,Q a s->Q' a s):wpAny M A t Q' E s:=wpAny_mono h hQ λ_ _ x=>x
end L2
namespace L2
open PySem PySem.Spec PyProof.Rows
section
variable{X:Cx}
def Ro(i:Nat):TE:=λσ H Q=>∃v,σ[i]? =some (some v)/\Q v H
def tC(v:V):TE:=λ_ H Q=>Q v H
theorem Pu {i:Nat} {x:Str} {pos:Pos} (hN:X.N[i]? =some x) (hv:Vb X.env.scope x) (hd:(x==("__debug__" :Str))=false:=by decide) (hcd:(x==("__classdict__" :Str))=false:=by decide):PE X (.Name x pos) (Ro i):=by
 intro pins s σ H Q I h
 obtain⟨v,e,h⟩:=h
 obtain⟨m,hn,hl⟩:=I.loc
 obtain⟨u,r,l⟩:=hl i x v hN e hv
 have fin:EP X pins σ Q u s:=⟨v,H,I,r,h⟩
 rcases l with⟨hk,hm⟩|⟨hk,c,hc,hcell⟩
 ·exact wpAny_Name (wpAny_loadName_local I.ok.kind hk hn hm fin) hd
 ·rcases hk with hk|hk
  ·exact wpAny_Name (wpAny_loadName_cell I.ok.kind hk hc hcell fin) hd
  ·exact wpAny_Name (wpAny_loadName_free I.ok.kind hk hc hcell fin hcd) hd
theorem ak{i j pos}:PE X (.Constant (.int i) j pos) (tC (.int i)):=λ_ _ _ H _ I h=>wpAny_Constant_int ⟨.int i,H,I.tok _,⟨_,rfl⟩,h⟩
theorem zQ{b j pos}:PE X (.Constant (.bool b) j pos) (tC (.bl b)):=λ_ _ _ H _ I h=>Constant_bool ⟨.bl b,H,I,rfl,h⟩
theorem lN{j pos}:PE X (.Constant .none j pos) (tC .iP):=λ_ _ _ H _ I h=>Constant_none ⟨.iP,H,I,rfl,h⟩
theorem bG{x j pos}:PE X (.Constant (.str x) j pos) (tC (.str x)):=λ_ _ _ H _ I h=>Calls.Constant_str ⟨.str x,H,I.tok _,⟨_,rfl⟩,h⟩
def Gl(X:Cx)(x:Str):Prop:=X.env.kindOf x=some .globalImplicit
theorem nP{E:Value->Shared->Prop}{pins:List (Addr×Obj)}{s:Shared}{σ:St}{H:Hp}{x:Str}{u:Value}{pos:Pos}{Q:Value->Shared->Prop}(I:Inv X pins σ H s)(hg:Gl X x)(hm:X.mg x=some u)(h:Q u s)
  (hd:(x==("__debug__" :Str))=false:=by decide):wpAny (model X.prog X.w) X.A (eval (.Name x pos) X.env) Q E s :=
 Calls.Name_function_global I.ok.kind hg (Calls.loadGlobal_global (by rw[I.ok.glob];exact I.mod.glob.keeps I.bk) hm h) hd
theorem ql{E:Value->Shared->Prop}{pins:List (Addr×Obj)}{s:Shared}{σ:St}{H:Hp}{x:Str}{u:Value}{pos:Pos}{Q:Value->Shared->Prop}(I:Inv X pins σ H s)(hg:Gl X x)(hm:X.mg x=none)(hv:bootBuiltins x=some u)(h:Q u s)
  (hn:x≠ "__name__" :=by decide) (hd:(x==("__debug__" :Str))=false:=by decide):wpAny (model X.prog X.w) X.A (eval (.Name x pos) X.env) Q E s:=by
 obtain⟨mb,h1,h2⟩:=I.mod.blt
 exact Calls.Name_function_global I.ok.kind hg (Calls.loadGlobal_builtin (by rw[I.ok.glob];exact I.mod.glob.keeps I.bk) hm (by rw[I.ok.blt];exact h1.keeps I.bk) ((h2 x hn).trans hv) h) hd
theorem nN {x:Str} {v:V} {u:Value} {pos:Pos} (hg:Gl X x) (hm:X.mg x=some u) (r:RelV v u) (hd:(x==("__debug__" :Str))=false:=by decide):PE X (.Name x pos) (tC v) :=
 λ_ _ _ H _ I h=>nP I hg hm ⟨v,H,I,r,h⟩ hd
theorem c5 {x:Str} {v:V} {u:Value} {pos:Pos} (hg:Gl X x) (hm:X.mg x=none) (hv:bootBuiltins x=some u) (r:RelV v u) (hn:x≠ "__name__" :=by decide) (hd:(x==("__debug__" :Str))=false:=by decide):PE X (.Name x pos) (tC v) :=
 λ_ _ _ H _ I h=>ql I hg hm hv ⟨v,H,I,r,h⟩ hn hd
variable{a b:Expr}{ta tb:TE}{pos:Pos}
def tB(t:TE):TT:=λσ H Q=>t σ H λx H1=>∃c,x= .bl c/\Q c H1
theorem eY{e:Expr}{t:TE}(h:PE X e t)(he:∀whole,isTrue e X.env whole=(do let v ←whole;standAt e.pos;holding [v] (truthy v)):=by intro _;rfl):PT X e (tB t):=by
 intro pins s σ H Q I hw
 refine isTrue_plain (dI (h pins s σ H _ I hw) λv s1 ⟨x,H1,I1,r1,q1⟩=>?_) (he _)
 obtain⟨d,rfl,q⟩:=q1
 cases r1
 exact wpAny_truthy_bool ⟨H1,I1,q⟩
variable{tA UE:TT}{rest:List Expr}
def WR(t u:TT):TT:=λσ H Q=>t σ H λc H1=>if c=true then u σ H1 Q else Q false H1
def tOr(t u:TT):TT:=λσ H Q=>t σ H λc H1=>if c=true then Q true H1 else u σ H1 Q
def WK(t:TT):TT:=λσ H Q=>t σ H λc H1=>Q (!c) H1
theorem sR(ha:PT X a tA):PW X (.BoolOp .And [a] pos) tA:=by
 intro wh pins s σ H Q I h
 refine isTrue_and (dI (ha pins s σ H Q I h) λc s1 e=>?_)
 cases c with
 |true=>exact isTrue_and_nil e
 |false=>exact e
theorem oV(ha:PT X a tA):PW X (.BoolOp .Or [a] pos) tA:=by
 intro wh pins s σ H Q I h
 refine isTrue_or (dI (ha pins s σ H Q I h) λc s1 e=>?_)
 cases c with
 |false=>exact isTrue_or_nil e
 |true=>exact e
theorem wY(ha:PT X a tA)(hb:PW X (.BoolOp .And (b::rest) pos) UE):PW X (.BoolOp .And (a::b::rest) pos) (WR tA UE):=by
 intro wh pins s σ H Q I h
 refine isTrue_and (dI (ha pins s σ H _ I h) λc s1 ⟨H1,I1,q1⟩=>?_)
 cases c with
 |true=>exact hb wh pins s1 σ H1 Q I1 q1
 |false=>exact⟨H1,I1,q1⟩
theorem sQ(ha:PT X a tA)(hb:PW X (.BoolOp .Or (b::rest) pos) UE):PW X (.BoolOp .Or (a::b::rest) pos) (tOr tA UE):=by
 intro wh pins s σ H Q I h
 refine isTrue_or (dI (ha pins s σ H _ I h) λc s1 ⟨H1,I1,q1⟩=>?_)
 cases c with
 |true=>exact⟨H1,I1,q1⟩
 |false=>exact hb wh pins s1 σ H1 Q I1 q1
theorem nY(ha:PT X a tA):PT X (.UnaryOp .Not a pos) (WK tA):=by
 intro pins s σ H Q I h
 exact isTrue_not (ha pins s σ H (λc H1=>Q (!c) H1) I h)
def RG(ta tb:TE):TE:=λσ H Q=>ta σ H λx H1=>∃c,x= .bl c/\if c=true then tb σ H1 Q else Q (.bl false) H1
def WJ(ta tb:TE):TE:=λσ H Q=>ta σ H λx H1=>∃c,x= .bl c/\if c=true then Q (.bl true) H1 else tb σ H1 Q
def Rt(ta:TE):TE:=λσ H Q=>ta σ H λx H1=>∃c,x= .bl c/\Q (.bl (!c)) H1
theorem jj{op}{t:TE}(h:PE X a t):PE X (.BoolOp op [a] pos) t:=λpins s σ H Q I hw=>BoolOp_one (h pins s σ H Q I hw)
theorem jA(ha:PE X a ta)(hb:PE X (.BoolOp .And (b::rest) pos) tb):PE X (.BoolOp .And (a::b::rest) pos) (RG ta tb):=by
 intro pins s σ H Q I h
 refine BoolOp_and (dI (ha pins s σ H _ I h) λv s1 ⟨x,H1,I1,r1,q1⟩=>?_)
 obtain⟨c,rfl,q1⟩:=q1
 cases r1
 refine wpAny_truthy_bool ?_
 cases c with
 |true=>exact hb pins s1 σ H1 Q I1 q1
 |false=>exact⟨.bl false,H1,I1,rfl,q1⟩
theorem Jl(ha:PE X a ta)(hb:PE X (.BoolOp .Or (b::rest) pos) tb):PE X (.BoolOp .Or (a::b::rest) pos) (WJ ta tb):=by
 intro pins s σ H Q I h
 refine BoolOp_or (dI (ha pins s σ H _ I h) λv s1 ⟨x,H1,I1,r1,q1⟩=>?_)
 obtain⟨c,rfl,q1⟩:=q1
 cases r1
 refine wpAny_truthy_bool ?_
 cases c with
 |false=>exact hb pins s1 σ H1 Q I1 q1
 |true=>exact⟨.bl true,H1,I1,rfl,q1⟩
theorem Jm(ha:PE X a ta):PE X (.UnaryOp .Not a pos) (Rt ta):=by
 intro pins s σ H Q I h
 refine UnaryOp_ (dI (ha pins s σ H _ I h) λv s1 ⟨x,H1,I1,r1,q1⟩=>?_)
 obtain⟨c,rfl,q1⟩:=q1
 cases r1
 exact not_of (wpAny_truthy_bool ⟨.bl (!c),H1,I1,rfl,q1⟩)
def tIf(t:TT)(ta tb:TE):TE:=λσ H Q=>t σ H λc H1=>if c=true then ta σ H1 Q else tb σ H1 Q
theorem qa{c:Expr}(hc:PT X c tA)(ha:PE X a ta)(hb:PE X b tb):PE X (.IfExp c a b pos) (tIf tA ta tb):=by
 intro pins s σ H Q I h
 refine wpAny_IfExp (dI (hc pins s σ H _ I h) λd s1 ⟨H1,I1,q1⟩=>?_)
 cases d with
 |true=>exact ha pins s1 σ H1 Q I1 q1
 |false=>exact hb pins s1 σ H1 Q I1 q1
end
end L2
namespace L2
open PySem PySem.Spec PyProof.Rows
def bP(K:PySem.W.Frag)(H:Hp)(a:Addr)(xs:List V):Prop :=
 Rd H a (.lst xs) ∨
  ∃(o:Obj) (its:Array Value) (n:Nat),K.lookup a=some o/\o.cls= .type "list" /\o.dict=none/\o.data= .seq its n/\its.size<=sizeLine/\Vals xs its.toList
def c7(K:PySem.W.Frag)(H:Hp)(a:Addr)(xs:List V):Prop :=
 Rd H a (.tup xs) ∨
  ∃(o:Obj) (its:Array Value) (n:Nat),K.lookup a=some o/\o.cls= .type "tuple" /\o.data= .seq its n/\its.size<=sizeLine/\Vals xs its.toList
def YT:Value->Option V
 | .none=>some .iP
 | .bool b=>some (.bl b)
 | .int i _=>some (.int i)
 | .str x _=>some (.str x)
 | .bytes b _=>some (.GD b)
 | .float b _=>some (.Qy b)
 | .ref a=>some (.ref a)
 | .type n=>some (.ty n)
 |_=>none
theorem RelV.abs{x:V}{u:Value}(r:RelV x u):YT u=some x:=by
 cases x with
 |iP=>cases r;rfl
 |bl _=>cases r;rfl
 |int _=>obtain⟨t,rfl⟩:=r;rfl
 |str _=>obtain⟨t,rfl⟩:=r;rfl
 |GD _=>obtain⟨t,rfl⟩:=r;rfl
 |Qy _=>obtain⟨t,rfl⟩:=r;rfl
 |ref _=>cases r;rfl
 |ty _=>cases r;rfl
theorem RelV.inj{x y:V}{u:Value}(r:RelV x u)(q:RelV y u):x=y:=Option.some.inj (r.abs.symm.trans q.abs)
theorem Vals.inj:∀{xs ys:List V} {us:List Value},Vals xs us->Vals ys us->xs=ys
 |_,_,_,.nil,.nil=>rfl
 |_,_,_,.cons r t,.cons r' t'=>by rw[r.inj r',Vals.inj t t']
section
variable{X:Cx}{pins:List (Addr×Obj)}{σ:St}{H:Hp}{s:Shared}{a:Addr}{xs ys:List V}
theorem bP.of{K:PySem.W.Frag}(h:H a=some (.lst xs)):bP K H a xs:=.inl (.inl h)
theorem c7.of{K:PySem.W.Frag}(h:H a=some (.tup xs)):c7 K H a xs:=.inl (.inl h)
theorem Inv.list(I:Inv X pins σ H s)(h:bP X.K H a xs):∃its:List Value,Vals xs its/\PlainL s.heap a its.toArray/\xs.length<=sizeLine:=by
 rcases h with h|⟨o,its,n,hk,hc,hd,hs,hz,r⟩
 ·obtain⟨z,its,n,r,e⟩:=h.ok I.hok
  exact⟨its,r,⟨_,n,e,rfl,rfl,rfl⟩,z⟩
 ·refine⟨its.toList,r,⟨o,n,I.pL a o hk,hc,hd,by simpa using hs⟩,?_⟩
  have e:=r.length
  simp only[Array.length_toList]at e
  omega
theorem Inv.tuple(I:Inv X pins σ H s)(h:c7 X.K H a xs):∃its:List Value,Vals xs its/\IsTup s.heap a its.toArray/\xs.length<=sizeLine:=by
 rcases h with h|⟨o,its,n,hk,hc,hs,hz,r⟩
 ·obtain⟨z,its,r,p⟩:=h.ok I.hok
  exact⟨its,r,p,z⟩
 ·refine⟨its.toList,r,⟨o,I.pL a o hk,hc,n,by simpa using hs⟩,?_⟩
  have e:=r.length
  simp only[Array.length_toList]at e
  omega
theorem Inv.xJ(I:Inv X pins σ H s)(h:bP X.K H a xs)(h':bP X.K H a ys):xs=ys:=by
 obtain⟨its,r,⟨o,n,e,_,_,d⟩,_⟩:=I.list h
 obtain⟨its',r',⟨o',n',e',_,_,d'⟩,_⟩:=I.list h'
 rw[e]at e';cases e'
 rw[d]at d'
 injection d' with d1 _
 have:its=its':=by simpa using congrArg Array.toList d1
 subst this
 exact r.inj r'
theorem Inv.zH(I:Inv X pins σ H s)(h:c7 X.K H a xs)(h':c7 X.K H a ys):xs=ys:=by
 obtain⟨its,r,⟨o,e,_,n,d⟩,_⟩:=I.tuple h
 obtain⟨its',r',⟨o',e',_,n',d'⟩,_⟩:=I.tuple h'
 rw[e]at e';cases e'
 rw[d]at d'
 injection d' with d1 _
 have:its=its':=by simpa using congrArg Array.toList d1
 subst this
 exact r.inj r'
end
abbrev Cx.yo(X:Cx)(E:Value->Shared->Prop):Cx:={ X with xe:=E }
abbrev Cx.PF(X:Cx):Cx:=X.yo λ_ _=>False
theorem Cx.Ok.yo{X:Cx}(ok:X.Ok)(E:Value->Shared->Prop):(X.yo E).Ok :=
 ⟨ok.mod,ok.kind,ok.glob,ok.blt,ok.above,ok.inj,ok.has,ok.MG,ok.hd,ok.frames,ok.stk,ok.U7,ok.bs,ok.KH,ok.EL,ok.HF,ok.sr,ok.Mz,ok.tk⟩
theorem Cx.Ok.pP{X:Cx}{E:Value->Shared->Prop}(ok:(X.yo E).Ok):X.Ok :=
 ⟨ok.mod,ok.kind,ok.glob,ok.blt,ok.above,ok.inj,ok.has,ok.MG,ok.hd,ok.frames,ok.stk,ok.U7,ok.bs,ok.KH,ok.EL,ok.HF,ok.sr,ok.Mz,ok.tk⟩
section
variable{X:Cx}{pins:List (Addr×Obj)}{σ:St}{H:Hp}{s:Shared}{E:Value->Shared->Prop}
theorem Inv.yo(I:Inv X pins σ H s)(E:Value->Shared->Prop):Inv (X.yo E) pins σ H s:=⟨I.ok.yo E,I.os,I.bare,I.base,I.loc,I.cell,I.free,I.jF,I.pin,I.hok,I.len,I.up⟩
theorem Inv.pP(I:Inv (X.yo E) pins σ H s):Inv X pins σ H s:=⟨I.ok.pP,I.os,I.bare,I.base,I.loc,I.cell,I.free,I.jF,I.pin,I.hok,I.len,I.up⟩
theorem SP.pP{D:Ends}{f:Flow}{s':Shared}(h:SP (X.yo E) pins D f s'):SP X pins D f s':=by
 cases f with
 |next=>obtain⟨σ',H',I,q⟩:=h;exact⟨σ',H',I.pP,q⟩
 |brk=>obtain⟨σ',H',I,q⟩:=h;exact⟨σ',H',I.pP,q⟩
 |cont=>obtain⟨σ',H',I,q⟩:=h;exact⟨σ',H',I.pP,q⟩
 |ret u=>obtain⟨v,σ',H',I,r,q⟩:=h;exact⟨v,σ',H',I.pP,r,q⟩
theorem Al.PF{st:List Stmt}{t:TS}(h:Al X.PF st t):Al X st t:=λpins s σ H D I hw =>
 wpAny_mono (h pins s σ H D (I.yo _) hw) (λ_ _ q=>q.pP) λ_ _ z=>False.elim z
end
section
variable{X:Cx}{st:Stmt}{rest:List Stmt}{t u:TS}{e:Expr}{te:TE}{pos:Pos}
def Ru:TS:=λD σ H=>D.nx σ H
def WH(t u:TS):TS:=λD σ H=>t { D with nx:=u D } σ H
theorem aP:Al X [] Ru:=λ_ _ σ H _ I h=>wpAny_execs_nil ⟨σ,H,I,h⟩
theorem aj(h1:PS X st t)(h2:Al X rest u):Al X (st::rest) (WH t u):=by
 intro pins s σ H D I h
 refine wpAny_execs_cons (dI (h1 pins s σ H { D with nx:=u D } I h) λf s1 q=>?_)
 cases f with
 |next =>
  obtain⟨σ',H',I',q⟩:=q
  exact h2 pins s1 σ' H' D I' q
 |ret v=>exact q
 |brk=>exact q
 |cont=>exact q
theorem ao(h1:PS X st t):Al X [st] t:=by
 intro pins s σ H D I h
 refine wpAny_execs_cons (dI (h1 pins s σ H D I h) λf s1 q=>?_)
 cases f with
 |next=>exact wpAny_execs_nil q
 |ret v=>exact q
 |brk=>exact q
 |cont=>exact q
theorem Inv.quiet{pins:List (Addr×Obj)}{σ:St}{H:Hp}{s:Shared}(I:Inv X pins σ H s):interactive X.env=false:=by simp[interactive,I.ok.kind]
def RA(te:TE):TS:=λD σ H=>te σ H λ_ H1=>D.nx σ H1
theorem cZ(he:PE X e te)(hs:swapsWith e none pos.line X.env=pure false:=by rfl):PS X (.Expr e pos) (RA te):=by
 intro pins s σ H D I h
 exact wpAny_Expr_any (dI (he pins s σ H _ I h) λv s1 ⟨x,H1,I1,r1,q1⟩=>⟨σ,H1,I1,q1⟩) I.quiet hs
def WI(te:TE):TS:=λD σ H=>te σ H D.rt
theorem aN(he:PE X e te):PS X (.Return (some e) pos) (WI te):=by
 intro pins s σ H D I h
 exact wpAny_Return_some (dI (he pins s σ H _ I h) λv s1 ⟨x,H1,I1,r1,q1⟩=>⟨x,σ,H1,I1,r1,q1⟩)
def WO(c:TT)(t u:TS):TS:=λD σ H=>c σ H λb H1=>if b=true then t D σ H1 else u D σ H1
theorem bE{c:Expr}{a b:List Stmt}{tc:TT}(hc:PT X c tc)(ha:Al X a t)(hb:Al X b u):PS X (.If c a b pos) (WO tc t u):=by
 intro pins s σ H D I h
 refine wpAny_If (dI (hc pins s σ H _ I h) λd s1 ⟨H1,I1,q1⟩=>?_)
 cases d with
 |true=>exact ha pins s1 σ H1 D I1 q1
 |false=>exact hb pins s1 σ H1 D I1 q1
def O1:TS:=λ_ _ _=>False
theorem bN{sts:List Stmt}:Al X sts O1:=λ_ _ _ _ _ _ h=>h.elim
end
abbrev TG:=V->St->Hp->(St->Hp->Prop)->Prop
abbrev Ny:=List V->St->Hp->(St->Hp->Prop)->Prop
def PG(X:Cx)(target:Expr)(t:TG):Prop :=
 ∀(pins:List (Addr×Obj)) (s:Shared) (σ:St) (H:Hp) (v:V) (u:Value) (Q:St->Hp->Prop),Inv X pins σ H s->RelV v u->t v σ H Q →
  wpAny (model X.prog X.w) X.A (assign target X.env u) (λ_ s'=>∃ σ' H',Inv X pins σ' H' s'/\Q σ' H') X.xe s
def Ue(X:Cx)(ts:List Expr)(t:Ny):Prop :=
 ∀(pins:List (Addr×Obj)) (s:Shared) (σ:St) (H:Hp) (vs:List V) (us:List Value) (Q:St->Hp->Prop),Inv X pins σ H s->Vals vs us->t vs σ H Q →
  wpAny (model X.prog X.w) X.A (assignInOrder ((assignEach ts X.env).map (·.2)) us) (λ_ s'=>∃ σ' H',Inv X pins σ' H' s'/\Q σ' H') X.xe s
abbrev QK:=V->V->V->Hp->(Hp->Prop)->Prop
def Ud(X:Cx)(t:QK):Prop :=
 ∀(pins:List (Addr×Obj)) (s:Shared) (σ:St) (H:Hp) (o i v:V) (ov iv u:Value) (Q:Hp->Prop),Inv X pins σ H s->RelV o ov->RelV i iv->RelV v u->t o i v H Q →
  wpAny (model X.prog X.w) X.A (setItem ov iv u) (λ_ s'=>∃H',Inv X pins σ H' s'/\Q H') X.xe s
section
variable{X:Cx}{pos:Pos}
def Gu(i:Nat):TG:=λv σ H Q=>Q (σ.set i (some v)) H
theorem aK{i:Nat}{x:Str}(hN:X.N.Nodup)(hi:X.N[i]? =some x)(hx:Loc X.env.scope x)(hf:X.fn x=true\/X.env.scope.names.lookup x=some .local:=by first|exact .inl rfl|exact .inr rfl|assumption):PG X (.Name x pos) (Gu i):=by
 intro pins s σ H v u Q I r h
 exact wpAny_assign_Name (wL I hN hi hx r (λs' I'=>⟨_,H,I',h⟩) hf)
def YD:Ny:=λvs σ H Q=>vs=[]/\Q σ H
def TV(t:TG)(u:Ny):Ny:=λvs σ H Q=>∃v r,vs=v::r/\t v σ H λσ' H'=>u r σ' H' Q
theorem lz:Ue X [] YD:=by
 intro pins s σ H vs us Q I r h
 obtain⟨e,h⟩:=h
 subst e
 cases r
 exact assignInOrder_nil ⟨σ,H,I,h⟩
theorem bS{e:Expr}{es:List Expr}{t:TG}{u:Ny}(h1:PG X e t)(h2:Ue X es u)
  (hs:(assignEach (e::es) X.env).map (·.2)=assign e X.env::(assignEach es X.env).map (·.2):=by rfl):Ue X (e::es) (TV t u):=by
 intro pins s σ H vs us Q I r h
 obtain⟨v,vr,e1,h⟩:=h
 subst e1
 cases r with
 |cons r rr =>
  rw[hs]
  refine assignInOrder_cons (dI (h1 pins s σ H _ _ _ I r h) λ_ s1 ⟨σ1,H1,I1,q1⟩=>?_)
  exact h2 pins s1 σ1 H1 _ _ Q I1 rr q1
def TR(K:PySem.W.Frag)(n:Nat)(t:Ny):TG:=λv σ H Q=>∃a xs,v= .ref a/\c7 K H a xs/\xs.length=n/\t xs σ H Q
theorem oW{es:List Expr}{k:Nat}{t:Ny}{n:Nat}(hc:X.calm=true)(h:Ue X es t)
  (hn:(assignEach es X.env).length=n:=by rfl) (hst:(assignEach es X.env).findIdx? (·.1)=none:=by rfl):PG X (.Tuple es k pos) (TR X.K n t):=by
 intro pins s σ H v u Q I r hw
 obtain⟨a,xs,e1,hq,hl,hw⟩:=hw
 subst e1
 cases r
 obtain⟨its,rv,ht,hz⟩:=I.tuple hq
 refine assign_Tuple_tuple (I.ok.hd hc) ht (by simp[hn,←hl,rv.length]) hst λh' hx=>?_
 have I1:Inv X pins σ H { s with heap:=h' }:=I.kept (t':=s.toks) λb o e=>hx b o (Nat.ne_of_lt (Heap.lt_size e)) e
 exact h pins _ σ H xs _ Q I1 (by simpa using rv) hw
def YC(to ti:TE)(t:QK):TG:=λv σ H Q=>to σ H λo H1=>ti σ H1 λi H2=>t o i v H2 λH3=>Q σ H3
theorem AG{o i:Expr}{to ti:TE}{t:QK}(ho:PE X o to)(hi:PE X i ti)(hs:Ud X t)
  (ha:∀v,assign (.Subscript o i pos) X.env v=(do
   let ov ←holding [v] (eval o X.env)
   let iv ←holding [v,ov] (eval i X.env)
   standAt pos
   holding [v,ov,iv] (setItem ov iv v)
   release [v,ov,iv] []):=by intro _;rfl):PG X (.Subscript o i pos) (YC to ti t):=by
 intro pins s σ H v u Q I r h
 rw[ha]
 refine wpAny_bind (wpAny_holding (dI (ho pins s σ H _ I h) λov s1 ⟨x,H1,I1,r1,q1⟩=>?_))
 refine wpAny_bind (wpAny_holding (dI (hi pins s1 σ H1 _ I1 q1) λiv s2 ⟨y,H2,I2,r2,q2⟩=>?_))
 refine wpAny_bind (wpAny_standAt (wpAny_bind (wpAny_holding (dI (hs pins s2 σ H2 x y v ov iv u _ I2 r1 r2 r q2) λ_ s3 ⟨H3,I3,q3⟩=>?_))))
 exact wpAny_release ⟨σ,H3,I3,q3⟩
def Lx(te:TE)(g:TG):TS:=λD σ H=>te σ H λx H1=>g x σ H1 D.nx
theorem uq{tg e:Expr}{te:TE}{g:TG}(he:PE X e te)(hg:PG X tg g)(hs:swapsWithSole [tg] e pos.line X.env=pure false:=by rfl)(hw:swappedStores [tg] e X.env=pure none:=by rfl)
  (h1:(assignEach [tg] X.env).map (·.2)=[assign tg X.env]:=by rfl):PS X (.Assign [tg] e pos) (Lx te g):=by
 intro pins s σ H D I h
 refine wpAny_Assign_stores (dI (he pins s σ H _ I h) λv s1 ⟨x,H1,I1,r1,q1⟩=>?_) hs hw
 rw[h1]
 exact dI (hg pins s1 σ H1 x v _ I1 r1 q1) λ_ s2 q=>q
theorem aH{i:Nat}{x:Str}{e:Expr}{te:TE}{pos':Pos}(hN:X.N.Nodup)(hi:X.N[i]? =some x)(hx:Loc X.env.scope x)(he:PE X e te)(hs:swapsWith e (some (.Name x pos')) pos.line X.env=pure false:=by rfl)(hf:X.fn x=true\/X.env.scope.names.lookup x=some .local:=by first|exact .inl rfl|exact .inr rfl|assumption):
  PS X (.Assign [.Name x pos'] e pos) (Lx te (Gu i)):=by
 intro pins s σ H D I h
 refine wpAny_Assign_Name (dI (he pins s σ H _ I h) λv s1 ⟨y,H1,I1,r1,q1⟩=>?_) hs
 exact wL I1 hN hi hx r1 (λs2 I2=>⟨_,H1,I2,q1⟩) hf
end
section
variable{X:Cx}{pos:Pos}
def OZ(c:TT)(tb:TS):TS:=λD σ H=>∃W:Nat->St->Hp->Prop,(∃m,W m σ H)/\∀m σ H,W m σ H →
 c σ H λb H1=>if b=true then ∃N:St->Hp->Prop,(∀ σ' H',N σ' H'->∃m',m'<m/\W m' σ' H')/\tb { D with nx:=N,ct:=N,bk:=D.nx } σ H1 else D.nx σ H1
theorem CF{c:Expr}{body:List Stmt}{tc:TT}{tb:TS}(hp:PassesOwn (model X.prog X.w) X.A X.env X.xe)(hc:PT X c tc)(hb:Al X body tb):PS X (.While c body [] pos) (OZ tc tb):=by
 intro pins s σ H D I h
 obtain⟨W,⟨m0,w0⟩,turn⟩:=h
 refine wpAny_While (codeAny_whileLoop (λn s'=>∃ σ' H',Inv X pins σ' H' s'/\W n σ' H') ?_ m0 ⟨σ,H,I,w0⟩)
 rintro n s1 ⟨σ1,H1,I1,w1⟩
 refine wpAny_passesOwn hp (dI (hc pins s1 σ1 H1 _ I1 (turn n σ1 H1 w1)) λb s2 ⟨H2,I2,q2⟩=>?_)
 cases b with
 |true =>
  obtain⟨N,hN,q2⟩:=q2
  rw[if_pos rfl]
  refine wpAny_passesOwn hp (dI (hb pins s2 σ1 H2 _ I2 q2) λf s3 q3=>?_)
  cases f with
  |next =>
   obtain⟨σ3,H3,I3,n3⟩:=q3
   obtain⟨m',hm,w3⟩:=hN σ3 H3 n3
   exact⟨m',hm,σ3,H3,I3,w3⟩
  |cont =>
   obtain⟨σ3,H3,I3,n3⟩:=q3
   obtain⟨m',hm,w3⟩:=hN σ3 H3 n3
   exact⟨m',hm,σ3,H3,I3,w3⟩
  |brk=>exact q3
  |ret v=>exact q3
 |false =>
  rw[if_neg Bool.false_ne_true]
  exact wpAny_execs_nil ⟨σ1,H2,I2,q2⟩
end
structure It where
 go:Nat->Hp->Prop
 zA:Nat->Hp->V->Hp->Prop
 stop:Nat->Hp->Prop
def pO(X:Cx)(pins:List (Addr×Obj))(H:Hp)(b:Addr):Prop :=
 H b=none/\b≠X.env.locals/\b∉X.fs/\(b∈X.ex\/X.s₀.heap.objs.size<=b)/\(∀x c,X.env.cells.lookup x=some c->c≠b)/\∀p∈X.pn++pins,p.1≠b
theorem Inv.uM{X:Cx}{pins:List (Addr×Obj)}{σ:St}{H H':Hp}{s:Shared}{b:Addr}(I:Inv X pins σ H s)(hb:s.heap.objs.size<=b)(hn:H' b=none):pO X pins H' b:=by
 refine⟨hn,Nat.ne_of_gt (Nat.lt_of_lt_of_le I.lt hb),I.Xh hb,.inr (Nat.le_trans I.sz hb),λx c e z=>?_,λp hp z=>?_⟩
 ·obtain⟨v,q⟩:=I.cell x c e
  exact absurd (Nat.lt_of_lt_of_le q.lt (by rw[z];exact hb)) (Nat.lt_irrefl _)
 ·exact absurd (Nat.lt_of_lt_of_le (Heap.lt_size (I.pin p hp).1) (by rw[z];exact hb)) (Nat.lt_irrefl _)
structure Turn(P:Program)(w:World)(K:PySem.W.Frag)(tg:Expr)(J:It)(fp:List Addr)(it:Addr)(tn:Nat->Heap->Prop):Prop where
 mem:it∈fp
 obj:∀i h,tn i h->∀b∈fp,∃o,h.get? b=some o/\∀v,o.data≠ .cell v
 keep:∀i h h',tn i h->(∀b∈fp,∀o,h.get? b=some o->h'.get? b=some o)->tn i h'
 item:∀(X:Cx),X.prog=P->X.w=w->X.K=K->X.calm=true->∀(i:Nat) (pins:List (Addr×Obj)) (s:Shared) (σ:St) (H:Hp) (E:Value->Shared->Prop),Inv X pins σ H s->(∀b∈fp,pO X pins H b)->tn i s.heap->J.go i H →
  wpAny (model P w) X.A (pyNext (.ref it)) (λr s1=>∃u,r=some u ∧
   wpAny (model P w) X.A (letOwnedTupleGo tg (.ref it) u) (λ_ s2=>∃x H',Inv X pins σ H' s2/\RelV x u/\J.zA i H x H'/\tn (i+1) s2.heap/\∀b∈fp,H' b=none) E s1) E s
 done:∀(X:Cx),X.prog=P->X.w=w->X.K=K->X.calm=true->∀(i:Nat) (pins:List (Addr×Obj)) (s:Shared) (σ:St) (H:Hp) (E:Value->Shared->Prop),Inv X pins σ H s->(∀b∈fp,pO X pins H b)->tn i s.heap->J.stop i H →
  wpAny (model P w) X.A (pyNext (.ref it)) (λr s1=>r=none/\Inv X pins σ H s1) E s
 self:∀(A:Around) (i:Nat) (s:Shared) (Q:Value->Shared->Prop) (E:Value->Shared->Prop),tn i s.heap->Q (.ref it) s->wpAny (model P w) A (pyIter (.ref it)) Q E s
abbrev TI:=St->Hp->(It->Hp->Prop)->Prop
def PIE(X:Cx)(pins:List (Addr×Obj))(σ:St)(tg:Expr)(R:It->Hp->Prop)(itv:Value)(s2:Shared):Prop :=
 ∃(it:Addr) (fp:List Addr) (tn:Nat->Heap->Prop) (J:It) (H':Hp),itv= .ref it/\Inv X pins σ H' s2/\Turn X.prog X.w X.K tg J fp it tn/\tn 0 s2.heap/\(∀b∈fp,pO X pins H' b)/\R J H'
def PI(X:Cx)(tg iter:Expr)(wi:TI):Prop :=
 ∀(pins:List (Addr×Obj)) (s:Shared) (σ:St) (H:Hp) (R:It->Hp->Prop),Inv X pins σ H s->wi σ H R →
  wpAny (model X.prog X.w) X.A (eval iter X.env) (λv s1=>wpAny (model X.prog X.w) X.A (pyIter v) (PIE X pins σ tg R) X.xe s1) X.xe s
theorem zZ{M:Model}{A:Around}{E:Value->Shared->Prop}{s:Shared}{tg:Expr}{it:Addr}{u:Value}{o:Obj}{n:String}{vs:Array Value}{Q:Unit->Shared->Prop}(ho:s.heap.get? it=some o)(hc:o.cls= .type n)(hd:o.data= .fields vs)
  (hn:["enumerate","zip","dict_itemiterator","dict_reverseitemiterator","odict_iterator","itertools.zip_longest","itertools.pairwise"].contains n=false) (hQ:Q () s):wpAny M A (letOwnedTupleGo tg (.ref it) u) Q E s:=by
 unfold letOwnedTupleGo
 cases tg<;>first
  |exact wpAny_pure hQ
  |(cases u<;>first
    |exact wpAny_pure hQ
    |(refine wpAny_bind (wpAny_load ho ?_)
      rw[hc,hd]
      show wpAny M A (if(["enumerate","zip","dict_itemiterator","dict_reverseitemiterator","odict_iterator","itertools.zip_longest","itertools.pairwise"].contains n&&vs[0]? ==some (rawInt _))=true then _ else _) Q E s
      rw[if_neg (by intro h;rw[hn,Bool.false_and]at h;cases h)]
      exact wpAny_pure hQ))
def Um(K:PySem.W.Frag)(a:Addr):It :=
 ⟨λi H=>∃xs x,bP K H a xs/\xs[i]? =some x,λi H x H'=>H'=H/\∀xs,bP K H a xs->xs[i]? =some x,λi H=>∃xs,bP K H a xs/\xs.length<=i⟩
def Ul(K:PySem.W.Frag)(a:Addr):It :=
 ⟨λi H=>∃xs x,c7 K H a xs/\xs[i]? =some x,λi H x H'=>H'=H/\∀xs,c7 K H a xs->xs[i]? =some x,λi H=>∃xs,c7 K H a xs/\xs.length<=i⟩
def Ri(lo:Int)(n:Nat):It:=⟨λi _=>i<n,λi H x H'=>H'=H/\x= .int (lo+i),λi _=>n<=i⟩
theorem zG{P:Program}{w:World}{K:PySem.W.Frag}{tg:Expr}(a it:Addr):Turn P w K tg (Um K a) [it] it (λi h=>h.IsListIter it a i) where
 mem:=by simp
 obj:=λi h st b hb=>by
  have e:b=it:=by simpa using hb
  subst e
  obtain⟨o,e,c,d⟩:=st
  exact⟨o,e,λv z=>by rw[d]at z;cases z⟩
 keep:=λi h h' st k=>st.at λo e=>k it (by simp) o e
 item:=by
  intro X hP hw hK hc i pins s σ H E I hf st hg
  subst hP hw hK
  obtain⟨xs,x,hq,hx⟩:=hg
  obtain⟨its,rv,p,hz⟩:=I.list hq
  obtain⟨u,hu,ru⟩:=rv.get hx
  obtain⟨f0,f1,f2,f3,f4,f5⟩:=hf it (by simp)
  refine wpAny_pyNext_list_item st p.isList (x:=u) (by simpa using hu) λh' st' sb=>?_
  have I1:Inv X pins σ H { s with heap:=h' }:=I.turned (t':=s.toks) (λb o hb e=>(sb.2 b hb).trans e) f0 f1 f3 f4 f5
  obtain⟨o,e,c,d⟩:=id st'
  exact⟨u,rfl,zZ (s:={ s with heap:=h' }) e c d (by decide) ⟨x,H,I1,ru,⟨rfl,λys hy=>by rw[I.xJ hy hq];exact hx⟩,st',λb hb=>(hf b hb).1⟩⟩
 done:=by
  intro X hP hw hK hc i pins s σ H E I hf st hg
  subst hP hw hK
  obtain⟨xs,hq,hx⟩:=hg
  obtain⟨its,rv,p,hz⟩:=I.list hq
  obtain⟨f0,f1,f2,f3,f4,f5⟩:=hf it (by simp)
  have hl:=rv.length
  exact wpAny_pyNext_list_end (I.ok.hd hc) st p.isList (by simp;omega) λh' eb=>⟨rfl,I.turned (t':=s.toks) (λb o hb e=>eb b o hb e) f0 f1 f3 f4 f5⟩
 self:=λ_ _ _ _ _ st h=>wpAny_pyIter_listiter st h
theorem wK{P:Program}{w:World}{K:PySem.W.Frag}{tg:Expr}(a it:Addr):Turn P w K tg (Ul K a) [it] it (λi h=>h.IsTupleIter it a i) where
 mem:=by simp
 obj:=λi h st b hb=>by
  have e:b=it:=by simpa using hb
  subst e
  obtain⟨o,e,c,d⟩:=st
  exact⟨o,e,λv z=>by rw[d]at z;cases z⟩
 keep:=λi h h' st k=>st.at λo e=>k it (by simp) o e
 item:=by
  intro X hP hw hK hc i pins s σ H E I hf st hg
  subst hP hw hK
  obtain⟨xs,x,hq,hx⟩:=hg
  obtain⟨its,rv,p,hz⟩:=I.tuple hq
  obtain⟨u,hu,ru⟩:=rv.get hx
  obtain⟨f0,f1,f2,f3,f4,f5⟩:=hf it (by simp)
  refine wpAny_pyNext_tuple_item st (show s.heap.IsTuple a its.toArray from p) (x:=u) (by simpa using hu) λh' st' sb=>?_
  have I1:Inv X pins σ H { s with heap:=h' }:=I.turned (t':=s.toks) (λb o hb e=>(sb.2 b hb).trans e) f0 f1 f3 f4 f5
  obtain⟨o,e,c,d⟩:=id st'
  exact⟨u,rfl,zZ (s:={ s with heap:=h' }) e c d (by decide) ⟨x,H,I1,ru,⟨rfl,λys hy=>by rw[I.zH hy hq];exact hx⟩,st',λb hb=>(hf b hb).1⟩⟩
 done:=by
  intro X hP hw hK hc i pins s σ H E I hf st hg
  subst hP hw hK
  obtain⟨xs,hq,hx⟩:=hg
  obtain⟨its,rv,p,hz⟩:=I.tuple hq
  obtain⟨f0,f1,f2,f3,f4,f5⟩:=hf it (by simp)
  have hl:=rv.length
  exact wpAny_pyNext_tuple_end (I.ok.hd hc) st (show s.heap.IsTuple a its.toArray from p) (by simp;omega) λh' eb=>⟨rfl,I.turned (t':=s.toks) (λb o hb e=>eb b o hb e) f0 f1 f3 f4 f5⟩
 self:=λ_ _ _ _ _ st h=>wpAny_pyIter_tupleiter st h
theorem Ef{P:Program}{w:World}{K:PySem.W.Frag}{tg:Expr}(it:Addr)(lo:Int)(n:Nat):Turn P w K tg (Ri lo n) [it] it (λi h=>IsRangeIter h it (lo+(i:Nat)*1) ((n:Int)-(i:Nat)) 1) where
 mem:=by simp
 obj:=λi h st b hb=>by
  have e:b=it:=by simpa using hb
  subst e
  exact⟨_,st,λv z=>by
   have z':Data.fields _=Data.cell v:=z
   cases z'⟩
 keep:=λi h h' st k=>k it (by simp) _ st
 item:=by
  intro X hP hw hK hc i pins s σ H E I hf st hg
  subst hP hw hK
  obtain⟨f0,f1,f2,f3,f4,f5⟩:=hf it (by simp)
  have W:=Walks.range (prog:=X.prog) (w:=X.w) (I.ok.hd hc) it lo 1 n
  refine TK.bY (Nat.le_refl s.toks) (W.item i s _ _ hg st λv h' tk hv st' kk hup=>?_)
  obtain⟨t,rfl⟩:=hv
  have I1:Inv X pins σ H { s with heap:=h',toks:=tk }:=I.turned (λb o hb e=>kk b o (by simpa using hb) e) f0 f1 f3 f4 f5
  refine⟨_,rfl,zZ (s:={ s with heap:=h',toks:=tk }) (n:= "range_iterator") st' rfl rfl (by decide) ⟨.int (lo+i),H,I1,⟨t,?_⟩,⟨rfl,rfl⟩,st',λb hb=>(hf b hb).1⟩⟩
  rw[Int.mul_one]
 done:=by
  intro X hP hw hK hc i pins s σ H E I hf st hg
  subst hP hw hK
  obtain⟨f0,f1,f2,f3,f4,f5⟩:=hf it (by simp)
  exact wpAny_pyNext_range_end (I.ok.hd hc) st (by have:n<=i:=hg;omega) λh' eb=>⟨rfl,I.turned (t':=s.toks) (λb o hb e=>eb b o hb e) f0 f1 f3 f4 f5⟩
 self:=λ_ _ _ _ _ st h=>wpAny_pyIter_rangeiter st h
end L2
namespace L2
open PySem PySem.Spec PyProof.Rows
section
variable{X:Cx}{tg:Expr}
def SV(K:PySem.W.Frag)(tl:TE):TI:=λσ H R=>tl σ H λx H1=>∃a,x= .ref a/\(∃xs,bP K H1 a xs)/\R (Um K a) H1
def XA(K:PySem.W.Frag)(tl:TE):TI:=λσ H R=>tl σ H λx H1=>∃a,x= .ref a/\(∃xs,c7 K H1 a xs)/\R (Ul K a) H1
theorem jy{l:Expr}{tl:TE}(hl:PE X l tl):PI X tg l (SV X.K tl):=by
 intro pins s σ H R I h
 refine dI (hl pins s σ H _ I h) λv s1 ⟨x,H1,I1,r1,q1⟩=>?_
 obtain⟨a,e,⟨xs,hq⟩,q⟩:=q1
 subst e
 cases r1
 obtain⟨its,rv,p,hz⟩:=I1.list hq
 refine wpAny_pyIter_list p.isList ?_
 refine⟨s1.heap.objs.size,[s1.heap.objs.size],_,_,H1,rfl,I1.kept (t':=s1.toks) λb o e=>Heap.get?_push_of_some _ e,zG a _,⟨_,Heap.get?_push_size _ rfl,rfl,rfl⟩,λb hb=>?_,q⟩
 have e:b=s1.heap.objs.size:=by simpa using hb
 subst e
 exact I1.uM (Nat.le_refl _) (I1.hok.fresh (Nat.le_refl _))
theorem AF{l:Expr}{tl:TE}(hl:PE X l tl):PI X tg l (XA X.K tl):=by
 intro pins s σ H R I h
 refine dI (hl pins s σ H _ I h) λv s1 ⟨x,H1,I1,r1,q1⟩=>?_
 obtain⟨a,e,⟨xs,hq⟩,q⟩:=q1
 subst e
 cases r1
 obtain⟨its,rv,p,hz⟩:=I1.tuple hq
 refine wpAny_pyIter_tuple (show s1.heap.IsTuple a its.toArray from p) ?_
 refine⟨s1.heap.objs.size,[s1.heap.objs.size],_,_,H1,rfl,I1.kept (t':=s1.toks) λb o e=>Heap.get?_push_of_some _ e,wK a _,⟨_,Heap.get?_push_size _ rfl,rfl,rfl⟩,λb hb=>?_,q⟩
 have e:b=s1.heap.objs.size:=by simpa using hb
 subst e
 exact I1.uM (Nat.le_refl _) (I1.hok.fresh (Nat.le_refl _))
theorem Jh{pins:List (Addr×Obj)}{σ:St}{H:Hp}{s:Shared}{R:It->Hp->Prop}{E:Value->Shared->Prop}{lo hi:Int}{t u v:Tok}{tk:Nat}(I:Inv X pins σ H s)(h1: -(2 ^ 62)<=lo)(h2:lo<2 ^ 62)(h3: -(2 ^ 62)<=hi)(h4:hi<2 ^ 62)
  (q:R (Ri lo (hi-lo).toNat) H) (htk:s.toks<=tk:=by first|exact Nat.le_refl _|exact Nat.le_succ _|assumption|omega):wpAny (model X.prog X.w) X.A (pyIter (.ref s.heap.objs.size)) (PIE X pins σ tg R) E { s with heap:=s.heap.push { cls:=.type "range",data:=.fields #[.int lo t,.int hi u,.int 1 v] },toks:=tk }:=by
 refine wpAny_pyIter_range (IsRange.new ..) (small_one h1 h2 h3 h4) ?_
 have I1:Inv X pins σ H { s with heap:=s.heap.push { cls:=.type "range",data:=.fields #[.int lo t,.int hi u,.int 1 v] },toks:=tk }:=I.kept λb o e=>Heap.get?_push_of_some _ e
 refine⟨(s.heap.push { cls:=.type "range",data:=.fields #[.int lo t,.int hi u,.int 1 v] }).objs.size,[(s.heap.push { cls:=.type "range",data:=.fields #[.int lo t,.int hi u,.int 1 v] }).objs.size],_,_,H,rfl,
  I1.kept (t':=tk) λb o e=>Heap.get?_push_of_some _ e,Ef _ lo (hi-lo).toNat,?_,λb hb=>?_,q⟩
 ·have e1:lo+((0:Nat):Int)*1=lo:=by simp
  have e2:(((hi-lo).toNat:Nat):Int)-((0:Nat):Int)=Builtin.Range.rangeSize lo hi 1:=by rw[rangeSize_one];split<;>omega
  show IsRangeIter _ _ (lo+((0:Nat):Int)*1) ((((hi-lo).toNat:Nat):Int)-((0:Nat):Int)) 1
  rw[e1,e2]
  exact Heap.get?_push_size _ rfl
 ·have e:b=(s.heap.push { cls:=.type "range",data:=.fields #[.int lo t,.int hi u,.int 1 v] }).objs.size:=by simpa using hb
  subst e
  exact I1.uM (Nat.le_refl _) (I1.hok.fresh (Nat.le_refl _))
def SS(ta:TA):TI:=λσ H R=>ta σ H λvs H1=>∃j:Int,vs=[.int j]/\ -(2 ^ 62)<=j/\j<2 ^ 62/\R (Ri 0 j.toNat) H1
theorem dw {a:Expr} {ta:TA} {p pos:Pos} (hg:Gl X "range") (hm:X.mg "range" =none) (ha:PA X [a] ta) (hs:starEach [a] X.env=[(false,eval a X.env)]:=by rfl):PI X tg (.Call (.Name "range" p) [a] [] pos) (SS ta):=by
 intro pins s σ H R I h
 refine Call_ (ql I hg hm boot_range (PyProof.Rows.callWith_type1 (dI (ha pos pins s σ H _ I h) λus s1 ⟨vs,H1,I1,r1,q1⟩=>?_) hs rfl))
 obtain⟨j,e,q1,q2,q⟩:=q1
 subst e
 cases r1 with
 |cons r rr =>
  cases rr
  obtain⟨t,rfl⟩:=r
  exact call_range_1 (Jh I1 (by omega) (by omega) q1 q2 (by simpa using q))
def WQ(wi:TI)(g:TG)(tb:TS):TS:=λD σ H=>wi σ H λJ H1=>∃W:Nat->Nat->St->Hp->Prop,(∃m,W 0 m σ H1)/\∀i m σ H,W i m σ H →
 (J.stop i H/\D.nx σ H)\/(J.go i H/\∃N:St->Hp->Prop,(∀ σ' H',N σ' H'->∃m',m'<m/\W (i+1) m' σ' H')/\∀x H',J.zA i H x H'->g x σ H' λσ2 H2=>tb { D with nx:=N,ct:=N,bk:=D.nx } σ2 H2)
def AE(fp:List Addr)(h:Heap):List (Addr×Obj):=fp.filterMap λb=>(h.get? b).map λo=>(b,o)
theorem iK{fp:List Addr}{h:Heap}{b:Addr}{o:Obj}(hb:b∈fp)(e:h.get? b=some o):(b,o)∈AE fp h:=List.mem_filterMap.mpr ⟨b,hb,by rw[e];rfl⟩
theorem G8{fp:List Addr}{h:Heap}{p:Addr×Obj}(hp:p∈AE fp h):p.1∈fp/\h.get? p.1=some p.2:=by
 obtain⟨b,hb,e⟩:=List.mem_filterMap.mp hp
 cases q:h.get? b with
 |none=>rw[q]at e;cases e
 |some o =>
  rw[q]at e
  have e':(b,o)=p:=Option.some.inj e
  subst e'
  exact⟨hb,q⟩
theorem Inv.pinned{pins:List (Addr×Obj)}{σ:St}{H:Hp}{s:Shared}{fp:List Addr}(I:Inv X pins σ H s)(hf:∀b∈fp,pO X pins H b)(ho:∀b∈fp,∃o,s.heap.get? b=some o/\∀v,o.data≠ .cell v):Inv X (pins++AE fp s.heap) σ H s :=
 I.AD λp hp=>(List.mem_append.mp hp).elim (λz=>I.pin p (List.mem_append_right _ z)) λz=>by
  obtain⟨hb,e⟩:=G8 z
  obtain⟨f0,f1,f2,_⟩:=hf p.1 hb
  obtain⟨o,e',d⟩:=ho p.1 hb
  rw[e]at e';cases e'
  exact⟨e,f0,f1,f2,d⟩
theorem Inv.wH{pins pl:List (Addr×Obj)}{σ:St}{H:Hp}{s:Shared}(I:Inv X (pins++pl) σ H s):Inv X pins σ H s:=I.AD λp hp=>I.pin p (List.mem_append_right _ (List.mem_append_left _ hp))
theorem cG{iter:Expr}{body:List Stmt}{wi:TI}{g:TG}{tb:TS}{pos:Pos}(hp:PassesOwn (model X.prog X.w) X.A X.env X.xe)(hc:X.calm=true)(hi:PI X tg iter wi)(hg:PG X tg g)(hb:Al X body tb)
  (hs:∀x,foldedSetIterable iter X.env x=pure x:=by intro _;rfl):PS X (.For tg iter body [] pos) (WQ wi g tb):=by
 intro pins s σ H D I h
 refine wpAny_For (dI (hi pins s σ H _ I h) λv s1 h1=>dI h1 λitv s2 h2=>?_) hs
 obtain⟨it,fp,tn,J,H2,e,I2,T,st2,f2,W,⟨m0,w0⟩,turn⟩:=h2
 subst e
 have stat:∀{H':Hp},(∀b∈fp,H' b=none)->∀b∈fp,pO X pins H' b:=λhn b hb=>⟨hn b hb,(f2 b hb).2⟩
 refine codeAny_forLoop_any (λn s'=>∃i σ' H',Inv X pins σ' H' s'/\tn i s'.heap/\(∀b∈fp,H' b=none)/\W i n σ' H') ?_ m0 ⟨0,σ,H2,I2,st2,λb hb=>(f2 b hb).1,w0⟩
 rintro n s3 ⟨i,σ3,H3,I3,st3,Z8,w3⟩
 rcases turn i n σ3 H3 w3 with⟨stop,qn⟩|⟨go,N,hN,step⟩
 ·refine wpAny_passesOwn hp (dI (T.done X rfl rfl rfl hc i pins s3 σ3 H3 X.xe I3 (stat Z8) st3 stop) λr s4 ⟨hr,I4⟩=>?_)
  subst hr
  exact wpAny_execs_nil ⟨σ3,H3,I4,qn⟩
 ·refine wpAny_passesOwn hp (dI (T.item X rfl rfl rfl hc i pins s3 σ3 H3 X.xe I3 (stat Z8) st3 go) λr s4 ⟨u,hr,h4⟩=>?_)
  subst hr
  refine wpAny_passesOwn hp (dI h4 λ_ s5 ⟨x,H5,I5,r5,y5,WS,fr5⟩=>?_)
  have I5':=I5.pinned (stat fr5) (T.obj _ _ WS)
  refine wpAny_passesOwn hp (dI (hg _ s5 σ3 H5 x u _ I5' r5 (step x H5 y5)) λ_ s6 ⟨σ6,H6,I6,q6⟩=>?_)
  refine wpAny_passesOwn hp (dI (hb _ s6 σ6 H6 _ I6 q6) λf s7 q7=>?_)
  have again:∀{BQ:St} {H7:Hp},Inv X (pins++AE fp s5.heap) BQ H7 s7->N BQ H7->∃m,m<n/\∃i σ' H',Inv X pins σ' H' s7/\tn i s7.heap/\(∀b∈fp,H' b=none)/\W i m σ' H':=λ{BQ H7} I7 n7=>by
   obtain⟨m',hm,w7⟩:=hN BQ H7 n7
   refine⟨m',hm,i+1,BQ,H7,I7.wH,T.keep _ _ _ WS λb hb o e=>(I7.pin (b,o) (List.mem_append_right _ (List.mem_append_right _ (iK hb e)))).1,λb hb=>?_,w7⟩
   obtain⟨o,e,d⟩:=T.obj _ _ WS b hb
   exact(I7.pin (b,o) (List.mem_append_right _ (List.mem_append_right _ (iK hb e)))).2.1
  cases f with
  |next=>obtain⟨BQ,H7,I7,n7⟩:=q7;exact again I7 n7
  |cont=>obtain⟨BQ,H7,I7,n7⟩:=q7;exact again I7 n7
  |brk=>obtain⟨BQ,H7,I7,q7⟩:=q7;exact⟨BQ,H7,I7.wH,q7⟩
  |ret v=>obtain⟨x7,BQ,H7,I7,r7,q7⟩:=q7;exact⟨x7,BQ,H7,I7.wH,r7,q7⟩
end
theorem jr{K:PySem.W.Frag}{a:Addr}{xs:List V}{g:TG}{tb:TS}{D:Ends}{σ:St}{H:Hp}(Pv:Nat->St->Hp->Prop)(h0:Pv 0 σ H)(hl:∀i σ H,i<=xs.length->Pv i σ H->bP K H a xs)
  (hs:∀i x σ H,xs[i]? =some x->Pv i σ H->g x σ H λσ2 H2=>tb { D with nx:=Pv (i+1),ct:=Pv (i+1),bk:=D.nx } σ2 H2) (hd:∀ σ H,Pv xs.length σ H->D.nx σ H) :
  ∃W:Nat->Nat->St->Hp->Prop,(∃m,W 0 m σ H)/\∀i m σ H,W i m σ H →
   ((Um K a).stop i H/\D.nx σ H)\/((Um K a).go i H/\∃N:St->Hp->Prop,(∀ σ' H',N σ' H'->∃m',m'<m/\W (i+1) m' σ' H')/\∀x H',(Um K a).zA i H x H'->g x σ H' λσ2 H2=>tb { D with nx:=N,ct:=N,bk:=D.nx } σ2 H2):=by
 refine⟨λi m σ H=>m=xs.length-i/\i<=xs.length/\Pv i σ H,⟨xs.length,by simp,Nat.zero_le _,h0⟩,?_⟩
 rintro i m σ H ⟨rfl,hi,p⟩
 have q:=hl i σ H hi p
 by_cases hlt:i<xs.length
 ·refine .inr ⟨⟨xs,xs[i],q,by simp[hlt]⟩,Pv (i+1),λσ' H' p'=>⟨xs.length-(i+1),by omega,rfl,hlt,p'⟩,λx H' y=>?_⟩
  obtain⟨e,y⟩:=y
  subst e
  exact hs i x σ _ (y xs q) p
 ·have e:i=xs.length:=by omega
  subst e
  exact .inl ⟨⟨xs,q,Nat.le_refl _⟩,hd σ H p⟩
theorem Gx{K:PySem.W.Frag}{a:Addr}{xs:List V}{g:TG}{tb:TS}{D:Ends}{σ:St}{H:Hp}(Pv:Nat->St->Hp->Prop)(h0:Pv 0 σ H)(hl:∀i σ H,i<=xs.length->Pv i σ H->c7 K H a xs)
  (hs:∀i x σ H,xs[i]? =some x->Pv i σ H->g x σ H λσ2 H2=>tb { D with nx:=Pv (i+1),ct:=Pv (i+1),bk:=D.nx } σ2 H2) (hd:∀ σ H,Pv xs.length σ H->D.nx σ H) :
  ∃W:Nat->Nat->St->Hp->Prop,(∃m,W 0 m σ H)/\∀i m σ H,W i m σ H →
   ((Ul K a).stop i H/\D.nx σ H)\/((Ul K a).go i H/\∃N:St->Hp->Prop,(∀ σ' H',N σ' H'->∃m',m'<m/\W (i+1) m' σ' H')/\∀x H',(Ul K a).zA i H x H'->g x σ H' λσ2 H2=>tb { D with nx:=N,ct:=N,bk:=D.nx } σ2 H2):=by
 refine⟨λi m σ H=>m=xs.length-i/\i<=xs.length/\Pv i σ H,⟨xs.length,by simp,Nat.zero_le _,h0⟩,?_⟩
 rintro i m σ H ⟨rfl,hi,p⟩
 have q:=hl i σ H hi p
 by_cases hlt:i<xs.length
 ·refine .inr ⟨⟨xs,xs[i],q,by simp[hlt]⟩,Pv (i+1),λσ' H' p'=>⟨xs.length-(i+1),by omega,rfl,hlt,p'⟩,λx H' y=>?_⟩
  obtain⟨e,y⟩:=y
  subst e
  exact hs i x σ _ (y xs q) p
 ·have e:i=xs.length:=by omega
  subst e
  exact .inl ⟨⟨xs,q,Nat.le_refl _⟩,hd σ H p⟩
theorem gO{lo:Int}{n:Nat}{g:TG}{tb:TS}{D:Ends}{σ:St}{H:Hp}(Pv:Nat->St->Hp->Prop)(h0:Pv 0 σ H)
  (hs:∀i σ H,i<n->Pv i σ H->g (.int (lo+i)) σ H λσ2 H2=>tb { D with nx:=Pv (i+1),ct:=Pv (i+1),bk:=D.nx } σ2 H2) (hd:∀ σ H,Pv n σ H->D.nx σ H) :
  ∃W:Nat->Nat->St->Hp->Prop,(∃m,W 0 m σ H)/\∀i m σ H,W i m σ H →
   ((Ri lo n).stop i H/\D.nx σ H)\/((Ri lo n).go i H/\∃N:St->Hp->Prop,(∀ σ' H',N σ' H'->∃m',m'<m/\W (i+1) m' σ' H')/\∀x H',(Ri lo n).zA i H x H'->g x σ H' λσ2 H2=>tb { D with nx:=N,ct:=N,bk:=D.nx } σ2 H2):=by
 refine⟨λi m σ H=>m=n-i/\i<=n/\Pv i σ H,⟨n,by simp,Nat.zero_le _,h0⟩,?_⟩
 rintro i m σ H ⟨rfl,hi,p⟩
 by_cases hlt:i<n
 ·refine .inr ⟨hlt,Pv (i+1),λσ' H' p'=>⟨n-(i+1),by omega,rfl,hlt,p'⟩,λx H' y=>?_⟩
  obtain⟨e,y⟩:=y
  subst e y
  exact hs i σ _ hlt p
 ·have e:i=n:=by omega
  subst e
  exact .inl ⟨Nat.le_refl _,hd σ H p⟩
end L2
namespace L2
open PySem PySem.Spec PyProof.Rows
abbrev R2:=V->V->Hp->VK->Prop
def tT(X:Cx)(f:Value->Value->Sem Value)(r:R2):Prop :=
 ∀(pins:List (Addr×Obj)) (s:Shared) (σ:St) (H:Hp) (x y:V) (v u:Value) (Q:VK),Inv X pins σ H s->RelV x v->RelV y u->r x y H Q →
  wpAny (model X.prog X.w) X.A (f v u) (EP X pins σ Q) X.xe s
def lJ(X:Cx)(f:Value)(r:List V->Hp->VK->Prop):Prop :=
 ∀(pins:List (Addr×Obj)) (s:Shared) (σ:St) (H:Hp) (xs:List V) (us:List Value) (Q:VK),Inv X pins σ H s->Vals xs us->r xs H Q →
  wpAny (model X.prog X.w) X.A (call f us) (EP X pins σ Q) X.xe s
def UD(r:R2)(ta tb:TE):TE:=λσ H Q=>ta σ H λx H1=>tb σ H1 λy H2=>r x y H2 Q
def rI(C:Int->Int->Prop)(g:Int->Int->V):R2:=λx y H Q=>∃i j,x= .int i/\y= .int j/\C i j/\Q (g i j) H
def Ph(g:Int->Int->V):R2:=λx y H Q=>∃i j,x= .int i/\y= .int j/\Q (g i j) H
section
variable{X:Cx}{a b c:Expr}{ta tb tc:TE}{pos:Pos}
theorem QI(ha:PE X a ta)(hb:PE X b tb){pins:List (Addr×Obj)}{s:Shared}{σ:St}{H:Hp}{R:V->V->Hp->Prop}(I:Inv X pins σ H s)
  (h:ta σ H λx H1=>tb σ H1 λy H2=>R x y H2) {Q:Value->Shared->Prop} {f:Value->Value->Sem Value}
  (hf:∀v u s2 x y H2,Inv X pins σ H2 s2->RelV x v->RelV y u->R x y H2->wpAny (model X.prog X.w) X.A (f v u) Q X.xe s2) :
  wpAny (model X.prog X.w) X.A (eval a X.env) (λv s₁=>wpAny (model X.prog X.w) X.A (eval b X.env) (λu s₂=>wpAny (model X.prog X.w) X.A (f v u) Q X.xe s₂) X.xe s₁) X.xe s:=by
 refine dI (ha pins s σ H _ I h) λv s1 ⟨x,H1,I1,r1,q1⟩=>?_
 refine dI (hb pins s1 σ H1 _ I1 q1) λu s2 ⟨y,H2,I2,r2,q2⟩=>?_
 exact hf v u s2 x y H2 I2 r1 r2 q2
theorem aD{op:Operator}{r:R2}(ho:tT X (binaryOp op) r)(ha:PE X a ta)(hb:PE X b tb):PE X (.BinOp a op b pos) (UD r ta tb):=by
 intro pins s σ H Q I h
 exact wpAny_BinOp (QI ha hb I h λv u s2 x y H2 I2 rx ry q=>ho pins s2 σ H2 x y v u Q I2 rx ry q)
theorem QU{f:Value->Value->Sem Value}{C:Int->Int->Prop}{g:Int->Int->Int}
  (rule:∀(i j:Int) (t u:Tok) (s:Shared) (Q:Value->Shared->Prop) (E:Value->Shared->Prop),C i j->Q (.int (g i j) s.toks) { s with toks:=s.toks+1 }->wpAny (model X.prog X.w) X.A (f (.int i t) (.int j u)) Q E s) :
  tT X f (rI C λi j=>.int (g i j)):=by
 intro pins s σ H x y v u Q I rx ry h
 obtain⟨i,j,rfl,rfl,hc,q⟩:=h
 obtain⟨t,rfl⟩:=rx
 obtain⟨t',rfl⟩:=ry
 exact rule i j t t' s _ _ hc ⟨.int (g i j),H,I.tok _,⟨_,rfl⟩,q⟩
theorem RY{f:Value->Value->Sem Value}{g:Int->Int->Int}
  (rule:∀(i j:Int) (t u:Tok) (s:Shared) (Q:Value->Shared->Prop) (E:Value->Shared->Prop),Q (.int (g i j) s.toks) { s with toks:=s.toks+1 }->wpAny (model X.prog X.w) X.A (f (.int i t) (.int j u)) Q E s) :
  tT X f (Ph λi j=>.int (g i j)):=by
 intro pins s σ H x y v u Q I rx ry h
 obtain⟨i,j,rfl,rfl,q⟩:=h
 obtain⟨t,rfl⟩:=rx
 obtain⟨t',rfl⟩:=ry
 exact rule i j t t' s _ _ ⟨.int (g i j),H,I.tok _,⟨_,rfl⟩,q⟩
theorem Py{f:Value->Value->Sem Value}{g:Int->Int->Bool}
  (rule:∀(i j:Int) (t u:Tok) (s:Shared) (Q:Value->Shared->Prop) (E:Value->Shared->Prop),Q (.bool (g i j)) s->wpAny (model X.prog X.w) X.A (f (.int i t) (.int j u)) Q E s) :
  tT X f (Ph λi j=>.bl (g i j)):=by
 intro pins s σ H x y v u Q I rx ry h
 obtain⟨i,j,rfl,rfl,q⟩:=h
 obtain⟨t,rfl⟩:=rx
 obtain⟨t',rfl⟩:=ry
 exact rule i j t t' s _ _ ⟨.bl (g i j),H,I,rfl,q⟩
def Y5(i j:Int):Prop:=0<j/\j<1073741824
def Y4(i j:Int):Prop:=0<=j/\j<=1000000/\i.natAbs<2 ^ 64
def QO(i j:Int):Prop:=(-(2 ^ 64)<i/\i<2 ^ 64)\/(-(2 ^ 64)<j/\j<2 ^ 64)
theorem QO.ok{i j:Int}(h:QO i j):IntMulOk i j:=by
 rcases h with⟨h1,h2⟩|⟨h1,h2⟩
 ·exact .of_left (intBits_le_64 h1 h2)
 ·exact .of_right (intBits_le_64 h1 h2)
theorem bZ:tT X (binaryOp .Add) (Ph λi j=>.int (i+j)):=RY λ_ _ _ _ _ _ _ q=>add_int q
theorem w9:tT X (binaryOp .Sub) (Ph λi j=>.int (i-j)):=RY λ_ _ _ _ _ _ _ q=>sub_int q
theorem mV:tT X (binaryOp .Mult) (rI QO λi j=>.int (i*j)):=QU λ_ _ _ _ _ _ _ hc q=>mul_int q hc.ok
theorem dB:tT X (binaryOp .FloorDiv) (rI Y5 λi j=>.int (i / j)):=QU λi j _ _ _ _ _ hc q=>by
 have h1:(0:Int)<j:=hc.1
 have h2:j<1073741824:=hc.2
 exact floordiv_int (by omega) (by rw[Int.fdiv_eq_ediv_of_nonneg i (by omega)];exact q) (.inl (PyProof.noPylong_small (by omega)))
theorem cy:tT X (binaryOp .Mod) (rI (λ_ j=>0<j) λi j=>.int (i % j)):=QU λi j _ _ _ _ _ hc q=>by
 have h1:(0:Int)<j:=hc
 exact mod_int' (by omega) (by rw[Int.fmod_eq_emod_of_nonneg i (by omega)];exact q)
theorem AK:tT X (binaryOp .Pow) (rI Y4 λi j=>.int (i ^ j.toNat)):=QU λ_ _ _ _ _ _ _ hc q=>pow_int_small hc.1 hc.2.1 hc.2.2 q
end
def RM:V->V->Bool
 | .iP,.iP=>true| .iP,.int _=>true| .int _,.iP=>true| .iP,.bl _=>true| .bl _,.iP=>true| .iP,.str _=>true| .str _,.iP=>true
 | .int _,.int _=>true| .bl _,.bl _=>true| .str _,.str _=>true| .GD _,.GD _=>true
 | .int _,.str _=>true| .str _,.int _=>true| .bl _,.str _=>true| .str _,.bl _=>true
 |_,_=>false
def rEq:R2:=λx y H Q=>RM x y=true/\Q (.bl (decide (x=y))) H
def rNe:R2:=λx y H Q=>RM x y=true/\Q (.bl (!decide (x=y))) H
theorem pA{i j:Int}:decide (V.int i=V.int j)=(i==j):=by
 rw[Bool.eq_iff_iff]
 simp
theorem Kw{i j:Bool}:decide (V.bl i=V.bl j)=(i==j):=by
 rw[Bool.eq_iff_iff]
 simp
theorem GA{i j:Str}:decide (V.str i=V.str j)=(i==j):=by
 rw[Bool.eq_iff_iff]
 simp
theorem GB{i j:Array UInt8}:decide (V.GD i=V.GD j)=(i.toList==j.toList):=by
 rw[Bool.eq_iff_iff]
 cases i
 cases j
 simp
section
variable{X:Cx}{a b c:Expr}{ta tb tc:TE}{pos:Pos}
theorem b7{pins:List (Addr×Obj)}{σ:St}{H:Hp}{s:Shared}{Q:VK}{k k':Bool}(I:Inv X pins σ H s)(q:Q (.bl k) H)(e:k=k'):EP X pins σ Q (.bool k') s:=by
 subst e
 exact⟨.bl k,H,I,rfl,q⟩
theorem cQ:tT X (compareOp .Eq) rEq:=by
 intro pins s σ H x y v u Q I rx ry h
 obtain⟨hs,q⟩:=h
 cases x with
 |iP =>
  cases rx
  cases y with
  |iP=>cases ry;exact PySem.EqNone.eq_none_none (b7 I q (by simp))
  |bl j=>cases ry;exact PySem.EqNone.eq_none_bool (b7 I q (by simp))
  |int j=>obtain⟨t',rfl⟩:=ry;exact PySem.EqNone.eq_none_int (b7 I q (by simp))
  |str j=>obtain⟨t',rfl⟩:=ry;exact PySem.EqNone.eq_none_str (b7 I q (by simp))
  |_=>exact absurd (show false=true from hs) Bool.false_ne_true
 |bl i =>
  cases rx
  cases y with
  |iP=>cases ry;exact PySem.EqNone.eq_bool_none (b7 I q (by simp))
  |bl j=>cases ry;exact eq_bool (b7 I q Kw)
  |str j=>obtain⟨t',rfl⟩:=ry;exact PySem.EqMixed.eq_bool_str (b7 I q (by simp))
  |_=>exact absurd (show false=true from hs) Bool.false_ne_true
 |int i =>
  obtain⟨t,rfl⟩:=rx
  cases y with
  |iP=>cases ry;exact PySem.EqNone.eq_int_none (b7 I q (by simp))
  |int j=>obtain⟨t',rfl⟩:=ry;exact eq_int (b7 I q pA)
  |str j=>obtain⟨t',rfl⟩:=ry;exact PySem.EqMixed.eq_int_str (b7 I q (by simp))
  |_=>exact absurd (show false=true from hs) Bool.false_ne_true
 |str i =>
  obtain⟨t,rfl⟩:=rx
  cases y with
  |iP=>cases ry;exact PySem.EqNone.eq_str_none (b7 I q (by simp))
  |bl j=>cases ry;exact PySem.EqMixed.eq_str_bool (b7 I q (by simp))
  |int j=>obtain⟨t',rfl⟩:=ry;exact PySem.EqMixed.eq_str_int (b7 I q (by simp))
  |str j=>obtain⟨t',rfl⟩:=ry;exact eq_str (b7 I q GA)
  |_=>exact absurd (show false=true from hs) Bool.false_ne_true
 |GD i =>
  obtain⟨t,rfl⟩:=rx
  cases y with
  |GD j=>obtain⟨t',rfl⟩:=ry;exact PySem.W.eq_bytes (b7 I q GB)
  |_=>exact absurd (show false=true from hs) Bool.false_ne_true
 |_=>cases y<;>exact absurd (show false=true from hs) Bool.false_ne_true
theorem qY:tT X (compareOp .NotEq) rNe:=by
 intro pins s σ H x y v u Q I rx ry h
 obtain⟨hs,q⟩:=h
 cases x with
 |iP =>
  cases rx
  cases y with
  |iP=>cases ry;exact PySem.EqNone.ne_none_none (b7 I q (by simp))
  |bl j=>cases ry;exact PySem.EqNone.ne_none_bool (b7 I q (by simp))
  |int j=>obtain⟨t',rfl⟩:=ry;exact PySem.EqNone.ne_none_int (b7 I q (by simp))
  |str j=>obtain⟨t',rfl⟩:=ry;exact PySem.EqNone.ne_none_str (b7 I q (by simp))
  |_=>exact absurd (show false=true from hs) Bool.false_ne_true
 |bl i =>
  cases rx
  cases y with
  |iP=>cases ry;exact PySem.EqNone.ne_bool_none (b7 I q (by simp))
  |bl j=>cases ry;exact ne_bool (b7 I q (congrArg not Kw))
  |str j=>obtain⟨t',rfl⟩:=ry;exact PySem.EqMixed.ne_bool_str (b7 I q (by simp))
  |_=>exact absurd (show false=true from hs) Bool.false_ne_true
 |int i =>
  obtain⟨t,rfl⟩:=rx
  cases y with
  |iP=>cases ry;exact PySem.EqNone.ne_int_none (b7 I q (by simp))
  |int j=>obtain⟨t',rfl⟩:=ry;exact ne_int (b7 I q (congrArg not pA))
  |str j=>obtain⟨t',rfl⟩:=ry;exact PySem.EqMixed.ne_int_str (b7 I q (by simp))
  |_=>exact absurd (show false=true from hs) Bool.false_ne_true
 |str i =>
  obtain⟨t,rfl⟩:=rx
  cases y with
  |iP=>cases ry;exact PySem.EqNone.ne_str_none (b7 I q (by simp))
  |bl j=>cases ry;exact PySem.EqMixed.ne_str_bool (b7 I q (by simp))
  |int j=>obtain⟨t',rfl⟩:=ry;exact PySem.EqMixed.ne_str_int (b7 I q (by simp))
  |str j=>obtain⟨t',rfl⟩:=ry;exact ne_str (b7 I q (congrArg not GA))
  |_=>exact absurd (show false=true from hs) Bool.false_ne_true
 |GD i =>
  obtain⟨t,rfl⟩:=rx
  cases y with
  |GD j=>obtain⟨t',rfl⟩:=ry;exact PySem.W.ne_bytes (b7 I q (congrArg not GB))
  |_=>exact absurd (show false=true from hs) Bool.false_ne_true
 |_=>cases y<;>exact absurd (show false=true from hs) Bool.false_ne_true
theorem qZ:tT X (compareOp .Lt) (Ph λi j=>.bl (decide (i<j))):=Py λ_ _ _ _ _ _ _ q=>lt_int q
theorem M6:tT X (compareOp .LtE) (Ph λi j=>.bl (decide (i<=j))):=Py λ_ _ _ _ _ _ _ q=>le_int q
theorem q9:tT X (compareOp .Gt) (Ph λi j=>.bl (decide (j<i))):=Py λ_ _ _ _ _ _ _ q=>gt_int q
theorem xg:tT X (compareOp .Is) (λx y H Q=>y= .iP/\Q (.bl (decide (x= .iP))) H):=by
 intro pins s σ H x y v u Q I rx ry h
 obtain⟨rfl,q⟩:=h
 cases ry
 refine is_none_gen (b7 I q ?_)
 cases x<;>first
  |(cases rx;rfl)
  |(obtain⟨t,rfl⟩:=rx;rfl)
theorem wj:tT X (compareOp .IsNot) (λx y H Q=>y= .iP/\Q (.bl (!decide (x= .iP))) H):=by
 intro pins s σ H x y v u Q I rx ry h
 obtain⟨rfl,q⟩:=h
 cases ry
 refine isnot_none_gen (b7 I q ?_)
 cases x<;>first
  |(cases rx;rfl)
  |(obtain⟨t,rfl⟩:=rx;rfl)
theorem aO(b:Expr){op:CmpOp}(h:op≠ .In:=by decide)(h2:op≠ .NotIn:=by decide):behindInMarks op b=false:=by
 have e1:(op==CmpOp.In)=false:=by cases op<;>first|rfl|exact absurd rfl h
 have e2:(op==CmpOp.NotIn)=false:=by cases op<;>first|rfl|exact absurd rfl h2
 cases b<;>simp[behindInMarks,e1,e2]
theorem bQ{op:CmpOp}{r:R2}(ho:tT X (compareOp op) r)(ha:PE X a ta)(hb:PE X b tb)(hm:behindInMarks op b=false):PE X (.Compare a [op] [b] pos) (UD r ta tb):=by
 intro pins s σ H Q I h
 exact wpAny_Compare1 (QI ha hb I h λv u s2 x y H2 I2 rx ry q=>ho pins s2 σ H2 x y v u Q I2 rx ry q) hm
def Rq(t:TE):TT:=λσ H Q=>t σ H λx H'=>∃k,x= .bl k/\Q k H'
theorem aL{op:CmpOp}{r:R2}(ho:tT X (compareOp op) r)(ha:PE X a ta)(hb:PE X b tb)(hm:behindInMarks op b=false):PT X (.Compare a [op] [b] pos) (Rq (UD r ta tb)):=by
 intro pins s σ H Q I h
 refine wpAny_isTrue_Compare1 (dI (ha pins s σ H _ I h) λv s1 ⟨x,H1,I1,r1,q1⟩=>dI (hb pins s1 σ H1 _ I1 q1) λu s2 ⟨y,H2,I2,r2,q2⟩ =>
  dI (ho pins s2 σ H2 x y v u _ I2 r1 r2 q2) λc s3 ⟨z,H3,I3,r3,k,e,q3⟩=>?_) hm
 subst e
 cases r3
 exact wpAny_truthy_bool ⟨H3,I3,q3⟩
def O6(r r':R2)(ta tb tc:TE):TE:=λσ H Q=>ta σ H λx H1=>tb σ H1 λy H2=>r x y H2 λz H3=>∃k,z= .bl k ∧
 (if k=true then tc σ H3 λw' H4=>r' y w' H4 Q else Q (.bl false) H3)
theorem Js{op op':CmpOp}{r r':R2}(ho:tT X (compareOp op) r)(ho':tT X (compareOp op') r')(ha:PE X a ta)(hb:PE X b tb)(hc:PE X c tc)
  (hm:lastMarks [op,op'] [b,c]=false:=by with_unfolding_all rfl):PE X (.Compare a [op,op'] [b,c] pos) (O6 r r' ta tb tc):=by
 intro pins s σ H Q I h
 refine Compare_chain (dI (ha pins s σ H _ I h) λv s1 ⟨x,H1,I1,r1,q1⟩=>chain_link (dI (hb pins s1 σ H1 _ I1 q1) λu s2 ⟨y,H2,I2,r2,q2⟩ =>
  dI (ho pins s2 σ H2 x y v u _ I2 r1 r2 q2) λd s3 ⟨z,H3,I3,r3,k,e,q3⟩=>?_)) hm
 subst e
 cases r3
 refine wpAny_truthy_bool ?_
 cases k with
 |false=>exact ite_ff ⟨.bl false,H3,I3,rfl,q3⟩
 |true=>exact ite_tt (chain_last (dI (hc pins s3 σ H3 _ I3 q3) λw' s4 ⟨z',H4,I4,r4,q4⟩=>ho' pins s4 σ H4 y z' u w' Q I4 r2 r4 q4))
theorem uF:(sizeLine:Nat)<2 ^ 63:=by rw[sizeLine_eq];decide
theorem oY:tT X (binaryOp .Add) (λx y H Q=>∃i j,x= .str i/\y= .str j/\i.length+j.length<=sizeLine/\Q (.str (i++j)) H):=by
 intro pins s σ H x y v u Q I rx ry h
 obtain⟨i,j,rfl,rfl,hz,q⟩:=h
 obtain⟨t,rfl⟩:=rx
 obtain⟨t',rfl⟩:=ry
 exact TK.bY (Nat.le_refl _) (add_str (λt' tk hup=>⟨.str (i++j),H,I.tok _,⟨_,rfl⟩,q⟩) hz)
theorem vals1{x:V}{us:List Value}(r:Vals [x] us):∃u,us=[u]/\RelV x u:=by
 cases r with
 |cons r1 r2=>cases r2;exact⟨_,rfl,r1⟩
theorem vals2{x y:V}{us:List Value}(r:Vals [x,y] us):∃u w',us=[u,w']/\RelV x u/\RelV y w':=by
 cases r with
 |cons r1 r2 =>
  cases r2 with
  |cons r3 r4=>cases r4;exact⟨_,_,rfl,r1,r3⟩
theorem KD:lJ X (.builtin "abs") (λxs H Q=>∃i,xs=[.int i]/\Q (.int (if i<0 then -i else i)) H):=by
 intro pins s σ H xs us Q I r h
 obtain⟨i,rfl,q⟩:=h
 obtain⟨u,rfl,t,rfl⟩:=vals1 r
 exact TK.bY (Nat.le_refl _) (call_abs_int λu tk hup=>⟨.int (if i<0 then -i else i),H,I.tok _,⟨_,rfl⟩,q⟩)
theorem HP(hc:X.calm=true):lJ X (.builtin "min") (λxs H Q=>∃i j,xs=[.int i,.int j]/\Q (.int (if j<i then j else i)) H):=by
 intro pins s σ H xs us Q I r h
 obtain⟨i,j,rfl,q⟩:=h
 obtain⟨u,w',rfl,⟨t,rfl⟩,⟨t',rfl⟩⟩:=vals2 r
 refine TK.bY (Nat.le_refl _) (min_two_ints (I.ok.hd hc) λh' tk k hup=>⟨_,H,I.kept k,?_,q⟩)
 by_cases hj:j<i
 ·rw[if_pos hj,if_pos hj];exact⟨_,rfl⟩
 ·rw[if_neg hj,if_neg hj];exact⟨_,rfl⟩
theorem Ab:lJ X (.type "int") (λxs H Q=>(∃i,xs=[.int i]/\Q (.int i) H)\/∃k,xs=[.bl k]/\Q (.int (if k then 1 else 0)) H):=by
 intro pins s σ H xs us Q I r h
 rcases h with⟨i,rfl,q⟩|⟨k,rfl,q⟩
 ·obtain⟨u,rfl,t,rfl⟩:=vals1 r
  exact call_int_int ⟨.int i,H,I,⟨_,rfl⟩,q⟩
 ·obtain⟨u,rfl,r1⟩:=vals1 r
  cases r1
  exact call_int_bool ⟨.int (if k then 1 else 0),H,I.tok _,⟨_,rfl⟩,q⟩
theorem KC:lJ X (.builtin "ord") (λxs H Q=>∃x,xs=[.str x]/\x.length=1/\Q (.int (x.cps.getD 0 0:Nat)) H):=by
 intro pins s σ H xs us Q I r h
 obtain⟨x,rfl,hz,q⟩:=h
 obtain⟨u,rfl,t,rfl⟩:=vals1 r
 exact ord_of_one hz ⟨.int _,H,I.tok _,⟨_,rfl⟩,q⟩
def QN(K:PySem.W.Frag)(x:V)(H:Hp)(n:Nat):Prop :=
 match x with
 | .str y=>y.length<=sizeLine/\n=y.length
 | .GD y=>y.size<=sizeLine/\n=y.size
 | .ref p=>(∃xs,bP K H p xs/\n=xs.length)\/∃xs,c7 K H p xs/\n=xs.length
 |_=>False
theorem aU:lJ X (.builtin "len") (λxs H Q=>∃x n,xs=[x]/\QN X.K x H n/\Q (.int n) H):=by
 intro pins s σ H xs us Q I r h
 obtain⟨x,n,rfl,e,q⟩:=h
 obtain⟨u,rfl,rx⟩:=vals1 r
 have hl:=uF
 have hs:sizeLine=16777216:=sizeLine_eq
 cases x with
 |str y =>
  obtain⟨t,rfl⟩:=rx
  obtain⟨hy,e'⟩:y.length<=sizeLine/\n=y.length:=e
  subst e'
  exact len_str (by omega) ⟨.int _,H,I.tok _,⟨_,rfl⟩,q⟩
 |GD y =>
  obtain⟨t,rfl⟩:=rx
  obtain⟨hy,e'⟩:y.size<=sizeLine/\n=y.size:=e
  subst e'
  exact PySem.W.len_bytes (by omega) ⟨.int _,H,I.tok _,⟨_,rfl⟩,q⟩
 |ref p =>
  cases rx
  have e':(∃xs,bP X.K H p xs/\n=xs.length)\/∃xs,c7 X.K H p xs/\n=xs.length:=e
  rcases e' with⟨xs,hx,e'⟩|⟨xs,hx,e'⟩
  ·subst e'
   obtain⟨its,r',pl,hz⟩:=I.list hx
   have hlen:=r'.length
   exact Calls.call_len_list pl.isList (by simp only[List.size_toArray];omega) ⟨.int xs.length,H,I.tok _,⟨_,by simp only[List.size_toArray];rw[hlen]⟩,q⟩
  ·subst e'
   obtain⟨its,r',pl,hz⟩:=I.tuple hx
   have hlen:=r'.length
   exact len_tuple pl (by simp only[List.size_toArray];omega) ⟨.int xs.length,H,I.tok _,⟨_,by simp only[List.size_toArray];rw[hlen]⟩,q⟩
 |_=>exact(show False from e).elim
end
end L2
namespace L2
open PySem PySem.Spec PyProof.Rows
structure HY(h:Heap)(x dx C:Addr)(mA:Str->Option Value):Prop where
 obj:h.get? x=some (PySem.W.instObj C dx)
 ns:h.Ns1 dx mA
 ne:dx≠x
theorem uE{h:Heap}{dx:Addr}{mA:Str->Option Value}(n:h.Ns1 dx mA):∃od,h.get? dx=some od/\∀name,PySem.W.lookIn name od=some (mA name):=by
 obtain⟨o,es,ep,ho,hd,hk,_,hm⟩:=n
 refine⟨o,ho,λname=>?_⟩
 have e:=hm name
 unfold nsFind findBy at e
 rw[←Array.find?_toList]at e
 unfold PySem.W.lookIn
 rw[hd]
 dsimp only
 split
 ·rename_i y q
  rw[q]at e
  exact congrArg some e
 ·rename_i q
  rw[q]at e
  have a:es.toList.any (·.refKey)=false:=by
   rw[List.any_eq_false]
   intro y hy
   obtain⟨z,t,hkey⟩:=hk y (Array.mem_toList_iff.mp hy)
   simp[DictEntry.refKey,hkey]
  have a':¬es.toList.any (·.refKey)=true:=by rw[a];exact Bool.false_ne_true
  rw[if_neg a']
  exact congrArg some e
theorem HY.look{h:Heap}{x dx C:Addr}{mA:Str->Option Value}(I:HY h x dx C mA):∃od,PySem.W.InstAt h x (PySem.W.instObj C dx) C (some od)/\∀name,PySem.W.lookIn name od=some (mA name) :=
 let ⟨od,ho,hl⟩:=uE I.ns
 ⟨od,⟨I.obj,rfl,rfl,ho⟩,hl⟩
section
variable{prog:Program}{w:World}{A:Around}{E:Value->Shared->Prop}{s:Shared}{K:PySem.W.Frag}{x dx C f:Addr}{mA:Str->Option Value}{name:Str}{v:Value}
theorem get_map{expr:Bool}{Q:Value->Shared->Prop}(X:K.In s.heap)(I:HY s.heap x dx C mA)(hg:PySem.W.plainGet K C name=true)(hh:PySem.W.hasDictIn K C=true)
  (ha:PySem.W.findIn K (.ref C) name=some none) (hv:mA name=some v) (hv':PySem.W.handedIn v=true) (h:Q v { s with toks:=s.toks+1 }) :
  wpAny (model prog w) A (getAttr (.ref x) name expr) Q E s:=by
 obtain⟨od,J,hl⟩:=I.look
 exact PySem.W.get_value X J (PySem.W.plainGet_of hg).1 (PySem.W.findObj_own hh ha rfl (by rw[hl,hv])) hv' h
theorem LA{ns:List Str}{Q:Unit->Shared->Prop}(X:K.In s.heap)(I:HY s.heap x dx C mA)
  (hs:PySem.W.findIn K (.ref C) "__setattr__" =some (some (.builtin "object.__setattr__"))) (hp:PySem.W.plainOver K C=true) (ht:PySem.W.takerIn K C name=some none) (hh:PySem.W.hasDictIn K C=true)
  (hw:PySem.Within mA ns) (hsz:ns.length<=sizeLine)
  (h:∀h',HY h' x dx C (λy=>if y=name then some v else mA y)->Heap.SameBut dx s.heap h'->Q () { s with heap:=h',toks:=s.toks+2 }) :
  wpAny (model prog w) A (setAttr (.ref x) name v) Q E s:=by
 obtain⟨od,J,hl⟩:=I.look
 refine PySem.W.set_plain X J hs (PySem.W.osa_open (s:={ s with toks:=s.toks+1 }) (r:=none) X J hp ht λb=>?_)
 obtain⟨cd,hc,hd'⟩:=PySem.W.any_some hh
 have hx:s.heap.get? x=some ⟨.ref C,some dx,.plain,#[]⟩:=I.obj
 refine wpAny_bind (wpAny_pure (wpAny_bind (wpAny_bind (wpAny_loadPart hx (wpAny_bind (PySem.W.Looks.here (s:={ s with toks:=s.toks+1 }) (PySem.W.looks_clsIn X hc) ?_))))))
 rw[hd']
 refine wpAny_pure (a:=some dx) (wpAny_bind (wpAny_pure (wpAny_bind ?_)))
 refine wpAny_nsSet1 (s:={ s with toks:=s.toks+1 }) I.ns λh' hn2 hs2=>?_
 obtain⟨oD,esD,epD,Te,Tt,Tu⟩:=hn2.count (PySem.Within.cons name v hw)
 refine wpAny_bind (wpAny_lookBehind Te (by rw[Tt];exact pastItsLine_dict (Nat.le_trans Tu (by rw[List.length_cons];omega))) ?_)
 exact wpAny_pure (h _ ⟨(hs2.2 _ (Ne.symm I.ne)).trans I.obj,hn2,I.ne⟩ hs2)
theorem JF{R:Result->Shared->Prop}{vs:List Value}{kw:List (Str×Value)}(X:K.In s.heap)(hm:PySem.W.makesIn K C=true)
  (hi:PySem.W.findIn K (.ref C) "__init__" =some (some (.ref f))) (hf:PySem.W.typeIn K (.ref f)=some (.type "function"))
  (h:codeAny (model prog w) (A.under (.builtin "type.__call__" ⟨.ref C::vs,kw⟩)) (.call (.ref f) ⟨.ref (s.heap.objs.size+1)::vs,kw⟩) (PySem.W.InitBack (s.heap.objs.size+1) R)
   { s with heap:=(s.heap.push PySem.W.emptyDict).push (PySem.W.instObj C s.heap.objs.size) }) :
  codeAny (model prog w) A (.call (.ref C) ⟨vs,kw⟩) R s:=by
 obtain⟨hh,g,d,t,os⟩:=s
 exact PySem.W.make_core (PySem.W.makes_of X hm) (PySem.W.looks_findIn X hi) (λself=>PySem.W.bind_fn X self hf) (.inl rfl) h
end
def aE(f:Str)(v:V):List (Str×V)->List (Str×V)
 |[]=>[(f,v)]
 |(g,x)::r=>if g=f then(g,v)::r else(g,x)::aE f v r
theorem av(f g:Str)(v:V):∀fs:List (Str×V),(aE f v fs).lookup g=if g=f then some v else fs.lookup g
 |[]=>by
  show List.lookup g [(f,v)]=_
  by_cases h:g=f
  ·have hb:(g==f)=true:=beq_iff_eq.mpr h
   simp only[List.lookup,hb,if_pos h]
  ·have hb:(g==f)=false:=beq_eq_false_iff_ne.mpr h
   simp only[List.lookup,hb,if_neg h]
 |(k,x)::r=>by
  have ih:=av f g v r
  rw[show aE f v ((k,x)::r)=(if k=f then(k,v)::r else(k,x)::aE f v r) from rfl]
  by_cases hk:k=f
  ·rw[if_pos hk]
   by_cases h:g=k
   ·have hb:(g==k)=true:=beq_iff_eq.mpr h
    simp only[List.lookup,hb,if_pos (h.trans hk)]
   ·have hb:(g==k)=false:=beq_eq_false_iff_ne.mpr h
    simp only[List.lookup,hb,if_neg (λe:g=f=>h (e.trans hk.symm))]
  ·rw[if_neg hk]
   by_cases h:g=k
   ·have hb:(g==k)=true:=beq_iff_eq.mpr h
    simp only[List.lookup,hb,if_neg (λe:g=f=>hk (h.symm.trans e))]
   ·have hb:(g==k)=false:=beq_eq_false_iff_ne.mpr h
    simp only[List.lookup,hb]
    exact ih
theorem oE(f:Str)(v:V):∀fs:List (Str×V),f∈(aE f v fs).map (·.1)/\∀g,g∈fs.map (·.1)->g∈(aE f v fs).map (·.1)
 |[]=>⟨by simp[aE],λg h=>by simp at h⟩
 |(k,x)::r=>by
  obtain⟨i1,i2⟩:=oE f v r
  rw[show aE f v ((k,x)::r)=(if k=f then(k,v)::r else(k,x)::aE f v r) from rfl]
  by_cases hk:k=f
  ·rw[if_pos hk]
   subst hk
   exact⟨by simp,λg h=>by simpa using h⟩
  ·rw[if_neg hk]
   refine⟨?_,λg h=>?_⟩
   ·rw[List.map_cons]
    exact List.mem_cons_of_mem _ i1
   ·rw[List.map_cons]at h ⊢
    rcases List.mem_cons.mp h with e|e
    ·exact List.mem_cons.mpr (.inl e)
    ·exact List.mem_cons_of_mem _ (i2 g e)
theorem qk(f:Str)(v:V):∀fs:List (Str×V),(aE f v fs).length<=fs.length+1
 |[]=>by simp[aE]
 |(k,x)::r=>by
  have ih:=qk f v r
  rw[show aE f v ((k,x)::r)=(if k=f then(k,v)::r else(k,x)::aE f v r) from rfl]
  by_cases hk:k=f
  ·rw[if_pos hk,List.length_cons,List.length_cons];omega
  ·rw[if_neg hk,List.length_cons,List.length_cons];omega
theorem lP.some_of{v:V}{o:Option Value}(r:lP (some v) o):∃u,o=some u/\RelV v u:=by
 cases o with
 |none=>exact(show False from r).elim
 |some u=>exact⟨u,rfl,r⟩
theorem HC{v:V}{u:Value}(r:RelV v u):PySem.W.handedIn u=true:=by
 cases v with
 |iP=>cases (show u=Value.none from r);rfl
 |bl b=>cases (show u=Value.bool b from r);rfl
 |int i=>obtain⟨t,e⟩:=(show ∃t,u=Value.int i t from r);cases e;rfl
 |str x=>obtain⟨t,e⟩:=(show ∃t,u=Value.str x t from r);cases e;rfl
 |GD b=>obtain⟨t,e⟩:=(show ∃t,u=Value.bytes b t from r);cases e;rfl
 |Qy b=>obtain⟨t,e⟩:=(show ∃t,u=Value.float b t from r);cases e;rfl
 |ref a=>cases (show u=Value.ref a from r);rfl
 |ty n=>cases (show u=Value.type n from r);rfl
section
variable{P:Program}{w:World}{H H':Hp}{h h':Heap}{a C dx:Addr}{fs fs':List (Str×V)}
theorem A3(hok:lS P w H h)(e:H a=some (.ins C dx fs)):∃mA,HY h a dx C mA/\(∀f,lP (fs.lookup f) (mA f))/\PySem.Within mA (fs.map (·.1))/\fs.length<=1000/\H dx=some (.own a):=by
 obtain⟨d,z,ne,ob,mA,n,r,q⟩:=(show bI P w H h a (.ins C dx fs) from hok a _ e)
 exact⟨mA,⟨ob,n,ne⟩,r,q,z,d⟩
end
structure MO(K:PySem.W.Frag)(C:Addr):Prop where
 pg:PySem.W.plainGet K C Str.empty=true
 hd:PySem.W.hasDictIn K C=true
 po:PySem.W.plainOver K C=true
 sa:PySem.W.findIn K (.ref C) "__setattr__" =some (some (.builtin "object.__setattr__"))
theorem MO.get{K:PySem.W.Frag}{C:Addr}(c:MO K C)(f:Str):PySem.W.plainGet K C f=true:=c.pg
def bM(K:PySem.W.Frag)(C:Addr)(f:Str):Prop:=PySem.W.findIn K (.ref C) f=some none
theorem bM.IJ{K:PySem.W.Frag}{C:Addr}{f:Str}(n:bM K C f):PySem.W.takerIn K C f=some none:=by
 unfold PySem.W.takerIn
 rw[show PySem.W.findIn K (.ref C) f=some none from n]
 rfl
section
variable{X:Cx}{pins:List (Addr×Obj)}{σ:St}{H:Hp}{s:Shared}{a C dx:Addr}{fs:List (Str×V)}{f:Str}{v:V}{A:Around}{E:Value->Shared->Prop}
theorem E4{b:Bool}{Q:Value->Shared->Prop}(I:Inv X pins σ H s)(e:H a=some (.ins C dx fs))(c:MO X.K C)(n:bM X.K C f)(l:fs.lookup f=some v)
  (h:∀u s',Inv X pins σ H s'->RelV v u->Q u s'):wpAny (model X.prog X.w) A (getAttr (.ref a) f b) Q E s:=by
 obtain⟨mA,O,r,_,_,_⟩:=A3 I.hok e
 obtain⟨u,hu,ru⟩:=lP.some_of (v:=v) (o:=mA f) (by rw[←l];exact r f)
 exact get_map I.pL O (c.get f) c.hd n hu (HC ru) (h u _ (I.tok _) ru)
theorem Er{y:V}{u:Value}{Q:Unit->Shared->Prop}(I:Inv X pins σ H s)(e:H a=some (.ins C dx fs))(c:MO X.K C)(n:bM X.K C f)(hl:fs.length<1000)(ry:RelV y u)
  (h:∀s',Inv X pins σ (upd H a (.ins C dx (aE f y fs))) s'->Q () s'):wpAny (model X.prog X.w) A (setAttr (.ref a) f u) Q E s:=by
 obtain⟨mA,O,r,wi,_,ho⟩:=A3 I.hok e
 have hz:(fs.map (·.1)).length<=sizeLine:=by rw[List.length_map,sizeLine_eq];omega
 refine LA I.pL O c.sa c.po n.IJ c.hd wi hz λh' O' sb=>h _ ?_
 have hd:∃o,h'.get? dx=some o:=let ⟨o,_,_,e',_⟩:=O'.ns;⟨o,e'⟩
 refine I.write (x:=a) (e:=dx) (by rw[e];exact True.intro) (.inr ho) (λb q hb z=>(sb.2 b hb).trans z) hd ?_
 refine⟨by rw[aq O.ne];exact ho,?_,O.ne,O'.obj,_,O'.ns,λg=>?_,λg hg=>?_⟩
 ·have:=qk f y fs;omega
 ·show lP ((aE f y fs).lookup g) (if g=f then some u else mA g)
  rw[av]
  by_cases q:g=f
  ·rw[if_pos q,if_pos q];exact ry
  ·rw[if_neg q,if_neg q];exact r g
 ·by_cases q:g=f
  ·rw[q];exact(oE f y fs).1
  ·refine(oE f y fs).2 g (wi g λz=>hg ?_)
   show(if g=f then some u else mA g)=none
   rw[if_neg q];exact z
theorem Inv.made(I:Inv X pins σ H s):Inv X pins σ (upd (upd H s.heap.objs.size (.own (s.heap.objs.size+1))) (s.heap.objs.size+1) (.ins C s.heap.objs.size []))
  { s with heap:=(s.heap.push PySem.W.emptyDict).push (PySem.W.instObj C s.heap.objs.size) }:=by
 have e1:(s.heap.push PySem.W.emptyDict).get? s.heap.objs.size=some PySem.W.emptyDict:=Heap.get?_push_size s.heap rfl
 have e2:((s.heap.push PySem.W.emptyDict).push (PySem.W.instObj C s.heap.objs.size)).get? (s.heap.objs.size+1)=some (PySem.W.instObj C s.heap.objs.size):=by
  have:=Heap.get?_push_size (s.heap.push PySem.W.emptyDict) (o:=PySem.W.instObj C s.heap.objs.size) rfl
  rwa [Heap.size_push]at this
 have e3:(s.heap.push PySem.W.emptyDict).Ns s.heap.objs.size (λ_=>none):=⟨PySem.W.emptyDict,#[],_,e1,rfl,(λe he=>absurd he (by simp)),λ_=>rfl⟩
 have I1:=I.laid (a:=s.heap.objs.size) (o:=.own (s.heap.objs.size+1)) (h':=s.heap.push PySem.W.emptyDict) (t':=s.toks) (λb u q=>Heap.get?_push_of_some _ q) (Nat.le_refl _) ⟨_,e1⟩
 refine I1.laid (a:=s.heap.objs.size+1) (o:=.ins C s.heap.objs.size []) (t':=s.toks) (λb u q=>Heap.get?_push_of_some _ q) (Nat.le_of_eq (Heap.size_push _ _)) ?_
 have ne:s.heap.objs.size≠s.heap.objs.size+1:=Nat.ne_of_lt (Nat.lt_succ_self _)
 refine⟨by rw[aq ne,ah],Nat.zero_le _,ne,e2,λ_=>none,(Heap.Ns1.of_empty e3).at λo q=>Heap.get?_push_of_some _ q,λ_=>True.intro,λy hy=>absurd rfl hy⟩
theorem GF{prog:Program}{w:World}{env:Env}{e:Expr}{f:Str}{pos:Pos}{s:Shared}{Q:Value->Shared->Prop}(hb:attributeBase e f env (eval e env)=eval e env)
  (h:wpAny (model prog w) A (eval e env) (λo s₁=>wpAny (model prog w) A (getAttr o f true) Q E s₁) E s):wpAny (model prog w) A (eval (.Attribute e f pos) env) Q E s :=
 Attribute_any_ h (by rw[arm_eval_Attribute,hb])
end
def Rz(K:PySem.W.Frag)(ta:TE)(f:Str):TE:=λσ H Q=>ta σ H λx H1=>∃a C dx fs v,x= .ref a/\H1 a=some (.ins C dx fs)/\MO K C/\bM K C f/\fs.lookup f=some v/\Q v H1
def WY(K:PySem.W.Frag)(ta tv:TE)(f:Str):TS:=λD σ H=>tv σ H λy H1=>ta σ H1 λx H2=>∃a C dx fs,x= .ref a/\H2 a=some (.ins C dx fs)/\MO K C/\bM K C f/\fs.length<1000 ∧
 D.nx σ (upd H2 a (.ins C dx (aE f y fs)))
section
variable{X:Cx}{o e value:Expr}{f:Str}{pos pos' tpos:Pos}{ta tv:TE}
theorem cH(he:PE X e ta)(hb:attributeBase e f X.env (eval e X.env)=eval e X.env):PE X (.Attribute e f pos) (Rz X.K ta f):=by
 intro pins s σ H Q I h
 refine GF hb (dI (he pins s σ H _ I h) λu s1 ⟨x,H1,I1,rx,a,C,dx,fs,v,ex,ea,c,n,l,q⟩=>?_)
 subst ex
 obtain rfl:u=Value.ref a:=rx
 exact E4 I1 ea c n l λu' s2 I2 ru=>⟨v,H1,I2,ru,q⟩
theorem lM(ha:PE X o ta)(hv:PE X value tv)(hs:swapsWith value (some (.Attribute o f pos')) pos.line X.env=pure false):PS X (.Assign [.Attribute o f pos'] value pos) (WY X.K ta tv f):=by
 intro pins s σ H D I h
 refine plainObj_wpAny_Assign_Attribute (dI (hv pins s σ H _ I h) λu s1 ⟨y,H1,I1,ry,q⟩=>dI (ha pins s1 σ H1 _ I1 q) λov s2 ⟨x,H2,I2,rx,a,C,dx,fs,ex,ea,c,n,l,q2⟩=>?_) hs
 subst ex
 obtain rfl:ov=Value.ref a:=rx
 exact Er I2 ea c n l ry λs3 I3=>⟨σ,_,I3,q2⟩
end
section
variable{X:Cx}{pins:List (Addr×Obj)}{σ:St}{H:Hp}{s:Shared}{A:Around}{E:Value->Shared->Prop}{Q:Value->Shared->Prop}{c:Value}{b:Bool}
inductive tP(K:PySem.W.Frag)(H:Hp):V->Value->Prop where
 |iP:tP K H .iP (.type "NoneType")
 |bl (x:Bool):tP K H (.bl x) (.type "bool")
 |int (i:Int):tP K H (.int i) (.type "int")
 |str (x:Str):tP K H (.str x) (.type "str")
 |Qy (x:UInt64):tP K H (.Qy x) (.type "float")
 |lst {a:Addr} {xs:List V} (e:H a=some (.lst xs)):tP K H (.ref a) (.type "list")
 |su {a:Addr} {o:Obj} {xs:List V} (e:H a=some (.su o (.lst xs))):tP K H (.ref a) (.type "list")
 |tup {a:Addr} {xs:List V} (e:H a=some (.tup xs)):tP K H (.ref a) (.type "tuple")
 |dK {a:Addr} {kvs:List (Key×V)} (e:H a=some (.dK kvs)):tP K H (.ref a) (.type "dict")
 |dT {a:Addr} {kvs:List (List Key×V)} (e:H a=some (.dT kvs)):tP K H (.ref a) (.type "dict")
 |ins {a C dx:Addr} {fs:List (Str×V)} (e:H a=some (.ins C dx fs)) (cl:MO K C) (ha:PySem.W.findIn K (.ref C) "__class__" =some (some (.builtin "object.__class__")))
   (hn:PySem.W.specialIn K (.builtin "object.__class__") "__get__" =some (some (.builtin "getset_descriptor.__get__"))) (htk:PySem.W.takesIn K (.builtin "object.__class__")=some true)
   (hm:PySem.W.mroIn K C (.type "object")=some true):tP K H (.ref a) (.ref C)
theorem Hx{x:V}{u t:Value}(I:Inv X pins σ H s)(rx:RelV x u)(ty:tP X.K H x t)(e:PySem.W.kitOne X.K t c=some b)(h:∀tk,Q (.bool b) { s with toks:=tk }):
  wpAny (model X.prog X.w) A (call (.builtin "isinstance") [u,c]) Q E s:=by
 cases ty with
 |iP=>cases (show u=Value.none from rx);exact PySem.W.kia_one PySem.W.kitx_none I.pL True.intro e (λz=>nomatch z) h
 |bl y=>cases (show u=Value.bool y from rx);exact PySem.W.kia_one PySem.W.kitx_bool I.pL True.intro e (λz=>nomatch z) h
 |int i=>obtain⟨t,q⟩:=(show ∃t,u=Value.int i t from rx);cases q;exact PySem.W.kia_one PySem.W.kitx_int I.pL True.intro e (λz=>nomatch z) h
 |str y=>obtain⟨t,q⟩:=(show ∃t,u=Value.str y t from rx);cases q;exact PySem.W.kia_one PySem.W.kitx_str I.pL True.intro e (λz=>nomatch z) h
 |Qy y=>obtain⟨t,q⟩:=(show ∃t,u=Value.float y t from rx);cases q;exact PySem.W.kia_one PySem.W.kitx_float I.pL True.intro e (λz=>nomatch z) h
 | @lst a xs ea =>
  cases (show u=Value.ref a from rx)
  obtain⟨_,_,n,_,h1⟩:=(show bI X.prog X.w H s.heap a (.lst xs) from I.hok a _ ea)
  exact PySem.W.kia_one PySem.W.kitx_list I.pL ⟨_,h1,rfl⟩ e (λz=>nomatch z) h
 | @su a ob xs ea =>
  cases (show u=Value.ref a from rx)
  obtain⟨_,_,_,n,_,h1⟩:=(show bI X.prog X.w H s.heap a (.su ob (.lst xs)) from I.hok a _ ea)
  exact PySem.W.kia_one PySem.W.kitx_list I.pL ⟨_,h1,rfl⟩ e (λz=>nomatch z) h
 | @tup a xs ea =>
  cases (show u=Value.ref a from rx)
  obtain⟨_,_,_,p⟩:=(show bI X.prog X.w H s.heap a (.tup xs) from I.hok a _ ea)
  obtain⟨o,h1,h2,_⟩:=p
  exact PySem.W.kia_one PySem.W.kitx_tuple I.pL ⟨o,h1,h2⟩ e (λz=>nomatch z) h
 | @dK a kvs ea =>
  cases (show u=Value.ref a from rx)
  obtain⟨_,_,vs,_,p⟩:=(show bI X.prog X.w H s.heap a (.dK kvs) from I.hok a _ ea)
  obtain⟨o,es,ep,h1,h2,_⟩:=p
  exact PySem.W.kia_one PySem.W.kitx_dict I.pL ⟨o,h1,h2.1⟩ e (λz=>nomatch z) h
 | @dT a kvs ea =>
  cases (show u=Value.ref a from rx)
  obtain⟨_,_,xs,_,o,es,ep,h1,h2,_⟩:=(show bI X.prog X.w H s.heap a (.dT kvs) from I.hok a _ ea)
  exact PySem.W.kia_one PySem.W.kitx_dict I.pL ⟨o,h1,h2.1⟩ e (λz=>nomatch z) h
 | @ins a C dx fs ea cl ha hn htk hm =>
  cases (show u=Value.ref a from rx)
  obtain⟨mA,O,_⟩:=A3 I.hok ea
  obtain⟨od,J,_⟩:=O.look
  exact PySem.W.kia_one (PySem.W.kitx_own (cl.get _) cl.hd ha hn htk hm) I.pL J e (λz=>nomatch z) h
end
end L2
namespace L2
open PySem PySem.Spec PyProof.Rows
structure jT(k:Nat)(A:Around):Prop where
 hd:A.handled=none
 dp:A.depth+3*k+5<recursionLimit
 un:A.units+16*k+200<cLine
theorem jT.mono{j k:Nat}{A:Around}(r:jT k A)(h:j<=k):jT j A:=⟨r.hd,by have:=r.dp;omega,by have:=r.un;omega⟩
theorem jT.deeper{k:Nat}{A:Around}(r:jT (k+1) A)(env:Env):jT k (A.deeper env) :=
 ⟨r.hd,by have:=r.dp;show A.depth+1+3*k+5<_;omega,by have:=r.un;show A.units+3+16*k+200<_;omega⟩
theorem EX{A:Around}{C:Addr}{us:List Value}{kw:List (Str×Value)}:(A.under (.builtin "type.__call__" ⟨.ref C::us,kw⟩)).depth=A.depth+1:=by
 first|rfl|simp[Around.under,Code.weight,Code.isCreation,Code.isGuard,Code.isCaller,Code.frames,Code.isFrame,guardIds]
theorem EW{A:Around}{C:Addr}{us:List Value}{kw:List (Str×Value)}:(A.under (.builtin "type.__call__" ⟨.ref C::us,kw⟩)).units=A.units+1:=by
 first|rfl|simp[Around.under,Code.cUnits,Code.frames,Code.isFrame]
theorem jT.make{k:Nat}{A:Around}(r:jT (k+1) A)(C:Addr)(us:List Value)(kw:List (Str×Value)):jT k (A.under (.builtin "type.__call__" ⟨.ref C::us,kw⟩)) :=
 ⟨r.hd,by have:=r.dp;rw[EX];omega,by have:=r.un;rw[EW];omega⟩
theorem jT.depth{k:Nat}{A:Around}(r:jT k A):A.depth<recursionLimit:=by have:=r.dp;omega
theorem jT.units{k:Nat}{A:Around}(r:jT k A):A.units+64<cLine:=by have:=r.un;omega
def WL:TA:=λ_ H Q=>Q [] H
def RC(ta:TE)(tr:TA):TA:=λσ H Q=>ta σ H λx H1=>tr σ H1 λxs H2=>Q (x::xs) H2
section
variable{X:Cx}{e:Expr}{es:List Expr}{te:TE}{t:TA}{pos:Pos}
theorem af:PA X [] WL:=λ_ _ _ _ H Q I h=>Calls.spliced_nil ⟨[],H,I,.nil,h⟩
theorem aa(ha:PE X e te)(hr:PA X es t)(hs:starEach (e::es) X.env=(false,eval e X.env)::starEach es X.env:=by rfl):PA X (e::es) (RC te t):=by
 intro pos pins s σ H Q I h
 rw[hs]
 show wpAny _ _ (spliced ((false,eval e X.env)::backTo pos (starEach es X.env))) _ _ s
 refine Calls.spliced_cons (dI (ha pins s σ H _ I h) λu s1 ⟨x,H1,I1,r1,q1⟩=>?_)
 exact dI (hr pos pins s1 σ H1 _ I1 q1) λus s2 ⟨xs,H2,I2,r2,q2⟩=>⟨x::xs,H2,I2,.cons r1 r2,q2⟩
def WE(t:TA):TE:=λσ H Q=>t σ H λxs H1=>xs.length<=sizeLine/\∀p,H1 p=none->Q (.ref p) (upd H1 p (.tup xs))
def WN(t:TA):TE:=λσ H Q=>t σ H λxs H1=>xs.length<=sizeLine/\∀p,H1 p=none->Q (.ref p) (upd H1 p (.lst xs))
theorem bH{x1}(h:PA X es t):PE X (.Tuple es x1 pos) (WE t):=by
 intro pins s σ H Q I hq
 refine wpAny_Tuple_spliced (dI (h pos pins s σ H _ I hq) λus s1 ⟨xs,H1,I1,r,z,q⟩=>⟨by rw[←r.length];exact z,?_⟩)
 have hf:H1 s1.heap.objs.size=none:=I1.hok.fresh (Nat.le_refl _)
 refine⟨.ref s1.heap.objs.size,upd H1 s1.heap.objs.size (.tup xs),I1.laid (t':=s1.toks) (λb u e=>Heap.get?_push_of_some _ e) (Nat.le_refl _) ?_,rfl,q _ hf⟩
 exact⟨z,us,r,⟨_,Heap.get?_push_size _ rfl,rfl,_,rfl⟩⟩
theorem jk(h:PA X es t):PE X (.List es pos) (WN t):=by
 intro pins s σ H Q I hq
 refine wpAny_List_spliced (dI (h pos pins s σ H _ I hq) λus s1 ⟨xs,H1,I1,r,z,q⟩=>⟨by rw[←r.length];exact z,?_⟩)
 have hf:H1 s1.heap.objs.size=none:=I1.hok.fresh (Nat.le_refl _)
 refine⟨.ref s1.heap.objs.size,upd H1 s1.heap.objs.size (.lst xs),I1.laid (t':=s1.toks) (λb u e=>Heap.get?_push_of_some _ e) (Nat.le_refl _) ?_,rfl,q _ hf⟩
 exact⟨z,us,0,r,Heap.get?_push_size _ rfl⟩
end
abbrev Sp:=List V->Hp->VK->XK->Prop
abbrev Ii:=List Env->Hp->Shared->XK->Value->Shared->Prop
structure Fz(P:Program)(w:World)(K:PySem.W.Frag)(mg:Str->Option Value)(base:Heap)(A:Around)(outer:List Env)(s:Shared)(H:Hp):Prop where
 frames:A.frames=some outer
 mod:Mod K mg base
 bs:∀b o,base.get? b=some o->s.heap.get? b=some o/\H b=none
 KH:base.objs.size<=s.heap.objs.size
 sr:s.heap.FunFrames base outer
 Mz:∀b∈frs outer,H b=none
 hok:lS P w H s.heap
 bare:AllBare s.gens
 tk:Fl mg s.toks
def CE(outer:List Env)(P:Program)(w:World)(H:Hp)(s:Shared)(Q:VK)(u:Value)(s':Shared):Prop :=
 ∃v H',s'.os=s.os/\AllBare s'.gens/\Un (frs outer) [] H H' s.heap s'.heap/\lS P w H' s'.heap/\RelV v u/\s.toks<=s'.toks/\Q v H'
def CR(CX:Ii)(outer:List Env)(P:Program)(w:World)(H:Hp)(s:Shared)(Q:VK)(E:XK)(r:Result)(s':Shared):Prop :=
 match r with
 | .ok (.ret u)=>CE outer P w H s Q u s'
 | .ok _=>False
 | .error e=>CX outer H s E e s'
structure aI(P:Program)(w:World)(K:PySem.W.Frag)(mg:Str->Option Value)(base:Heap)(CX:Ii)(k:Nat)(f:Addr)(fd:FuncData)(ps:List Str)(sp:Sp):Prop where
 len:∀vs H Q E,sp vs H Q E->vs.length=ps.length
 run:∀(A:Around) (outer:List Env) (s:Shared) (H:Hp) (args:Args) (us:List Value) (vs:List V) (Q:VK) (E:XK),jT k A->Fz P w K mg base A outer s H->BindsTo s fd args (ps.zip us)->Vals vs us->sp vs H Q E →
  codeAny (model P w) A (.call (.ref f) args) (CR CX outer P w H s Q E) s
theorem Fz.make{P:Program}{w:World}{K:PySem.W.Frag}{mg:Str->Option Value}{base:Heap}{A:Around}{outer:List Env}{s:Shared}{H:Hp}(e:Fz P w K mg base A outer s H)(C:Addr)(us:List Value)(kw:List (Str×Value)):
  Fz P w K mg base (A.under (.builtin "type.__call__" ⟨.ref C::us,kw⟩)) outer s H:=⟨by first|exact e.frames|(simpa[Around.under,Code.envs,Code.isFrame,pushEnvs]using e.frames),e.mod,e.bs,e.KH,e.sr,e.Mz,e.hok,e.bare,e.tk⟩
section
variable{X:Cx}{pins:List (Addr×Obj)}{σ:St}{H:Hp}{s s':Shared}
theorem Inv.MC(I:Inv X pins σ H s):Fz X.prog X.w X.K X.mg X.base X.A X.stack s H :=
 ⟨I.ok.frames,I.ok.mod,I.bs,Nat.le_trans I.ok.KH I.sz,I.stack,I.Ar,I.hok,I.bare,I.tk⟩
theorem Inv.after{Q:VK}{u:Value}(I:Inv X pins σ H s)(h:CE X.stack X.prog X.w H s Q u s'):EP X pins σ Q u s':=by
 obtain⟨v,H',os,bare,un,hok,r,tt,q⟩:=h
 obtain⟨hh,g,d,t,os'⟩:=s'
 obtain rfl:os'=s.os:=os
 exact⟨v,H',I.call (h':=hh) (g':=g) (d':=d) (t':=t) (ch:=[]) un hok bare (λb z=>absurd z (by simp)) (Nat.le_trans I.up tt),r,q⟩
end
def RD(sp:Sp)(yl:List V)(E:XK)(t:TA):TE:=λσ H Q=>t σ H λvs H1=>sp (vs++yl) H1 Q E
def Ry(C:Addr)(sp:Sp)(yl:List V)(E:XK)(t:TA):TE:=λσ H Q=>t σ H λvs H1=>∀x dx,H1 x=none->H1 dx=none->dx≠x →
 sp (.ref x::(vs++yl)) (upd (upd H1 dx (.own x)) x (.ins C dx [])) (λv H2=>v= .iP/\Q (.ref x) H2) E
def Binds(K:PySem.W.Frag)(fd:FuncData)(ps:List Str)(ds:List Value):Prop :=
 ∀(s:Shared) (us:List Value),K.In s.heap->(us++ds).length=ps.length->BindsTo s fd ⟨us,[]⟩ (ps.zip (us++ds))
theorem Binds.all{K:PySem.W.Frag}{fd:FuncData}{ps:List Str}(h:∀us:List Value,us.length=ps.length->bindArgs fd ⟨us,[]⟩=pure (ps.zip us)):Binds K fd ps []:=λs us _ hl=>by
 rw[List.append_nil]at hl ⊢
 exact .of_eq (h us hl)
def Passes(CX:Ii)(X:Cx)(E:XK):Prop:=∀(pins:List (Addr×Obj)) (σ:St) (H:Hp) (s:Shared) (e:Value) (s':Shared),Inv X pins σ H s->CX X.stack H s E e s'->X.xe e s'
section
variable{X:Cx}{CX:Ii}{k:Nat}{f C:Addr}{fd:FuncData}{ps:List Str}{sp:Sp}{yl:List V}{ds:List Value}{E:XK}{x m:Str}{p pos apos:Pos}{e o:Expr}{es:List Expr}{ta:TE}{t:TA}
theorem Pf{pins:List (Addr×Obj)}{σ:St}{H:Hp}{s:Shared}{Q:VK}{us:List Value}{vs:List V}(F:aI X.prog X.w X.K X.mg X.base CX k f fd ps sp)(hr:jT k X.A)(hb:Binds X.K fd ps ds)(hd:Vals yl ds)(hx:Passes CX X E)
  (I:Inv X pins σ H s) (r:Vals vs us) (h:sp (vs++yl) H Q E):wpAny (model X.prog X.w) X.A (call (.ref f) us) (EP X pins σ Q) X.xe s:=by
 have r2:Vals (vs++yl) (us++ds):=r.append hd
 have hl:(us++ds).length=ps.length:=by rw[←r2.length];exact F.len _ _ _ _ h
 refine wpAny_call (codeAny_mono (F.run X.A X.stack s H ⟨us,[]⟩ (us++ds) (vs++yl) Q E hr I.MC (hb s us I.pL hl) r2 h) λr s' hq=>?_)
 cases r with
 |error e=>exact hx pins σ H s e s' I hq
 |ok fl =>
  cases fl with
  |ret u=>exact I.after hq
  |next=>exact False.elim hq
  |brk=>exact False.elim hq
  |cont=>exact False.elim hq
theorem aA(F:aI X.prog X.w X.K X.mg X.base CX k f fd ps sp)(hr:jT k X.A)(hg:Gl X x)(hm:X.mg x=some (.ref f))(hk:PySem.W.keepIn X.K (.ref f)=true)(hb:Binds X.K fd ps ds)(hd:Vals yl ds)(hx:Passes CX X E)
  (ha:PA X (e::es) t) (hdb:(x==("__debug__" :Str))=false:=by decide) (he:starEach (e::es) X.env=(false,eval e X.env)::starEach es X.env:=by rfl) (hpl:(backTo pos (starEach es X.env)).any (·.1)=false:=by rfl) :
  PE X (.Call (.Name x p) (e::es) [] pos) (RD sp yl E t):=by
 intro pins s σ H Q I h
 refine wpAny_Call_Name_kw (nP I hg hm ?_ hdb)
 refine PySem.W.callWith_K (h₀:=X.base) I.ok.mod.Nc hk (dI (ha pos pins s σ H _ I h) λus s1 ⟨vs,H1,I1,r,q⟩=>⟨I1.pL,?_⟩) he hpl
 exact Pf F hr hb hd hx I1 r q
structure Mk(K:PySem.W.Frag)(C f:Addr):Prop where
 makes:PySem.W.makesIn K C=true
 init:PySem.W.findIn K (.ref C) "__init__" =some (some (.ref f))
 fn:PySem.W.isFn K (.ref f)=true
 kp:PySem.W.keepIn K (.ref C)=true
theorem Je{pins:List (Addr×Obj)}{σ:St}{H:Hp}{s:Shared}{Q:VK}{us:List Value}{vs:List V}(M:Mk X.K C f)(F:aI X.prog X.w X.K X.mg X.base CX k f fd ps sp)(hr:jT (k+1) X.A)(hb:Binds X.K fd ps ds)(hd:Vals yl ds)
  (hx:Passes CX X E) (I:Inv X pins σ H s) (r:Vals vs us)
  (h:∀x dx,H x=none->H dx=none->dx≠x->sp (.ref x::(vs++yl)) (upd (upd H dx (.own x)) x (.ins C dx [])) (λv H2=>v= .iP/\Q (.ref x) H2) E) :
  wpAny (model X.prog X.w) X.A (call (.ref C) us) (EP X pins σ Q) X.xe s:=by
 have hq:=h (s.heap.objs.size+1) s.heap.objs.size (I.hok.fresh (Nat.le_succ _)) (I.hok.fresh (Nat.le_refl _)) (Nat.ne_of_lt (Nat.lt_succ_self _))
 have I2:=Inv.made (C:=C) I
 have r2:Vals (V.ref (s.heap.objs.size+1)::(vs++yl)) (Value.ref (s.heap.objs.size+1)::(us++ds)):=.cons rfl (r.append hd)
 have hl:(Value.ref (s.heap.objs.size+1)::us++ds).length=ps.length:=by
  have e:=r2.length
  rw[F.len _ _ _ _ hq]at e
  exact e.symm
 refine wpAny_call (JF (f:=f) I.pL M.makes M.init (beq_iff_eq.mp M.fn) (codeAny_mono (F.run _ X.stack _ _ ⟨Value.ref (s.heap.objs.size+1)::us,[]⟩ (Value.ref (s.heap.objs.size+1)::(us++ds)) _ _ E (hr.make C us [])
  (I2.MC.make C us []) (hb _ (Value.ref (s.heap.objs.size+1)::us) I2.pL hl) r2 hq) λr s' hq'=>?_))
 cases r with
 |error e=>exact hx pins σ _ _ e s' I2 hq'
 |ok fl =>
  cases fl with
  |ret u =>
   obtain⟨v,H',I3,rv,ev,q3⟩:=I2.after hq'
   subst ev
   exact⟨rv,⟨V.ref (s.heap.objs.size+1),H',I3,rfl,q3⟩⟩
  |next=>exact False.elim hq'
  |brk=>exact False.elim hq'
  |cont=>exact False.elim hq'
theorem AI(M:Mk X.K C f)(F:aI X.prog X.w X.K X.mg X.base CX k f fd ps sp)(hr:jT (k+1) X.A)(hg:Gl X x)(hm:X.mg x=some (.ref C))(hb:Binds X.K fd ps ds)(hd:Vals yl ds)(hx:Passes CX X E)
  (ha:PA X (e::es) t) (hdb:(x==("__debug__" :Str))=false:=by decide) (he:starEach (e::es) X.env=(false,eval e X.env)::starEach es X.env:=by rfl) (hpl:(backTo pos (starEach es X.env)).any (·.1)=false:=by rfl) :
  PE X (.Call (.Name x p) (e::es) [] pos) (Ry C sp yl E t):=by
 intro pins s σ H Q I h
 refine wpAny_Call_Name_kw (nP I hg hm ?_ hdb)
 refine PySem.W.callWith_K (h₀:=X.base) I.ok.mod.Nc M.kp (dI (ha pos pins s σ H _ I h) λus s1 ⟨vs,H1,I1,r,q⟩=>⟨I1.pL,?_⟩) he hpl
 exact Je M F hr hb hd hx I1 r q
end
section
variable{X:Cx}{CX:Ii}{k:Nat}{f C:Addr}{fd:FuncData}{ps ks:List Str}{sp:Sp}{E:XK}{x m:Str}{p pos apos kpos:Pos}{e o:Expr}{es:List Expr}{kws:List Keyword}{te ta:TE}{t tk:TA}{nm:Option Str}
variable{g:List Value->List Value->List Value}{gV:List V->List V->List V}
end
structure aF(N P:List Str)(sc:Scope):Prop where
 kind:sc.kind= .function
 co:sc.isCoroutine=false
 gen:sc.isGenerator=false
 nd:N.Nodup
 pre:N.take P.length=P
 par:∀x∈P,sc.names.lookup x=some .local\/sc.names.lookup x=some .cell
 PK:∀y∈sc.names,y.2≠ .free
theorem Ad{kindOf:Str->Option NameKind}{x:Str}:∀{binds:List (Str×Value)} {m:Str->Option Value},(∀v,(x,v)∉binds)->bindL kindOf binds m x=m x
 |[],_,_=>rfl
 |(n,v)::r,m,h=>by
  unfold bindL
  rw[Ad λw hw=>h w (List.mem_cons_of_mem _ hw)]
  split
  ·have:x≠n:=by rintro rfl;exact h v List.mem_cons_self
   simp[this]
  ·rfl
theorem Af{kindOf:Str->Option NameKind}{x:Str}:∀{binds:List (Str×Value)} {m:Str->Option Value},(∀v,(x,v)∉binds)->bindC kindOf binds m x=m x
 |[],_,_=>rfl
 |(n,v)::r,m,h=>by
  unfold bindC
  rw[Af λw hw=>h w (List.mem_cons_of_mem _ hw)]
  split
  ·rfl
  ·have:x≠n:=by rintro rfl;exact h v List.mem_cons_self
   simp[this]
theorem Ae{kindOf:Str->Option NameKind}{x:Str}{v:Value}:∀{P:List Str} {vs:List Value} {i:Nat} {m:Str->Option Value},P.Nodup->P[i]? =some x->vs[i]? =some v->kindOf x=some .local →
  bindL kindOf (P.zip vs) m x=some v
 |[],_,_,_,_,h,_,_=>by simp at h
 |_::_,[],_,_,_,_,h,_=>by simp at h
 |p::P,w::vs,0,m,nd,h1,h2,hk=>by
  simp at h1 h2;subst h1;subst h2
  show bindL kindOf ((p,w)::P.zip vs) m p=_
  unfold bindL
  rw[Ad λv hv=>(List.nodup_cons.mp nd).1 (List.of_mem_zip hv).1,if_pos hk]
  simp
 |p::P,w::vs,i+1,m,nd,h1,h2,hk=>by
  show bindL kindOf ((p,w)::P.zip vs) m x=_
  unfold bindL
  exact Ae (i:=i) (List.nodup_cons.mp nd).2 (by simpa using h1) (by simpa using h2) hk
theorem Ag{kindOf:Str->Option NameKind}{x:Str}{v:Value}:∀{P:List Str} {vs:List Value} {i:Nat} {m:Str->Option Value},P.Nodup->P[i]? =some x->vs[i]? =some v->kindOf x≠some .local →
  bindC kindOf (P.zip vs) m x=some v
 |[],_,_,_,_,h,_,_=>by simp at h
 |_::_,[],_,_,_,_,h,_=>by simp at h
 |p::P,w::vs,0,m,nd,h1,h2,hk=>by
  simp at h1 h2;subst h1;subst h2
  show bindC kindOf ((p,w)::P.zip vs) m p=_
  unfold bindC
  rw[Af λv hv=>(List.nodup_cons.mp nd).1 (List.of_mem_zip hv).1,if_neg hk]
  simp
 |p::P,w::vs,i+1,m,nd,h1,h2,hk=>by
  show bindC kindOf ((p,w)::P.zip vs) m x=_
  unfold bindC
  exact Ag (i:=i) (List.nodup_cons.mp nd).2 (by simpa using h1) (by simpa using h2) hk
def start(N:List Str)(vs:List V):St:=vs.map some++List.replicate (N.length-vs.length) none
def tL(CX:Ii)(P:Program)(w:World)(K:PySem.W.Frag)(mg:Str->Option Value)(base:Heap)(N:List Str)(qual:Str)(scope:Scope)(f:Addr)(cd:Value)(A:Around)(outer:List Env)(s:Shared)(H:Hp)(E:XK):Cx where
 prog:=P
 w:=w
 K:=K
 mg:=mg
 base:=base
 A:=A.deeper (envOfC qual scope s.heap.objs.size f cd)
 N:=N
 s₀:=s
 H₀:=H
 env:=envOfC qual scope s.heap.objs.size f cd
 outer:=outer
 stack:=envOfC qual scope s.heap.objs.size f cd::outer
 ex:=[]
 calm:=true
 fn:=λ_=>true
 pn:=[]
 xe:=λe s'=>wpAny (model P w) (A.deeper (envOfC qual scope s.heap.objs.size f cd)) (leaving (envOfC qual scope s.heap.objs.size f cd) e) (λ_ s''=>CX outer H s E e s'') (λe' s''=>CX outer H s E e' s'') s'
theorem DG{sc:Scope}{n:Nat}{x:Str}(h:sc.names.lookup x=some .cell):∃c,(cellsFrom n sc.names []).lookup x=some c:=by
 have q:=PySem.W.cellsFrom_some sc.names n [] (.inl h)
 exact Option.isSome_iff_exists.mp q
theorem Hy{CX:Ii}{P:Program}{w:World}{K:PySem.W.Frag}{mg:Str->Option Value}{base:Heap}{N ps:List Str}{qual:Str}{scope:Scope}{f:Addr}{cd:Value}{A:Around}{outer:List Env}{s s1:Shared}{H:Hp}{E:XK}{us:List Value}{vs:List V}
  (S:aF N ps scope) (hd:A.handled=none) (e0:Fz P w K mg base A outer s H) (hl:vs.length=ps.length) (r:Vals vs us)
  (x:InCallC s s.heap.objs.size (bindL (envOfC qual scope s.heap.objs.size f cd).kindOf (ps.zip us) λ_=>none) (cellsFrom (s.heap.objs.size+1) scope.names []) (bindC (envOfC qual scope s.heap.objs.size f cd).kindOf (ps.zip us) λ_=>none) s1) (hup:s.toks<=s1.toks) :
  Inv (tL CX P w K mg base N qual scope f cd A outer s H E) [] (start N vs) H s1:=by
 have hpl:ps.length<=N.length:=by have:=congrArg List.length S.pre;rw[List.length_take]at this;omega
 obtain⟨h1,tk,rfl,hk⟩:=x.done
 have htk:s.toks<=tk:=hup
 have Xj:∀b:Addr,b∉(tL CX P w K mg base N qual scope f cd A outer s H E).ex:=λb z=>absurd (show b∈([]:List Addr) from z) (by simp)
 refine⟨⟨e0.mod,S.kind,rfl,rfl,Nat.le_refl _,λy z c h1 h2=>?_,λy hy=>?_,λy c _ h=>?_,λ_=>hd,Around.frames_deeper e0.frames,.inr ⟨rfl,rfl⟩,λb z=>absurd z (Xj b),e0.bs,e0.KH,λb _ _=>Xj b,λb z=>absurd z (Xj b),e0.sr,e0.Mz,e0.tk⟩,
  rfl,e0.bare,Un.kept hk,⟨_,x.toInCall.ns,λi y v h1 h2 h3=>?_⟩,λy c h=>⟨_,x.cell y c h⟩,e0.hok.fresh (Nat.le_refl _),λy c h=>?_,λp hp=>absurd (show p∈([]:List (Addr×Obj)) from hp) (by simp),e0.hok.kept hk,?_,htk⟩
 ·exact name_of_addr x.apart (PySem.mem_of_lookup h1) (PySem.mem_of_lookup h2)
 ·have hy:scope.names.lookup y=some .cell\/scope.names.lookup y=some .free:=hy
  rcases hy with hy|hy
  ·exact DG hy
  ·exact absurd rfl (S.PK _ (PySem.mem_of_lookup hy))
 ·exact Nat.le_of_lt (x.above y c (PySem.mem_of_lookup h))
 ·have hi:i<vs.length:=by
   unfold start at h2
   by_cases hi:i<vs.length
   ·exact hi
   ·rw[List.getElem?_append_right (by simpa using hi)]at h2
    rw[List.getElem?_replicate]at h2
    split at h2<;>cases h2
  have ha:vs[i]? =some v:=by
   unfold start at h2
   rw[List.getElem?_append_left (by simpa using hi),List.getElem?_map]at h2
   cases e:vs[i]? with
   |none=>rw[e]at h2;cases h2
   |some a=>rw[e]at h2;cases h2;rfl
  obtain⟨u,hu,rv⟩:=r.get ha
  have hp:ps[i]? =some y:=by
   rw[←S.pre,List.getElem?_take_of_lt (by omega)];exact h1
  have Zq:ps.Nodup:=by rw[←S.pre];exact S.nd.sublist (List.take_sublist _ _)
  refine⟨u,rv,?_⟩
  rcases S.par y (List.mem_of_getElem? hp)with k|k
  ·exact .inl ⟨k,Ae Zq hp hu k⟩
  ·obtain⟨c,e⟩:=DG (n:=s.heap.objs.size+1) k
   refine .inr ⟨.inl k,c,e,?_⟩
   have q:=x.cell y c e
   rw[Ag Zq hp hu (by show scope.names.lookup y≠_;rw[k];decide)]at q
   exact q
 ·exact e0.hok.fresh (Nat.le_of_lt (x.above y c (PySem.mem_of_lookup h)))
 ·unfold start
  show _=N.length
  rw[List.length_append,List.length_map,List.length_replicate]
  omega
theorem Kl{CX:Ii}{P:Program}{w:World}{K:PySem.W.Frag}{mg:Str->Option Value}{base:Heap}{k:Nat}{f:Addr}{name qual:Str}{params:Arguments}{body:List Stmt}{scope:Scope}{dV kV doc pm cdv ct oc:Value}{an od:Option Addr}
  {osl:Array (Option Value)} {N ps:List Str} {sp:Sp} (lk:K.lookup f=some ⟨oc,od,.func (PySem.W.fnOf name qual params body scope dV kV doc pm an cdv ct),osl⟩) (hcd:PySem.W.codeIn K cdv qual=true) (S:aF N ps scope)
  (len:∀vs H Q E,sp vs H Q E->vs.length=ps.length)
  (hbody:∀(A:Around) (outer:List Env) (s:Shared) (H:Hp) (vs:List V) (Q:VK) (E:XK),jT k (A.deeper (envOfC qual scope s.heap.objs.size f cdv))->sp vs H Q E →
   ∃t,Al (tL CX P w K mg base N qual scope f cdv A outer s H E) body t/\t { nx:=λ_ H'=>Q .iP H',rt:=Q } (start N vs) H) :
  aI P w K mg base CX (k+1) f (PySem.W.fnOf name qual params body scope dV kV doc pm an cdv ct) ps sp:=by
 refine⟨len,λA outer s H args us vs Q E hr e0 hb r D7=>?_⟩
 have hl:=len _ _ _ _ D7
 have KX:K.In s.heap:=e0.mod.Nc.keeps λb o e=>(e0.bs b o e).1
 have lim:s.heap.NoLimit:=e0.mod.nolimit.keeps λb o e=>(e0.bs b o e).1
 have hkind:∀y∈ps.zip us,scope.names.lookup y.1=some .local\/(scope.names.lookup y.1=some .cell/\((cellsFrom (s.heap.objs.size+1) scope.names []).lookup y.1).isSome=true):=λ⟨n,v⟩ hy=>by
  rcases S.par n (List.of_mem_zip hy).1 with q|q
  ·exact .inl q
  ·exact .inr ⟨q,PySem.W.cellsFrom_some _ _ _ (.inl q)⟩
 refine TK.Ff (Nat.le_refl _) ?_
 refine codeAny_call_function hr.depth (KX _ _ lk) rfl S.co S.gen rfl (PySem.W.codeRec_of KX hcd) (hb _ _ _ _ ?_)
 refine TK.bY (Nat.le_refl _) (wpAny_newFunctionEnv_cells S.kind hkind λenv he s1 x hup=>?_)
 subst he
 refine⟨lim.keeps x.toInCall.keep,codeAny_func ?_⟩
 obtain⟨t,ht,hq⟩:=hbody A outer s H vs Q E (hr.deeper _) D7
 have I:Inv (tL CX P w K mg base N qual scope f cdv A outer s H E) [] (start N vs) H s1:=Hy S hr.hd e0 hl r x hup
 refine wpAny_mono (ht [] s1 (start N vs) H _ I hq) (λfl s' hs XO=>?_) λe s' hs=>wpAny_mono hs (λ_ _ z _=>z) λ_ _ z _=>z
 have fin:∀{σ':St} {H':Hp} {v:V} {u:Value},Inv (tL CX P w K mg base N qual scope f cdv A outer s H E) [] σ' H' s'->RelV v u->Q v H'->CE outer P w H s Q u s' :=
  λ{σ' H' v u} J rv q=>⟨v,H',J.os,J.bare,J.base,J.hok,rv,XO,q⟩
 cases fl with
 |ret u =>
  obtain⟨v,σ',H',J,rv,q⟩:=hs
  exact fin J rv q
 |next =>
  obtain⟨σ',H',J,q⟩:=hs
  exact fin (v:=V.iP) (u:=Value.none) J rfl q
 |brk =>
  obtain⟨_,_,_,q⟩:=hs
  exact False.elim q
 |cont =>
  obtain⟨_,_,_,q⟩:=hs
  exact False.elim q
end L2
namespace L2
open PySem PySem.Spec PyProof.Rows
section
variable{X:Cx}{x:Str}{p pos:Pos}{e:Expr}{es:List Expr}{t:TA}{id T:String}{r:List V->Hp->VK->Prop}
def Y9(r:List V->Hp->VK->Prop)(t:TA):TE:=λσ H Q=>t σ H λvs H1=>r vs H1 Q
theorem az (hc:lJ X (.builtin id) r) (hg:Gl X x) (hm:X.mg x=none) (hv:bootBuiltins x=some (.builtin id)) (ha:PA X (e::es) t) (hn:x≠ "__name__" :=by decide) (hdb:(x==("__debug__" :Str))=false:=by decide)
  (he:starEach (e::es) X.env=(false,eval e X.env)::starEach es X.env:=by rfl) (hpl:(backTo pos (starEach es X.env)).any (·.1)=false:=by rfl):PE X (.Call (.Name x p) (e::es) [] pos) (Y9 r t):=by
 intro pins s σ H Q I h
 refine wpAny_Call_Name_kw (ql I hg hm hv ?_ hn hdb)
 exact PyProof.Rows.callWith_builtin1 (dI (ha pos pins s σ H _ I h) λus s1 ⟨vs,H1,I1,r1,q1⟩=>hc pins s1 σ H1 vs us Q I1 r1 q1) he hpl
theorem ku (hc:lJ X (.type T) r) (hg:Gl X x) (hm:X.mg x=none) (hv:bootBuiltins x=some (.type T)) (ha:PA X (e::es) t) (hn:x≠ "__name__" :=by decide) (hdb:(x==("__debug__" :Str))=false:=by decide)
  (he:starEach (e::es) X.env=(false,eval e X.env)::starEach es X.env:=by rfl) (hpl:(backTo pos (starEach es X.env)).any (·.1)=false:=by rfl):PE X (.Call (.Name x p) (e::es) [] pos) (Y9 r t):=by
 intro pins s σ H Q I h
 refine wpAny_Call_Name_kw (ql I hg hm hv ?_ hn hdb)
 exact PyProof.Rows.callWith_type1 (dI (ha pos pins s σ H _ I h) λus s1 ⟨vs,H1,I1,r1,q1⟩=>hc pins s1 σ H1 vs us Q I1 r1 q1) he hpl
end
end L2
namespace HT
open PySem PyProof.Rows
section
open PySem.SeqAt
open PySem.AutoSeq1 (wpAny_loadPart')
open PySem.MeetsSeq PySem.MeetsSeq2 PySem.MeetsSeq3
end
section
variable{prog:Program}{w:World}{A:Around}{E:Value->Shared->Prop}{s:Shared}
theorem MF{t b:Addr}{vs ws:List Value}{Q:Value->Shared->Prop}(ht:IsTup s.heap t vs.toArray)(hb:IsTup s.heap b ws.toArray)(hv:vs≠[])
  (h1:ws=[]->Q (.ref t) s) (h2:ws≠[]->Q (.ref s.heap.objs.size) { s with heap:=s.heap.push { cls:=.type "tuple",data:=.seq (vs++ws).toArray } })
  (hsz:vs.length+ws.length<=sizeLine):wpAny (model prog w) A (binaryOp .Add (.ref t) (.ref b)) Q E s:=by
 obtain⟨⟨cls,dd,data,sl⟩,ho,hc,n,hd⟩:=id ht
 obtain⟨⟨ab5,dd2,data2,sl2⟩,ho2,hc2,n2,hd2⟩:=id hb
 simp only at hc hd hc2 hd2
 subst hc hd hc2 hd2
 have e:vs.toArray++ws.toArray=(vs++ws).toArray:=by simp
 by_cases hw:ws=[]
 ·exact concat_meets ⟨_,ho,rfl⟩ ⟨_,ho2,rfl⟩ noFill_tuple_add seq_tuple_add PySem.F.slot_tuple_add PySem.F.entry_tuple_add (PySem.F.args_tuple_add_2 _ _)
   (tuple_addW1 t b vs.toArray ws.toArray n n2 dd dd2 sl sl2 (by simpa using hv) (by simp[hw])) ⟨ho,ho2,h1 hw⟩
 ·refine concat_meets ⟨_,ho,rfl⟩ ⟨_,ho2,rfl⟩ noFill_tuple_add seq_tuple_add PySem.F.slot_tuple_add PySem.F.entry_tuple_add (PySem.F.args_tuple_add_2 _ _)
   (tuple_addW2 t b vs.toArray ws.toArray n n2 dd dd2 sl sl2 (by simpa using hv) (by simpa using hw) (by rw[List.size_toArray,List.size_toArray];exact hsz)) ⟨ho,ho2,?_⟩
  rw[e]
  exact h2 hw
end
end HT
namespace L2
open PySem PySem.Spec PyProof.Rows
abbrev TO:=St->Hp->(Option Int->Hp->Prop)->Prop
def PO(X:Cx)(e:Option Expr)(t:TO):Prop :=
 ∀(pins:List (Addr×Obj)) (s:Shared) (σ:St) (H:Hp) (Q:Option Int->Hp->Prop),Inv X pins σ H s->t σ H Q →
  wpAny (model X.prog X.w) X.A (evalPart e X.env) (λu s'=>∃o H',Inv X pins σ H' s'/\IsPart u o/\Q o H') X.xe s
def Lw:TO:=λ_ H Q=>Q none H
def Rr(t:TE):TO:=λσ H Q=>t σ H λx H1=>∃i,x= .int i/\Q (some i) H1
section
variable{X:Cx}{e:Expr}{te:TE}{lo hi:Option Expr}{tl th:TO}{pos p2:Pos}
theorem F6:PO X none Lw:=by
 intro pins s σ H Q I h
 rw[evalPart_none]
 exact wpAny_pure ⟨none,H,I,.none,h⟩
theorem F5(h:PE X e te):PO X (some e) (Rr te):=by
 intro pins s σ H Q I hw
 rw[evalPart_some]
 refine dI (h pins s σ H _ I hw) λu s1 ⟨x,H1,I1,r1,q1⟩=>?_
 obtain⟨i,rfl,q⟩:=q1
 obtain⟨t,rfl⟩:=r1
 exact⟨some i,H1,I1,.int i t,q⟩
def SlR(X:Cx)(r:V->Option Int->Option Int->Hp->VK->Prop):Prop :=
 ∀(pins:List (Addr×Obj)) (s:Shared) (σ:St) (H:Hp) (x:V) (v vl vu:Value) (lo hi:Option Int) (sl:Addr) (Q:VK),Inv X pins σ H s->RelV x v->s.heap.IsSliceOf sl vl vu .none->IsPart vl lo->IsPart vu hi->r x lo hi H Q →
  ∃T id,typeLookup (.type T) "__getitem__" =pure (some (.builtin id))/\s.TypeIs v T/\wpAny (model X.prog X.w) X.A (getItem v (.ref sl)) (EP X pins σ Q) X.xe s
def tSl(r:V->Option Int->Option Int->Hp->VK->Prop)(te:TE)(tl th:TO):TE:=λσ H Q=>te σ H λx H1=>tl σ H1 λl H2=>th σ H2 λu H3=>r x l u H3 Q
theorem CJ{r:V->Option Int->Option Int->Hp->VK->Prop}(hr:SlR X r)(he:PE X e te)(hl:PO X lo tl)(hu:PO X hi th):PE X (.Subscript e (.Slice lo hi none p2) pos) (tSl r te tl th):=by
 intro pins s σ H Q I h
 refine Subscript_ (dI (he pins s σ H _ I h) λv s1 ⟨x,H1,I1,r1,q1⟩=>?_)
 refine wpAny_Slice (dI (hl pins s1 σ H1 _ I1 q1) λvl s2 ⟨l,H2,I2,pl,q2⟩=>dI (hu pins s2 σ H2 _ I2 q2) λvu s3 ⟨u,H3,I3,pu,q3⟩=>?_)
 rw[evalPart_none]
 refine wpAny_pure ?_
 have I4:Inv X pins σ H3 { s3 with heap:=s3.heap.push { cls:=.type "slice",data:=.fields #[vl,vu,.none] } }:=I3.kept (t':=s3.toks) λb ob q=>Heap.get?_push_of_some _ q
 obtain⟨T,id,hT,ht,hg⟩:=hr pins { s3 with heap:=s3.heap.push { cls:=.type "slice",data:=.fields #[vl,vu,.none] } } σ H3 x v vl vu l u s3.heap.objs.size Q I4 r1 (Heap.IsSliceOf.new ..) pl pu q3
 show wpAny (model X.prog X.w) X.A (subscriptTail e (.Slice lo hi none p2) v (.ref s3.heap.objs.size)) (EP X pins σ Q) X.xe { s3 with heap:=s3.heap.push { cls:=.type "slice",data:=.fields #[vl,vu,.none] } }
 exact tail_any (ops:=[.ref s3.heap.objs.size,v]) ht hT hg (by with_unfolding_all rfl)
def RV(K:PySem.W.Frag):R2:=λx y H Q=>∃a b xs ys,x= .ref a/\y= .ref b/\c7 K H a xs/\c7 K H b ys/\xs≠[]/\xs.length+ys.length<=sizeLine ∧
 (ys=[]->Q (.ref a) H)/\(ys≠[]->∀p,H p=none->Q (.ref p) (upd H p (.tup (xs++ys))))
theorem Vals.AY{xs:List V}{us:List Value}(r:Vals xs us):us=[]↔xs=[]:=by
 cases r with
 |nil=>simp
 |cons _ _=>simp
theorem Gf:tT X (binaryOp .Add) (RV X.K):=by
 intro pins s σ H x y v u Q I rx ry h
 obtain⟨a,b,xs,ys,rfl,rfl,ha,hb,hx,hz,q1,q2⟩:=h
 cases rx
 cases ry
 obtain⟨its,r1,p1,_⟩:=I.tuple ha
 obtain⟨its2,r2,p2,_⟩:=I.tuple hb
 refine HT.MF p1 p2 (λz=>hx (r1.AY.mp z)) (λz=>⟨.ref a,H,I,rfl,q1 (r2.AY.mp z)⟩) (λz=>?_) (by rw[←r1.length,←r2.length];exact hz)
 refine⟨.ref s.heap.objs.size,_,I.laid (t':=s.toks) (o:=.tup (xs++ys)) (λb ob q=>Heap.get?_push_of_some _ q) (Nat.le_refl _) ?_,rfl,q2 (λw=>z (r2.AY.mpr w)) _ (I.hok.fresh (Nat.le_refl _))⟩
 exact⟨by rw[List.length_append];exact hz,_,r1.append r2,IsTup.new _ _⟩
end
end L2
namespace L2
open PySem PySem.Spec PyProof.Rows
def Ml(n:Nat)(i:Int):Option Nat:=if 0<=i then(if i<n then some i.toNat else none)else if -(n:Int)<=i then some (i+n).toNat else none
def yU{α:Type}(xs:List α)(i:Int):Option α:=(Ml xs.length i).bind λj=>xs[j]?
theorem Gk{n:Nat}{i:Int}{j:Nat}(h:Ml n i=some j):seqIndex? i n=some j/\j<n/\ -(n:Int)<=i/\i<n:=by
 unfold Ml at h
 by_cases h0:0<=i
 ·rw[if_pos h0]at h
  by_cases h1:i<n
  ·rw[if_pos h1]at h
   have e:i.toNat=j:=Option.some.inj h
   exact⟨by rw[seqIndex_of h0 h1,e],by omega,by omega,h1⟩
  ·rw[if_neg h1]at h;cases h
 ·rw[if_neg h0]at h
  by_cases h1: -(n:Int)<=i
  ·rw[if_pos h1]at h
   have e:(i+n).toNat=j:=Option.some.inj h
   exact⟨by rw[seqIndex_neg (by omega) h1,e],by omega,h1,by omega⟩
  ·rw[if_neg h1]at h;cases h
theorem Bq{α:Type}{xs:List α}{i:Int}{v:α}(h:yU xs i=some v):∃j,seqIndex? i xs.length=some j/\xs[j]? =some v/\j<xs.length/\ -(xs.length:Int)<=i/\i<xs.length:=by
 unfold yU at h
 cases e:Ml xs.length i with
 |none=>rw[e]at h;cases h
 |some j =>
  rw[e]at h
  obtain⟨h1,h2,h3,h4⟩:=Gk e
  exact⟨j,h1,h,h2,h3,h4⟩
theorem eW{α:Type}{xs:List α}{j:Nat}{v:α}(h:xs[j]? =some v):yU xs (j:Int)=some v:=by
 have hj:j<xs.length:=(List.getElem?_eq_some_iff.mp h).1
 have e:Ml xs.length (j:Int)=some j:=by
  unfold Ml
  rw[if_pos (by omega),if_pos (by omega)];simp
 unfold yU;rw[e];exact h
def ML(b:Expr):Prop:=∀o i,subscripted b false o i=operate [o,i] (getItem o i)
def Uj(X:Cx)(r:R2):Prop :=
 ∀(value slice:Expr) (pins:List (Addr×Obj)) (s:Shared) (σ:St) (H:Hp) (x y:V) (v u:Value) (Q:VK),Inv X pins σ H s->RelV x v->RelV y u->r x y H Q →
  subscripted slice false v u=operate [v,u] (getItem v u)->wpAny (model X.prog X.w) X.A (subscriptTail value slice v u) (EP X pins σ Q) X.xe s
def YZ(X:Cx)(id:String)(r:V->List V->Hp->VK->Prop):Prop :=
 ∀(pins:List (Addr×Obj)) (s:Shared) (σ:St) (H:Hp) (x:V) (xs:List V) (v:Value) (us:List Value) (Q:VK),Inv X pins σ H s->RelV x v->Vals xs us->r x xs H Q →
  wpAny (model X.prog X.w) X.A (call (.builtin id) (v::us)) (EP X pins σ Q) X.xe s
section
variable{X:Cx}{a b:Expr}{ta tb:TE}{pos:Pos}
theorem aW{r:R2}(hr:Uj X r)(ha:PE X a ta)(hb:PE X b tb)(hs:ML b):PE X (.Subscript a b pos) (UD r ta tb):=by
 intro pins s σ H Q I h
 exact Subscript_ (QI ha hb I h λv u s2 x y H2 I2 rx ry q=>hr a b pins s2 σ H2 x y v u Q I2 rx ry q (hs _ _))
def W2(K:PySem.W.Frag):R2:=λx y H Q=>∃p xs i v,x= .ref p/\y= .int i/\bP K H p xs/\yU xs i=some v/\Q v H
def RU(K:PySem.W.Frag):R2:=λx y H Q=>∃p xs i v,x= .ref p/\y= .int i/\c7 K H p xs/\yU xs i=some v/\Q v H
def W0:R2:=λx y H Q=>∃z i c,x= .str z/\y= .int i/\z.length<=sizeLine/\yU z.cps.toList i=some c/\Q (.str ⟨#[c]⟩) H
theorem bz:Uj X (W2 X.K):=by
 intro value slice pins s σ H x y v u Q I rx ry h hs
 obtain⟨p,xs,i,z,rfl,rfl,hq,he,q⟩:=h
 cases rx
 obtain⟨t,rfl⟩:=ry
 obtain⟨its,r,pl,hz⟩:=I.list hq
 obtain⟨j,h1,h2,h3,h4,h5⟩:=Bq he
 obtain⟨w,ew,rw'⟩:=r.get h2
 have hl:=r.length
 have hn:=uF
 have fin:EP X pins σ Q w s:=⟨z,H,I,rw',q⟩
 by_cases h0:0<=i
 ·have hj:i.toNat=j:=by
   rw[seqIndex_of h0 h5]at h1
   exact Option.some.inj h1
  exact item_listR pl.isList h0 (by omega) (by rw[hj];simpa using ew) fin hs
 ·have hj:(i+(its.toArray.size:Int)).toNat=j:=by
   rw[seqIndex_neg (by omega) h4]at h1
   rw[List.size_toArray,←hl]
   exact Option.some.inj h1
  exact subscriptTail_builtinR (x:=w) pl.isList.typeIs slot_list_getitem.lookup
   (wpAny_getItem_list_neg (Q:=λr s'=>r=w/\EP X pins σ Q r s') pl.isList (by omega) (by rw[List.size_toArray]<;>omega) (by omega) (by rw[hj];simpa using ew) ⟨rfl,fin⟩) hs
theorem bR:Uj X (RU X.K):=by
 intro value slice pins s σ H x y v u Q I rx ry h hs
 obtain⟨p,xs,i,z,rfl,rfl,hq,he,q⟩:=h
 cases rx
 obtain⟨t,rfl⟩:=ry
 obtain⟨its,r,pl,hz⟩:=I.tuple hq
 obtain⟨j,h1,h2,h3,h4,h5⟩:=Bq he
 obtain⟨w,ew,rw'⟩:=r.get h2
 have hl:=r.length
 have hn:=uF
 have fin:EP X pins σ Q w s:=⟨z,H,I,rw',q⟩
 exact subscriptTail_builtinR (x:=w) pl.typeIs slot_tuple_getitem.lookup
  (getItem_tuple (j:=j) (Q:=λr s'=>r=w/\EP X pins σ Q r s') pl (by omega) (by omega) (by rw[List.size_toArray,←hl];exact h1) (by simpa using ew) ⟨rfl,fin⟩) hs
theorem uH:Uj X W0:=by
 intro value slice pins s σ H x y v u Q I rx ry h hs
 obtain⟨z,i,c,rfl,rfl,hz,he,q⟩:=h
 obtain⟨t,rfl⟩:=rx
 obtain⟨t',rfl⟩:=ry
 obtain⟨j,h1,h2,h3,h4,h5⟩:=Bq he
 have hl:z.cps.toList.length=z.length:=by simp[Str.length]
 rw[hl]at h1 h4 h5
 have hn:=uF
 exact tail_any (typeIs_str s z t) slot_str_getitem.lookup (getItem_str (c:=c) (by
  have e1:decide (i< -(2 ^ 63:Int))=false:=decide_eq_false (by omega)
  have e2:decide (i>=2 ^ 63)=false:=decide_eq_false (by omega)
  rw[e1,e2,Bool.or_false]) (by rw[h1];simpa using h2) ⟨.str ⟨#[c]⟩,H,I.tok _,⟨_,rfl⟩,q⟩) hs
theorem EV(its:List Value)(n j:Nat)(u:Value):Obj.mapSeq (·.setIfInBounds j u) { cls:=.type "list",data:=.seq its.toArray n }={ cls:=.type "list",data:=.seq (its.set j u).toArray n }:=by
 simp[Obj.mapSeq]
theorem Inv.lst{pins:List (Addr×Obj)}{σ:St}{H:Hp}{s:Shared}{p:Addr}{xs:List V}(I:Inv X pins σ H s)(h:H p=some (.lst xs)):
  ∃(its:List Value) (n:Nat),Vals xs its/\s.heap.get? p=some { cls:=.type "list",data:=.seq its.toArray n }/\xs.length<=sizeLine:=by
 obtain⟨z,its,n,r,e⟩:=I.hok p _ h
 exact⟨its,n,r,e,z⟩
theorem Inv.PU{pins:List (Addr×Obj)}{σ:St}{H:Hp}{s:Shared}{p:Addr}{xs ys:List V}{its its':List Value}{n n':Nat}{f:Obj->Obj}(I:Inv X pins σ H s)(h:H p=some (.lst xs))
  (ho:s.heap.get? p=some { cls:=.type "list",data:=.seq its.toArray n }) (hf:f { cls:=.type "list",data:=.seq its.toArray n }={ cls:=.type "list",data:=.seq its'.toArray n' }) (r:Vals ys its') (hz:ys.length<=sizeLine) (t:Nat) (ht:s.toks<=t:=by first|exact Nat.le_refl _|exact Nat.le_succ _|assumption|omega) :
  Inv X pins σ (upd H p (.lst ys)) { s with heap:=s.heap.update p f,toks:=t }:=by
 have e:(s.heap.update p f).get? p=some { cls:=.type "list",data:=.seq its'.toArray n' }:=by
  rw[Heap.get?_update_self f ho (by rw[hf]<;>rfl),hf]
 refine I.write (x:=p) (e:=p) (by rw[h];trivial) (.inl rfl) (λb u hb q=>(Heap.get?_update_other _ _ (Ne.symm hb)).trans q) ⟨_,e⟩ ?_
 exact⟨hz,its',n',r,e⟩
def RT:V->V->V->Hp->(Hp->Prop)->Prop:=λo i v H Q=>∃p xs k j,o= .ref p/\i= .int k/\H p=some (.lst xs)/\Ml xs.length k=some j/\Q (upd H p (.lst (xs.set j v)))
theorem set_list:Ud X RT:=by
 intro pins s σ H o i v ov iv u Q I ro ri rv h
 obtain⟨p,xs,k,j,rfl,rfl,hp,hj,q⟩:=h
 cases ro
 obtain⟨t,rfl⟩:=ri
 obtain⟨its,n,r,ho,hz⟩:=I.lst hp
 obtain⟨h1,h2,h3,h4⟩:=Gk hj
 have hl:=r.length
 have hn:=uF
 have I':Inv X pins σ (upd H p (.lst (xs.set j v))) { s with heap:=s.heap.update p (Obj.mapSeq (·.setIfInBounds j u)) } :=
  I.PU hp ho (EV its n j u) (r.set rv j) (by rw[List.length_set];exact hz) s.toks
 by_cases h0:0<=k
 ·have hk:k.toNat=j:=by
   rw[seqIndex_of h0 h4]at h1
   exact Option.some.inj h1
  exact PySem.W.ki_setAt ho h0 (by omega) (by rw[List.size_toArray,←hl];exact h4) (by rw[hk];exact⟨_,I',q⟩)
 ·have hk:(k+(its.toArray.size:Int)).toNat=j:=by
   rw[seqIndex_neg (by omega) h3]at h1
   rw[List.size_toArray,←hl]
   exact Option.some.inj h1
  exact PySem.W.ki_setBack ho (by omega) (by rw[List.size_toArray,←hl];exact h3) (by omega) (by rw[hk];exact⟨_,I',q⟩)
def vn:V->Bool
 | .iP=>true
 | .bl _=>true
 | .int _=>true
 | .str _=>true
 |_=>false
def La:V->V->Bool
 | .iP,.iP=>true
 | .bl a,.bl b=>a==b
 | .bl a,.int b=>(if a then 1 else 0)==b
 | .int a,.bl b=>a==(if b then 1 else 0)
 | .int a,.int b=>a==b
 | .str a,.str b=>a==b
 |_,_=>false
theorem Qz{A:Around}{s:Shared}{y x:V}{u v:Value}(ry:RelV y u)(rx:RelV x v)(fy:vn y=true)(fx:vn x=true):SeqAt.EqAt A s u v (La y x):=by
 cases y with
 |iP =>
  cases ry
  cases x with
  |iP=>cases rx;exact SeqAt.EqAt.same _
  |bl b=>cases rx;exact SeqAt.EqAt.none_bool b
  |int b=>obtain⟨t,rfl⟩:=rx;exact SeqAt.EqAt.none_int b t
  |str b=>obtain⟨t,rfl⟩:=rx;exact SeqAt.EqAt.none_str b t
  |_=>exact absurd (show false=true from fx) Bool.false_ne_true
 |bl a =>
  cases ry
  cases x with
  |iP=>cases rx;exact SeqAt.EqAt.bool_none a
  |bl b=>cases rx;exact SeqAt.EqAt.bool_bool a b
  |int b=>obtain⟨t,rfl⟩:=rx;exact SeqAt.EqAt.bool_int a b t
  |str b=>obtain⟨t,rfl⟩:=rx;exact SeqAt.EqAt.bool_str a b t
  |_=>exact absurd (show false=true from fx) Bool.false_ne_true
 |int a =>
  obtain⟨t',rfl⟩:=ry
  cases x with
  |iP=>cases rx;exact SeqAt.EqAt.int_none a t'
  |bl b=>cases rx;exact SeqAt.EqAt.int_bool a t' b
  |int b=>obtain⟨t,rfl⟩:=rx;exact SeqAt.EqAt.int_int a t' b t
  |str b=>obtain⟨t,rfl⟩:=rx;exact SeqAt.EqAt.int_str a t' b t
  |_=>exact absurd (show false=true from fx) Bool.false_ne_true
 |str a =>
  obtain⟨t',rfl⟩:=ry
  cases x with
  |iP=>cases rx;exact SeqAt.EqAt.str_none a t'
  |bl b=>cases rx;exact SeqAt.EqAt.str_bool a t' b
  |int b=>obtain⟨t,rfl⟩:=rx;exact SeqAt.EqAt.str_int a t' b t
  |str b=>obtain⟨t,rfl⟩:=rx;exact SeqAt.EqAt.str_str a t' b t
  |_=>exact absurd (show false=true from fx) Bool.false_ne_true
 |_=>exact absurd (show false=true from fy) Bool.false_ne_true
def Fd(x:V)(u:Value):Bool:=match u with
 | .none=>La .iP x
 | .bool b=>La (.bl b) x
 | .int i _=>La (.int i) x
 | .str z _=>La (.str z) x
 |_=>false
theorem Kq{x y:V}{u:Value}(r:RelV y u)(f:vn y=true):Fd x u=La y x:=by
 cases y with
 |iP=>cases r;rfl
 |bl b=>cases r;rfl
 |int i=>obtain⟨t,rfl⟩:=r;rfl
 |str z=>obtain⟨t,rfl⟩:=r;rfl
 |_=>exact absurd (show false=true from f) Bool.false_ne_true
theorem tO{x:V}:∀{xs:List V} {us:List Value},Vals xs us->xs.all vn=true->us.any (Fd x)=xs.any λy=>La y x
 |_,_,.nil,_=>rfl
 |y::xs,u::us,.cons r t,f=>by
  rw[List.all_cons,Bool.and_eq_true]at f
  rw[List.any_cons,List.any_cons,Kq r f.1,tO t f.2]
theorem qi{A:Around}{s:Shared}{x:V}{v:Value}(rx:RelV x v)(fx:vn x=true):∀{xs:List V} {us:List Value},Vals xs us->xs.all vn=true->∀u∈us,SeqAt.EqAt A s u v (Fd x u)
 |_,_,.nil,_=>λu hu=>by cases hu
 |y::xs,u::us,.cons r t,f=>λu' hu=>by
  rw[List.all_cons,Bool.and_eq_true]at f
  rcases List.mem_cons.mp hu with rfl|hu
  ·rw[Kq r f.1];exact Qz r rx f.1 fx
  ·exact qi rx fx t f.2 u' hu
def JT(x:V)(xs:List V):Bool:=xs.any λy=>La y x
def Zd(K:PySem.W.Frag)(neg:Bool):R2:=λx y H Q=>∃p xs,y= .ref p/\(bP K H p xs\/c7 K H p xs)/\vn x=true/\xs.all vn=true/\Q (.bl (if neg then !JT x xs else JT x xs)) H
theorem G6:tT X (compareOp .In) (Zd X.K false):=by
 intro pins s σ H x y v u Q I rx ry h
 obtain⟨p,xs,rfl,hq,fx,fs,q⟩:=h
 cases ry
 rcases hq with hq|hq
 ·obtain⟨its,r,pl,hz⟩:=I.list hq
  refine SeqAt.in_listAt (Fd x) pl.isList (λw hw=>qi rx fx r fs w (by simpa using hw)) ⟨.bl _,H,I,rfl,?_⟩
  rw[show its.toArray.any (Fd x)=its.any (Fd x) by simp,tO r fs]
  exact q
 ·obtain⟨its,r,pl,hz⟩:=I.tuple hq
  refine SeqAt.in_tupleAt (Fd x) pl (λw hw=>qi rx fx r fs w (by simpa using hw)) ⟨.bl _,H,I,rfl,?_⟩
  rw[show its.toArray.any (Fd x)=its.any (Fd x) by simp,tO r fs]
  exact q
theorem sU:tT X (compareOp .NotIn) (Zd X.K true):=by
 intro pins s σ H x y v u Q I rx ry h
 obtain⟨p,xs,rfl,hq,fx,fs,q⟩:=h
 cases ry
 rcases hq with hq|hq
 ·obtain⟨its,r,pl,hz⟩:=I.list hq
  refine SeqAt.notIn_listAt (Fd x) pl.isList (λw hw=>qi rx fx r fs w (by simpa using hw)) ⟨.bl _,H,I,rfl,?_⟩
  rw[show its.toArray.any (Fd x)=its.any (Fd x) by simp,tO r fs]
  exact q
 ·obtain⟨its,r,pl,hz⟩:=I.tuple hq
  refine SeqAt.notIn_tupleAt (Fd x) pl (λw hw=>qi rx fx r fs w (by simpa using hw)) ⟨.bl _,H,I,rfl,?_⟩
  rw[show its.toArray.any (Fd x)=its.any (Fd x) by simp,tO r fs]
  exact q
theorem sS:tT X (compareOp .NotIn) (λx y H Q=>∃i j,x= .str i/\y= .str j/\Q (.bl (!(!(Builtin.Str.occurrences j i 0 j.length 1).isEmpty))) H):=by
 intro pins s σ H x y v u Q I rx ry h
 obtain⟨i,j,rfl,rfl,q⟩:=h
 obtain⟨t,rfl⟩:=rx
 obtain⟨t',rfl⟩:=ry
 exact notIn_str ⟨.bl _,H,I,rfl,q⟩
theorem Bl:lJ X (.builtin "len") (λxs H Q=>∃z,xs=[.str z]/\z.length<=sizeLine/\Q (.int z.length) H):=by
 intro pins s σ H xs us Q I r h
 obtain⟨z,rfl,hz,q⟩:=h
 obtain⟨u,rfl,t,rfl⟩:=vals1 r
 have hn:=uF
 exact len_str (by omega) ⟨.int z.length,H,I.tok _,⟨_,rfl⟩,q⟩
theorem oj:lJ X (.type "tuple") (λxs H Q=>∃p ys,xs=[.ref p]/\((bP X.K H p ys/\∀l,H l=none->Q (.ref l) (upd H l (.tup ys)))\/(c7 X.K H p ys/\Q (.ref p) H))):=by
 intro pins s σ H xs us Q I r h
 obtain⟨p,ys,rfl,h⟩:=h
 obtain⟨u,rfl,rx⟩:=vals1 r
 cases rx
 rcases h with⟨hq,q⟩|⟨hq,q⟩
 ·obtain⟨its,r',pl,hz⟩:=I.list hq
  have hlen:=r'.length
  refine call_tuple_list pl.isList (λh' kp=>?_) (by simp only[List.size_toArray]<;>omega)
  have I1:Inv X pins σ H { s with heap:=h' }:=I.kept (t':=s.toks) kp
  have I2:Inv X pins σ (upd H h'.objs.size (.tup ys)) { s with heap:=h'.push { cls:=.type "tuple",data:=.seq its.toArray } } :=
   I1.laid (t':=s.toks) (λb o e=>Heap.get?_push_of_some _ e) (Nat.le_refl _) (show bI X.prog X.w _ _ _ (.tup ys) from⟨hz,its,r',IsTup.new _ _⟩)
  exact⟨.ref h'.objs.size,_,I2,rfl,q _ (I1.hok.fresh (Nat.le_refl _))⟩
 ·obtain⟨its,r',pl,hz⟩:=I.tuple hq
  exact call_tuple_same pl ⟨.ref p,H,I,rfl,q⟩
def Y8(K:PySem.W.Frag)(T:String)(x:V)(H:Hp):Prop:=match x with
 | .str _=>T= "str"
 | .int _=>T= "int"
 | .ref p=>(T= "list" /\∃xs,bP K H p xs)\/(T= "tuple" /\∃o,K.lookup p=some o/\o.cls= .type "tuple" /\o.dict=none) ∨
   (T= "dict" /\((∃kvs,H p=some (.dK kvs))\/∃kvs,H p=some (.dT kvs)))\/(T= "set" /\∃S n,H p=some (.set S n))
 |_=>False
theorem OX{pins:List (Addr×Obj)}{σ:St}{H:Hp}{s:Shared}{T:String}{x:V}{v:Value}(I:Inv X pins σ H s)(r:RelV x v)(ty:Y8 X.K T x H):
  s.TypeIs v T/\∀a,v= .ref a->∃ob,s.heap.get? a=some ob/\ob.dict=none:=by
 cases x with
 |str z =>
  obtain⟨t,rfl⟩:=r
  cases (show T= "str" from ty)
  exact⟨typeIs_str s z t,λ_ e=>nomatch e⟩
 |int i =>
  obtain⟨t,rfl⟩:=r
  cases (show T= "int" from ty)
  exact⟨typeIs_int s i t,λ_ e=>nomatch e⟩
 |ref p =>
  cases r
  rcases ty with⟨rfl,xs,hq⟩|⟨rfl,o,hk,hc,hd⟩|⟨rfl,hk⟩|⟨rfl,S,n,hk⟩
  ·obtain⟨its,_,pl,_⟩:=I.list hq
   refine⟨pl.isList.typeIs,λa e=>?_⟩
   cases e
   obtain⟨o,n,e,c,hd,_⟩:=pl
   exact⟨o,e,hd⟩
  ·refine⟨⟨o,I.pL p o hk,hc⟩,λa e=>?_⟩
   cases e
   exact⟨o,I.pL _ o hk,hd⟩
  ·have z:∃o,s.heap.get? p=some o/\o.ExactDict:=by
    rcases hk with⟨kvs,hk⟩|⟨kvs,hk⟩
    ·obtain⟨_,_,_,_,o,_,_,e,ex,_⟩:=I.hok p _ hk
     exact⟨o,e,ex⟩
    ·obtain⟨_,_,_,_,o,_,_,e,ex,_⟩:=I.hok p _ hk
     exact⟨o,e,ex⟩
   obtain⟨o,e,ex⟩:=z
   refine⟨⟨o,e,ex.1⟩,λa e2=>?_⟩
   cases e2
   exact⟨o,e,ex.2.1⟩
  ·obtain⟨o,_,_,_,e,ex,_⟩:=I.hok p _ hk
   refine⟨⟨o,e,ex.1⟩,λa e2=>?_⟩
   cases e2
   exact⟨o,e,ex.2.1⟩
 |_=>exact False.elim ty
def tBM(K:PySem.W.Frag)(T:String)(r:V->List V->Hp->VK->Prop)(to:TE)(t:TA):TE:=λσ H Q=>to σ H λx H1=>Y8 K T x H1/\t σ H1 λxs H2=>r x xs H2 Q
variable{o e:Expr}{es:List Expr}{to:TE}{t:TA}{name:Str}{apos cpos:Pos}{T id:String}{r:V->List V->Hp->VK->Prop}
theorem lQ (pa:PlainAttrs T) (slot:Slot T name id) (hty:typeOf (.builtin id)=pure (.type "method_descriptor")) (hm:YZ X id r) (ho:PE X o to) (ha:PA X (e::es) t)
  (hbase:attributeBase o name X.env (eval o X.env)=eval o X.env:=by rfl)
  (hfew:((backTo cpos (starEach (e::es) X.env)).all (λx=>!x.1)&&(backToKw cpos (keywordEach [] X.env)).all (λx=>x.1.isSome)
   && decide ((e::es).length+([]:List Keyword).length+(if([]:List Keyword).isEmpty then 0 else 1)<30))=true:=by rfl)
  (hline:(apos.endLine==cpos.line)=true:=by rfl) (hs:starEach (e::es) X.env=(false,eval e X.env)::starEach es X.env:=by rfl) (hplain:(backTo cpos (starEach es X.env)).any (·.1)=false:=by rfl) :
  PE X (.Call (.Attribute o name apos) (e::es) [] cpos) (tBM X.K T r to t):=by
 intro pins s σ H Q I h
 refine wpAny_Call_method_late hbase hfew hline rfl (dI (ho pins s σ H _ I h) λv s1 ⟨x,H1,I1,r1,ty,q1⟩=>?_)
 obtain⟨h1,h2⟩:=OX I1 r1 ty
 refine⟨T,id,pa,slot,hty,h1,h2,?_⟩
 have hA:=ha cpos pins s1 σ H1 _ I1 q1
 rw[hs]at hA ⊢
 refine Calls.callWith_builtin (by show(false||(backTo cpos (starEach es X.env)).any (·.1))=false;rw[hplain]<;>rfl) (Calls.evalArgs_plain ?_)
 exact dI hA λus s2 ⟨vs,H2,I2,r2,q2⟩=>hm pins s2 σ H2 x vs v us Q I2 r1 r2 q2
end
end L2
namespace L2
open PySem PySem.Spec PyProof.Rows
def MtM(X:Cx)(id:String)(r:V->List V->Hp->VK->Prop):Prop :=
 ∀(pins:List (Addr×Obj)) (s:Shared) (σ:St) (H:Hp) (x:V) (xs:List V) (v:Value) (us:List Value) (Q:VK),Inv X pins σ H s->RelV x v->Vals xs us->r x xs H Q →
  wpAny (model X.prog X.w) X.A (call (.builtin id) (v::us)) (EP X pins σ Q) X.xe s
theorem Vals.one:∀{x:V} {us:List Value},Vals [x] us->∃u,us=[u]/\RelV x u
 |_,_,.cons r .nil=>⟨_,rfl,r⟩
section
variable{X:Cx}{pins:List (Addr×Obj)}{σ:St}{H:Hp}{s:Shared}{l b:Addr}{xs ys zs:List V}
theorem Inv.R7{its its':List Value}{n:Nat}{f:Array Value->Array Value}{t':Nat}(I:Inv X pins σ H s)(hH:H l=some (.lst xs))
  (e:s.heap.get? l=some { cls:=.type "list",data:=.seq its.toArray n }) (hf:f its.toArray=its'.toArray) (hv:Vals ys its') (hz:ys.length<=sizeLine) (ht:s.toks<=t':=by first|exact Nat.le_refl _|exact Nat.le_succ _|assumption|omega) :
  Inv X pins σ (upd H l (.lst ys)) { s with heap:=s.heap.update l (Obj.mapSeq f),toks:=t' }:=by
 have q:=PySem.IsL.update e f
 rw[hf]at q
 refine I.write (x:=l) (e:=l) (by rw[hH];exact trivial) (.inl rfl) (λb' u hb hu=>(Heap.get?_update_other s.heap (Obj.mapSeq f) (Ne.symm hb)).trans hu) ⟨_,q⟩ ?_
 exact⟨hz,its',_,hv,q⟩
theorem Inv.Se{its:List Value}{t':Nat}(I:Inv X pins σ H s)(hv:Vals ys its)(hz:ys.length<=sizeLine)(ht:s.toks<=t':=by first|exact Nat.le_refl _|exact Nat.le_succ _|assumption|omega):
  Inv X pins σ (upd H s.heap.objs.size (.lst ys)) { s with heap:=s.heap.push { cls:=.type "list",data:=.seq its.toArray },toks:=t' } :=
 I.laid (λ_ _ q=>Heap.get?_push_of_some _ q) (Nat.le_refl _) ⟨hz,its,0,hv,Heap.get?_push_size _ rfl⟩
theorem Inv.fresh(I:Inv X pins σ H s):H s.heap.objs.size=none:=I.hok.fresh (Nat.le_refl _)
theorem Inv.PV(I:Inv X pins σ H s)(hH:H l=some (.lst xs)):xs.length<=sizeLine/\∃(its:List Value) (n:Nat),Vals xs its/\xs.length=its.length/\s.heap.get? l=some { cls:=.type "list",data:=.seq its.toArray n }:=by
 obtain⟨z,its,n,r,e⟩:=I.hok l _ hH
 exact⟨z,its,n,r,r.length,e⟩
theorem Jx{n:Nat}(h:n<=sizeLine):Builtin.List.listTooLong n=false:=by
 unfold Builtin.List.listTooLong
 exact decide_eq_false (by omega)
end
section
variable{X:Cx}
def LI:V->List V->Hp->VK->Prop:=λx vs H Q=>∃l xs y,x= .ref l/\vs=[y]/\H l=some (.lst xs)/\xs.length<sizeLine/\Q .iP (upd H l (.lst (xs++[y])))
theorem cY:MtM X "list.append" LI:=by
 intro pins s σ H x vs v us Q I rx rv h
 obtain⟨l,xs,y,rfl,rfl,hH,hz,q⟩:=h
 cases rx
 obtain⟨u,rfl,ru⟩:=rv.one
 obtain⟨z,its,n,r,hl,e⟩:=I.PV hH
 refine call_meets F.slot_list_append ⟨_,e,rfl⟩ F.entry_list_append (F.args_list_append_2 _ _) (PySem.list_append l its.toArray n u (by rw[List.size_toArray];omega)) ⟨e,?_⟩
 refine⟨.iP,_,I.R7 (its':=its++[u]) hH e (by simp) (r.append (.cons ru .nil)) ?_,rfl,q⟩
 rw[List.length_append,List.length_singleton]
 omega
def LH:V->List V->Hp->VK->Prop:=λx vs H Q=>∃l b xs zs,x= .ref l/\vs=[.ref b]/\H l=some (.lst xs)/\H b=some (.lst zs)/\xs.length+zs.length<=sizeLine/\Q .iP (upd H l (.lst (xs++zs)))
theorem Hj:MtM X "list.extend" LH:=by
 intro pins s σ H x vs v us Q I rx rv h
 obtain⟨l,b,xs,zs,rfl,rfl,hH,hB,hz,q⟩:=h
 cases rx
 obtain⟨u,rfl,ru⟩:=rv.one
 cases ru
 obtain⟨z,its,n,r,hl,e⟩:=I.PV hH
 obtain⟨z2,its2,n2,r2,hl2,e2⟩:=I.PV hB
 have hsz:its.toArray.size+its2.toArray.size<=sizeLine:=by rw[List.size_toArray,List.size_toArray];omega
 have Ti:¬(!its.toArray.isEmpty&&Builtin.List.listTooLong (its.toArray.size+its2.toArray.size))=true:=by
  rw[Jx hsz,Bool.and_false]
  exact Bool.false_ne_true
 refine call_meets F.slot_list_extend ⟨_,e,rfl⟩ F.entry_list_extend (F.args_list_extend_2 _ _)
  (AutoSeq1.list_extend_list_list_0 l its.toArray n b its2.toArray n2 Ti (by rw[List.size_toArray];omega) (by omega)) ⟨e,e2,?_⟩
 refine⟨.iP,_,I.R7 (its':=its++its2) hH e (by simp) (r.append r2) ?_,rfl,q⟩
 rw[List.length_append]
 omega
end
section
variable{prog:Program}{w:World}{A:Around}{E:Value->Shared->Prop}{s:Shared}
end
section
variable{X:Cx}
end
end L2
namespace L2
open PySem PySem.Spec PyProof.Rows
section
variable{κ:Type}[DecidableEq κ]
def lT(kvs:List (κ×V))(k:κ):Option V:=(kvs.find? λkv=>decide (kv.1=k)).map (·.2)
def putK(kvs:List (κ×V))(k:κ)(v:V):List (κ×V) :=
 if(kvs.any λkv=>decide (kv.1=k))=true then kvs.map (λkv=>if kv.1=k then(kv.1,v)else kv)else kvs++[(k,v)]
theorem iD{p:κ×V}{r:List (κ×V)}{k:κ}(e:p.1=k):lT (p::r) k=some p.2:=by simp[lT,List.find?_cons,e]
theorem iE{p:κ×V}{r:List (κ×V)}{k:κ}(e:¬p.1=k):lT (p::r) k=lT r k:=by simp[lT,List.find?_cons,e]
theorem sG(k:κ):∀kvs:List (κ×V),(kvs.any λkv=>decide (kv.1=k))=(lT kvs k).isSome
 |[]=>rfl
 |p::r=>by
  rw[List.any_cons]
  by_cases e:p.1=k
  ·simp only[iD e,decide_eq_true e,Bool.true_or,Option.isSome_some]
  ·rw[iE e,decide_eq_false e,Bool.false_or];exact sG k r
theorem B4(k j:κ)(y:V):∀kvs:List (κ×V),lT (kvs.map λkv=>if kv.1=k then(kv.1,y)else kv) j=(lT kvs j).map λx=>if j=k then y else x
 |[]=>rfl
 |p::r=>by
  have ih:=B4 k j y r
  rw[List.map_cons]
  by_cases h:p.1=k
  ·rw[if_pos h]
   by_cases e:p.1=j
   ·rw[iD (p:=(p.1,y)) e,iD e,Option.map_some,if_pos (e.symm.trans h)]
   ·rw[iE (p:=(p.1,y)) e,iE e,ih]
  ·rw[if_neg h]
   by_cases e:p.1=j
   ·rw[iD (p:=p) e,iD e,Option.map_some,if_neg (λz=>h (e.trans z))]
   ·rw[iE (p:=p) e,iE e,ih]
theorem zF(k j:κ)(y:V):∀kvs:List (κ×V),lT kvs k=none->lT (kvs++[(k,y)]) j=if j=k then some y else lT kvs j
 |[],_=>by
  by_cases e:k=j
  ·rw[if_pos e.symm];exact iD (p:=(k,y)) e
  ·rw[if_neg (λz=>e z.symm)];exact iE (p:=(k,y)) e
 |p::r,hn=>by
  rw[List.cons_append]
  have hk:¬p.1=k:=λz=>by rw[iD z]at hn;cases hn
  rw[iE hk]at hn
  have ih:=zF k j y r hn
  by_cases e:p.1=j
  ·rw[iD e,iD e,if_neg (λz=>hk (e.trans z))]
  ·rw[iE e,iE e,ih]
theorem B3(kvs:List (κ×V))(k j:κ)(y:V):lT (putK kvs k y) j=if j=k then some y else lT kvs j:=by
 unfold putK
 by_cases a:(kvs.any λkv=>decide (kv.1=k))=true
 ·rw[if_pos a,B4]
  rw[sG]at a
  by_cases e:j=k
  ·obtain⟨x,hx⟩:=Option.isSome_iff_exists.mp a
   rw[if_pos e,e,hx,Option.map_some,if_pos rfl]
  ·rw[if_neg e]
   cases lT kvs j with
   |none=>rfl
   |some x=>rw[Option.map_some,if_neg e]
 ·rw[if_neg a]
  refine zF k j y kvs ?_
  rw[sG]at a
  cases q:lT kvs k with
  |none=>rfl
  |some x=>rw[q]at a;exact(a rfl).elim
theorem nO(kvs:List (κ×V))(k:κ)(v:V):(putK kvs k v).length<=kvs.length+1:=by
 unfold putK
 split
 ·rw[List.length_map];omega
 ·rw[List.length_append,List.length_cons,List.length_nil];omega
theorem lP.uI{o:Option V}{u:Option Value}(r:lP o u):o.isSome=u.isSome:=by
 cases o with
 |none=>cases u with
  |none=>rfl
  |some _=>exact(show False from r).elim
 |some _=>cases u with
  |none=>exact(show False from r).elim
  |some _=>rfl
theorem lP.getD{o:Option V}{u:Option Value}{d:V}{d':Value}(r:lP o u)(rd:RelV d d'):RelV (o.getD d) (u.getD d'):=by
 cases o with
 |none=>cases u with
  |none=>exact rd
  |some _=>exact(show False from r).elim
 |some _=>cases u with
  |none=>exact(show False from r).elim
  |some _=>exact r
theorem KV.val{kvs:List (κ×V)}{vs:List (κ×Value)}(r:KV kvs vs)(k:κ):lP (lT kvs k) (valueAt vs k):=by
 unfold KV at r
 induction r with
 |nil=>exact True.intro
 | @cons p q ps qs h t ih =>
  obtain⟨h1,h2⟩:=h
  by_cases e:p.1=k
  ·have e':q.1=k:=h1.symm.trans e
   have b:valueAt (q::qs) k=some q.2:=by simp[valueAt,List.find?_cons,e']
   rw[iD e,b];exact h2
  ·have e':¬q.1=k:=λz=>e (h1.trans z)
   have b:valueAt (q::qs) k=valueAt qs k:=by simp[valueAt,List.find?_cons,e']
   rw[iE e,b];exact ih
theorem KV.any{kvs:List (κ×V)}{vs:List (κ×Value)}(r:KV kvs vs)(k:κ):(kvs.any λkv=>decide (kv.1=k))=vs.any λkv=>decide (kv.1=k):=by
 unfold KV at r
 induction r with
 |nil=>rfl
 |cons h t ih=>rw[List.any_cons,List.any_cons,ih,h.1]
theorem KV.repl{kvs:List (κ×V)}{vs:List (κ×Value)}(r:KV kvs vs)(k:κ){y:V}{u:Value}(ry:RelV y u):
  KV (kvs.map λkv=>if kv.1=k then(kv.1,y)else kv) (vs.map λkv=>if kv.1=k then(kv.1,u)else kv):=by
 unfold KV at r ⊢
 induction r with
 |nil=>exact .nil
 | @cons p q ps qs h t ih =>
  rw[List.map_cons,List.map_cons]
  refine .cons ?_ ih
  obtain⟨h1,h2⟩:=h
  by_cases e:p.1=k
  ·rw[if_pos e,if_pos (h1.symm.trans e)];exact⟨h1,ry⟩
  ·rw[if_neg e,if_neg (λz=>e (h1.trans z))];exact⟨h1,h2⟩
theorem KV.put{kvs:List (κ×V)}{vs:List (κ×Value)}(r:KV kvs vs)(k:κ){y:V}{u:Value}(ry:RelV y u):KV (putK kvs k y) (stored vs k u):=by
 unfold putK stored
 rw[r.any k]
 by_cases e:(vs.any λkv=>decide (kv.1=k))=true
 ·rw[if_pos e,if_pos e];exact r.repl k ry
 ·rw[if_neg e,if_neg e];exact Paired.snoc r ⟨rfl,ry⟩
theorem KV.length{kvs:List (κ×V)}{vs:List (κ×Value)}(r:KV kvs vs):kvs.length=vs.length:=Paired.length r
end
theorem JR{P:Program}{w:World}{k:Key}{u:Value}(r:RelV (kV k) u):(bW P w).is k u=true:=by
 cases k with
 |inl i=>obtain⟨t,e⟩:=(show ∃t,u=Value.int i t from r);subst e;exact C8 P w i t
 |inr x=>obtain⟨t,e⟩:=(show ∃t,u=Value.str x t from r);subst e;exact qf P w x t
theorem zX{P:Program}{w:World}:∀{ks:List Key} {us:List Value},Vals (ks.map kV) us->ItemsAre (bW P w) ks us
 |[],_,r=>by rw[List.map_nil]at r;cases r;exact .nil
 |k::ks,_,r=>by
  rw[List.map_cons]at r
  cases r with
  |cons h t=>exact .cons (JR h) (zX t)
abbrev KT(H:Hp):List (List Key×V)->List (List Key×Addr×Value)->Prop:=Paired λp q=>p.1=q.1/\H q.2.1=some (.tup (p.1.map kV))/\RelV p.2 q.2.2
theorem KT.val{H:Hp}{kvs:List (List Key×V)}{xs:List (List Key×Addr×Value)}(r:KT H kvs xs)(k:List Key):lP (lT kvs k) ((atKey xs k).map (·.2)):=by
 induction r with
 |nil=>exact True.intro
 | @cons p q ps qs h t ih =>
  obtain⟨h1,_,h2⟩:=h
  by_cases e:p.1=k
  ·have e':q.1=k:=h1.symm.trans e
   have b:atKey (q::qs) k=some q.2:=by simp[atKey,List.find?_cons,e']
   rw[iD e,b];exact h2
  ·have e':¬q.1=k:=λz=>e (h1.trans z)
   have b:atKey (q::qs) k=atKey qs k:=by simp[atKey,List.find?_cons,e']
   rw[iE e,b];exact ih
theorem KT.repl{H:Hp}{kvs:List (List Key×V)}{xs:List (List Key×Addr×Value)}(r:KT H kvs xs)(k:List Key){y:V}{u:Value}(ry:RelV y u):
  KT H (kvs.map λkv=>if kv.1=k then(kv.1,y)else kv) (xs.map (putAt k u)):=by
 induction r with
 |nil=>exact .nil
 | @cons p q ps qs h t ih =>
  rw[List.map_cons,List.map_cons]
  refine .cons ?_ ih
  obtain⟨h1,h2,h3⟩:=h
  unfold putAt
  by_cases e:p.1=k
  ·rw[if_pos e,if_pos (h1.symm.trans e)];exact⟨h1,h2,ry⟩
  ·rw[if_neg e,if_neg (λz=>e (h1.trans z))];exact⟨h1,h2,h3⟩
theorem KT.put{H:Hp}{kvs:List (List Key×V)}{xs:List (List Key×Addr×Value)}(r:KT H kvs xs)(k:List Key){b:Addr}{y:V}{u:Value}(hb:H b=some (.tup (k.map kV)))(ry:RelV y u):
  KT H (putK kvs k y) (storedH xs k b u):=by
 have e:(kvs.any λkv=>decide (kv.1=k))=(atKey xs k).isSome:=by
  rw[sG,(r.val k).uI,Option.isSome_map]
 unfold putK storedH
 rw[e]
 by_cases q:(atKey xs k).isSome=true
 ·rw[if_pos q,if_pos q];exact r.repl k ry
 ·rw[if_neg q,if_neg q];exact Paired.snoc r ⟨rfl,hb,ry⟩
theorem KT.keeps{H H':Hp}{kvs:List (List Key×V)}{xs:List (List Key×Addr×Value)}(r:KT H kvs xs)(ht:∀b ys,H b=some (.tup ys)->H' b=some (.tup ys)):KT H' kvs xs :=
 Paired.iS r λ_ _ z=>⟨z.1,ht _ _ z.2.1,z.2.2⟩
section
variable{P:Program}{w:World}{H:Hp}{h:Heap}{a:Addr}
theorem M0{u:HO}(ok:lS P w H h)(e:Rd H a u):bI P w H h a u:=e.ok ok
theorem Ku{kvs:List (Key×V)}(ok:lS P w H h)(e:Rd H a (.dK kvs)):kvs.length<=sizeLine/\(a==sysModules)=false/\∃vs,KV kvs vs/\h.DictOf (bW P w) a vs :=
 show bI P w H h a (.dK kvs) from M0 ok e
theorem TZ{kvs:List (Key×V)}(ok:lS P w H h)(e:H a=some (.dK kvs)):kvs.length<=sizeLine/\(a==sysModules)=false/\∃vs,KV kvs vs/\h.DictOf (bW P w) a vs:=Ku ok (.inl e)
theorem xK{ks:List Key}(ok:lS P w H h)(e:H a=some (.tup (ks.map kV))):(tupleKind (bW P w)).is h ks a:=by
 obtain⟨_,its,r,o,h1,h2,n,h3⟩:=(show bI P w H h a (.tup (ks.map kV)) from ok a _ e)
 exact⟨o,its.toArray,n,h1,h2,h3,by simpa using zX r⟩
theorem Kr{kvs:List (List Key×V)}(ok:lS P w H h)(e:Rd H a (.dT kvs)):kvs.length<=sizeLine/\(a==sysModules)=false ∧
  ∃xs,KT H kvs xs/\h.DictOfH (tupleKind (bW P w)) a xs:=by
 obtain⟨z,y,xs,r,o,es,ep,h1,h2,h3,h4,h5⟩:=(show bI P w H h a (.dT kvs) from M0 ok e)
 refine⟨z,y,xs,r,o,es,ep,h1,h2,h3,h4,λx hx=>?_,h5⟩
 have all:∀{l:List (List Key×V)} {m:List (List Key×Addr×Value)},KT H l m->∀x∈m,(tupleKind (bW P w)).is h x.1 x.2.1:=by
  intro l m q
  induction q with
  |nil=>intro x hx;exact nomatch hx
  | @cons p q ps qs hq t ih =>
   intro x hx
   rcases List.mem_cons.mp hx with e|hx
   ·subst e
    exact xK ok (by rw[←hq.1];exact hq.2.1)
   ·exact ih x hx
 exact all r x hx
theorem TY{kvs:List (List Key×V)}(ok:lS P w H h)(e:H a=some (.dT kvs)):kvs.length<=sizeLine/\(a==sysModules)=false ∧
  ∃xs,KT H kvs xs/\h.DictOfH (tupleKind (bW P w)) a xs:=Kr ok (.inl e)
end
def D3(H:Hp)(a:Addr)(y:V)(r:Option V):Prop :=
 (∃kvs k,Rd H a (.dK kvs)/\y=kV k/\r=lT kvs k)\/∃kvs k b,Rd H a (.dT kvs)/\y= .ref b/\H b=some (.tup (k.map kV))/\r=lT kvs k
def Ih(H:Hp)(a:Addr)(y v:V)(H':Hp):Prop :=
 (∃kvs k,H a=some (.dK kvs)/\y=kV k/\kvs.length<sizeLine/\H'=upd H a (.dK (putK kvs k v))) ∨
 ∃kvs k b,H a=some (.dT kvs)/\y= .ref b/\H b=some (.tup (k.map kV))/\kvs.length<sizeLine/\H'=upd H a (.dT (putK kvs k v))
theorem D3.t{H:Hp}{a b:Addr}{kvs:List (List Key×V)}{k:List Key}(e:H a=some (.dT kvs))(eb:H b=some (.tup (k.map kV))):D3 H a (.ref b) (lT kvs k):=.inr ⟨kvs,k,b,.inl e,rfl,eb,rfl⟩
theorem Ih.t{H:Hp}{a b:Addr}{kvs:List (List Key×V)}{k:List Key}{v:V}(e:H a=some (.dT kvs))(eb:H b=some (.tup (k.map kV)))(hl:kvs.length<sizeLine):
  Ih H a (.ref b) v (upd H a (.dT (putK kvs k v))):=.inr ⟨kvs,k,b,e,rfl,eb,hl,rfl⟩
section
variable{X:Cx}{pins:List (Addr×Obj)}{σ:St}{H:Hp}{s:Shared}{a:Addr}{y v:V}{u r:Value}{o:Option V}{A:Around}{E:Value->Shared->Prop}
theorem Inv.big(I:Inv X pins σ H s):sysModules<s.heap.objs.size:=by
 have h:mainGlobals<s.heap.objs.size:=(I.mod.glob.keeps I.bk).lt
 exact Nat.lt_trans (by decide) h
theorem HK{Q:Value->Shared->Prop}(hu:A.units+1<cLine)(I:Inv X pins σ H s)(g:D3 H a y (some v))(ry:RelV y u)(h:∀w' s',Inv X pins σ H s'->RelV v w'->Q w' s'):
  wpAny (model X.prog X.w) A (getItem (.ref a) u) Q E s:=by
 rcases g with⟨kvs,k,e,ey,l⟩|⟨kvs,k,b,e,ey,eb,l⟩
 ·subst ey
  obtain⟨z,hd,vs,rel,dd⟩:=Ku I.hok e
  obtain⟨w',hw,rw'⟩:=lP.some_of (v:=v) (o:=valueAt vs k) (by rw[l];exact rel.val k)
  exact wpAny_getItem_of (JR ry) dd.mapOf hw (h w' _ (I.tok _) rw')
 ·subst ey
  cases (show u=Value.ref b from ry)
  obtain⟨z,hd,xs,rel,dd⟩:=Kr I.hok e
  obtain⟨w',hw,rw'⟩:=lP.some_of (v:=v) (o:=(atKey xs k).map (·.2)) (by rw[l];exact rel.val k)
  obtain⟨p,hp,hp2⟩:=Option.map_eq_some_iff.mp hw
  refine wpAny_getItem_heap (tupleKind_room_in1 hu) (xK I.hok eb) dd hp ?_
  rw[hp2]
  exact h w' _ (I.tok _) rw'
theorem wu{h':Heap}{t':Nat}{ob:HO}(I:Inv X pins σ H s)(mu:Uh (H a))(hs:Heap.SameBut a s.heap h')(he:∃q,h'.get? a=some q)(new:bI X.prog X.w (upd H a ob) h' a ob)(ht:s.toks<=t':=by first|exact Nat.le_refl _|exact Nat.le_succ _|assumption|omega):
  Inv X pins σ (upd H a ob) { s with heap:=h',toks:=t' } :=
 I.write (x:=a) (e:=a) mu (.inl rfl) (λb q hb z=>(hs.2 b hb).trans z) he new
theorem QA{P:Program}{w:World}{H':Hp}{h':Heap}{kvs:List (Key×V)}{vs:List (Key×Value)}(z:kvs.length<=sizeLine)(hd:(a==sysModules)=false)(rel:KV kvs vs)(dd:h'.DictOf (bW P w) a vs):
  bI P w H' h' a (.dK kvs):=⟨z,hd,vs,rel,dd⟩
theorem HJ{H':Hp}{Q:Unit->Shared->Prop}(hu:A.units+1<cLine)(I:Inv X pins σ H s)(g:Ih H a y v H')(ry:RelV y u)(rv:RelV v r)(h:∀s',Inv X pins σ H' s'->Q () s'):
  wpAny (model X.prog X.w) A (setItem (.ref a) u r) Q E s:=by
 rcases g with⟨kvs,k,e,ey,l,eH⟩|⟨kvs,k,b,e,ey,eb,l,eH⟩
 ·subst ey eH
  obtain⟨z,hd,vs,rel,dd⟩:=TZ I.hok e
  have hz:vs.length<=sizeLine:=by rw[←rel.length];exact z
  have hl:(putK kvs k v).length<=sizeLine:=by have:=nO kvs k v;omega
  refine wpAny_setItem_pairs (hsz:=hz) (JR ry) dd λh' Rc hs=>h _ ?_
  have he:∃q,h'.get? a=some q:=let ⟨q,_,_,hq,_⟩:=Rc;⟨q,hq⟩
  exact wu I (by rw[e];exact True.intro) hs he (QA hl hd (rel.put k rv) Rc)
 ·subst ey eH
  cases (show u=Value.ref b from ry)
  obtain⟨z,hd,xs,rel,dd⟩:=TY I.hok e
  have hz:xs.length<=sizeLine:=by rw[←Paired.length rel];exact z
  have hl:(putK kvs k v).length<=sizeLine:=by have:=nO kvs k v;omega
  refine wpAny_setItem_heap (hsz:=hz) (tupleKind_room_in1 hu) (xK I.hok eb) dd λh' Rc hs=>h _ ?_
  obtain⟨q,es,ep,hq,h2,h3,h4,_,h5⟩:=Rc
  refine wu I (by rw[e];exact True.intro) hs ⟨q,hq⟩ ⟨hl,hd,_,(rel.put k eb rv).keeps λc ys ec=>?_,q,es,ep,hq,h2,h3,h4,h5⟩
  rw[aq (qb ec e (λz=>nomatch z))]
  exact ec
end
section
variable{X:Cx}{pins:List (Addr×Obj)}{σ:St}{H:Hp}{s:Shared}{a:Addr}{kvs:List (Key×V)}{k:Key}{u:Value}{A:Around}{E:Value->Shared->Prop}
end
def MM(i:Expr):Prop:=∀ov iv,subscripted i false ov iv=operate [ov,iv] (getItem ov iv)
theorem sH{prog:Program}{w:World}{A:Around}{E:Value->Shared->Prop}{s:Shared}{env:Env}{value slice:Expr}{pos:Pos}{T id:String}{Q:Value->Shared->Prop}
  (hl:typeLookup (.type T) "__getitem__" =pure (some (.builtin id))) (hs:MM slice)
  (h:wpAny (model prog w) A (eval value env) (λo s₁=>wpAny (model prog w) A (eval slice env) (λi s₂=>s₂.TypeIs o T/\wpAny (model prog w) A (getItem o i) Q E s₂) E s₁) E s) :
  wpAny (model prog w) A (eval (.Subscript value slice pos) env) Q E s:=by
 refine Subscript_ (wpAny_mono h (λo s₁ h₁=>wpAny_mono h₁ (λi s₂ h₂=>?_) λ_ _ x=>x) λ_ _ x=>x)
 obtain⟨hT,h₂⟩:=h₂
 unfold subscriptTail
 refine wpAny_bind ?_
 rw[getitemInPython_of_ne hT.not_modules]
 refine wpAny_bind (wpAny_specialOf hT hl ?_)
 have fin:wpAny (model prog w) A (subscripted slice false o i) (λr s₃=>wpAny (model prog w) A (letTemporaryGo value o r >>= λ_=>pure r) Q E s₃) E s₂:=by
  rw[hs o i]
  exact wpAny_operating (wpAny_mono h₂ (λr s₃ h₃=>wpAny_bind (wpAny_letTemporaryGo (wpAny_pure h₃))) λ_ _ x=>x)
 first
  |exact wpAny_pure (wpAny_bind fin)
  |exact wpAny_bind (wpAny_pure (wpAny_bind fin))
  |exact wpAny_bind fin
theorem Dy{X:Cx}{pins:List (Addr×Obj)}{σ:St}{H:Hp}{s:Shared}{a:Addr}{y:V}{o:Option V}(I:Inv X pins σ H s)(g:D3 H a y o):s.TypeIs (.ref a) "dict" :=by
 rcases g with⟨kvs,k,e,_,_⟩|⟨kvs,k,b,e,_,_,_⟩
 ·obtain⟨_,_,vs,_,dd⟩:=Ku I.hok e
  exact dd.typeIs
 ·obtain⟨_,_,xs,_,dd⟩:=Kr I.hok e
  exact dd.typeIs
def RB(td ty:TE):TE:=λσ H Q=>td σ H λx H1=>ty σ H1 λy H2=>∃a v,x= .ref a/\D3 H2 a y (some v)/\Q v H2
def RP(td ty tv:TE):TS:=λD σ H=>tv σ H λv H1=>td σ H1 λx H2=>ty σ H2 λy H3=>∃a H4,x= .ref a/\Ih H3 a y v H4/\D.nx σ H4
section
variable{X:Cx}{o i e value:Expr}{pos pos' tpos:Pos}{td ty tv:TE}
theorem AJ(hu:X.A.units+1<cLine)(ho:PE X o td)(hi:PE X i ty)(hs:MM i):PE X (.Subscript o i pos) (RB td ty):=by
 intro pins s σ H Q I h
 refine sH PySem.F.slot_dict_getitem.lookup hs (dI (ho pins s σ H _ I h) λu s1 ⟨x,H1,I1,rx,q1⟩=>dI (hi pins s1 σ H1 _ I1 q1) λiv s2 ⟨y,H2,I2,ry,a,v,ex,g,q2⟩=>?_)
 subst ex
 obtain rfl:u=Value.ref a:=rx
 exact⟨Dy I2 g,HK hu I2 g ry λw' s3 I3 rw'=>⟨v,H2,I3,rw',q2⟩⟩
theorem F4(hu:X.A.units+1<cLine)(ho:PE X o td)(hi:PE X i ty)(hv:PE X value tv)(hs:swapsWith value (some (.Subscript o i pos')) pos.line X.env=pure false):
  PS X (.Assign [.Subscript o i pos'] value pos) (RP td ty tv):=by
 intro pins s σ H D I h
 refine wpAny_Assign_Subscript (dI (hv pins s σ H _ I h) λr s1 ⟨v,H1,I1,rv,q1⟩=>dI (ho pins s1 σ H1 _ I1 q1) λu s2 ⟨x,H2,I2,rx,q2⟩=>dI (hi pins s2 σ H2 _ I2 q2) λiv s3 ⟨y,H3,I3,ry,a,H4,ex,g,q3⟩=>?_) hs
 subst ex
 obtain rfl:u=Value.ref a:=rx
 exact HJ hu I3 g ry rv λs4 I4=>⟨σ,H4,I4,q3⟩
end
theorem Ks{P:Program}{w:World}{H:Hp}(h:Heap)(hb:sysModules<h.objs.size):bI P w H (h.push { cls:=.type "dict",data:=.dict #[] }) h.objs.size (.dT []) :=
 ⟨Nat.zero_le _,beq_eq_false_iff_ne.mpr (Ne.symm (Nat.ne_of_lt hb)),[],.nil,_,#[],0,Heap.get?_push_size _ rfl,⟨rfl,rfl,rfl⟩,rfl,rfl,List.nodup_nil⟩
def O5:TE:=λ_ H Q=>∀p,H p=none->Q (.ref p) (upd H p (.dT []))
section
variable{X:Cx}{pos:Pos}
theorem CL:PE X (.Dict [] [] pos) O5:=λpins s σ H Q I h =>
 wpAny_Dict_empty ⟨.ref s.heap.objs.size,_,I.laid (a:=s.heap.objs.size) (o:=.dT []) (t':=s.toks) (λ_ _ q=>Heap.get?_push_of_some _ q) (Nat.le_refl _) (Ks s.heap I.big),rfl,h _ (I.hok.fresh (Nat.le_refl _))⟩
end
structure M1(X:Cx)(o:Expr)(m:Str)(apos:Pos)(e:Expr)(cpos:Pos):Prop where
 base:attributeBase o m X.env (eval o X.env)=eval o X.env
 few:((backTo cpos (starEach [e] X.env)).all (λx=>!x.1)&&(backToKw cpos (keywordEach [] X.env)).all (λx=>x.1.isSome)
  && decide (([e]:List Expr).length+([]:List Keyword).length+(if([]:List Keyword).isEmpty then 0 else 1)<30))=true
 line:(apos.endLine==cpos.line)=true
 trees:backTo cpos (starEach [e] X.env)=[(false,eval e X.env)]
structure M2(X:Cx)(o:Expr)(m:Str)(apos:Pos)(e f:Expr)(cpos:Pos):Prop where
 base:attributeBase o m X.env (eval o X.env)=eval o X.env
 few:((backTo cpos (starEach [e,f] X.env)).all (λx=>!x.1)&&(backToKw cpos (keywordEach [] X.env)).all (λx=>x.1.isSome)
  && decide (([e,f]:List Expr).length+([]:List Keyword).length+(if([]:List Keyword).isEmpty then 0 else 1)<30))=true
 line:(apos.endLine==cpos.line)=true
 trees:backTo cpos (starEach [e,f] X.env)=[(false,eval e X.env),(false,eval f X.env)]
section
variable{X:Cx}{pins:List (Addr×Obj)}{σ:St}{H:Hp}{s:Shared}{a:Addr}{y d:V}{u r:Value}{o:Option V}{A:Around}{E:Value->Shared->Prop}
end
section
variable{X:Cx}{o e f:Expr}{apos cpos:Pos}{td ty tx:TE}
end
section
variable{X:Cx}{pins:List (Addr×Obj)}{σ:St}{H:Hp}{s:Shared}{a:Addr}{kvs:List (Key×V)}{A:Around}{E:Value->Shared->Prop}
end
section
variable{X:Cx}{pins:List (Addr×Obj)}{σ:St}{H:Hp}{s:Shared}{a:Addr}{y:V}{u:Value}{A:Around}{E:Value->Shared->Prop}
end
end L2
namespace Att
open PySem PySem.W PySem.Calls PyProof.Rows
theorem vN{P:Params}{h:Heap}:∀(ns:List Int) (vs:List Value),WellAll P h vs (ns.map WData.int)->IntsAre vs ns:=by
 intro ns
 induction ns with
 |nil =>
  intro vs w
  rw[List.map_nil]at w
  cases w
  exact .nil
 |cons n ns ih =>
  intro vs w
  rw[List.map_cons]at w
  cases w with
  |cons a b =>
   cases a
   exact .cons _ _ (ih _ b)
theorem GZ{l:OpenLaw}{n:Nat}(hn:l.most=some n){P:Params}{h:Heap}{args:List WData}{vals:List Value}
  (hpre:l.row.toRowW.claim.pre args=true) (hwl:WellAll P h vals args) :
  ∃a vs ns,vals=[Value.ref a]/\args=[WData.list (ns.map WData.int)]/\h.get? a=some { cls:=.type "list",data:=.seq vs.toArray }/\IntsAre vs ns/\ns.length<=n:=by
 have hsh:WShape.hasAll [] args [.list .int]=true:=(pre_splitW hpre).1
 have hc:l.pre.holds [] { args:=args }=true:=(pre_splitW hpre).2
 obtain⟨d,r,rfl,h1,h2⟩:=hasAllW_cons hsh
 obtain rfl:=hasAllW_nil h2
 obtain⟨xs,rfl,h3⟩:=hasW_list h1
 obtain⟨ns,rfl⟩:=items_int h3
 have hlen:ns.length<=n:=by
  unfold OpenLaw.pre at hc
  have h4:(WTm.not (.lt (.lit (.int (n:Int))) (.len (.arg 0)))).holds [] { args:=[.list (ns.map .int)] }=true:=by
   have h4:=(holds_andW hc).1
   rw[hn]at h4
   exact h4
  have h5:=condW_of h4 (w_not (w_lt w_lit (w_len_list (w_arg rfl))))
  rw[List.length_map]at h5
  refine Nat.le_of_not_lt λq=>?_
  have q':(n:Int)<((ns.length:Nat):Int):=by omega
  first
   |(rw[decide_eq_true q']at h5;exact absurd h5 (by decide))
   |(simp at h5;omega)
 cases hwl with
 |cons w1 w2 =>
  cases w2
  cases w1 with
  |list ho hall=>exact⟨_,_,ns,rfl,rfl,ho,vN ns _ hall,hlen⟩
theorem G5(l:OpenLaw)(args:List WData):l.row.toRowW.claim.post args (.bool true) args=true :=
 postW_of (r:=l.row.toRowW) (X:=(true==true))
  (show WShape.has [] (.bool true) .bool=true by first|rfl|decide|simp[WShape.has,WShape.arms,WShape.armsAll])
  (show(WTm.eq .res (.lit (.bool true))).value [] { args:=args,res:=some (.bool true),after:=args }=some (.bool (true==true)) from w_eq_bool (w_res rfl) w_lit) rfl
theorem DH{l:OpenLaw}{n:Nat}{q:Program}{loose:List Str}{XP:(Str->Option Value)->Heap->Prop}{YP:World->Heap->Prop}{d:DefRec}
  (hn:l.most=some n) (hdf:d.params.defaults=[])
  (call:∀(w:World) (s₀ s₁:Shared) (mg mb:Str->Option Value) (fa:Addr) (o:Obj) (pm cd doc:Value) (a:Addr) (vs:List Value) (ns:List Int),
   Ground q loose [] XP w s₀ mg mb s₁.heap->YP w s₁.heap →
   s₁.heap.get? fa=some o->o.data= .func (docDef d.name d.params d.body d.scope pm cd doc)->s₁.heap.CodeRec cd d.name->mg d.name=some (.ref fa) →
   s₁.heap.get? a=some { cls:=.type "list",data:=.seq vs.toArray }->IntsAre vs ns->ns.length<=n->s₁.gens= #[] →
   codeAny (model l.prog w) callerA (.call (.ref fa) ⟨[.ref a],[]⟩) (λr s'=>r= .ok (.ret (.bool true))/\OldK s₁.heap s'.heap/\s'.os=s₁.os/\AllBare s'.gens) s₁) :
  WalkO q loose XP YP l.row.toRowW d [] (λf vs=>PySem.call f vs):=by
 intro w s₀ s₁ mg mb G Y fa o pm cd doc dV kV ho hd hcd hD hmg hg args vals as hpre hlay hrd hwl hlo
 obtain rfl:dV= .none:=Dflts.none hD hdf
 obtain rfl:kV= .none:=Dflts.noKw hD
 obtain⟨a,vs,ns,rfl,rfl,hobj,hints,hlen⟩:=GZ hn hpre hwl
 refine enter_call (codeAny_mono (call w s₀ s₁ mg mb fa o pm cd doc a vs ns G Y ho (fd_plain hd) hcd hmg hobj hints hlen hg) λr s' hq=>?_)
 obtain⟨rfl,h2,h3,h4⟩:=hq
 exact⟨.inl ⟨.bool true,.bool true,[],rfl,λ_=>rfl,.bool true,G5 l _,λ_=>⟨List.Pairwise.nil,λ_ hm=>(nomatch hm)⟩⟩,h2,h3,h4⟩
section
variable{prog:Program}{w:World}{A:Around}{E:Value->Shared->Prop}{s:Shared}{K:Frag}
end
end Att
namespace L2
open PySem PySem.Spec PyProof.Rows
theorem zE:∀{vs:List Value} {ns:List Int},IntsAre vs ns->Vals (ns.map V.int) vs
 |_,_,.nil=>.nil
 |_,_,.cons n t h=>.cons ⟨t,rfl⟩ (zE h)
end L2
namespace L2
open PySem PySem.Spec PyProof.Rows
end L2
namespace L2
open PySem PySem.Spec PyProof.Rows
def inClass(s:Stmt)(j:Nat):Stmt:=match s with
 | .ClassDef _ _ _ body _ _ _ _ _ _ _=>body.getD j (.Pass ⟨0,0,0,0⟩)
 |_=>.Pass ⟨0,0,0,0⟩
def fV(s:Stmt):Arguments:=match s with
 | .FunctionDef _ a _ _ _ _ _ _ _ _=>a
 |_=>{ posonlyargs:=[],args:=[],vararg:=none,kwonlyargs:=[],kw_defaults:=[],kwarg:=none,defaults:=[] }
def dQ(s:Stmt):List Stmt:=match s with
 | .FunctionDef _ _ b _ _ _ _ _ _ _=>b
 |_=>[]
def ay(s:Stmt):Scope:=match s with
 | .FunctionDef _ _ _ _ _ _ sc _ _ _=>sc
 |_=>{ kind:=.function,names:=[],isGenerator:=false,isCoroutine:=false }
abbrev cj:Ii:=λ_ _ _ _ _ _=>False
abbrev E0:XK:=λ_ _ _=>False
theorem aT{X:Cx}:Passes cj X E0:=λ_ _ _ _ _ _ _ h=>h.elim
structure Le(K:PySem.W.Frag)(x qual:Str)(st:Stmt)(f:Addr)(fd:FuncData):Prop where
 ex:∃(oc:Value) (od:Option Addr) (dV kV doc pm:Value) (an:Option Addr) (cdv ct:Value) (osl:Array (Option Value)),
  fd=PySem.W.fnOf x qual (fV st) (dQ st) (ay st) dV kV doc pm an cdv ct/\K.lookup f=some ⟨oc,od,.func fd,osl⟩/\PySem.W.codeIn K cdv qual=true
 kp:PySem.W.keepIn K (.ref f)=true
section
variable{P:Program}{w:World}{K:PySem.W.Frag}{mg:Str->Option Value}{base:Heap}
theorem Le.ok{x qual:Str}{st:Stmt}{f:Addr}{fd:FuncData}{N ps:List Str}{k:Nat}{sp:Sp}(F:Le K x qual st f fd)(S:aF N ps (ay st))(len:∀vs H Q E,sp vs H Q E->vs.length=ps.length)
  (hbody:∀(cdv:Value) (A:Around) (outer:List Env) (s:Shared) (H:Hp) (vs:List V) (Q:VK) (E:XK),jT k (A.deeper (envOfC qual (ay st) s.heap.objs.size f cdv))->sp vs H Q E →
   ∃t,Al (tL cj P w K mg base N qual (ay st) f cdv A outer s H E).PF (dQ st) t/\t { nx:=λ_ H'=>Q .iP H',rt:=Q } (start N vs) H):aI P w K mg base cj (k+1) f fd ps sp:=by
 obtain⟨oc,od,dV,kV,doc,pm,an,cdv,ct,osl,rfl,lk,hcd⟩:=F.ex
 refine Kl lk hcd S len λA outer s H vs Q E hr D7=>?_
 obtain⟨t,h,q⟩:=hbody cdv A outer s H vs Q E hr D7
 exact⟨t,h.PF,q⟩
theorem uL{x qual:Str}{st:Stmt}{f:Addr}{oc:Value}{od an:Option Addr}{osl:Array (Option Value)}{dV kV doc pm cdv ct:Value}(l:K.lookup f=some ⟨oc,od,.func (PySem.W.fnOf x qual (fV st) (dQ st) (ay st) dV kV doc pm an cdv ct),osl⟩)
  (c:PySem.W.codeIn K cdv qual=true) (k:PySem.W.keepIn K (.ref f)=true):Le K x qual st f (PySem.W.fnOf x qual (fV st) (dQ st) (ay st) dV kV doc pm an cdv ct):=⟨⟨oc,od,dV,kV,doc,pm,an,cdv,ct,osl,rfl,l,c⟩,k⟩
end
theorem Dk{A:Around}{k:Nat}(hr:jT k A):A.units+1<cLine:=Nat.lt_of_le_of_lt (Nat.add_le_add_left (by decide:1<=64) _) hr.units
section
variable{X:Cx}
theorem pv (i:Nat) {x:Str} {pos:Pos} (hN:X.N[i]? =some x:=by rfl) (hv:Vb X.env.scope x:=by first|exact Or.inl rfl|exact Or.inr (Or.inl rfl)|exact Or.inr (Or.inr rfl)) (hd:(x==("__debug__" :Str))=false:=by decide)
  (hcd:(x==("__classdict__" :Str))=false:=by decide):PE X (.Name x pos) (Ro i):=Pu hN hv hd hcd
end
theorem iC{A B:Prop}(h:B):if false=true then A else B:=by
 rw[if_neg Bool.false_ne_true]
 exact h
theorem mZ{A B:Prop}(h:A):if true=true then A else B:=by
 rw[if_pos rfl]
 exact h
def ai(H H':Hp):Prop:=∀b o,H b=some o->H' b=some o
theorem ai.refl(H:Hp):ai H H:=λ_ _ h=>h
theorem ai.trans{H H1 H2:Hp}(a:ai H H1)(b:ai H1 H2):ai H H2:=λc o h=>b c o (a c o h)
theorem ai.free{H H':Hp}(e:ai H H'){l:Addr}(h:H' l=Option.none):H l=Option.none:=by
 cases q:H l with
 |none=>rfl
 |some o =>
  rw[e l o q]at h
  cases h
theorem ai.seq{K:PySem.W.Frag}{H H':Hp}{a:Addr}{xs:List V}(e:ai H H')(h:bP K H a xs):bP K H' a xs:=by
 rcases h with(h|⟨o,h⟩)|h
 ·exact .inl (.inl (e _ _ h))
 ·exact .inl (.inr ⟨o,e _ _ h⟩)
 ·exact .inr h
section
variable{κ:Type}[DecidableEq κ]
end
end L2
namespace GP
theorem Ma{α:Type}:∀{l:List α},l.length=1->∃a,l=[a]
 |[a],_=>⟨a,rfl⟩
theorem De{α:Type}{n:Nat}:∀{l:List α},l.length=n+1->∃a r,l=a::r/\r.length=n
 |a::r,h=>⟨a,r,rfl,Nat.succ.inj h⟩
theorem PZ{α:Type}{l:List α}(h:l.length=2):∃a b,l=[a,b]:=by
 obtain⟨a,r,rfl,k⟩:=De h
 obtain⟨b,rfl⟩:=Ma k
 exact⟨a,b,rfl⟩
theorem JN{α:Type}{l:List α}(h:l.length=3):∃a b c,l=[a,b,c]:=by
 obtain⟨a,r,rfl,k⟩:=De h
 obtain⟨b,c,rfl⟩:=PZ k
 exact⟨a,b,c,rfl⟩
theorem L8{α:Type}{l:List α}(h:l.length=4):∃a b c d,l=[a,b,c,d]:=by
 obtain⟨a,r,rfl,k⟩:=De h
 obtain⟨b,c,d,rfl⟩:=JN k
 exact⟨a,b,c,d,rfl⟩
theorem JM{α:Type}{l:List α}(h:l.length=5):∃a b c d e,l=[a,b,c,d,e]:=by
 obtain⟨a,r,rfl,k⟩:=De h
 obtain⟨b,c,d,e,rfl⟩:=L8 k
 exact⟨a,b,c,d,e,rfl⟩
theorem Sf{α:Type}{l:List α}(h:l.length=6):∃a b c d e f,l=[a,b,c,d,e,f]:=by
 obtain⟨a,r,rfl,k⟩:=De h
 obtain⟨b,c,d,e,f,rfl⟩:=JM k
 exact⟨a,b,c,d,e,f,rfl⟩
end GP
namespace L2
open PySem PySem.Spec PyProof.Rows
section
variable{X:Cx}
theorem Ac:∀{bs:List Bool} {us:List Value},Vals (bs.map V.bl) us->∀(i:Nat) (v:Value),us[i]? =some v->∃b,bs[i]? =some b/\v= .bool b
 |[],_,r,i,v,e=>by
  cases r
  simp at e
 |b::bs,_,r,i,v,e=>by
  cases r with
  |cons r1 r2 =>
   cases i with
   |zero =>
    simp at e
    subst e
    exact⟨b,rfl,r1⟩
   |succ i =>
    obtain⟨c,h1,h2⟩:=Ac r2 i v (by simpa using e)
    exact⟨c,by simpa using h1,h2⟩
theorem Ey(bs:List Bool):((List.range bs.length).all λi=>(bs[i]?).getD true)=bs.all id:=by
 rw[Bool.eq_iff_iff,List.all_eq_true,List.all_eq_true]
 constructor
 ·intro h b hb
  obtain⟨i,hi,rfl⟩:=List.getElem_of_mem hb
  have:=h i (List.mem_range.mpr hi)
  simpa only[List.getElem?_eq_getElem hi,Option.getD_some,id]using this
 ·intro h i hi
  have hi':=List.mem_range.mp hi
  simpa only[List.getElem?_eq_getElem hi',Option.getD_some,id]using h _ (List.getElem_mem hi')
theorem vp(hc:X.calm=true):lJ X (.builtin "all") (λxs H Q=>∃(l:Addr) (bs:List Bool),xs=[.ref l]/\bP X.K H l (bs.map V.bl)/\Q (.bl (bs.all id)) H):=by
 intro pins s σ H xs us Q I r h
 obtain⟨l,bs,rfl,hl,q⟩:=h
 obtain⟨u,rfl,ru⟩:=vals1 r
 cases ru
 obtain⟨its,rv,p,hz⟩:=I.list hl
 have pl:s.heap.IsList l its.toArray:=p.isList
 have hlt:l<s.heap.objs.size:=by obtain⟨_,e,_⟩:=pl;exact Heap.lt_size e
 have hlen:bs.length=its.length:=by rw[←rv.length,List.length_map]
 refine TK.bY (Nat.le_refl s.toks) ?_
 refine call_all_walk (wpAny_pyIter_list pl ?_)
 refine⟨s.heap.objs.size,[s.heap.objs.size,l],[s.heap.objs.size],its.toArray.size,_,_,λi=>(bs[i]?).getD true,rfl,Walks.list (A:=X.A.in1) (I.ok.hd hc) _ l (Nat.ne_of_lt hlt) its.toArray,
  ⟨⟨_,Heap.get?_push_size _ rfl,rfl,rfl⟩,pl.push _⟩,λi v s' Q' E' hP hQ=>?_,λh' tk hk hup=>?_⟩
 ·obtain⟨b,e,rfl⟩:=Ac rv i v (by simpa using hP)
  simp only[e,Option.getD_some]at hQ
  exact wpAny_truthy_bool hQ
 ·have e:((List.range its.toArray.size).all λi=>(bs[i]?).getD true)=bs.all id:=by
   rw[List.size_toArray,←hlen];exact Ey bs
  rw[e]
  refine⟨.bl (bs.all id),H,I.kept (t':=tk) (λb x e=>hk b x (λhm=>?_) (Heap.get?_push_of_some _ e)),rfl,q⟩
  rw[List.mem_singleton.mp hm]at e
  exact Nat.lt_irrefl _ (Heap.lt_size e)
end
theorem F8{X:Cx}{K':PySem.W.Frag}{es:List Expr}{k:Nat}{t:Ny}{n:Nat}{pos:Pos}(hK:X.K=K')(hc:X.calm=true)(h:Ue X es t)
  (hn:(assignEach es X.env).length=n:=by rfl) (hst:(assignEach es X.env).findIdx? (·.1)=none:=by rfl):PG X (.Tuple es k pos) (TR K' n t):=by
 subst hK
 exact oW hc h hn hst
def WM(t u:TS):TS:=λD σ H=>∃Mid:St->Hp->Prop,t { D with nx:=Mid } σ H/\∀ σ' H',Mid σ' H'->u D σ' H'
theorem bB{X:Cx}{st:Stmt}{rest:List Stmt}{t u:TS}(h1:PS X st t)(h2:Al X rest u):Al X (st::rest) (WM t u):=by
 intro pins s σ H D I h
 obtain⟨Mid,h,hm⟩:=h
 refine wpAny_execs_cons (dI (h1 pins s σ H { D with nx:=Mid } I h) λf s1 q=>?_)
 cases f with
 |next =>
  obtain⟨σ',H',I',q⟩:=q
  exact h2 pins s1 σ' H' D I' (hm σ' H' q)
 |ret v=>exact q
 |brk=>exact q
 |cont=>exact q
def iA(X:Cx)(scope:Scope)(cl:List (Str×Addr))(C:Addr)(N:List Str)(s:Shared)(H:Hp)(ex:List Addr)(pn:List (Addr×Obj))(E:Value->Shared->Prop):Cx :=
 { X with N:=N,s₀:=s,H₀:=H,env:=compEnvC scope cl C X.env,outer:=X.stack,ex:=ex,fn:=λx=>scope.names.lookup x==some .cell,pn:=pn,xe:=E }
structure cN(X:Cx)(scope:Scope)(cl:List (Str×Addr))(N:List Str)(nh:St->St):Prop where
 clos:closureFor scope X.env=pure cl
 kind:scope.kind= .function
 cell:∀y∈scope.names,y.2= .cell->cl.lookup y.1=none
 names:∀y∈scope.names,y.2= .local->scope.names.lookup y.1=some .local
 sub:∀x c,cl.lookup x=some c->X.env.cells.lookup x=some c
 has:∀x,((relabel scope X.env).names.lookup x=some .cell\/(relabel scope X.env).names.lookup x=some .free)->scope.names.lookup x=some .cell\/∃c,cl.lookup x=some c
 len:∀ σ,(nh σ).length=N.length
 fv:∀(σ:St) (i:Nat) (x:Str) (v:V),N[i]? =some x->(nh σ)[i]? =some (some v)->Vb (relabel scope X.env) x →
  ∃(j:Nat) (c:Addr),X.N[j]? =some x/\σ[j]? =some (some v)/\X.env.kindOf x=some .cell/\((relabel scope X.env).names.lookup x=some .cell\/(relabel scope X.env).names.lookup x=some .free)/\cl.lookup x=some c
structure K1(cl Bh:List (Str×Addr))(scope:Scope)(n:Nat)(h₁:Heap):Prop where
 look:∀x c,Bh.lookup x=some c->(n<c/\h₁.IsCell c none)\/cl.lookup x=some c
 inj:∀x y c,n<c->Bh.lookup x=some c->Bh.lookup y=some c->(∀x,cl.lookup x≠some c)->x=y
 keep:∀x c,cl.lookup x=some c->Bh.lookup x=some c
 own:∀x,scope.names.lookup x=some .cell->∃c,Bh.lookup x=some c
theorem iz:∀(names:List (Str×NameKind)) (n:Nat) (acc:List (Str×Addr)),cellsFrom n names acc=cellsFrom n names []++acc
 |[],_,_=>rfl
 |(y,k)::r,n,acc=>by
  unfold cellsFrom
  split
  ·rw[iz r _ ((y,n)::acc),iz r _ [(y,n)],List.append_assoc];rfl
  ·exact iz r n acc
theorem oi:∀(names:List (Str×NameKind)) (n:Nat) (acc:List (Str×Addr)) (x:Str) (c:Addr),(x,c)∈cellsFrom n names acc->(x,NameKind.cell)∈names\/(x,c)∈acc
 |[],_,_,_,_,h=>.inr h
 |(y,k)::r,n,acc,x,c,h=>by
  unfold cellsFrom at h
  split at h
  next hk =>
   rcases oi r _ _ x c h with z|z
   ·exact .inl (List.mem_cons_of_mem _ z)
   ·rcases List.mem_cons.mp z with e|e
    ·cases e
     have hk':k= .cell:=by simpa using hk
     rw[hk']
     exact .inl List.mem_cons_self
    ·exact .inr e
  next=>exact(oi r _ _ x c h).imp (List.mem_cons_of_mem _) id
theorem DE{X:Cx}{scope:Scope}{cl:List (Str×Addr)}{N:List Str}{nh:St->St}(S:cN X scope cl N nh){M:Model}{A:Around}{E:Value->Shared->Prop}{s:Shared}{Q:Env->Shared->Prop}
  (h:∀Bh h₁,K1 cl Bh scope s.heap.objs.size h₁->h₁.Ns s.heap.objs.size (λ_=>none)->(∀b o,s.heap.get? b=some o->h₁.get? b=some o)->Q { compEnvC scope Bh s.heap.objs.size X.env with scope:=scope } { s with heap:=h₁ }) :
  wpAny M A (newFunctionEnv scope X.env.globals cl [] X.env.qual none .none (some X.env)) Q E s:=by
 simp only[newFunctionEnv,Option.isSome_some,if_true]
 refine wpAny_bind (wpAny_alloc ?_)
 refine wpAny_bind (wpAny_layCells _ (λname kind cells=>by cases hkc:kind==NameKind.cell<;>simp[hkc]) _ _ _ _ ?_)
 have hz:(s.heap.push { cls:=.type "dict",data:=.dict #[] }).objs.size=s.heap.objs.size+1:=Heap.size_push ..
 have ok:=cellsFrom_ok scope.names (s.heap.push { cls:=.type "dict",data:=.dict #[] }) (s.heap.objs.size+1) [] ⟨λ_ _ hm=>(nomatch hm),List.Pairwise.nil⟩ (by rw[hz];exact Nat.le_refl _)
 simp only[List.forIn_nil]
 refine wpAny_bind (wpAny_pure (wpAny_pure (h (cellsFrom (s.heap.push { cls:=.type "dict",data:=.dict #[] }).objs.size scope.names cl) _ ⟨λx c e=>?_,λx y c _ ex ey hn=>?_,λx c e=>?_,λx e=>?_⟩ ((Heap.Ns.new s.heap (.type "dict")).keeps λb o e=>pushCells_keeps _ _ _ _ e) λb o e=>pushCells_keeps _ _ _ _ (Heap.get?_push_of_some _ e))))
 ·rw[iz,List.lookup_append]at e
  cases q:(cellsFrom (s.heap.push { cls:=.type "dict",data:=.dict #[] }).objs.size scope.names []).lookup x with
  |none=>rw[q]at e;exact .inr e
  |some d =>
   rw[q]at e
   cases e
   exact .inl ((ok.empty x c (mem_of_lookup q)).symm)
 ·rw[iz,List.lookup_append]at ex ey
  cases qx:(cellsFrom (s.heap.push { cls:=.type "dict",data:=.dict #[] }).objs.size scope.names []).lookup x with
  |none=>rw[qx]at ex;exact absurd ex (hn x)
  |some d =>
   rw[qx]at ex
   cases ex
   cases qy:(cellsFrom (s.heap.push { cls:=.type "dict",data:=.dict #[] }).objs.size scope.names []).lookup y with
   |none=>rw[qy]at ey;exact absurd ey (hn y)
   |some d =>
    rw[qy]at ey
    cases ey
    exact name_of_addr ok.apart (mem_of_lookup qx) (mem_of_lookup qy)
 ·rw[iz,List.lookup_append]
  cases q:(cellsFrom (s.heap.push { cls:=.type "dict",data:=.dict #[] }).objs.size scope.names []).lookup x with
  |none=>exact e
  |some d =>
   rcases oi _ _ _ _ _ (mem_of_lookup q)with z|z
   ·rw[S.cell _ z rfl]at e;cases e
   ·cases z
 ·exact Option.isSome_iff_exists.mp (PySem.W.cellsFrom_some _ _ _ (.inl e))
theorem cN.plain{X:Cx}{scope:Scope}{N:List Str}(hfree:∀x∈scope.names,x.2≠ .free)(kind:scope.kind= .function)(_:∀y∈scope.names,y.2= .cell->(y.1,NameKind.free)∉scope.names)
  (names:∀y∈scope.names,y.2= .local->scope.names.lookup y.1=some .local):cN X scope [] N (λ_=>List.replicate N.length none):=by
 have hr:(relabel scope X.env).names=scope.names:=by
  unfold relabel
  exact map_eq_self λx hx=>by
   obtain⟨n,k⟩:=x
   have:(k==NameKind.free)=false:=by simpa using hfree _ hx
   simp[this]
 refine⟨closureFor_none hfree,kind,λ_ _ _=>rfl,names,λx c e=>by simp at e,λx hx=>?_,λσ=>List.length_replicate,λσ i x v _ e _=>?_⟩
 ·rw[hr]at hx
  rcases hx with hx|hx
  ·exact .inl hx
  ·exact absurd rfl (hfree _ (PySem.mem_of_lookup hx))
 ·rw[List.getElem?_replicate]at e
  split at e
  ·cases e
  ·cases e
def oJ(look:Str->Option Addr):List (Str×NameKind)->List (Str×Addr)->List (Str×Addr)
 |[],acc=>acc
 |(n,k)::r,acc=>if(k==NameKind.free)=true then(match look n with|some a=>oJ look r ((n,a)::acc)|none=>oJ look r acc)else oJ look r acc
theorem pB{env:Env}:∀(names:List (Str×NameKind)) (acc:List (Str×Addr)),(∀x∈names,x.2= .free->∃a,env.cells.lookup x.1=some a) →
  (forIn names acc (λ(x:Str×NameKind) (r:List (Str×Addr))=>match x with|(name,kind)=>if(kind==NameKind.free)=true then do let c ←cellOf env name;pure (ForInStep.yield ((name,c)::r))else pure (ForInStep.yield r)):Sem (List (Str×Addr)))=pure (oJ (env.cells.lookup ·) names acc)
 |[],acc,_=>rfl
 |(n,k)::r,acc,h=>by
  rw[List.forIn_cons]
  dsimp only
  unfold oJ
  by_cases hk:(k==NameKind.free)=true
  ·obtain⟨a,ha⟩:=h (n,k) List.mem_cons_self (by simpa using hk)
   have ha':env.cells.lookup n=some a:=ha
   rw[if_pos hk,if_pos hk,ha']
   have hc:cellOf env n=pure a:=by unfold cellOf;rw[ha']
   rw[hc]
   exact pB r _ λx hx=>h x (List.mem_cons_of_mem _ hx)
  ·rw[if_neg hk,if_neg hk]
   exact pB r _ λx hx=>h x (List.mem_cons_of_mem _ hx)
theorem tM{look:Str->Option Addr}:∀(names:List (Str×NameKind)) (acc:List (Str×Addr)),(∀x c,acc.lookup x=some c->look x=some c)->∀x c,(oJ look names acc).lookup x=some c->look x=some c
 |[],acc,h=>h
 |(n,k)::r,acc,h=>by
  unfold oJ
  by_cases hk:(k==NameKind.free)=true
  ·rw[if_pos hk]
   cases e:look n with
   |none=>exact tM r acc h
   |some a =>
    refine tM r _ λx c q=>?_
    rw[List.lookup_cons]at q
    by_cases hx:(x==n)=true
    ·rw[hx]at q
     have:x=n:=by simpa using hx
     rw[this,e]
     exact q
    ·have hx':(x==n)=false:=by simpa using hx
     rw[hx']at q
     exact h x c q
  ·rw[if_neg hk]
   exact tM r acc h
theorem pC{look:Str->Option Addr}:∀(names:List (Str×NameKind)) (acc:List (Str×Addr)) (x:Str),(∃c,acc.lookup x=some c)->∃c,(oJ look names acc).lookup x=some c
 |[],_,_,h=>h
 |(n,k)::r,acc,x,h=>by
  unfold oJ
  by_cases hk:(k==NameKind.free)=true
  ·rw[if_pos hk]
   cases e:look n with
   |none=>exact pC r acc x h
   |some a =>
    refine pC r _ x ?_
    rw[List.lookup_cons]
    cases hx:x==n with
    |true=>exact⟨a,rfl⟩
    |false=>exact h
  ·rw[if_neg hk]
   exact pC r acc x h
theorem qv{look:Str->Option Addr}:∀(names:List (Str×NameKind)) (acc:List (Str×Addr)) (x:Str),(x,NameKind.free)∈names->(∃a,look x=some a)->∃c,(oJ look names acc).lookup x=some c
 |[],_,_,h,_=>by cases h
 |(n,k)::r,acc,x,h,ha=>by
  unfold oJ
  rcases List.mem_cons.mp h with e|e
  ·obtain⟨a,ha⟩:=ha
   have e1:x=n:=congrArg Prod.fst e
   have e2:k=NameKind.free:=(congrArg Prod.snd e).symm
   subst e1 e2
   rw[if_pos (by decide),ha]
   refine pC r _ x ⟨a,?_⟩
   rw[List.lookup_cons]
   simp
  ·by_cases hk:(k==NameKind.free)=true
   ·rw[if_pos hk]
    cases e2:look n with
    |none=>exact qv r acc x e ha
    |some a=>exact qv r _ x e ha
   ·rw[if_neg hk]
    exact qv r acc x e ha
theorem tN{look:Str->Option Addr}:∀(names:List (Str×NameKind)) (acc:List (Str×Addr)) (x:Str) (c:Addr),(oJ look names acc).lookup x=some c->(x,NameKind.free)∈names\/acc.lookup x=some c
 |[],_,_,_,h=>.inr h
 |(n,k)::r,acc,x,c,h=>by
  unfold oJ at h
  by_cases hk:(k==NameKind.free)=true
  ·rw[if_pos hk]at h
   cases e:look n with
   |none=>rw[e]at h;exact(tN r acc x c h).imp (List.mem_cons_of_mem _) id
   |some a =>
    rw[e]at h
    rcases tN r _ x c h with z|z
    ·exact .inl (List.mem_cons_of_mem _ z)
    ·rw[List.lookup_cons]at z
     cases hx:x==n with
     |true =>
      have e1:x=n:=by simpa using hx
      have e2:k= .free:=by simpa using hk
      rw[e1,e2]
      exact .inl List.mem_cons_self
     |false=>rw[hx]at z;exact .inr z
  ·rw[if_neg hk]at h
   exact(tN r acc x c h).imp (List.mem_cons_of_mem _) id
theorem oU{env:Env}:∀{names:List (Str×NameKind)} {x:Str} {k:NameKind},
  (names.map λ(n,k)=>if(k==NameKind.free&&env.scope.kind== .function&&env.kindOf n==some .cell)then(n,NameKind.cell)else(n,k)).lookup x=some k →
  (k= .cell\/k= .free)->names.lookup x=some .cell\/(x,NameKind.free)∈names
 |[],_,_,h,_=>by simp at h
 |(n,j)::r,x,k,h,hk=>by
  rw[List.map_cons,List.lookup_cons]at h
  rw[List.lookup_cons]
  by_cases hj:(j==NameKind.free&&env.scope.kind== .function&&env.kindOf n==some .cell)=true
  ·simp only[hj,if_true]at h
   by_cases hx:(x==n)=true
   ·have e:x=n:=by simpa using hx
    have ej:j= .free:=by
     rw[Bool.and_eq_true,Bool.and_eq_true]at hj
     simpa using hj.1.1
    rw[e,←ej]
    exact .inr List.mem_cons_self
   ·have hx':(x==n)=false:=by simpa using hx
    rw[hx']at h ⊢
    exact(oU h hk).imp id (List.mem_cons_of_mem _)
  ·simp only[hj]at h
   by_cases hx:(x==n)=true
   ·have e:x=n:=by simpa using hx
    rw[e]at h
    simp at h
    subst h
    rw[hx]
    rcases hk with q|q
    ·rw[q];exact .inl rfl
    ·rw[e,←q]
     exact .inr List.mem_cons_self
   ·have hx':(x==n)=false:=by simpa using hx
    simp[hx']at h
    rw[hx']
    exact(oU (by simpa using h) hk).imp id (List.mem_cons_of_mem _)
def UG(nt:Nat)(ix:List Nat)(σ:St):St:=List.replicate nt none++ix.map λj=>(σ[j]?).join
theorem cN.free{X:Cx}{scope:Scope}{N:List Str}{nt:Nat}{ix:List Nat}(kind:scope.kind= .function)(cell:∀y∈scope.names,y.2= .cell->(y.1,NameKind.free)∉scope.names)
  (names:∀y∈scope.names,y.2= .local->scope.names.lookup y.1=some .local) (hf:∀y∈scope.names,y.2= .free->X.env.kindOf y.1=some .cell)
  (hl:N.length=nt+ix.length) (hx:∀(k j:Nat),ix[k]? =some j->∃x,N[nt+k]? =some x/\X.N[j]? =some x/\(x,NameKind.free)∈scope.names/\(relabel scope X.env).names.lookup x=some .cell) (ok:X.Ok) :
  ∃cl,cN X scope cl N (UG nt ix):=by
 have hcl:∀y∈scope.names,y.2= .free->∃a,X.env.cells.lookup y.1=some a:=λy hy hk=>ok.has y.1 (.inl (hf y hy hk))
 refine⟨oJ (X.env.cells.lookup ·) scope.names [],?_,kind,λy hy hk=>?_,names,tM scope.names [] (λx c e=>by simp at e),λx h=>?_,λσ=>?_,λσ i x v e1 e2 e3=>?_⟩
 ·have z:=pB scope.names [] hcl
  unfold closureFor
  dsimp only
  rw[z]
  rfl
 ·cases q:(oJ (X.env.cells.lookup ·) scope.names []).lookup y.1 with
  |none=>rfl
  |some c =>
   rcases tN _ _ _ _ q with z|z
   ·exact absurd z (cell y hy hk)
   ·cases z
 ·have hm:scope.names.lookup x=some .cell\/(x,NameKind.free)∈scope.names:=by
   rcases h with h|h
   ·exact oU h (.inl rfl)
   ·exact oU h (.inr rfl)
  exact hm.imp id λhm=>qv scope.names [] x hm (hcl _ hm rfl)
 ·unfold UG
  rw[List.length_append,List.length_replicate,List.length_map,hl]
 ·unfold UG at e2
  by_cases hi:i<nt
  ·rw[List.getElem?_append_left (by rw[List.length_replicate];exact hi),List.getElem?_replicate]at e2
   split at e2
   ·cases e2
   ·cases e2
  ·rw[List.getElem?_append_right (by rw[List.length_replicate];omega),List.length_replicate,List.getElem?_map]at e2
   cases ej:ix[i-nt]? with
   |none=>rw[ej]at e2;cases e2
   |some j =>
    rw[ej]at e2
    have U9:(σ[j]?).join=some v:=Option.some.inj e2
    obtain⟨x',n1,n2,n3,n4⟩:=hx (i-nt) j ej
    rw[show nt+(i-nt)=i by omega,e1]at n1
    cases n1
    obtain⟨c,hc⟩:=qv (look:=(X.env.cells.lookup ·)) scope.names [] x n3 (hcl _ n3 rfl)
    refine⟨j,c,n2,?_,hf _ n3 rfl,.inl n4,hc⟩
    cases es:σ[j]? with
    |none=>rw[es]at U9;cases U9
    |some o=>rw[es]at U9;rw[show o=some v from U9]
def Kp(a b:St):Prop:=∀(i:Nat) (v:V),a[i]? =some (some v)->b[i]? =some (some v)
theorem Kp.rep(n:Nat)(b:St):Kp (List.replicate n none) b:=λi v e=>by
 rw[List.getElem?_replicate]at e
 split at e
 ·cases e
 ·cases e
def IK(wi:TI)(g:TG)(te:TE)(nh:St->St):TE:=λσ H Q=>wi σ H λJ H1=>∀l,H1 l=none->∃W:Nat->Nat->List V->Hp->Prop,(∃m,W 0 m [] (upd H1 l (.lst []))) ∧
 ∀i m ys H2,W i m ys H2->(J.stop i H2/\Q (.ref l) H2) ∨
  (J.go i H2/\∀x H3,J.zA i H2 x H3->g x (nh σ) H3 λuW H4=>Kp (nh σ) uW/\te uW H4 λy H5=>H5 l=some (.lst ys)/\ys.length<sizeLine/\∃m',m'<m/\W (i+1) m' (ys++[y]) (upd H5 l (.lst (ys++[y]))))
theorem Inv.IC{X:Cx}{pins:List (Addr×Obj)}{σ:St}{H:Hp}{s:Shared}(I:Inv X pins σ H s):Inv X [] σ H s:=I.AD λ_ hp=>nomatch hp
theorem lS.but{P:Program}{w:World}{H:Hp}{h h':Heap}{C:Addr}(x:lS P w H h)(hC:H C=none)(sb:Heap.SameBut C h h'):lS P w H h':=λb u e =>
 (x b u e).stay (λc v hc q=>(sb.2 c (by
  rintro rfl
  rcases hc with z|z
  ·rw[z,e]at hC;cases hC
  ·rw[hC]at z;cases z)).trans q) (λ_ q=>q) λ_ _ q=>q
section
variable{X:Cx}{pins:List (Addr×Obj)}{σ:St}{H:Hp}{s:Shared}{scope:Scope}{cl:List (Str×Addr)}{N:List Str}{nh:St->St}{fp:List Addr}{h₁:Heap}{m:Str->Option Value}{E:Value->Shared->Prop}
theorem Di{Bh:List (Str×Addr)}(S:cN X scope cl N nh)(G:K1 cl Bh scope s.heap.objs.size h₁)(I:Inv X pins σ H s)(hf:∀b∈fp,pO X pins H b/\b<s.heap.objs.size)(kp:∀b o,s.heap.get? b=some o->h₁.get? b=some o)(hns:h₁.Ns s.heap.objs.size m)(t':Nat)(ht:s.toks<=t':=by first|exact Nat.le_refl _|exact Nat.le_succ _|assumption|omega):
  Inv (iA X scope Bh s.heap.objs.size N s H fp (X.pn++pins) E) [] (nh σ) H { s with heap:=h₁,toks:=t' }:=by
 have R1:∀b,b≠X.env.locals->b∉X.fs->b∉frs X.stack:=λb h1 h2 z=>by
  rcases List.mem_cons.mp (I.rO b z)with q|q
  ·exact h1 q
  ·exact h2 q
 have MG:∀x c,cl.lookup x=some c->c<s.heap.objs.size:=λx c e=>by
  obtain⟨v,o,ho,_⟩:=I.cell x c (S.sub x c e)
  exact Heap.lt_size ho
 refine⟨⟨I.mod,S.kind,I.ok.glob,I.ok.blt,Nat.le_refl _,λx y c a b=>?_,λx h=>(S.has x h).elim (G.own x) λ⟨c,e⟩=>⟨c,G.keep x c e⟩,λx c z e=>?_,I.ok.hd,I.ok.frames,.inl rfl,λb hb=>?_,I.bs,Nat.le_trans I.ok.KH I.sz,λb o e hb=>?_,λb hb=>?_,I.stack,I.Ar,I.tk⟩,
  rfl,I.bare,Un.kept kp,⟨m,hns,λi x v e1 e2 e3=>?_⟩,λx c e=>?_,I.hok.fresh (Nat.le_refl _),λx c e=>(G.look x c e).elim (λz=>I.hok.fresh (Nat.le_of_lt z.1)) λz=>I.jF x c (S.sub x c z),λp hp=>?_,I.hok.kept kp,S.len σ,ht⟩
 ·by_cases hc:s.heap.objs.size<c
  ·exact G.inj x y c hc a b λz e=>Nat.lt_asymm hc (MG z c e)
  ·exact I.ok.inj x y c (S.sub x c ((G.look x c a).elim (λz=>absurd z.1 hc) id)) (S.sub y c ((G.look y c b).elim (λz=>absurd z.1 hc) id))
 ·rcases G.look x c e with q|q
  ·exact Nat.le_of_lt q.1
  ·have z2:(scope.names.lookup x==some NameKind.cell)=true:=z
   have z':scope.names.lookup x=some .cell:=by simpa using z2
   rw[S.cell _ (mem_of_lookup z') rfl]at q
   cases q
 ·obtain⟨⟨_,_,_,_,f4,_⟩,lt⟩:=hf b hb
  exact⟨Nat.ne_of_lt lt,λx c e=>(G.look x c e).elim (λz=>Nat.ne_of_gt (Nat.lt_trans lt z.1)) λz=>f4 x c (S.sub x c z)⟩
 ·obtain⟨⟨f0,_,_,f3,_⟩,_⟩:=hf b hb
  rcases f3 with z|z
  ·exact I.ok.EL b o e z
  ·exact absurd (Nat.lt_of_lt_of_le (Heap.lt_size e) (Nat.le_trans I.ok.KH z)) (Nat.lt_irrefl _)
 ·obtain⟨⟨_,f1,f2,_⟩,_⟩:=hf b hb
  exact R1 b f1 f2
 ·obtain⟨j,c,n1,n2,n3,n4,n5⟩:=S.fv σ i x v e1 e2 e3
  obtain⟨mX,_,hl⟩:=I.loc
  obtain⟨u,r,l⟩:=hl j x v n1 n2 (.inr (.inl n3))
  refine⟨u,r,.inr ⟨n4,c,G.keep x c n5,?_⟩⟩
  rcases l with⟨k,_⟩|⟨_,c',ec,o,ho,hd⟩
  ·have k':X.env.scope.names.lookup x=some .local:=k
   have Zv:X.env.scope.names.lookup x=some .cell:=n3
   rw[k']at Zv;cases Zv
  ·have q:=S.sub x c n5
   rw[q]at ec;cases ec
   exact⟨o,kp _ _ ho,hd⟩
 ·rcases G.look x c e with z|z
  ·exact⟨none,z.2⟩
  ·obtain⟨v,o,ho,hd⟩:=I.cell x c (S.sub x c z)
   exact⟨v,o,kp _ _ ho,hd⟩
 ·have UT:p∈X.pn++pins:=by
   rcases List.mem_append.mp hp with z|z
   ·exact z
   ·cases z
  obtain⟨a,b,c,d,e⟩:=I.pin p UT
  exact⟨kp _ _ a,b,Nat.ne_of_lt (Heap.lt_size a),R1 _ c d,e⟩
end
end L2
namespace L2
open PySem PySem.Spec PyProof.Rows
inductive Cp where
 |lst (a:Addr)|tup (a:Addr)|txt (x:Str)
def eX(x:Str):List V:=x.cps.toList.map λc=>V.str ⟨#[c]⟩
def Cp.val:Cp->V
 | .lst a=>.ref a
 | .tup a=>.ref a
 | .txt x=>.str x
def Cp.at(K:PySem.W.Frag)(H:Hp):Cp->List V->Prop
 | .lst a=>bP K H a
 | .tup a=>c7 K H a
 | .txt x=>λxs=>xs=eX x
def Cp.D5(h:Heap)(it:Addr)(i:Nat):Cp->Prop
 | .lst a=>h.IsListIter it a i
 | .tup a=>h.IsTupleIter it a i
 | .txt x=>∃t,h.IsStrIter it (strIterType x) x t i
def Cp.src(h:Heap):Cp->List V->Prop
 | .lst a=>λxs=>∃its,Vals xs its/\h.IsList a its.toArray
 | .tup a=>λxs=>∃its,Vals xs its/\h.IsTuple a its.toArray
 | .txt x=>λxs=>xs=eX x
def Cp.off(b:Addr):Cp->Prop
 | .lst a=>a≠b
 | .tup a=>a≠b
 | .txt _=>True
section
variable{X:Cx}{pins:List (Addr×Obj)}{σ:St}{H:Hp}{s:Shared}{c d:Cp}{xs ys:List V}
theorem Cp.oN(I:Inv X pins σ H s)(h:c.at X.K H xs):c.src s.heap xs:=by
 cases c with
 |lst a=>obtain⟨its,r,p,_⟩:=I.list h;exact⟨its,r,p.isList⟩
 |tup a=>obtain⟨its,r,p,_⟩:=I.tuple h;exact⟨its,r,p⟩
 |txt x=>exact h
theorem Cp.Fj(I:Inv X pins σ H s)(h:c.at X.K H xs)(h':c.at X.K H ys):xs=ys:=by
 cases c with
 |lst a=>exact I.xJ h h'
 |tup a=>exact I.zH h h'
 |txt x=>exact(show xs=eX x from h).trans (show ys=eX x from h').symm
theorem Cp.nZ {h:Heap} {b:Addr} {o:Obj} {T:String} (hs:c.src h xs) (hb:h.get? b=some o) (hc:o.cls= .type T) (n1:T≠ "list") (n2:T≠ "tuple"):c.off b:=by
 cases c with
 |lst a =>
  obtain⟨its,_,o',ho,hc',_⟩:=hs
  intro e
  rw[e,hb]at ho
  cases ho
  rw[hc]at hc'
  injection hc' with q
  exact n1 q
 |tup a =>
  obtain⟨its,_,o',ho,hc',_⟩:=hs
  intro e
  rw[e,hb]at ho
  cases ho
  rw[hc]at hc'
  injection hc' with q
  exact n2 q
 |txt x=>trivial
theorem Cp.Gg{h:Heap}{b:Addr}(hs:c.src h xs)(hb:h.objs.size<=b):c.off b:=by
 cases c with
 |lst a =>
  obtain⟨its,_,o',ho,_⟩:=hs
  exact Nat.ne_of_lt (Nat.lt_of_lt_of_le (Heap.lt_size ho) hb)
 |tup a =>
  obtain⟨its,_,o',ho,_⟩:=hs
  exact Nat.ne_of_lt (Nat.lt_of_lt_of_le (Heap.lt_size ho) hb)
 |txt x=>trivial
theorem Cp.kQ{h h':Heap}{b:Addr}(hs:c.src h xs)(hx:Heap.ExtBut b h h')(ho:c.off b):c.src h' xs:=by
 cases c with
 |lst a=>obtain⟨its,r,p⟩:=hs;exact⟨its,r,p.extBut hx ho⟩
 |tup a=>obtain⟨its,r,p⟩:=hs;exact⟨its,r,p.extBut hx ho⟩
 |txt x=>exact hs
theorem Cp.IQ{h h':Heap}(hs:c.src h xs)(hx:∀b o,h.get? b=some o->h'.get? b=some o):c.src h' xs:=by
 cases c with
 |lst a=>obtain⟨its,r,o,ho,q⟩:=hs;exact⟨its,r,o,hx _ _ ho,q⟩
 |tup a=>obtain⟨its,r,o,ho,q⟩:=hs;exact⟨its,r,o,hx _ _ ho,q⟩
 |txt x=>exact hs
theorem Cp.j9{h:Heap}{it:Addr}{i:Nat}(q:c.D5 h it i):∃o T vs,h.get? it=some o/\o.cls= .type T/\o.data= .fields vs/\T≠ "list" /\T≠ "tuple" :=by
 cases c with
 |lst a=>obtain⟨o,ho,hc,hd⟩:=q;exact⟨o,_,_,ho,hc,hd,by decide,by decide⟩
 |tup a=>obtain⟨o,ho,hc,hd⟩:=q;exact⟨o,_,_,ho,hc,hd,by decide,by decide⟩
 |txt x =>
  obtain⟨t,o,ho,hc,hd⟩:=q
  refine⟨o,_,_,ho,hc,hd,?_,?_⟩
  ·unfold strIterType;split<;>decide
  ·unfold strIterType;split<;>decide
theorem Cp.jm{h h':Heap}{it:Addr}{i:Nat}(q:c.D5 h it i)(e:∀o,h.get? it=some o->h'.get? it=some o):c.D5 h' it i:=by
 cases c with
 |lst a=>obtain⟨o,ho,r⟩:=q;exact⟨o,e _ ho,r⟩
 |tup a=>obtain⟨o,ho,r⟩:=q;exact⟨o,e _ ho,r⟩
 |txt x=>obtain⟨t,o,ho,r⟩:=q;exact⟨t,o,e _ ho,r⟩
end
section
variable{prog:Program}{w:World}{A:Around}{E:Value->Shared->Prop}{s:Shared}{c d:Cp}{xs ys:List V}
theorem sZ{it t:Addr}{i:Nat}{items}{x:Value}{Q:Value->Shared->Prop}(hit:s.heap.IsTupleIter it t i)
  (ht:s.heap.IsTuple t items) (hx:items[i]? =some x)
  (hQ:∀h',h'.IsTupleIter it t (i+1)->Heap.SameBut it s.heap h'->Q x { s with heap:=h' }) :
  wpAny (model prog w) A (Builtin.SmallTypes.nextOf (.ref it)) Q E s:=by
 obtain⟨o,ho,hc,hd⟩:=id hit
 obtain⟨ol,JY,_,nl,hdl⟩:=ht
 unfold Builtin.SmallTypes.nextOf
 refine wpAny_bind (wpAny_callSpecial?_slot (name:=Str.ofString "__next__") hit.typeIs F.slot_tuple_iterator_next
  (wpAny_call_entry F.slot_tuple_iterator_next hit.typeIs F.entry_tuple_iterator_next ?_ (F.args_tuple_iterator_next_1 _)))
 show wpAny _ _ (field (.ref it) 0 >>= _) _ _ s
 refine wpAny_bind (wpAny_field ho hd (x:=.ref t) rfl ?_)
 show wpAny _ _ (if(Value.ref t==Value.none)=true then _ else _) _ _ s
 rw[if_neg (show ¬((Value.ref t==Value.none)=true) from Bool.false_ne_true)]
 show wpAny _ _ (field (.ref it) 1 >>= _) _ _ s
 refine wpAny_bind (wpAny_field ho hd (x:=.int i 0) rfl ?_)
 show wpAny _ _ (seqItems? (.ref t) >>= _) _ _ s
 refine wpAny_bind (wpAny_seqItems JY hdl ?_)
 simp only[Int.toNat_natCast,hx]
 refine wpAny_bind (wpAny_setField ho hd (by simp) (wpAny_pure ⟨x,rfl,wpAny_pure (hQ _ ?_ (Heap.SameBut.update ..))⟩))
 exact⟨_,Heap.get?_update_self _ ho (Obj.isFreed_of_fields (Obj.data_mapFields hd _)),(Obj.cls_mapFields ..).trans hc,by
  rw[Obj.data_mapFields hd];simp[rawInt]⟩
theorem uC{it t:Addr}{i:Nat}{items}{Q:Value->Shared->Prop}(hh:A.handled=none)
  (hit:s.heap.IsTupleIter it t i) (ht:s.heap.IsTuple t items) (hx:items[i]? =none)
  (hE:∀h' e,Heap.ExtBut it s.heap h'->(∃o,h'.get? e=some o/\o.cls= .type "StopIteration")->E (.ref e) { s with heap:=h' }) :
  wpAny (model prog w) A (Builtin.SmallTypes.nextOf (.ref it)) Q E s:=by
 obtain⟨o,ho,hc,hd⟩:=id hit
 obtain⟨ol,JY,_,nl,hdl⟩:=ht
 unfold Builtin.SmallTypes.nextOf
 refine wpAny_bind (wpAny_callSpecial?_slot (name:=Str.ofString "__next__") hit.typeIs F.slot_tuple_iterator_next
  (wpAny_call_entry F.slot_tuple_iterator_next hit.typeIs F.entry_tuple_iterator_next ?_ (F.args_tuple_iterator_next_1 _)))
 show wpAny _ _ (field (.ref it) 0 >>= _) _ _ s
 refine wpAny_bind (wpAny_field ho hd (x:=.ref t) rfl ?_)
 show wpAny _ _ (if(Value.ref t==Value.none)=true then _ else _) _ _ s
 rw[if_neg (show ¬((Value.ref t==Value.none)=true) from Bool.false_ne_true)]
 show wpAny _ _ (field (.ref it) 1 >>= _) _ _ s
 refine wpAny_bind (wpAny_field ho hd (x:=.int i 0) rfl ?_)
 show wpAny _ _ (seqItems? (.ref t) >>= _) _ _ s
 refine wpAny_bind (wpAny_seqItems JY hdl ?_)
 simp only[Int.toNat_natCast,hx]
 refine wpAny_bind (wpAny_rule (wpAny_bind (wpAny_setField ho hd (by simp) ?_)))
 show wpAny _ _ (newExc (.type "StopIteration") [] >>= _) _ _ _
 refine wpAny_bind ?_
 simp only[newExc,newTuple]
 refine wpAny_bind (wpAny_newObj_type ?_ (by size_fits))
 refine wpAny_bind (m:=firstArgMember _ _) (wpAny_of_eq (a:=Value.none) (by first|rfl|(simp only[firstArgMember];rfl)) ?_)
 refine wpAny_newObj_type ?_ (by size_fits)
 simp only[raiseNew]
 refine wpAny_bind (wpAny_handled ?_)
 first|rw[show A.in1.handled=none from hh]|rw[hh]
 refine wpAny_bind (wpAny_pure (wpAny_throw ?_))
 exact hE _ _ (((Heap.SameBut.update ..).extBut.push _).push _) ⟨_,Heap.get?_push_size _ rfl,rfl⟩
theorem signs_get{x:Str}{i:Nat}{v:V}(h:(eX x)[i]? =some v):∃k,x.cps[i]? =some k/\v= .str ⟨#[k]⟩:=by
 unfold eX at h
 rw[List.getElem?_map]at h
 cases e:x.cps.toList[i]? with
 |none=>rw[e]at h;cases h
 |some k =>
  rw[e]at h
  exact⟨k,by simpa using e,(Option.some.inj h).symm⟩
theorem GY{x:Str}{i:Nat}(h:(eX x)[i]? =none):x.cps[i]? =none:=by
 unfold eX at h
 rw[List.getElem?_map]at h
 cases e:x.cps.toList[i]? with
 |none=>simpa using e
 |some k=>rw[e]at h;cases h
theorem Cp.item{it:Addr}{i:Nat}{x:V}{Q:Value->Shared->Prop}(hit:c.D5 s.heap it i)(hs:c.src s.heap xs)(hx:xs[i]? =some x)
  (hQ:∀u h' tk,RelV x u->c.D5 h' it (i+1)->Heap.SameBut it s.heap h'->Q u { s with heap:=h',toks:=tk }) :
  wpAny (model prog w) A (Builtin.SmallTypes.nextOf (.ref it)) Q E s:=by
 cases c with
 |lst a =>
  obtain⟨its,r,p⟩:=hs
  obtain⟨u,hu,ru⟩:=r.get hx
  exact wpAny_nextOf_list_item hit p (x:=u) (by simpa using hu) λh' q sb=>hQ u h' s.toks ru q sb
 |tup a =>
  obtain⟨its,r,p⟩:=hs
  obtain⟨u,hu,ru⟩:=r.get hx
  exact sZ hit p (x:=u) (by simpa using hu) λh' q sb=>hQ u h' s.toks ru q sb
 |txt x' =>
  obtain⟨t,q⟩:=hit
  rw[show xs=eX x' from hs]at hx
  obtain⟨k,hk,rfl⟩:=signs_get hx
  unfold strIterType at q
  by_cases ha:(x'.cps.all (·<128))=true
  ·rw[if_pos ha]at q
   exact wpAny_nextOf_ascii_item q hk λh' q' sb=>hQ _ h' _ ⟨_,rfl⟩ ⟨t,by unfold strIterType;rw[if_pos ha];exact q'⟩ sb
  ·rw[if_neg ha]at q
   exact wpAny_nextOf_wide_item q hk λh' q' sb=>hQ _ h' _ ⟨_,rfl⟩ ⟨t,by unfold strIterType;rw[if_neg ha];exact q'⟩ sb
theorem Cp.fin{it:Addr}{i:Nat}{Q:Value->Shared->Prop}(hh:A.handled=none)(hit:c.D5 s.heap it i)(hs:c.src s.heap xs)(hx:xs[i]? =none)
  (hE:∀h' e,Heap.ExtBut it s.heap h'->(∃o,h'.get? e=some o/\o.cls= .type "StopIteration")->E (.ref e) { s with heap:=h' }) :
  wpAny (model prog w) A (Builtin.SmallTypes.nextOf (.ref it)) Q E s:=by
 cases c with
 |lst a =>
  obtain⟨its,r,p⟩:=hs
  exact wpAny_nextOf_list_end hh hit p (by simpa using r.none_of hx) hE
 |tup a =>
  obtain⟨its,r,p⟩:=hs
  exact uC hh hit p (by simpa using r.none_of hx) hE
 |txt x' =>
  obtain⟨t,q⟩:=hit
  rw[show xs=eX x' from hs]at hx
  have hk:=GY hx
  unfold strIterType at q
  by_cases ha:(x'.cps.all (·<128))=true
  ·rw[if_pos ha]at q
   exact wpAny_nextOf_ascii_end hh q hk hE
  ·rw[if_neg ha]at q
   exact wpAny_nextOf_wide_end hh q hk hE
structure xX(z TI TO i1 i2:Addr):Prop where
 TIz:TI≠z
 TOz:TO≠z
 i1z:i1≠z
 i2z:i2≠z
 TITO:TI≠TO
 TIi1:TI≠i1
 TIi2:TI≠i2
 TOi1:TO≠i1
 TOi2:TO≠i2
 i12:i1≠i2
structure GH(h:Heap)(z TI TO i1 i2:Addr)(c d:Cp)(f0:Value)(i:Nat):Prop where
 zz:IsZip h z TI TO f0
 ti:IsPair h TI (.ref i1) (.ref i2)
 to:∃a b,IsPair h TO a b
 h1:c.D5 h i1 i
 h2:d.D5 h i2 i
 c1:c.off TO
 c2:d.off TO
theorem Ir{z TI TO i1 i2:Addr}{i:Nat}{x y:V}{Q:Option Value->Shared->Prop}(D:xX z TI TO i1 i2)(Z:GH s.heap z TI TO i1 i2 c d .none i)
  (sc:c.src s.heap xs) (sd:d.src s.heap ys) (hx:xs[i]? =some x) (hy:ys[i]? =some y)
  (hQ:∀u v h' tk,RelV x u->RelV y v->GH h' z TI TO i1 i2 c d (rawInt s.heap.objs.size) (i+1)->IsPair h' s.heap.objs.size u v →
   (∀b o,b≠z->b≠TO->b≠i1->b≠i2->s.heap.get? b=some o->h'.get? b=some o)->Q (some (.ref s.heap.objs.size)) { s with heap:=h',toks:=tk }) :
  wpAny (model prog w) A (pyNext (.ref z)) Q E s:=by
 obtain⟨hz,hTI,⟨a,b,hTO⟩,h1,h2,c1,c2⟩:=id Z
 have hT:s.TypeIs (.ref z) "zip" :=⟨_,hz,rfl⟩
 obtain⟨W7,T1,_,hi1,T7,_,R5,M8⟩:=Cp.j9 h1
 obtain⟨Zl,T2,_,hi2,ci2,_,n21,n22⟩:=Cp.j9 h2
 have cz:c.off z:=Cp.nZ sc hz rfl (by decide) (by decide)
 have dz:d.off z:=Cp.nZ sd hz rfl (by decide) (by decide)
 have ci:c.off i1:=Cp.nZ sc hi1 T7 R5 M8
 have di:d.off i1:=Cp.nZ sd hi1 T7 R5 M8
 unfold pyNext
 refine wpAny_bind (wpAny_attempt (wpAny_callSpecial?_slot (name:=Str.ofString "__next__") hT F.slot_zip_next
  (wpAny_call_entry F.slot_zip_next hT F.entry_zip_next ?_ (F.args_zip_next_1 _))))
 show wpAny _ _ (field (.ref z) 2 >>= _) _ _ _
 refine wpAny_bind (wpAny_field hz rfl (x:=.bool false) rfl ?_)
 show wpAny _ _ (field (.ref z) 3 >>= _) _ _ _
 refine wpAny_bind (wpAny_field hz rfl (x:=.ref TI) rfl ?_)
 refine wpAny_bind (wpAny_seqItems hTI rfl ?_)
 show wpAny _ _ (Builtin.SmallTypes.ownedTupleIsFree (.ref z) >>= _) _ _ _
 refine wpAny_bind ?_
 unfold Builtin.SmallTypes.ownedTupleIsFree
 refine wpAny_bind (wpAny_field hz rfl (x:=.none) rfl (wpAny_pure ?_))
 simp only[if_true]
 refine wpAny_bind (wpAny_rule ?_)
 refine wpAny_bind (wpAny_field hz rfl (x:=.ref TO) rfl ?_)
 refine wpAny_bind (wpAny_setField_rec hz (by simp) λh₁ vg hs₁=>?_)
 replace vg:IsZip h₁ z TI TO .ellipsis:=vg
 refine wpAny_bind ?_
 simp only[List.zipIdx_cons,List.zipIdx_nil,List.forIn_cons,List.forIn_nil]
 refine wpAny_bind (wpAny_bind (wpAny_onRaise ?_))
 show wpAny _ _ (Builtin.SmallTypes.nextOf (.ref i1) >>= _) _ _ _
 refine wpAny_bind (Cp.item (c:=c) (Cp.jm h1 λo e=>hs₁.extBut _ _ D.i1z e) (Cp.kQ sc hs₁.extBut cz) hx λu h₂ tk₂ ru Np hs₂=>wpAny_pure ?_)
 have xN:IsPair h₂ TO a b:=hs₂.extBut _ _ D.TOi1 (hs₁.extBut _ _ D.TOz hTO)
 refine wpAny_bind (wpAny_seqItems xN rfl ?_)
 refine wpAny_bind (wpAny_updateSeq_pair xN λh₃ A7 nQ=>?_)
 replace A7:IsPair h₃ TO u b:=A7
 refine wpAny_bind (wpAny_letGo (wpAny_pure ?_))
 refine wpAny_bind (wpAny_bind (wpAny_onRaise ?_))
 show wpAny _ _ (Builtin.SmallTypes.nextOf (.ref i2) >>= _) _ _ _
 refine wpAny_bind (Cp.item (c:=d) (Cp.jm h2 λo e=>nQ.extBut _ _ D.TOi2.symm (hs₂.extBut _ _ D.i12.symm (hs₁.extBut _ _ D.i2z e))) (Cp.kQ (Cp.kQ (Cp.kQ sd hs₁.extBut dz) hs₂.extBut di) nQ.extBut c2) hy λv h₄ tk₄ rv TN vj=>wpAny_pure ?_)
 have Ke:IsPair h₄ TO u b:=vj.extBut _ _ D.TOi2 A7
 refine wpAny_bind (wpAny_seqItems Ke rfl ?_)
 refine wpAny_bind (wpAny_updateSeq_pair Ke λh₅ A6 vh=>?_)
 replace A6:IsPair h₅ TO u v:=A6
 refine wpAny_bind (wpAny_letGo (wpAny_pure (wpAny_pure ?_)))
 refine wpAny_bind (wpAny_seqItems A6 rfl ?_)
 refine wpAny_bind (wpAny_newTuple ?_)
 have hsz:h₅.objs.size=s.heap.objs.size:=by rw[vh.1,vj.1,nQ.1,hs₂.1,hs₁.1]
 have Nd:IsZip h₅ z TI TO .ellipsis:=vh.extBut _ _ D.TOz.symm (vj.extBut _ _ D.i2z.symm (nQ.extBut _ _ D.TOz.symm (hs₂.extBut _ _ D.i1z.symm vg)))
 have Nl:∀e o,e≠z->e≠TO->e≠i1->e≠i2->s.heap.get? e=some o->h₅.get? e=some o:=λe o e1 e2 e3 e4 q =>
  vh.extBut _ _ e2 (vj.extBut _ _ e4 (nQ.extBut _ _ e2 (hs₂.extBut _ _ e3 (hs₁.extBut _ _ e1 q))))
 have TQ:c.D5 h₅ i1 (i+1):=Cp.jm Np λo e=>vh.extBut _ _ D.TOi1.symm (vj.extBut _ _ D.i12 (nQ.extBut _ _ D.TOi1.symm e))
 have TM:d.D5 h₅ i2 (i+1):=Cp.jm TN λo e=>vh.extBut _ _ D.TOi2.symm e
 have SY:z<h₅.objs.size:=Heap.lt_size Nd
 show wpAny _ _ (Builtin.SmallTypes.ownedTupleHandOut (.ref z) (.ref h₅.objs.size) >>= _) _ _ _
 refine wpAny_bind ?_
 unfold Builtin.SmallTypes.ownedTupleHandOut
 have SX:IsZip (h₅.push { cls:=.type "tuple",data:=.seq #[u,v] }) z TI TO .ellipsis:=Heap.get?_push_of_some _ Nd
 refine wpAny_bind (wpAny_setField_rec SX (by simp) λXD JU Nj=>?_)
 replace JU:IsZip XD z TI TO (rawInt h₅.objs.size):=JU
 refine wpAny_setField_rec JU (by simp) λMn Gq Ni=>?_
 replace Gq:IsZip Mn z TI TO (rawInt h₅.objs.size):=Gq
 have up:∀e o,e≠z->h₅.get? e=some o->Mn.get? e=some o:=λe o e1 q=>Ni.extBut _ _ e1 (Nj.extBut _ _ e1 (Heap.get?_push_of_some _ q))
 have Nn:IsPair Mn h₅.objs.size u v:=Ni.extBut _ _ (Nat.ne_of_gt SY) (Nj.extBut _ _ (Nat.ne_of_gt SY) (Heap.get?_push_size _ rfl))
 rw[hsz]at Gq Nn
 refine wpAny_pure ⟨_,rfl,wpAny_pure ?_⟩
 show Q (some (.ref h₅.objs.size)) _
 rw[hsz]
 exact hQ u v Mn _ ru rv ⟨Gq,up _ _ D.TIz (Nl _ _ D.TIz D.TITO D.TIi1 D.TIi2 hTI),⟨_,_,up _ _ D.TOz A6⟩,Cp.jm TQ λo e=>up _ o D.i1z e,Cp.jm TM λo e=>up _ o D.i2z e,c1,c2⟩ Nn
  λe o e1 e2 e3 e4 q=>up e o e1 (Nl e o e1 e2 e3 e4 q)
theorem Lg{z TI TO i1 i2:Addr}{i:Nat}{Q:Option Value->Shared->Prop}(hh:A.handled=none)(D:xX z TI TO i1 i2)(Z:GH s.heap z TI TO i1 i2 c d .none i)
  (sc:c.src s.heap xs) (sd:d.src s.heap ys) (hend:xs[i]? =none\/ys[i]? =none)
  (hQ:∀h' tk,(∀b o,b≠z->b≠TO->b≠i1->b≠i2->s.heap.get? b=some o->h'.get? b=some o)->Q none { s with heap:=h',toks:=tk }) :
  wpAny (model prog w) A (pyNext (.ref z)) Q E s:=by
 obtain⟨hz,hTI,⟨a,b,hTO⟩,h1,h2,c1,c2⟩:=id Z
 have hT:s.TypeIs (.ref z) "zip" :=⟨_,hz,rfl⟩
 obtain⟨W7,T1,_,hi1,T7,_,R5,M8⟩:=Cp.j9 h1
 have cz:c.off z:=Cp.nZ sc hz rfl (by decide) (by decide)
 have dz:d.off z:=Cp.nZ sd hz rfl (by decide) (by decide)
 have ci:c.off i1:=Cp.nZ sc hi1 T7 R5 M8
 have di:d.off i1:=Cp.nZ sd hi1 T7 R5 M8
 have stop:∀(h':Heap) (e:Addr) (tk:Nat),(∃o,h'.get? e=some o/\o.cls= .type "StopIteration")->(∀b o,b≠z->b≠TO->b≠i1->b≠i2->s.heap.get? b=some o->h'.get? b=some o) →
   wpAny (model prog w) A (isInstance (.ref e) (.type "StopIteration") >>= λb=>if b=true then pure (none:Option Value)else throw (.ref e)) Q E { s with heap:=h',toks:=tk }:=by
  intro h' e tk he hk
  obtain⟨o,ho,hc⟩:=he
  refine wpAny_bind (wpAny_isInstance (T:= "StopIteration") (b:=true) ⟨o,ho,hc⟩ isSubtype_stop ?_)
  exact wpAny_pure (hQ _ _ hk)
 unfold pyNext
 refine wpAny_bind (wpAny_attempt (wpAny_callSpecial?_slot (name:=Str.ofString "__next__") hT F.slot_zip_next
  (wpAny_call_entry F.slot_zip_next hT F.entry_zip_next ?_ (F.args_zip_next_1 _))))
 show wpAny _ _ (field (.ref z) 2 >>= _) _ _ _
 refine wpAny_bind (wpAny_field hz rfl (x:=.bool false) rfl ?_)
 show wpAny _ _ (field (.ref z) 3 >>= _) _ _ _
 refine wpAny_bind (wpAny_field hz rfl (x:=.ref TI) rfl ?_)
 refine wpAny_bind (wpAny_seqItems hTI rfl ?_)
 show wpAny _ _ (Builtin.SmallTypes.ownedTupleIsFree (.ref z) >>= _) _ _ _
 refine wpAny_bind ?_
 unfold Builtin.SmallTypes.ownedTupleIsFree
 refine wpAny_bind (wpAny_field hz rfl (x:=.none) rfl (wpAny_pure ?_))
 simp only[if_true]
 refine wpAny_bind (wpAny_rule ?_)
 refine wpAny_bind (wpAny_field hz rfl (x:=.ref TO) rfl ?_)
 refine wpAny_bind (wpAny_setField_rec hz (by simp) λh₁ vg hs₁=>?_)
 replace vg:IsZip h₁ z TI TO .ellipsis:=vg
 refine wpAny_bind ?_
 simp only[List.zipIdx_cons,List.zipIdx_nil,List.forIn_cons,List.forIn_nil]
 refine wpAny_bind (wpAny_bind (wpAny_onRaise ?_))
 show wpAny _ _ (Builtin.SmallTypes.nextOf (.ref i1) >>= _) _ _ _
 cases hx:xs[i]? with
 |none =>
  refine wpAny_bind (Cp.fin (c:=c) hh (Cp.jm h1 λo e=>hs₁.extBut _ _ D.i1z e) (Cp.kQ sc hs₁.extBut cz) hx λh₂ e hs₂ he=>?_)
  obtain⟨oe,Qn,hce⟩:=he
  have Ng:IsZip h₂ z TI TO .ellipsis:=hs₂ _ _ D.i1z.symm vg
  have Yg:e≠z:=λx=>by subst x;rw[Ng]at Qn;cases Qn;simp at hce
  refine wpAny_setField_rec Ng (by simp) λh₃ _ nQ=>?_
  exact stop h₃ e _ ⟨oe,nQ.extBut _ _ Yg Qn,hce⟩ λk o c1 _ c3 _ x=>nQ.extBut _ _ c1 (hs₂ _ _ c3 (hs₁.extBut _ _ c1 x))
 |some x =>
  have hy:ys[i]? =none:=by rcases hend with h|h;rw[hx]at h;cases h;exact h
  refine wpAny_bind (Cp.item (c:=c) (Cp.jm h1 λo e=>hs₁.extBut _ _ D.i1z e) (Cp.kQ sc hs₁.extBut cz) hx λu h₂ tk₂ ru Np hs₂=>wpAny_pure ?_)
  have xN:IsPair h₂ TO a b:=hs₂.extBut _ _ D.TOi1 (hs₁.extBut _ _ D.TOz hTO)
  refine wpAny_bind (wpAny_seqItems xN rfl ?_)
  refine wpAny_bind (wpAny_updateSeq_pair xN λh₃ A7 nQ=>?_)
  refine wpAny_bind (wpAny_letGo (wpAny_pure ?_))
  refine wpAny_bind (wpAny_bind (wpAny_onRaise ?_))
  show wpAny _ _ (Builtin.SmallTypes.nextOf (.ref i2) >>= _) _ _ _
  refine wpAny_bind (Cp.fin (c:=d) hh (Cp.jm h2 λo e=>nQ.extBut _ _ D.TOi2.symm (hs₂.extBut _ _ D.i12.symm (hs₁.extBut _ _ D.i2z e))) (Cp.kQ (Cp.kQ (Cp.kQ sd hs₁.extBut dz) hs₂.extBut di) nQ.extBut c2) hy λh₄ e vj he=>?_)
  obtain⟨oe,Qn,hce⟩:=he
  have Nf:IsZip h₄ z TI TO .ellipsis:=vj _ _ D.i2z.symm (nQ.extBut _ _ D.TOz.symm (hs₂.extBut _ _ D.i1z.symm vg))
  have Yg:e≠z:=λx=>by subst x;rw[Nf]at Qn;cases Qn;simp at hce
  refine wpAny_setField_rec Nf (by simp) λh₅ _ vh=>?_
  exact stop h₅ e _ ⟨oe,vh.extBut _ _ Yg Qn,hce⟩ λk o c1 c2 c3 c4 x=>vh.extBut _ _ c1 (vj _ _ c4 (nQ.extBut _ _ c2 (hs₂.extBut _ _ c3 (hs₁.extBut _ _ c1 x))))
def Cp.dJ(t:Tok):Cp->Obj
 | .lst a=>{ cls:=.type "list_iterator",data:=.fields #[.ref a,.int 0 0] }
 | .tup a=>{ cls:=.type "tuple_iterator",data:=.fields #[.ref a,.int 0 0] }
 | .txt x=>{ cls:=.type (strIterType x),data:=.fields #[.str x t,.int 0 0] }
def Cp.value(t:Tok):Cp->Value
 | .lst a=>.ref a
 | .tup a=>.ref a
 | .txt x=>.str x t
theorem Cp.value_of{u:Value}(r:RelV c.val u):∃t,u=c.value t:=by
 cases c with
 |lst a=>exact⟨0,r⟩
 |tup a=>exact⟨0,r⟩
 |txt x=>exact r
theorem Cp.iter{t:Tok}{Q:Value->Shared->Prop}(hs:c.src s.heap xs)(hQ:Q (.ref s.heap.objs.size) { s with heap:=s.heap.push (c.dJ t) }):wpAny (model prog w) A (pyIter (c.value t)) Q E s:=by
 cases c with
 |lst a=>obtain⟨its,_,p⟩:=hs;exact wpAny_pyIter_list p hQ
 |tup a=>obtain⟨its,_,p⟩:=hs;exact wpAny_pyIter_tuple p hQ
 |txt x=>exact wpAny_pyIter_strU hQ
theorem Cp.Gm{t:Tok}{h:Heap}{it:Addr}(e:h.get? it=some (c.dJ t)):c.D5 h it 0:=by
 cases c with
 |lst a=>exact⟨_,e,rfl,rfl⟩
 |tup a=>exact⟨_,e,rfl,rfl⟩
 |txt x=>exact⟨t,_,e,rfl,rfl⟩
abbrev UA(h:Heap)(o1:Obj):Heap:=h.push o1
abbrev Uz(h:Heap)(o1 o2:Obj):Heap:=(UA h o1).push o2
abbrev Uy(h:Heap)(o1 o2:Obj):Heap:=(Uz h o1 o2).push { cls:=.type "tuple",data:=.seq #[.ref h.objs.size,.ref (UA h o1).objs.size] }
abbrev Ux(h:Heap)(o1 o2:Obj):Heap:=(Uy h o1 o2).push { cls:=.type "tuple",data:=.seq #[.none,.none] }
abbrev QS(h:Heap)(o1 o2:Obj):Heap:=(Ux h o1 o2).push { cls:=.type "zip",data:=.fields #[.none,.bool false,.bool false,.ref (Uz h o1 o2).objs.size,.ref (Uy h o1 o2).objs.size] }
theorem Hr(c d:Cp)(t1 t2:Tok)(xs ys:List V):
  Meets (Builtin.«zip.__new__» ⟨[.type "zip",c.value t1,d.value t2],[]⟩) (λ_ R s=>c.src s.heap xs/\d.src s.heap ys ∧
   R (.ok (.ret (.ref (Ux s.heap (c.dJ t1) (d.dJ t2)).objs.size))) { s with heap:=QS s.heap (c.dJ t1) (d.dJ t2) }) :=
 .of_wp λprog w A R s h=>by
  obtain⟨hp,g,dd,tk,os⟩:=s;obtain⟨hl1,hl2,h⟩:=h
  have hsub:=sub_zip
  have Yx:c.src (Shared.heap ⟨hp,g,dd,tk,os⟩) xs:=hl1
  have Yw:d.src (Shared.heap ⟨hp.push (c.dJ t1),g,dd,tk,os⟩) ys:=Cp.IQ hl2 λb o e=>Heap.get?_push_of_some _ e
  wp_walk using Cp.iter (t:=t1) Yx,Cp.iter (t:=t2) Yw
  exact⟨_,rfl,h⟩
theorem HL{t1 t2:Tok}{Q:Value->Shared->Prop}(sc:c.src s.heap xs)(sd:d.src s.heap ys)
  (h:∀h',IsZip h' (s.heap.objs.size+4) (s.heap.objs.size+2) (s.heap.objs.size+3) .none->IsPair h' (s.heap.objs.size+2) (.ref s.heap.objs.size) (.ref (s.heap.objs.size+1)) →
   IsPair h' (s.heap.objs.size+3) .none .none->c.D5 h' s.heap.objs.size 0->d.D5 h' (s.heap.objs.size+1) 0->(∀b o,s.heap.get? b=some o->h'.get? b=some o)->Q (.ref (s.heap.objs.size+4)) { s with heap:=h' }) :
  wpAny (model prog w) A (call (.type "zip") [c.value t1,d.value t2]) Q E s:=by
 refine callType_new F.called_zip (by decide) (F.typeCall_zip_2 _ _) (F.newCall_zip_2 _ _) (λobj=>F.args_object_init_3 obj _ _) F.entry_zip_new
  (Hr c d t1 t2 xs ys) ⟨sc,sd,?_⟩
 have z1:(UA s.heap (c.dJ t1)).objs.size=s.heap.objs.size+1:=Heap.size_push ..
 have z2:(Uz s.heap (c.dJ t1) (d.dJ t2)).objs.size=s.heap.objs.size+2:=by rw[Heap.size_push,z1]
 have z3:(Uy s.heap (c.dJ t1) (d.dJ t2)).objs.size=s.heap.objs.size+3:=by rw[Heap.size_push,z2]
 have z4:(Ux s.heap (c.dJ t1) (d.dJ t2)).objs.size=s.heap.objs.size+4:=by rw[Heap.size_push,z3]
 have it1:(c.dJ t1).isFreed=false:=by cases c<;>rfl
 have it2:(d.dJ t2).isFreed=false:=by cases d<;>rfl
 have g5:(QS s.heap (c.dJ t1) (d.dJ t2)).get? (Ux s.heap (c.dJ t1) (d.dJ t2)).objs.size=some _:=Heap.get?_push_size _ rfl
 have g4:(QS s.heap (c.dJ t1) (d.dJ t2)).get? (Uy s.heap (c.dJ t1) (d.dJ t2)).objs.size=some _:=Heap.get?_push_of_some _ (Heap.get?_push_size _ rfl)
 have g3:(QS s.heap (c.dJ t1) (d.dJ t2)).get? (Uz s.heap (c.dJ t1) (d.dJ t2)).objs.size=some _:=Heap.get?_push_of_some _ (Heap.get?_push_of_some _ (Heap.get?_push_size _ rfl))
 have g2:(QS s.heap (c.dJ t1) (d.dJ t2)).get? (UA s.heap (c.dJ t1)).objs.size=some _:=Heap.get?_push_of_some _ (Heap.get?_push_of_some _ (Heap.get?_push_of_some _ (Heap.get?_push_size _ it2)))
 have g1:(QS s.heap (c.dJ t1) (d.dJ t2)).get? s.heap.objs.size=some _:=Heap.get?_push_of_some _ (Heap.get?_push_of_some _ (Heap.get?_push_of_some _ (Heap.get?_push_of_some _ (Heap.get?_push_size _ it1))))
 show _/\_
 rw[z2,z3,z4]at g5
 rw[z1,z2]at g3
 rw[z3]at g4
 rw[z1]at g2
 rw[z4]
 exact⟨⟨_,g5,rfl⟩,h _ g5 g3 g4 (Cp.Gm g1) (Cp.Gm g2) λb o x =>
  Heap.get?_push_of_some _ (Heap.get?_push_of_some _ (Heap.get?_push_of_some _ (Heap.get?_push_of_some _ (Heap.get?_push_of_some _ x))))⟩
end
section
variable{X:Cx}{pins:List (Addr×Obj)}{σ:St}{H:Hp}{s:Shared}
theorem Inv.moved{h':Heap}{t':Nat}{ch:List Addr}(I:Inv X pins σ H s)(k:∀b o,b∉ch->s.heap.get? b=some o->h'.get? b=some o)(hf:∀b∈ch,pO X pins H b)(ht:s.toks<=t':=by first|exact Nat.le_refl _|exact Nat.le_succ _|assumption|omega):Inv X pins σ H { s with heap:=h',toks:=t' }:=by
 have M7:∀b u,H b=some u->b∉ch:=λb u e z=>by rw[(hf b z).1]at e;cases e
 refine I.step (g':=s.gens) (d':=s.drawn) (ch:=ch) (λb hb=>?_) (λb o _ _ hc e _=>k b o hc e) (λb o _ _ hc e _=>⟨o.slots,k b o hc e⟩) (λ_ _ _ _ n=>n)
  (λb o hc e=>⟨o,k b o hc e⟩) (λ_ _ e=>e) (λ_ _ _ e=>e) (λb ps e=>⟨#[],by rw[e];simp⟩) (λm hm=>?_) (λb u e=>?_) I.bare (Nat.le_trans I.up ht)
 ·obtain⟨_,h1,_,h3,h4,h5⟩:=hf b hb
  exact⟨h3,h1,h4,h5⟩
 ·obtain⟨o,es,ep,ho,r⟩:=hm
  exact⟨o,es,ep,k _ o (λz=>(hf _ z).2.1 rfl) ho,r⟩
 ·refine(I.hok b u e).stay (λc v hc q=>k c v ?_ q) (λ_ q=>q) λ_ _ q=>q
  rcases hc with z|z
  ·rw[z];exact M7 b u e
  ·exact M7 c _ z
theorem Inv.MQ{a:Addr}{o:HO}(I:Inv X pins σ H s)(hf:pO X pins H a)(new:bI X.prog X.w (upd H a o) s.heap a o):Inv X pins σ (upd H a o) s:=by
 have hn:=hf.1
 have e:s={ s with heap:=s.heap,gens:=s.gens,drawn:=s.drawn,toks:=s.toks }:=rfl
 rw[e]
 refine I.step (ch:=[a]) (λb hb=>?_) (λ_ _ _ _ _ e _=>e) (λ_ o _ _ _ e _=>⟨o.slots,e⟩) (λb _ hc _ n=>?_)
  (λ_ o _ e=>⟨o,e⟩) (λb _ e=>?_) (λb _ _ e=>?_) (λb ps e=>⟨#[],?_⟩) (λ_ hm=>hm) (λb u q=>?_) I.bare I.up
 ·have eb:b=a:=by simpa using hb
  subst eb
  obtain⟨_,h1,_,h3,h4,h5⟩:=hf
  exact⟨h3,h1,h4,h5⟩
 ·rw[aq (λz=>hc (by simp[z]))];exact n
 ·rw[aq (aM e hn)];exact e
 ·rw[aq (aM e hn)];exact e
 ·rw[aq (aM e hn),e];simp
 ·by_cases hb:b=a
  ·subst hb;rw[ah]at q;cases q;exact new
  ·rw[aq hb]at q
   exact(I.hok b u q).stay (λc v _ r=>r) (λc r=>by rw[aq (aM r hn)];exact r) λc xs r=>by rw[aq (aM r hn)];exact r
def Uk(K:PySem.W.Frag)(c d:Cp):It :=
 ⟨λi H=>∃xs ys x y,c.at K H xs/\d.at K H ys/\xs[i]? =some x/\ys[i]? =some y,
  λi H v H'=>∃p x y,v= .ref p/\H p=none/\H'=upd H p (.tup [x,y])/\∀xs ys,c.at K H xs->d.at K H ys->xs[i]? =some x/\ys[i]? =some y,
  λi H=>∃xs ys,c.at K H xs/\d.at K H ys/\(xs.length<=i\/ys.length<=i)⟩
theorem IF{P:Program}{w:World}{K:PySem.W.Frag}{elts:List Expr}{k:Nat}{pos:Pos}{c d:Cp}{z TI TO i1 i2:Addr}(D:xX z TI TO i1 i2):
  Turn P w K (.Tuple elts k pos) (Uk K c d) [z,TI,TO,i1,i2] z (λi h=>GH h z TI TO i1 i2 c d .none i) where
 mem:=by simp
 obj:=λi h Z b hb=>by
  obtain⟨hz,hTI,⟨a,b',hTO⟩,h1,h2,_,_⟩:=Z
  obtain⟨W7,T1,v1,hi1,_,d1,_⟩:=Cp.j9 h1
  obtain⟨Zl,T2,v2,hi2,_,d2,_⟩:=Cp.j9 h2
  simp only[List.mem_cons,List.not_mem_nil,or_false]at hb
  rcases hb with rfl|rfl|rfl|rfl|rfl
  ·exact⟨_,hz,λv q=>by cases q⟩
  ·exact⟨_,hTI,λv q=>by cases q⟩
  ·exact⟨_,hTO,λv q=>by cases q⟩
  ·exact⟨_,hi1,λv q=>by rw[d1]at q;cases q⟩
  ·exact⟨_,hi2,λv q=>by rw[d2]at q;cases q⟩
 keep:=λi h h' Z kp=>by
  obtain⟨hz,hTI,⟨a,b',hTO⟩,h1,h2,o1,o2⟩:=Z
  exact⟨kp z (by simp) _ hz,kp TI (by simp) _ hTI,⟨a,b',kp TO (by simp) _ hTO⟩,Cp.jm h1 λo e=>kp i1 (by simp) o e,Cp.jm h2 λo e=>kp i2 (by simp) o e,o1,o2⟩
 item:=by
  intro X hP hw hK hc i pins s σ H E I hf Z hg
  subst hP hw hK
  obtain⟨xs,ys,x,y,hx,hy,ex,ey⟩:=hg
  have sc:=Cp.oN I hx
  have sd:=Cp.oN I hy
  refine TK.bY (Nat.le_refl s.toks) (Ir D Z sc sd ex ey λu v h' tk ru rv Z' hp kk hup=>⟨_,rfl,?_⟩)
  refine wpAny_letOwnedTupleGo_zip Z'.zz λh'' XG sb=>?_
  have hnz:s.heap.objs.size≠z:=Nat.ne_of_gt (Heap.lt_size Z.zz)
  have k2:∀b o,b∉[z,TI,TO,i1,i2]->s.heap.get? b=some o->h''.get? b=some o:=λb o hb e=>by
   simp only[List.mem_cons,List.not_mem_nil,or_false,not_or]at hb
   exact sb.extBut _ _ hb.1 (kk b o hb.1 hb.2.2.1 hb.2.2.2.1 hb.2.2.2.2 e)
  have I1:Inv X pins σ H { s with heap:=h'',toks:=tk }:=I.moved k2 hf
  have hn:H s.heap.objs.size=none:=I.fresh
  have YF:pO X pins H s.heap.objs.size:=I.uM (Nat.le_refl _) hn
  have hp2:IsPair h'' s.heap.objs.size u v:=sb.extBut _ _ hnz hp
  have I2:Inv X pins σ (upd H s.heap.objs.size (.tup [x,y])) { s with heap:=h'',toks:=tk } :=
   I1.MQ YF ⟨by show 2<=sizeLine;decide,[u,v],.cons ru (.cons rv .nil),⟨_,hp2,rfl,_,rfl⟩⟩
  refine⟨.ref s.heap.objs.size,_,I2,rfl,⟨_,x,y,rfl,hn,rfl,λxs' ys' hx' hy'=>?_⟩,?_,λb hb=>?_⟩
  ·rw[Cp.Fj I hx' hx,Cp.Fj I hy' hy];exact⟨ex,ey⟩
  ·obtain⟨_,hTI,⟨a,b',hTO⟩,h1,h2,o1,o2⟩:=Z'
   exact⟨XG,sb.extBut _ _ D.TIz hTI,⟨a,b',sb.extBut _ _ D.TOz hTO⟩,Cp.jm h1 λo e=>sb.extBut _ _ D.i1z e,Cp.jm h2 λo e=>sb.extBut _ _ D.i2z e,o1,o2⟩
  ·have lt:b<s.heap.objs.size:=by
    obtain⟨hz,hTI,⟨a,b',hTO⟩,h1,h2,_,_⟩:=Z
    obtain⟨W7,T1,v1,hi1,_,d1,_⟩:=Cp.j9 h1
    obtain⟨Zl,T2,v2,hi2,_,d2,_⟩:=Cp.j9 h2
    simp only[List.mem_cons,List.not_mem_nil,or_false]at hb
    rcases hb with rfl|rfl|rfl|rfl|rfl
    ·exact Heap.lt_size hz
    ·exact Heap.lt_size hTI
    ·exact Heap.lt_size hTO
    ·exact Heap.lt_size hi1
    ·exact Heap.lt_size hi2
   rw[aq (Nat.ne_of_lt lt)]
   exact(hf b hb).1
 done:=by
  intro X hP hw hK hc i pins s σ H E I hf Z hg
  subst hP hw hK
  obtain⟨xs,ys,hx,hy,he⟩:=hg
  refine TK.bY (Nat.le_refl s.toks) (Lg (I.ok.hd hc) D Z (Cp.oN I hx) (Cp.oN I hy) (he.imp (λq=>List.getElem?_eq_none q) λq=>List.getElem?_eq_none q) λh' tk kk hup=>⟨rfl,?_⟩)
  exact I.moved (λb o hb e=>by
   simp only[List.mem_cons,List.not_mem_nil,or_false,not_or]at hb
   exact kk b o hb.1 hb.2.2.1 hb.2.2.2.1 hb.2.2.2.2 e) hf
 self:=λ_ _ _ _ _ Z h=>wpAny_pyIter_zip Z.zz h
theorem D8(n:Nat):xX (n+4) (n+2) (n+3) n (n+1):=by
 have ne:∀{a b:Nat},a<b->a≠b:=λh=>Nat.ne_of_lt h
 exact⟨ne (by omega),ne (by omega),ne (by omega),ne (by omega),ne (by omega),(ne (by omega)).symm,(ne (by omega)).symm,(ne (by omega)).symm,(ne (by omega)).symm,ne (by omega)⟩
def Xy(K:PySem.W.Frag)(ta:TA):TI:=λσ H R=>ta σ H λvs H1=>∃c d xs ys,vs=[c.val,d.val]/\c.at K H1 xs/\d.at K H1 ys/\R (Uk K c d) H1
theorem EB {a b:Expr} {ta:TA} {p pos:Pos} {elts:List Expr} {k:Nat} {tpos:Pos} (hc:X.calm=true) (hg:Gl X "zip") (hm:X.mg "zip" =none) (ha:PA X [a,b] ta)
  (hs:starEach [a,b] X.env=[(false,eval a X.env),(false,eval b X.env)]:=by rfl) (hs2:starEach [b] X.env=[(false,eval b X.env)]:=by rfl) :
  PI X (.Tuple elts k tpos) (.Call (.Name "zip" p) [a,b] [] pos) (Xy X.K ta):=by
 intro pins s σ H R I h
 refine Call_ (ql I hg hm boot_zip (PyProof.Rows.callWith_type1 (dI (ha pos pins s σ H _ I h) λus s1 ⟨vs,H1,I1,r1,q1⟩=>?_) (by rw[hs,hs2]) (by rw[hs2];rfl)))
 obtain⟨c,d,xs,ys,e,hx,hy,q⟩:=q1
 subst e
 obtain⟨u,v,rfl,ru,rv⟩:=vals2 r1
 obtain⟨t1,rfl⟩:=Cp.value_of ru
 obtain⟨t2,rfl⟩:=Cp.value_of rv
 have sc:=Cp.oN I1 hx
 have sd:=Cp.oN I1 hy
 refine HL sc sd λh' hz hTI hTO h1 h2 kk=>wpAny_pyIter_zip hz ?_
 have D:xX (s1.heap.objs.size+4) (s1.heap.objs.size+2) (s1.heap.objs.size+3) s1.heap.objs.size (s1.heap.objs.size+1) :=
  D8 _
 refine⟨_,[s1.heap.objs.size+4,s1.heap.objs.size+2,s1.heap.objs.size+3,s1.heap.objs.size,s1.heap.objs.size+1],_,_,H1,rfl,I1.kept (t':=s1.toks) kk,IF D,
  ⟨hz,hTI,⟨_,_,hTO⟩,h1,h2,Cp.Gg sc (Nat.le_add_right _ 3),Cp.Gg sd (Nat.le_add_right _ 3)⟩,λb hb=>?_,q⟩
 have le:s1.heap.objs.size<=b:=by
  simp only[List.mem_cons,List.not_mem_nil,or_false]at hb
  rcases hb with rfl|rfl|rfl|rfl|rfl
  ·exact Nat.le_add_right _ _
  ·exact Nat.le_add_right _ _
  ·exact Nat.le_add_right _ _
  ·exact Nat.le_refl _
  ·exact Nat.le_add_right _ _
 exact I1.uM le (I1.hok.fresh le)
end
end L2
namespace L2
open PySem PySem.Spec PyProof.Rows
def Its(x:Str):It:=⟨λi _=>i<x.cps.size,λi H v H'=>H'=H/\∃k,x.cps[i]? =some k/\v= .str ⟨#[k]⟩,λi _=>x.cps.size<=i⟩
section
variable{prog:Program}{w:World}{A:Around}{E:Value->Shared->Prop}{s:Shared}
theorem pI{it:Addr}{x:Str}{t:Tok}{i k:Nat}{Q:Option Value->Shared->Prop}(hit:s.heap.IsStrIter it (strIterType x) x t i)(hx:x.cps[i]? =some k)
  (hQ:∀h',h'.IsStrIter it (strIterType x) x t (i+1)->Heap.SameBut it s.heap h'->Q (some (.str ⟨#[k]⟩ s.toks)) { s with heap:=h',toks:=s.toks+1 }):wpAny (model prog w) A (pyNext (.ref it)) Q E s:=by
 unfold strIterType at hit hQ
 by_cases ha:(x.cps.all (·<128))=true
 ·rw[if_pos ha]at hit hQ
  exact wpAny_pyNext_ascii_item hit hx hQ
 ·rw[if_neg ha]at hit hQ
  exact wpAny_pyNext_wide_item hit hx hQ
theorem pY{it:Addr}{x:Str}{t:Tok}{i:Nat}{Q:Option Value->Shared->Prop}(hh:A.handled=none)(hit:s.heap.IsStrIter it (strIterType x) x t i)(hx:x.cps[i]? =none)
  (hQ:∀h',Heap.ExtBut it s.heap h'->Q none { s with heap:=h' }):wpAny (model prog w) A (pyNext (.ref it)) Q E s:=by
 unfold strIterType at hit
 by_cases ha:(x.cps.all (·<128))=true
 ·rw[if_pos ha]at hit
  exact wpAny_pyNext_ascii_end hh hit hx hQ
 ·rw[if_neg ha]at hit
  exact wpAny_pyNext_wide_end hh hit hx hQ
theorem pZ{it:Addr}{x:Str}{t:Tok}{i:Nat}{Q:Value->Shared->Prop}(hit:s.heap.IsStrIter it (strIterType x) x t i)(h:Q (.ref it) s):wpAny (model prog w) A (pyIter (.ref it)) Q E s:=by
 unfold strIterType at hit
 by_cases ha:(x.cps.all (·<128))=true
 ·rw[if_pos ha]at hit
  exact wpAny_pyIter_striter_ascii hit h
 ·rw[if_neg ha]at hit
  exact wpAny_pyIter_striter_wide hit h
end
theorem ue(x:Str):["enumerate","zip","dict_itemiterator","dict_reverseitemiterator","odict_iterator","itertools.zip_longest","itertools.pairwise"].contains (strIterType x)=false:=by
 unfold strIterType
 split<;>decide
theorem B6{P:Program}{w:World}{K:PySem.W.Frag}{tg:Expr}(x:Str)(t:Tok)(it:Addr):Turn P w K tg (Its x) [it] it (λi h=>h.IsStrIter it (strIterType x) x t i) where
 mem:=by simp
 obj:=λi h st b hb=>by
  have e:b=it:=by simpa using hb
  subst e
  obtain⟨o,e,c,d⟩:=st
  exact⟨o,e,λv z=>by rw[d]at z;cases z⟩
 keep:=λi h h' st k=>by
  obtain⟨o,e,r⟩:=st
  exact⟨o,k it (by simp) o e,r⟩
 item:=by
  intro X hP hw hK hc i pins s σ H E I hf st hg
  subst hP hw hK
  have hi:i<x.cps.size:=hg
  obtain⟨f0,f1,f2,f3,f4,f5⟩:=hf it (by simp)
  refine pI st (k:=x.cps[i]) (by simp[hi]) λh' st' sb=>?_
  have I1:Inv X pins σ H { s with heap:=h',toks:=s.toks+1 }:=I.turned (λb o hb e=>(sb.2 b hb).trans e) f0 f1 f3 f4 f5
  obtain⟨o,e,c,d⟩:=id st'
  exact⟨_,rfl,zZ (s:={ s with heap:=h',toks:=s.toks+1 }) e c d (ue x) ⟨.str ⟨#[x.cps[i]]⟩,H,I1,⟨_,rfl⟩,⟨rfl,_,by simp[hi],rfl⟩,st',λb hb=>(hf b hb).1⟩⟩
 done:=by
  intro X hP hw hK hc i pins s σ H E I hf st hg
  subst hP hw hK
  have hi:x.cps.size<=i:=hg
  obtain⟨f0,f1,f2,f3,f4,f5⟩:=hf it (by simp)
  exact pY (I.ok.hd hc) st (by simp[hi]) λh' eb=>⟨rfl,I.turned (t':=s.toks) (λb o hb e=>eb b o hb e) f0 f1 f3 f4 f5⟩
 self:=λ_ _ _ _ _ st h=>pZ st h
section
variable{X:Cx}{tg:Expr}
def Xz(tl:TE):TI:=λσ H R=>tl σ H λv H1=>∃x,v= .str x/\R (Its x) H1
theorem Jk{l:Expr}{tl:TE}(hl:PE X l tl):PI X tg l (Xz tl):=by
 intro pins s σ H R I h
 refine dI (hl pins s σ H _ I h) λv s1 ⟨y,H1,I1,r1,q1⟩=>?_
 obtain⟨x,e,q⟩:=q1
 subst e
 obtain⟨t,rfl⟩:=r1
 refine wpAny_pyIter_strU ?_
 refine⟨s1.heap.objs.size,[s1.heap.objs.size],_,_,H1,rfl,I1.kept (t':=s1.toks) λb o e=>Heap.get?_push_of_some _ e,B6 x t _,⟨_,Heap.get?_push_size _ rfl,rfl,rfl⟩,λb hb=>?_,q⟩
 have e:b=s1.heap.objs.size:=by simpa using hb
 subst e
 exact I1.uM (Nat.le_refl _) (I1.hok.fresh (Nat.le_refl _))
theorem Gw{K:PySem.W.Frag}{c d:Cp}{xs ys:List V}{g:TG}{tb:TS}{D:Ends}{σ:St}{H:Hp}(Pv:Nat->St->Hp->Prop)(h0:Pv 0 σ H)(hl:∀i σ H,i<=min xs.length ys.length->Pv i σ H->c.at K H xs/\d.at K H ys)
  (hs:∀i x y p σ H,xs[i]? =some x->ys[i]? =some y->H p=none->Pv i σ H->g (.ref p) σ (upd H p (.tup [x,y])) λσ2 H2=>tb { D with nx:=Pv (i+1),ct:=Pv (i+1),bk:=D.nx } σ2 H2)
  (hd:∀ σ H,Pv (min xs.length ys.length) σ H->D.nx σ H) :
  ∃W:Nat->Nat->St->Hp->Prop,(∃m,W 0 m σ H)/\∀i m σ H,W i m σ H →
   ((Uk K c d).stop i H/\D.nx σ H)\/((Uk K c d).go i H/\∃N:St->Hp->Prop,(∀ σ' H',N σ' H'->∃m',m'<m/\W (i+1) m' σ' H')/\∀y H',(Uk K c d).zA i H y H'->g y σ H' λσ2 H2=>tb { D with nx:=N,ct:=N,bk:=D.nx } σ2 H2):=by
 refine⟨λi m σ H=>m=min xs.length ys.length-i/\i<=min xs.length ys.length/\Pv i σ H,⟨min xs.length ys.length,by simp,Nat.zero_le _,h0⟩,?_⟩
 rintro i m σ H ⟨rfl,hi,p⟩
 obtain⟨zx,zy⟩:=hl i σ H hi p
 by_cases hlt:i<min xs.length ys.length
 ·have h1:i<xs.length:=by omega
  have h2:i<ys.length:=by omega
  refine .inr ⟨⟨xs,ys,xs[i],ys[i],zx,zy,by simp[h1],by simp[h2]⟩,Pv (i+1),λσ' H' p'=>⟨min xs.length ys.length-(i+1),by omega,rfl,hlt,p'⟩,λv H' q=>?_⟩
  obtain⟨a,x,y,rfl,ha,rfl,e⟩:=q
  obtain⟨e1,e2⟩:=e xs ys zx zy
  exact hs i x y a σ H e1 e2 ha p
 ·have e:i=min xs.length ys.length:=by omega
  subst e
  refine .inl ⟨⟨xs,ys,zx,zy,?_⟩,hd σ H p⟩
  rcases Nat.le_total xs.length ys.length with q|q
  ·exact .inl (by rw[Nat.min_eq_left q];exact Nat.le_refl _)
  ·exact .inr (by rw[Nat.min_eq_right q];exact Nat.le_refl _)
end
end L2
namespace L2
open PySem PySem.Spec PyProof.Rows
def Cp.adr:Cp->List Addr
 | .lst a=>[a]
 | .tup a=>[a]
 | .txt _=>[]
theorem Cp.LQ{c:Cp}{b:Addr}(h:c.off b):b∉c.adr:=by
 cases c with
 |lst a =>
  intro z
  have q:b=a:=by simpa[Cp.adr]using z
  exact h q.symm
 |tup a =>
  intro z
  have q:b=a:=by simpa[Cp.adr]using z
  exact h q.symm
 |txt x=>intro z;cases z
theorem Cp.Ly{c:Cp}{xs:List V}{h h':Heap}(hs:c.src h xs)(k:∀b∈c.adr,∀o,h.get? b=some o->h'.get? b=some o):c.src h' xs:=by
 cases c with
 |lst a=>obtain⟨its,r,o,ho,q⟩:=hs;exact⟨its,r,o,k a (by simp[Cp.adr]) _ ho,q⟩
 |tup a=>obtain⟨its,r,o,ho,q⟩:=hs;exact⟨its,r,o,k a (by simp[Cp.adr]) _ ho,q⟩
 |txt x=>exact hs
theorem Cp.draws{prog:Program}{w:World}{A:Around}{c:Cp}{xs:List V}(hh:A.handled=none)(it:Addr):
  Draws prog w A it (it::c.adr) xs.length (λi v=>∃x,xs[i]? =some x/\RelV x v) (λi h=>c.D5 h it i/\c.src h xs) where
 live:=λi h st=>by
  obtain⟨o,_,_,ho,_⟩:=Cp.j9 st.1
  exact⟨o,ho⟩
 frame:=λi h h' st k=>⟨Cp.jm st.1 λo e=>k it (by simp) o e,Cp.Ly st.2 λb hb o e=>k b (List.mem_cons_of_mem _ hb) o e⟩
 item:=λi s Q E hi st hQ=>by
  obtain⟨o,T,_,ho,hc,_,n1,n2⟩:=Cp.j9 st.1
  have off:c.off it:=Cp.nZ st.2 ho hc n1 n2
  refine Cp.item st.1 st.2 (x:=xs[i]) (by simp[hi]) λu h' tk ru q sb=>?_
  exact hQ u h' tk ⟨_,by simp[hi],ru⟩ ⟨q,Cp.kQ st.2 sb.extBut off⟩ sb
 done:=λs Q E st hE=>Cp.fin hh st.1 st.2 (by simp) hE
def Uo(K:PySem.W.Frag)(c:Cp):It :=
 ⟨λi H=>∃xs x,c.at K H xs/\xs[i]? =some x,
  λi H v H'=>∃p x,v= .ref p/\H p=none/\H'=upd H p (.tup [.int (i:Int),x])/\∀xs,c.at K H xs->xs[i]? =some x,
  λi H=>∃xs,c.at K H xs/\xs.length<=i⟩
theorem GV{P:Program}{w:World}{K:PySem.W.Frag}{elts:List Expr}{k:Nat}{pos:Pos}{c:Cp}{e it:Addr}(hei:e≠it):
  Turn P w K (.Tuple elts k pos) (Uo K c) [e,it] e (λi h=>(∃old,IsEnum h e it i old)/\c.D5 h it i) where
 mem:=by simp
 obj:=λi h Z b hb=>by
  obtain⟨⟨old,he⟩,hi⟩:=Z
  obtain⟨o,_,vs,ho,_,d,_⟩:=Cp.j9 hi
  simp only[List.mem_cons,List.not_mem_nil,or_false]at hb
  rcases hb with rfl|rfl
  ·exact⟨_,he,λv q=>by cases q⟩
  ·exact⟨_,ho,λv q=>by rw[d]at q;cases q⟩
 keep:=λi h h' Z kp=>by
  obtain⟨⟨old,he⟩,hi⟩:=Z
  exact⟨⟨old,kp e (by simp) _ he⟩,Cp.jm hi λo q=>kp it (by simp) o q⟩
 item:=by
  intro X hP hw hK hc i pins s σ H E I hf Z hg
  subst hP hw hK
  obtain⟨xs,x,hx,ex⟩:=hg
  obtain⟨⟨old,he⟩,hi⟩:=id Z
  have sc:=Cp.oN I hx
  have W8:c.off e:=Cp.nZ sc he rfl (by decide) (by decide)
  have hlt:i<xs.length:=(List.getElem?_eq_some_iff.mp ex).1
  have hh:X.A.in1.handled=none:=I.ok.hd hc
  refine TK.bY (Nat.le_refl s.toks) (wpAny_pyNext_enum_itemD (Cp.draws (c:=c) (xs:=xs) hh it) he ⟨hi,sc⟩ hlt hei (λz=>?_) λu h' tk hP ho st' hT hsz kk hup=>⟨_,rfl,?_⟩)
  ·rcases List.mem_cons.mp z with q|q
   ·exact hei q
   ·exact Cp.LQ W8 q
  ·obtain⟨x',ex',ru⟩:=hP
   rw[ex]at ex'
   cases ex'
   refine wpAny_letOwnedTupleGo_enum ho λh'' Yi sb=>?_
   have hne:s.heap.objs.size≠e:=Nat.ne_of_gt (Heap.lt_size he)
   have k2:∀b o,b∉[e,it]->s.heap.get? b=some o->h''.get? b=some o:=λb o hb q=>by
    simp only[List.mem_cons,List.not_mem_nil,or_false,not_or]at hb
    exact sb.extBut _ _ hb.1 (kk b o hb.1 hb.2 q)
   have I1:Inv X pins σ H { s with heap:=h'',toks:=tk+1 }:=I.moved k2 hf (by have z:s.toks<=tk+1:=hup;exact z)
   have hn:H s.heap.objs.size=none:=I.fresh
   have YF:pO X pins H s.heap.objs.size:=I.uM (Nat.le_refl _) hn
   have hp2:h''.get? s.heap.objs.size=some { cls:=.type "tuple",data:=.seq #[.int i tk,u] }:=sb.extBut _ _ hne hT
   have I2:Inv X pins σ (upd H s.heap.objs.size (.tup [.int (i:Int),x])) { s with heap:=h'',toks:=tk+1 } :=
    I1.MQ YF ⟨by show 2<=sizeLine;decide,[.int i tk,u],.cons ⟨_,rfl⟩ (.cons ru .nil),⟨_,hp2,rfl,_,rfl⟩⟩
   refine⟨.ref s.heap.objs.size,_,I2,rfl,⟨_,x,rfl,hn,rfl,λxs' hx'=>?_⟩,⟨⟨_,Yi⟩,Cp.jm st'.1 λo q=>sb.extBut _ _ (Ne.symm hei) q⟩,λb hb=>?_⟩
   ·rw[Cp.Fj I hx' hx];exact ex
   ·obtain⟨o,_,vs,hoi,_⟩:=Cp.j9 hi
    have lt:b<s.heap.objs.size:=by
     have hb':=hb
     simp only[List.mem_cons,List.not_mem_nil,or_false]at hb'
     rcases hb' with rfl|rfl
     ·exact Heap.lt_size he
     ·exact Heap.lt_size hoi
    rw[aq (Nat.ne_of_lt lt)]
    exact(hf b hb).1
 done:=by
  intro X hP hw hK hc i pins s σ H E I hf Z hg
  subst hP hw hK
  obtain⟨xs,hx,hle⟩:=hg
  obtain⟨⟨old,he⟩,hi⟩:=Z
  have hh:X.A.in1.handled=none:=I.ok.hd hc
  have hT:s.TypeIs (.ref e) "enumerate" :=⟨_,he,rfl⟩
  unfold pyNext
  refine wpAny_bind (wpAny_attempt (wpAny_callSpecial?_slot (name:=Str.ofString "__next__") hT F.slot_enumerate_next
   (wpAny_call_entry F.slot_enumerate_next hT F.entry_enumerate_next ?_ (F.args_enumerate_next_1 _))))
  show wpAny _ _ (field (.ref e) 2 >>= _) _ _ _
  refine wpAny_bind (wpAny_field he rfl (x:=.ref it) rfl ?_)
  refine wpAny_bind (Cp.fin hh hi (Cp.oN I hx) (List.getElem?_eq_none hle) λh' y eb hy=>?_)
  obtain⟨o,ho,hcl⟩:=hy
  refine wpAny_bind (wpAny_isInstance (T:= "StopIteration") (b:=true) ⟨o,ho,hcl⟩ isSubtype_stop ?_)
  refine wpAny_pure ⟨rfl,I.moved (t':=s.toks) (ch:=[e,it]) (λb o hb q=>eb b o ?_ q) hf⟩
  simp only[List.mem_cons,List.not_mem_nil,or_false,not_or]at hb
  exact hb.2
 self:=λ_ _ _ _ _ Z h=>by
  obtain⟨⟨old,he⟩,_⟩:=Z
  exact wpAny_pyIter_enum he h
section
variable{prog:Program}{w:World}{A:Around}{E:Value->Shared->Prop}{s:Shared}
set_option maxHeartbeats 1000000 in
theorem xE(l:Addr)(items:Array Value)(n:Nat)(dct:Option Addr)(sl:Array (Option Value)):
  Meets (Builtin.«enumerate.__new__» ⟨[.type "enumerate",.ref l],[]⟩) (λ_ R s=>s.heap.get? l=some { cls:=.type "tuple",dict:=dct,data:=.seq items n,slots:=sl } ∧
   R (.ok (.ret (.ref (s.heap.push { cls:=.type "tuple_iterator",data:=.fields #[.ref l,.int 0 0] }).objs.size)))
    { s with heap:=(s.heap.push { cls:=.type "tuple_iterator",data:=.fields #[.ref l,.int 0 0] }).push { cls:=.type "enumerate",data:=.fields #[.none,.bool false,.ref s.heap.objs.size,rawInt 0,.none,.none] } }) :=
 .of_wp λprog w A R s h=>by
  obtain⟨hp,g,d,tk,os⟩:=s;obtain⟨hl,h⟩:=h
  have hsub:=sub_enumerate
  have hL:Heap.IsTuple (Shared.heap ⟨hp,g,d,tk,os⟩) l items:=⟨_,hl,rfl,n,rfl⟩
  wp_walk using AutoSeq1.wpAny_loadPart' hl
  refine wpAny_stack_any λst=>wpAny_pure ?_
  split
  ·rename_i c _ _ _ _ _
   cases (c==Value.type "enumerate")
   ·wp_walk using AutoSeq1.wpAny_loadPart' hl,wpAny_pyIter_tuple hL
    exact⟨_,rfl,h⟩
   ·wp_walk using AutoSeq1.wpAny_loadPart' hl,wpAny_pyIter_tuple hL
    exact⟨_,rfl,h⟩
  ·wp_walk using AutoSeq1.wpAny_loadPart' hl,wpAny_pyIter_tuple hL
   exact⟨_,rfl,h⟩
theorem yS{l:Addr}{items:Array Value}{Q:Value->Shared->Prop}(hL:s.heap.IsTuple l items)
  (h:∀h',IsEnum h' (s.heap.objs.size+1) s.heap.objs.size 0 .none->h'.IsTupleIter s.heap.objs.size l 0 →
   (∀b o,s.heap.get? b=some o->h'.get? b=some o)->Q (.ref (s.heap.objs.size+1)) { s with heap:=h' }) :
  wpAny (model prog w) A (call (.type "enumerate") [.ref l]) Q E s:=by
 obtain⟨⟨c,dct,dt,sl⟩,hl,hc,n,hd⟩:=hL
 replace hc:c= .type "tuple" :=hc
 replace hd:dt= .seq items n:=hd
 subst hc hd
 refine callType_new F.called_enumerate (by decide) (F.typeCall_enumerate_1 _) (F.newCall_enumerate_1 _) (λobj=>F.args_object_init_2 obj _) F.entry_enumerate_new
  (xE l items n dct sl) ⟨hl,?_⟩
 have hz:(s.heap.push { cls:=.type "tuple_iterator",data:=.fields #[.ref l,.int 0 0] }).objs.size=s.heap.objs.size+1:=Heap.size_push ..
 show _/\_
 rw[hz]
 have he:IsEnum ((s.heap.push { cls:=.type "tuple_iterator",data:=.fields #[.ref l,.int 0 0] }).push
   { cls:=.type "enumerate",data:=.fields #[.none,.bool false,.ref s.heap.objs.size,rawInt 0,.none,.none] }) (s.heap.objs.size+1) s.heap.objs.size 0 .none:=by
  have:=Heap.get?_push_size (s.heap.push { cls:=.type "tuple_iterator",data:=.fields #[.ref l,.int 0 0] })
   (o:={ cls:=.type "enumerate",data:=.fields #[.none,.bool false,.ref s.heap.objs.size,rawInt 0,.none,.none] }) rfl
  rw[hz]at this;exact this
 exact⟨⟨_,he,rfl⟩,h _ he ⟨_,Heap.get?_push_of_some _ (Heap.get?_push_size _ rfl),rfl,rfl⟩ λb o x=>Heap.get?_push_of_some _ (Heap.get?_push_of_some _ x)⟩
theorem Fi{c:Cp}{xs:List V}{t:Tok}{Q:Value->Shared->Prop}(sc:c.src s.heap xs)
  (h:∀h',IsEnum h' (s.heap.objs.size+1) s.heap.objs.size 0 .none->c.D5 h' s.heap.objs.size 0->(∀b o,s.heap.get? b=some o->h'.get? b=some o)->Q (.ref (s.heap.objs.size+1)) { s with heap:=h' }) :
  wpAny (model prog w) A (call (.type "enumerate") [c.value t]) Q E s:=by
 cases c with
 |lst a=>obtain⟨its,_,p⟩:=sc;exact call_enumerate_list p λh' a b _ k=>h h' a b k
 |tup a=>obtain⟨its,_,p⟩:=sc;exact yS p λh' a b k=>h h' a b k
 |txt x=>exact call_enumerate_str λh' a b _ k=>h h' a ⟨t,b⟩ k
end
section
variable{X:Cx}
def SW(K:PySem.W.Frag)(ta:TA):TI:=λσ H R=>ta σ H λvs H1=>∃c xs,vs=[c.val]/\c.at K H1 xs/\R (Uo K c) H1
theorem F7 {a:Expr} {ta:TA} {p pos:Pos} {elts:List Expr} {k:Nat} {tpos:Pos} (hg:Gl X "enumerate") (hm:X.mg "enumerate" =none) (ha:PA X [a] ta)
  (hs:starEach [a] X.env=[(false,eval a X.env)]:=by rfl):PI X (.Tuple elts k tpos) (.Call (.Name "enumerate" p) [a] [] pos) (SW X.K ta):=by
 intro pins s σ H R I h
 refine Call_ (ql I hg hm boot_enumerate (PyProof.Rows.callWith_type1 (dI (ha pos pins s σ H _ I h) λus s1 ⟨vs,H1,I1,r1,q1⟩=>?_) hs rfl))
 obtain⟨c,xs,e,hx,q⟩:=q1
 subst e
 obtain⟨u,rfl,ru⟩:=vals1 r1
 obtain⟨t,rfl⟩:=Cp.value_of ru
 have sc:=Cp.oN I1 hx
 refine Fi sc λh' he hi kk=>wpAny_pyIter_enum he ?_
 have hei:s1.heap.objs.size+1≠s1.heap.objs.size:=Nat.ne_of_gt (Nat.lt_succ_self _)
 refine⟨_,[s1.heap.objs.size+1,s1.heap.objs.size],_,_,H1,rfl,I1.kept (t':=s1.toks) kk,GV hei,⟨⟨_,he⟩,hi⟩,λb hb=>?_,q⟩
 have le:s1.heap.objs.size<=b:=by
  simp only[List.mem_cons,List.not_mem_nil,or_false]at hb
  rcases hb with rfl|rfl
  ·exact Nat.le_add_right _ _
  ·exact Nat.le_refl _
 exact I1.uM le (I1.hok.fresh le)
theorem Ds{K:PySem.W.Frag}{c:Cp}{xs:List V}{g:TG}{tb:TS}{D:Ends}{σ:St}{H:Hp}(Pv:Nat->St->Hp->Prop)(h0:Pv 0 σ H)(hl:∀i σ H,i<=xs.length->Pv i σ H->c.at K H xs)
  (hs:∀(i:Nat) x p σ H,xs[i]? =some x->H p=none->Pv i σ H->g (.ref p) σ (upd H p (.tup [.int (i:Int),x])) λσ2 H2=>tb { D with nx:=Pv (i+1),ct:=Pv (i+1),bk:=D.nx } σ2 H2)
  (hd:∀ σ H,Pv xs.length σ H->D.nx σ H) :
  ∃W:Nat->Nat->St->Hp->Prop,(∃m,W 0 m σ H)/\∀i m σ H,W i m σ H →
   ((Uo K c).stop i H/\D.nx σ H)\/((Uo K c).go i H/\∃N:St->Hp->Prop,(∀ σ' H',N σ' H'->∃m',m'<m/\W (i+1) m' σ' H')/\∀y H',(Uo K c).zA i H y H'->g y σ H' λσ2 H2=>tb { D with nx:=N,ct:=N,bk:=D.nx } σ2 H2):=by
 refine⟨λi m σ H=>m=xs.length-i/\i<=xs.length/\Pv i σ H,⟨xs.length,by simp,Nat.zero_le _,h0⟩,?_⟩
 rintro i m σ H ⟨rfl,hi,p⟩
 have zx:=hl i σ H hi p
 by_cases hlt:i<xs.length
 ·refine .inr ⟨⟨xs,xs[i],zx,by simp[hlt]⟩,Pv (i+1),λσ' H' p'=>⟨xs.length-(i+1),by omega,rfl,hlt,p'⟩,λv H' q=>?_⟩
  obtain⟨a,x,rfl,ha,rfl,e⟩:=q
  exact hs i x a σ H (e xs zx) ha p
 ·have e:i=xs.length:=by omega
  subst e
  exact .inl ⟨⟨xs,zx,Nat.le_refl _⟩,hd σ H p⟩
end
end L2
namespace L2
open PySem PySem.Spec PyProof.Rows
set_option maxRecDepth 100000
def met(val:Nat->Str)(i:Nat):List Str:=((List.range i).map val).foldl step_dedup []
theorem xD(val:Nat->Str):met val 0=[]:=rfl
theorem qh(val:Nat->Str)(i:Nat):met val (i+1)=step_dedup (met val i) (val i):=by
 unfold met;rw[List.range_succ,List.map_append,List.foldl_append];rfl
theorem rm(val:Nat->Str):∀i,(met val i).length<=i
 | 0=>by rw[xD];exact Nat.le_refl _
 |i+1=>by
  rw[qh]
  have ih:=rm val i
  unfold step_dedup
  split
  ·omega
  ·rw[List.length_append,List.length_singleton];omega
theorem tE(σ:List Str)(v k:Str):(step_dedup σ v).any (·==k)=(σ.any (·==k)||decide (k=v)):=by
 unfold step_dedup
 by_cases h:σ.any (·==v)=true
 ·rw[if_pos h]
  by_cases e:k=v
  ·subst e;rw[h];simp
  ·simp[e]
 ·rw[if_neg h,List.any_append]
  by_cases e:k=v
  ·subst e;simp
  ·have hb:(v==k)=false:=by simpa[beq_iff_eq]using(λh':v=k=>e h'.symm)
   simp[hb,e]
theorem pJ(σ:List Str)(v:Str):(step_dedup σ v).length=if σ.any (·==v)then σ.length else σ.length+1:=by
 unfold step_dedup;split<;>simp
section
variable{prog:Program}{w:World}{A:Around}{R:Result->Shared->Prop}{I:Addr}{fp wr:List Addr}{G:Array GenState->Array GenState->Prop}{n:Nat}{P:Nat->Value->Prop}{St:Nat->Shared->Prop}
theorem Av(W:WalksS prog w A.in1 I fp wr G n P St)(S:Addr)(hSf:S∉fp)(val:Nat->Str)(hval:∀i v,P i v->∃t,v= .str (val i) t)(hb:n+1<scanBound):
  ∀(k i:Nat) (s:Shared),n-i=k->i<=n->St i s->s.heap.SetOf (strKind prog w) S (λk'=>(met val i).any (·==k')) (met val i).length →
   (∀s',Moved (S::wr) G s s'->s'.heap.SetOf (strKind prog w) S (λk'=>(met val n).any (·==k')) (met val n).length->R (.ok (.ret .none)) s') →
   codeAny (model prog w) A (.builtin "set.update.loop" ⟨[.ref S,.ref I],[]⟩) R s:=by
 have ZY:S∉wr:=λh=>hSf (W.sub _ h)
 have hsub:∀b∈wr,b∈S::wr:=λb hb=>List.mem_cons_of_mem _ hb
 intro k
 induction k with
 |zero =>
  intro i s hk hi hst hS hR
  have hin:i=n:=by omega
  subst hin
  refine codeAny_builtin PyProof.Rows.F.entry_set_update_loop ?_
  rw[Around.under_plainId PyProof.Rows.F.plain_set_update_loop _]
  show wpAny _ A.in1 (pyNext (.ref I) >>= _) _ _ s
  refine wpAny_bind (W.done s _ _ hst λs' hm=>?_)
  show wpAny _ A.in1 (ret Value.none) _ _ s'
  exact wpAny_pure (hR s' (hm.mono hsub) (by
   obtain⟨o,es,ep,t,ho,rest⟩:=hS
   exact⟨o,es,ep,t,hm.heap S _ ZY ho,rest⟩))
 |succ k ih =>
  intro i s hk hi hst hS hR
  have hlt:i<n:=by omega
  refine codeAny_builtin PyProof.Rows.F.entry_set_update_loop ?_
  rw[Around.under_plainId PyProof.Rows.F.plain_set_update_loop _]
  show wpAny _ A.in1 (pyNext (.ref I) >>= _) _ _ s
  refine wpAny_bind (W.item i s _ _ hlt hst λv s' hP XR hm=>?_)
  obtain⟨t,rfl⟩:=hval i v hP
  have hS':s'.heap.SetOf (strKind prog w) S (λk'=>(met val i).any (·==k')) (met val i).length:=by
   obtain⟨o,es,ep,tb,ho,rest⟩:=hS
   exact⟨o,es,ep,tb,hm.heap S _ ZY ho,rest⟩
  show wpAny _ A.in1 (holding [Value.str (val i) t] (setAdd S (.str (val i) t)) >>= _) _ _ s'
  refine wpAny_bind (wpAny_holding ?_)
  unfold setAdd
  refine wpAny_holding ?_
  refine wpAny_bind ((strKind prog w).pyHash (k:=val i) (strKind_is _ _ _ _) ?_)
  have hroom:(met val i).length+1<scanBound:=by have:=rm val i;omega
  refine wpAny_setAddHashed_of (knd:=strKind prog w) (s:={ s' with toks:=s'.toks+1 }) (strKind_is _ _ _ _) rfl hS' hroom λh' S5 Yp=>?_
  have hSi:h'.SetOf (strKind prog w) S (λk'=>(met val (i+1)).any (·==k')) (met val (i+1)).length :=
   SetOf_congr Yp (λk'=>by rw[qh,tE]) (by rw[qh,pJ])
  refine wpAny_pure ⟨plainId_quiet PyProof.Rows.F.plain_set_update_loop _,ih (i+1) _ (by omega) hlt (W.frame _ s' _ _ XR (Nat.le_succ _) λb hb o e=>?_) hSi λs'' X5 Yq=>?_⟩
  ·rw[S5.2 b (λh:b=S=>hSf (by rw[←h];exact hb))];exact e
  ·refine hR s'' (Moved.trans W.gtrans ((hm.mono hsub).then_heap (Nat.le_succ _) λb o hb e=>?_) X5) Yq
   rw[S5.2 b (λh:b=S=>hb (by rw[h];exact List.mem_cons_self))];exact e
end
def lW(x:Str)(i:Nat):Str:=⟨#[x.cps.getD i 0]⟩
theorem GS{prog:Program}{w:World}{A:Around}(hh:A.handled=none)(I:Addr)(x:Str)(t:Tok):
  Walks prog w A I [I] [I] x.cps.size (λi v=>∃u,v= .str (lW x i) u) (λi h=>h.IsStrIter I (strIterType x) x t i) where
 sub:=λ_ hb=>hb
 frame:=λ_ _ _ st hk=>let ⟨o,ho,r⟩:=st;⟨o,hk I (by simp) o ho,r⟩
 item:=λi s Q E hi st hQ=>by
  refine pI st (k:=x.cps.getD i 0) (by simp[hi]) λh' HA hs'=>?_
  exact hQ _ h' (s.toks+1) ⟨_,rfl⟩ HA λb o hb e=>hs'.extBut b o (λh=>hb (by simp[h])) e
 done:=λs Q E st hQ=>pY hh st (by simp) λh' he'=>hQ h' s.toks λb o hb e=>he' b o (λh=>hb (by simp[h])) e
 self:=λ_ _ _ _ st hQ=>pZ st hQ
theorem Aq:isSubtype (.type "str") (.type "set")=pure false:=by rw[isSubtype_type];kernel_rfl
theorem rN:isSubtype (.type "str") (.type "frozenset")=pure false:=by rw[isSubtype_type];kernel_rfl
section
variable{prog:Program}{w:World}{A:Around}{E:Value->Shared->Prop}{s:Shared}
set_option maxHeartbeats 3200000 in
theorem Bj{x:Str}{t:Tok}{Q:Value->Shared->Prop}(hh:A.handled=none)(hb:x.cps.size+1<scanBound)
  (h:∀(h':Heap) (tk:Nat),h'.SetOf (strKind prog w) s.heap.objs.size (λk'=>(met (lW x) x.cps.size).any (·==k')) (met (lW x) x.cps.size).length →
   (∀b o,b<s.heap.objs.size->s.heap.get? b=some o->h'.get? b=some o)->Q (.ref s.heap.objs.size) { s with heap:=h',toks:=tk }) :
  wpAny (model prog w) A (call (.type "set") [.str x t]) Q E s:=by
 obtain⟨c,tl,abn⟩:=F.called_set.mro
 have hmade:=F.called_set.made
 have hsub:=F.called_set.sub
 refine wpAny_call (codeAny_of_tree ?_)
 show wpAny _ _ (callAny (.type "set") _) _ _ _
 refine wpAny_pure ⟨Code.quiet_builtin _ (by decide +kernel),codeAny_builtin F.entry_type_call ?_⟩
 rw[Around.under_plain (weight_type_call_type "set" [.str x t] []) rfl]
 have h1:=F.called_set.notType
 have h2:=F.called_set.canCreate
 have hct:=F.typeCall_set_1 (.str x t)
 repeat (any_goals (first|assumption|wp_step))
 refine codeAny_mono (code_set_new_1 (.str x t) (E:=E) (Q₁:=λobj s₁=>∃led:Bool,obj= .ref s.heap.objs.size/\s₁={ s with heap:=s.heap.push { cls:=.type "set",dict:=none,data:=.set #[] 0 (.fresh 0 0 led) } }) λled=>⟨led,rfl,rfl⟩) λr s₁ hr=>?_
 cases r with
 |error e=>exact hr
 |ok fl =>
  cases fl with
  |ret obj =>
   obtain⟨led,rfl,rfl⟩:=hr
   have hS:(s.heap.push { cls:=.type "set",dict:=none,data:=.set #[] 0 (.fresh 0 0 led) }).get? s.heap.objs.size=some { cls:=.type "set",dict:=none,data:=.set #[] 0 (.fresh 0 0 led) }:=Heap.get?_push_size _ rfl
   have hT:Shared.TypeIs { s with heap:=s.heap.push { cls:=.type "set",dict:=none,data:=.set #[] 0 (.fresh 0 0 led) } } (.ref s.heap.objs.size) "set" :=⟨_,hS,rfl⟩
   have hli:=F.called_set.init.lookup
   have hbi:=F.called_set.init.bind (.ref s.heap.objs.size)
   repeat (any_goals (first|assumption|wp_step))
   refine codeAny_mono (codeAny_call_builtin (R:=wants (λr s₂=>r= .none/\∃h' tk,s₂={ s with heap:=h',toks:=tk } ∧
     h'.SetOf (strKind prog w) s.heap.objs.size (λk'=>(met (lW x) x.cps.size).any (·==k')) (met (lW x) x.cps.size).length ∧
     (∀b o,b<s.heap.objs.size->s.heap.get? b=some o->h'.get? b=some o)) E) F.called_set.init.plain F.entry_set_init (check_set_init_1 hT ?_)) λr₂ s₂ JX=>?_
   ·have abe:=Aq
    have abf:=rN
    have hne:(Value.type "str" ==Value.type "dict")=false:=by decide
    unfold Builtin.«set.__init__» noKeywords Builtin.Frozenset.updateFrom
    generalize hPI:pyIter=PI
    wp_walk
    subst hPI
    refine wpAny_pyIter_strU ?_
    refine wpAny_bind (wpAny_runValue ?_)
    have hh3:A.in1.in1.in1.handled=none:=by simp[hh]
    have hSf:s.heap.objs.size∉[(s.heap.push { cls:=.type "set",dict:=none,data:=.set #[] 0 (.fresh 0 0 led) }).objs.size]:=by
     rw[Heap.size_push];simp only[List.mem_singleton]
     exact Nat.ne_of_lt (Nat.lt_succ_self _)
    refine Av ((GS hh3 _ x t).toS) s.heap.objs.size hSf (lW x) (λi v hv=>hv) hb (x.cps.size-0) 0 _ (by omega) (Nat.zero_le _)
     ⟨_,Heap.get?_push_size _ rfl,rfl,rfl⟩ ?hS0 ?hR
    case hS0 =>
     have hget:((s.heap.push { cls:=.type "set",dict:=none,data:=.set #[] 0 (.fresh 0 0 led) }).push { cls:=.type (strIterType x),data:=.fields #[.str x t,.int 0 0] }).get? s.heap.objs.size
       = some { cls:=.type "set",dict:=none,data:=.set #[] 0 (.fresh 0 0 led) }:=Heap.get?_push_of_some _ hS
     exact SetOf_congr ((setObjOf_fresh (knd:=strKind prog w) led).setOf hget (by unfold scanBound;omega)) (λ_=>rfl) rfl
    case hR =>
     intro s' hm hS'
     obtain⟨h',g',d',tk',os'⟩:=s'
     have eg:g'=s.gens:=hm.gens
     have ed:d'=s.drawn:=hm.drawn
     have eo:os'=s.os:=hm.os
     subst eg;subst ed;subst eo
     show wpAny _ _ _ _ _ _
     refine wpAny_pure ?_
     show wpAny _ _ (ret Value.none) _ _ _
     refine wpAny_pure ⟨rfl,h',tk',rfl,hS',λb o hb e=>?_⟩
     have hb1:b≠s.heap.objs.size:=Nat.ne_of_lt hb
     have hb2:b≠(s.heap.push { cls:=.type "set",dict:=none,data:=.set #[] 0 (.fresh 0 0 led) }).objs.size:=by
      rw[Heap.size_push];exact Nat.ne_of_lt (Nat.lt_succ_of_lt hb)
     exact hm.heap b o (by simp only[List.mem_cons,List.mem_singleton,List.not_mem_nil,or_false,not_or];exact⟨hb1,hb2⟩) (Heap.get?_push_of_some _ (Heap.get?_push_of_some _ e))
   ·cases r₂ with
    |error e=>exact JX
    |ok TX =>
     cases TX with
     |ret r =>
      obtain⟨rfl,h',tk,rfl,hS',hk'⟩:=JX
      repeat (any_goals (first|assumption|wp_step))
      exact h _ _ hS' hk'
     |_=>exact JX.elim
  |_=>exact hr.elim
end
end L2
namespace L2
open PySem PySem.Spec PyProof.Rows
def RK(P:Program)(w:World)(a:Addr)(n:Nat):HO:=.ext λh=>∃S,h.SetOf (strKind P w) a S n
section
variable{X:Cx}
theorem HM(hc:X.calm=true):lJ X (.type "set") (λxs H Q=>∃x,xs=[.str x]/\x.cps.size+1<scanBound/\∀p,H p=none->Q (.ref p) (upd H p (RK X.prog X.w p (met (lW x) x.cps.size).length))):=by
 intro pins s σ H xs us Q I r h
 obtain⟨x,rfl,hb,q⟩:=h
 obtain⟨u,rfl,t,rfl⟩:=vals1 r
 refine TK.bY (Nat.le_refl s.toks) (Bj (I.ok.hd hc) hb λh' tk hS kk hup=>?_)
 have hn:H s.heap.objs.size=none:=I.fresh
 have k:∀b o,s.heap.get? b=some o->h'.get? b=some o:=λb o e=>kk b o (Heap.lt_size e) e
 refine⟨.ref s.heap.objs.size,_,I.laid (t':=tk) k (Nat.le_refl _) ?_,rfl,q _ hn⟩
 refine⟨⟨_,hS⟩,?_,λh1 h2 p e=>?_⟩
 ·obtain⟨o,_,_,_,ho,_⟩:=hS
  exact⟨o,ho⟩
 ·obtain⟨S,o,es,ep,t,ho,rest⟩:=p
  exact⟨S,o,es,ep,t,e o ho,rest⟩
theorem yQ:lJ X (.builtin "len") (λxs H Q=>∃p n,xs=[.ref p]/\H p=some (RK X.prog X.w p n)/\Q (.int (n:Nat)) H):=by
 intro pins s σ H xs us Q I r h
 obtain⟨p,n,rfl,hp,q⟩:=h
 obtain⟨u,rfl,ru⟩:=vals1 r
 cases ru
 obtain⟨⟨S,o,es,ep,t,ho,hex,hd,_,_,hz,hf,hn⟩,_⟩:=I.hok p _ hp
 subst hn
 have:es.size<4096:=hz
 exact call_len_set ho hex hd hf (by omega) ⟨.int es.size,H,I.tok _,⟨_,rfl⟩,q⟩
def Bg(i:Int):Prop:=i.natAbs<2 ^ 9000
theorem Bg.log{i:Int}(h:Bg i):i.natAbs.log2<9000:=by
 rcases Nat.eq_zero_or_pos i.natAbs with h0|hp
 ·rw[h0];decide
 ·exact(Nat.log2_lt (by omega)).mpr h
theorem Bg.bits{i:Int}(h:Bg i):Builtin.Int.intBits i<=2 ^ 20:=by
 have:=h.log
 unfold Builtin.Int.intBits
 split
 ·exact Nat.zero_le _
 ·exact Nat.le_trans (show i.natAbs.log2+1<=9000 by omega) (by decide)
theorem Ge:tT X (binaryOp .Mult) (rI (λi j=>Bg i/\Bg j) λi j=>.int (i*j)):=QU λ_ _ _ _ _ _ _ hc q=>mul_int q (IntMulOk.of_bits hc.1.bits hc.2.bits)
theorem Jv:tT X (binaryOp .FloorDiv) (rI (λ_ j=>0<j/\Bg j) λi j=>.int (i / j)):=QU λi j _ _ _ _ _ hc q=>by
 have h1:(0:Int)<j:=hc.1
 exact floordiv_int (by omega) (by rw[Int.fdiv_eq_ediv_of_nonneg i (by omega)];exact q) (.inl (PyProof.noPylong_of_log2 hc.2.log))
end
end L2
namespace L2
open PySem PySem.Spec PyProof.Rows
def Vc(K:PySem.W.Frag)(c:Cp):It :=
 ⟨λi H=>∃xs x,c.at K H xs/\xs[i]? =some x,λi H x H'=>H'=H/\∀xs,c.at K H xs->xs[i]? =some x,λi H=>∃xs,c.at K H xs/\xs.length<=i⟩
theorem Turn.conv{P:Program}{w:World}{K:PySem.W.Frag}{tg:Expr}{J J':It}{fp:List Addr}{it:Addr}{tn:Nat->Heap->Prop}(T:Turn P w K tg J fp it tn)
  (hg:∀i H,J'.go i H->J.go i H) (hy:∀i H x H',J.zA i H x H'->J'.zA i H x H') (hs:∀i H,J'.stop i H->J.stop i H):Turn P w K tg J' fp it tn where
 mem:=T.mem
 obj:=T.obj
 keep:=T.keep
 item:=λX hP hw hK hc i pins s σ H E I hf st g=>wpAny_mono (T.item X hP hw hK hc i pins s σ H E I hf st (hg i H g)) (λr s1 ⟨u,hr,h⟩=>⟨u,hr,wpAny_mono h (λ_ s2 ⟨x,H',I',r',y,t',n'⟩=>⟨x,H',I',r',hy i H x H' y,t',n'⟩) λ_ _ z=>z⟩) λ_ _ z=>z
 done:=λX hP hw hK hc i pins s σ H E I hf st g=>T.done X hP hw hK hc i pins s σ H E I hf st (hs i H g)
 self:=T.self
theorem signs_length(x:Str):(eX x).length=x.cps.size:=by simp[eX]
theorem signs_at{x:Str}{i k:Nat}(h:x.cps[i]? =some k):(eX x)[i]? =some (.str ⟨#[k]⟩):=by
 unfold eX
 rw[List.getElem?_map]
 have e:x.cps.toList[i]? =some k:=by simpa using h
 rw[e]
 rfl
section
variable{X:Cx}{tg:Expr}
def iCp(K:PySem.W.Frag)(tl:TE):TI:=λσ H R=>tl σ H λv H1=>∃c xs,v=Cp.val c/\c.at K H1 xs/\R (Vc K c) H1
theorem CI{l:Expr}{tl:TE}(hl:PE X l tl):PI X tg l (iCp X.K tl):=by
 intro pins s σ H R I h
 refine dI (hl pins s σ H _ I h) λv s1 ⟨y,H1,I1,r1,q1⟩=>?_
 obtain⟨c,xs,e,hq,q⟩:=q1
 subst e
 have YE:∀b∈[s1.heap.objs.size],pO X pins H1 b:=λb hb=>by
  have e:b=s1.heap.objs.size:=by simpa using hb
  subst e
  exact I1.uM (Nat.le_refl _) (I1.hok.fresh (Nat.le_refl _))
 cases c with
 |lst a =>
  cases (show v=Value.ref a from r1)
  obtain⟨its,rv,p,hz⟩:=I1.list hq
  refine wpAny_pyIter_list p.isList ?_
  exact⟨s1.heap.objs.size,[s1.heap.objs.size],_,_,H1,rfl,I1.kept (t':=s1.toks) λb o e=>Heap.get?_push_of_some _ e,zG a _,⟨_,Heap.get?_push_size _ rfl,rfl,rfl⟩,YE,q⟩
 |tup a =>
  cases (show v=Value.ref a from r1)
  obtain⟨its,rv,p,hz⟩:=I1.tuple hq
  refine wpAny_pyIter_tuple (show s1.heap.IsTuple a its.toArray from p) ?_
  exact⟨s1.heap.objs.size,[s1.heap.objs.size],_,_,H1,rfl,I1.kept (t':=s1.toks) λb o e=>Heap.get?_push_of_some _ e,wK a _,⟨_,Heap.get?_push_size _ rfl,rfl,rfl⟩,YE,q⟩
 |txt x =>
  obtain⟨t,rfl⟩:=(show ∃t,v=Value.str x t from r1)
  refine wpAny_pyIter_strU ?_
  refine⟨s1.heap.objs.size,[s1.heap.objs.size],_,_,H1,rfl,I1.kept (t':=s1.toks) λb o e=>Heap.get?_push_of_some _ e,(B6 x t _).conv ?_ ?_ ?_,⟨_,Heap.get?_push_size _ rfl,rfl,rfl⟩,YE,q⟩
  ·rintro i H ⟨xs,y,hx,e⟩
   rw[show xs=eX x from hx]at e
   have:=(List.getElem?_eq_some_iff.mp e).1
   rw[signs_length]at this
   exact this
  ·rintro i H y H' ⟨rfl,k,e,rfl⟩
   refine⟨rfl,λxs hx=>?_⟩
   rw[show xs=eX x from hx]
   exact signs_at e
  ·rintro i H ⟨xs,hx,e⟩
   rw[show xs=eX x from hx,signs_length]at e
   exact e
theorem Kh{K:PySem.W.Frag}{c:Cp}{xs:List V}{g:TG}{tb:TS}{D:Ends}{σ:St}{H:Hp}(Pv:Nat->St->Hp->Prop)(h0:Pv 0 σ H)(hl:∀i σ H,i<=xs.length->Pv i σ H->c.at K H xs)
  (hs:∀i x σ H,xs[i]? =some x->Pv i σ H->g x σ H λσ2 H2=>tb { D with nx:=Pv (i+1),ct:=Pv (i+1),bk:=D.nx } σ2 H2) (hd:∀ σ H,Pv xs.length σ H->D.nx σ H) :
  ∃W:Nat->Nat->St->Hp->Prop,(∃m,W 0 m σ H)/\∀i m σ H,W i m σ H →
   ((Vc K c).stop i H/\D.nx σ H)\/((Vc K c).go i H/\∃N:St->Hp->Prop,(∀ σ' H',N σ' H'->∃m',m'<m/\W (i+1) m' σ' H')/\∀x H',(Vc K c).zA i H x H'->g x σ H' λσ2 H2=>tb { D with nx:=N,ct:=N,bk:=D.nx } σ2 H2):=by
 refine⟨λi m σ H=>m=xs.length-i/\i<=xs.length/\Pv i σ H,⟨xs.length,by simp,Nat.zero_le _,h0⟩,?_⟩
 rintro i m σ H ⟨rfl,hi,p⟩
 have q:=hl i σ H hi p
 by_cases hlt:i<xs.length
 ·refine .inr ⟨⟨xs,xs[i],q,by simp[hlt]⟩,Pv (i+1),λσ' H' p'=>⟨xs.length-(i+1),by omega,rfl,hlt,p'⟩,λx H' y=>?_⟩
  obtain⟨e,y⟩:=y
  subst e
  exact hs i x σ _ (y xs q) p
 ·have e:i=xs.length:=by omega
  subst e
  exact .inl ⟨⟨xs,q,Nat.le_refl _⟩,hd σ H p⟩
end
end L2
namespace uc
def lo(a b:Int):Int×Int:=(a / (Int.gcd a b:Int),b / (Int.gcd a b:Int))
theorem o6(a:Int){b:Int}(hb:0<b):0<(Int.gcd a b:Int):=by
 have:0<Int.gcd a b:=Int.gcd_pos_of_ne_zero_right a (by omega)
 omega
theorem E5(a:Int){b:Int}(hb:0<b):(Int.gcd a b:Int)<=b:=Int.le_of_dvd hb (Int.gcd_dvd_right ..)
theorem EY(a:Int){b:Int}(hb:0<b):0<(lo a b).2 :=
 Int.ediv_pos_of_pos_of_dvd hb (Int.le_of_lt (o6 a hb)) (Int.gcd_dvd_right ..)
theorem lo_le(a:Int){b:Int}(hb:0<b):(lo a b).2<=b:=by
 have h:=o6 a hb
 exact Int.ediv_le_self _ (Int.le_of_lt hb)
theorem JI(a:Int){b:Int}(hb:0<b):Int.gcd (lo a b).1 (lo a b).2=1 :=
 Int.gcd_ediv_gcd_ediv_gcd (Int.gcd_pos_of_ne_zero_right a (by omega))
theorem EZ(a b:Int):(lo a b).1*(Int.gcd a b:Int)=a:=Int.ediv_mul_cancel (Int.gcd_dvd_left ..)
theorem JH(a b:Int):(lo a b).2*(Int.gcd a b:Int)=b:=Int.ediv_mul_cancel (Int.gcd_dvd_right ..)
theorem Dd(a b:Int):(lo a b).1*b=a*(lo a b).2:=by
 have h1:=EZ a b
 have h2:=JH a b
 generalize (lo a b).1=x at *
 generalize (lo a b).2=y at *
 generalize (Int.gcd a b:Int)=g at *
 rw[←h1,←h2,Int.mul_assoc,Int.mul_comm y g]
theorem Kf(a b:Int):Int.gcd b (a % b)=Int.gcd a b:=by
 have e:a=a % b+b*(a / b):=(Int.emod_add_mul_ediv a b).symm
 have h:Int.gcd (a % b+b*(a / b)) b=Int.gcd (a % b) b:=Int.gcd_add_mul_left_left ..
 rw[←e]at h
 rw[h,Int.gcd_comm]
theorem My(a:Int):(if a<0 then -a else a)=(Int.gcd a 0:Int):=by
 rw[Int.gcd_zero_right]
 split<;>omega
end uc
namespace GP
open PySem L2 uc
abbrev cF:=Int×Int
def gH(f:cF):cF:=lo f.1 f.2
theorem ai.upd{H:Hp}{q:Addr}{o:HO}(h:H q=none):ai H (L2.upd H q o):=λb u e=>by rw[aq (aM e h)];exact e
theorem ai.at{H H2:Hp}{t:Addr}{o:HO}(e:ai H H2)(h:H t=none):ai H (L2.upd H2 t o):=λb u q=>by rw[aq (aM q h)];exact e b u q
theorem ai.tup{K:PySem.W.Frag}{H H':Hp}{a:Addr}{xs:List V}(e:ai H H')(h:c7 K H a xs):c7 K H' a xs:=by
 rcases h with(h|⟨o,h⟩)|h
 ·exact .inl (.inl (e _ _ h))
 ·exact .inl (.inr ⟨o,e _ _ h⟩)
 ·exact .inr h
theorem ai.cp{K:PySem.W.Frag}{H H':Hp}{c:Cp}{xs:List V}(e:ai H H')(h:c.at K H xs):c.at K H' xs:=by
 cases c with
 |lst a=>exact ai.seq e h
 |tup a=>exact ai.tup e h
 |txt x=>exact h
def kr(K:PySem.W.Frag)(H:Hp)(p:Addr)(f:cF):Prop:=c7 K H p [.int f.1,.int f.2]
theorem kr.same{K:PySem.W.Frag}{H H':Hp}{p:Addr}{f:cF}(e:ai H H')(h:kr K H p f):kr K H' p f:=ai.tup e h
def ki(K:PySem.W.Frag)(H:Hp)(c:Cp)(fs:List cF):Prop:=∃ps:List Addr,c.at K H (ps.map V.ref)/\Paired (kr K H) ps fs
theorem ki.same{K:PySem.W.Frag}{H H':Hp}{c:Cp}{fs:List cF}(e:ai H H')(h:ki K H c fs):ki K H' c fs:=by
 obtain⟨ps,a,b⟩:=h
 exact⟨ps,ai.cp e a,Paired.iS b λ_ _ z=>z.same e⟩
def NC(K:PySem.W.Frag)(H:Hp)(c:Cp)(rows:List (List cF)):Prop:=∃cs:List Cp,c.at K H (cs.map Cp.val)/\Paired (ki K H) cs rows
theorem Paired.at{α β:Type}{F:α->β->Prop}:∀{l₁:List α} {l₂:List β} {i:Nat} {x:α},Paired F l₁ l₂->l₁[i]? =some x->∃y,l₂[i]? =some y/\F x y
 |_,_,i,_,.nil,e=>by simp at e
 |_,_,0,_,.cons r _,e=>by simp at e;subst e;exact⟨_,rfl,r⟩
 |_,_,i+1,x,.cons _ t,e=>by
  obtain⟨y,h1,h2⟩:=Paired.at (i:=i) (x:=x) t (by simpa using e)
  exact⟨y,by simpa using h1,h2⟩
theorem Paired.len{α β:Type}{F:α->β->Prop}{l₁:List α}{l₂:List β}(h:Paired F l₁ l₂):l₁.length=l₂.length:=Paired.length h
theorem Paired.snoc{α β:Type}{F:α->β->Prop}{x:α}{y:β}:∀{l₁:List α} {l₂:List β},Paired F l₁ l₂->F x y->Paired F (l₁++[x]) (l₂++[y])
 |_,_,.nil,h=>.cons h .nil
 |_,_,.cons r t,h=>.cons r (Paired.snoc t h)
theorem take_snoc{α:Type}{l:List α}{i:Nat}{x:α}(h:l[i]? =some x):l.take (i+1)=l.take i++[x]:=by
 rw[List.take_add_one,h];rfl
theorem rq{α β:Type}{l:List α}{f:α->β}{i:Nat}{x:α}(h:l[i]? =some x):(l.map f).take (i+1)=(l.map f).take i++[f x]:=take_snoc (by rw[List.getElem?_map,h];rfl)
theorem qo{i j:Int}{A B:Prop}(h1:i≠j->A)(h2:i=j->B):if(!decide (V.int i=V.int j))=true then A else B:=by
 by_cases h:i=j
 ·rw[pA,if_neg (by simp[h])];exact h2 h
 ·rw[pA,if_pos (by simp[h])];exact h1 h
theorem oh{i j:Int}{A B:Prop}(h1:i=j->A)(h2:i≠j->B):if(decide (V.int i=V.int j))=true then A else B:=by
 by_cases h:i=j
 ·rw[pA,if_pos (by simp[h])];exact h1 h
 ·rw[pA,if_neg (by simp[h])];exact h2 h
theorem cE{p:Prop}[Decidable p]{A B:Prop}(h1:p->A)(h2:¬p->B):if(decide p)=true then A else B:=by
 by_cases h:p
 ·rw[if_pos (decide_eq_true h)];exact h1 h
 ·rw[if_neg (by rw[decide_eq_false h];exact Bool.false_ne_true)];exact h2 h
theorem zY{A B:Prop}(h:A):if(!false)=true then A else B:=by
 rw[if_pos (show(!false)=true from rfl)];exact h
theorem m5{A B:Prop}(h:B):if(!true)=true then A else B:=by
 rw[if_neg (by decide)];exact h
structure Dn(K:PySem.W.Frag)(mg:Str->Option Value)(x:Str)(st:Stmt)(ps:List Str)(f:Addr)(fd:FuncData):Prop where
 fn:Le K x x st f fd
 b:Binds K fd ps []
 m:mg x=some (.ref f)
def FU:Sp:=λvs H Q _=>∃a b:Int,vs=[.int a,.int b]/\0<=b/\Q (.int (Int.gcd a b)) H
def lm(a b:Int):Int:=a / (Int.gcd a b:Int)*b
def MX(K:PySem.W.Frag):Sp:=λvs H Q _=>∃(p:Addr) (f:cF),vs=[.ref p]/\kr K H p f/\0<f.2/\f.2<1073741824 ∧
 ∀q,H q=none->Q (.ref q) (L2.upd H q (.tup [.int (gH f).1,.int (gH f).2]))
def DR(f:cF):Prop:=1<=f.2/\f.2<1073741824
def rR(K:PySem.W.Frag):Sp:=λvs H Q _=>∃(p:Addr) (f:cF),vs=[.ref p]/\kr K H p f/\DR f ∧
 ∀q,H q=none->Q (.ref q) (L2.upd H q (.tup [.int (gH f).1,.int (gH f).2]))
def uZ(K:PySem.W.Frag):Sp:=λvs H Q _=>∃(c:Cp) (fs:List cF),vs=[c.val]/\ki K H c fs/\(∀f∈fs,DR f)/\fs.length<=1000 ∧
 ∀q H',ai H H'->H q=none->ki K H' (.tup q) (fs.map gH)->Q (.ref q) H'
def cu(o m:Int)(rows:List (List cF)):Int:=(rows.flatten.map (·.2)).foldl lm (lm o m)
def lA(fo fm:cF)(rows:List (List cF)):List Int:=fo.2::fm.2::rows.flatten.map (·.2)
def Ci(K:PySem.W.Frag):Sp:=λvs H Q _=>∃(P o m:Addr) (rows:List (List cF)) (fo fm:cF),vs=[.ref P,.ref o,.ref m]/\NC K H (.tup P) rows/\kr K H o fo/\kr K H m fm ∧
 rows.length<=12/\(∀r∈rows,r.length<=12)/\∀l H',ai H H'->H l=none->H' l=some (.lst ((lA fo fm rows).map V.int))->Q (.ref l) H'
def qP(p:List Int×Int)(b:Int):List Int×Int:=if b / (Int.gcd p.2 b:Int)>1 then(p.1++[b / (Int.gcd p.2 b:Int)],p.2*(b / (Int.gcd p.2 b:Int)))else p
def oG(ns:List Int):List Int×Int:=ns.foldl qP ([],1)
def om(n:Int):Prop:=0<n/\n<1073741824
def zN(K:PySem.W.Frag):Sp:=λvs H Q _=>∃(l:Addr) (ns:List Int),vs=[.ref l]/\bP K H l (ns.map V.int)/\ns.length<=1000/\(∀n∈ns,om n) ∧
 ∀q H',ai H H'->H q=none->H' q=some (.lst ((oG ns).1.map V.int))->Q (.ref q) H'
def qX(fs:List Int):Int:=fs.foldl (·*·) 1
def IW(K:PySem.W.Frag):Sp:=λvs H Q _=>∃(l:Addr) (fs:List Int),vs=[.ref l]/\bP K H l (fs.map V.int)/\(∀n∈fs,om n)/\Q (.int (qX fs)) H
def wN(K:PySem.W.Frag):Sp:=λvs H Q _=>∃(p:Addr) (f:cF) (u:Int),vs=[.ref p,.int u]/\kr K H p f/\DR f/\Bg f.1/\Bg (u / f.2)/\Q (.int (f.1*(u / f.2))) H
theorem PX{b:Int}:lm 1 b=b:=by
 unfold lm
 rw[Int.gcd_one_left]
 simp
theorem PY{a b:Int}:lm a b=a*(b / (Int.gcd a b:Int)):=by
 unfold lm
 rw[←Int.mul_ediv_assoc' b (Int.gcd_dvd_left a b),Int.mul_ediv_assoc a (Int.gcd_dvd_right a b)]
structure DZ(p:List Int×Int)(ns:List Int):Prop where
 small:∀f∈p.1,om f
 prod:qX p.1=p.2
 unit:p.2=ns.foldl lm 1
 pos:0<p.2
 len:p.1.length<=ns.length
theorem rV(fs:List Int)(f:Int):qX (fs++[f])=qX fs*f:=by
 unfold qX
 rw[List.foldl_append]
 rfl
theorem Gz{u b:Int}(hb:om b):0<b / (Int.gcd u b:Int)/\b / (Int.gcd u b:Int)<=b:=by
 have g1:=o6 u hb.1
 exact⟨Int.ediv_pos_of_pos_of_dvd hb.1 (Int.le_of_lt g1) (Int.gcd_dvd_right u b),Int.ediv_le_self _ (Int.le_of_lt hb.1)⟩
theorem DZ.step{p:List Int×Int}{ns:List Int}{b:Int}(h:DZ p ns)(hb:om b):DZ (qP p b) (ns++[b]):=by
 obtain⟨d1,d2⟩:=Gz (u:=p.2) hb
 have e:(ns++[b]).foldl lm 1=p.2*(b / (Int.gcd p.2 b:Int)):=by
  rw[List.foldl_append,←h.unit]
  exact PY
 unfold qP
 split
 ·next h1 =>
  refine⟨λf hf=>?_,?_,e.symm,Int.mul_pos h.pos d1,?_⟩
  ·rcases List.mem_append.mp hf with hf|hf
   ·exact h.small f hf
   ·rw[List.mem_singleton.mp hf]
    exact⟨d1,Int.lt_of_le_of_lt d2 hb.2⟩
  ·rw[rV,h.prod]
  ·rw[List.length_append,List.length_append]
   exact Nat.add_le_add_right h.len 1
 ·next h1 =>
  have e1:b / (Int.gcd p.2 b:Int)=1:=by omega
  refine⟨h.small,h.prod,?_,h.pos,?_⟩
  ·rw[e,e1,Int.mul_one]
  ·rw[List.length_append]
   exact Nat.le_trans h.len (Nat.le_add_right _ _)
theorem xR(ns:List Int)(b:Int):oG (ns++[b])=qP (oG ns) b:=by
 unfold oG
 rw[List.foldl_append]
 rfl
theorem uO{ns:List Int}(h:∀n∈ns,om n):∀i,i<=ns.length->DZ (oG (ns.take i)) (ns.take i)
 | 0,_=>by
  rw[List.take_zero]
  exact⟨λf hf=>(by cases hf),rfl,rfl,(by decide),Nat.le_refl _⟩
 |i+1,hi=>by
  have e:=List.getElem?_eq_getElem (l:=ns) (i:=i) hi
  rw[take_snoc e,xR]
  exact(uO h i (Nat.le_of_lt hi)).step (h _ (List.getElem_mem hi))
theorem MB{ns:List Int}(h:∀n∈ns,om n):DZ (oG ns) ns:=by
 have z:=uO h ns.length (Nat.le_refl _)
 rw[List.take_length]at z
 exact z
theorem B5(fo fm:cF)(rows:List (List cF)):(lA fo fm rows).foldl lm 1=cu fo.2 fm.2 rows:=by
 unfold lA cu
 rw[List.foldl_cons,List.foldl_cons,PX]
end GP
namespace GP
open PySem L2 uc
structure Dm(K:PySem.W.Frag)(x qual:Str)(st:Stmt)(ps:List Str)(f:Addr)(fd:FuncData):Prop where
 fn:Le K x qual st f fd
 b:Binds K fd ps []
def Dat(H H':Hp):Prop:=∀b u,(∀C dx fs,u≠HO.ins C dx fs)->H b=some u->H' b=some u
theorem Dat.of{H H':Hp}(e:ai H H'):Dat H H':=λb u _ h=>e b u h
theorem Dat.trans{H H' NG:Hp}(e:Dat H H')(f:Dat H' NG):Dat H NG:=λb u n h=>f b u n (e b u n h)
theorem Dat.set{H:Hp}{x C dx:Addr}{fs fs':List (Str×V)}(h:H x=some (.ins C dx fs)):Dat H (L2.upd H x (.ins C dx fs')):=λb u n e=>by
 rw[aq (λz=>by subst z;rw[h]at e;cases e;exact n _ _ _ rfl)];exact e
theorem Dat.tup{K:PySem.W.Frag}{H H':Hp}{a:Addr}{xs:List V}(e:Dat H H')(h:c7 K H a xs):c7 K H' a xs:=by
 rcases h with(h|⟨o,h⟩)|h
 ·exact .inl (.inl (e _ _ (λ_ _ _ z=>by cases z) h))
 ·exact .inl (.inr ⟨o,e _ _ (λ_ _ _ z=>by cases z) h⟩)
 ·exact .inr h
theorem Dat.lst{K:PySem.W.Frag}{H H':Hp}{a:Addr}{xs:List V}(e:Dat H H')(h:bP K H a xs):bP K H' a xs:=by
 rcases h with(h|⟨o,h⟩)|h
 ·exact .inl (.inl (e _ _ (λ_ _ _ z=>by cases z) h))
 ·exact .inl (.inr ⟨o,e _ _ (λ_ _ _ z=>by cases z) h⟩)
 ·exact .inr h
theorem Dat.cp{K:PySem.W.Frag}{H H':Hp}{c:Cp}{xs:List V}(e:Dat H H')(h:c.at K H xs):c.at K H' xs:=by
 cases c with
 |lst a=>exact Dat.lst e h
 |tup a=>exact Dat.tup e h
 |txt x=>exact h
theorem kr.dat{K:PySem.W.Frag}{H H':Hp}{p:Addr}{f:cF}(e:Dat H H')(h:kr K H p f):kr K H' p f:=Dat.tup e h
theorem ki.dat{K:PySem.W.Frag}{H H':Hp}{c:Cp}{fs:List cF}(e:Dat H H')(h:ki K H c fs):ki K H' c fs:=by
 obtain⟨ps,a,b⟩:=h
 exact⟨ps,Dat.cp e a,Paired.iS b λ_ _ z=>z.dat e⟩
def Br(K:PySem.W.Frag)(H:Hp)(P:Addr)(rows:List (List cF)):Prop:=∃qs:List Addr,c7 K H P (qs.map V.ref)/\Paired (λq r=>ki K H (.tup q) r) qs rows
theorem Br.dat{K:PySem.W.Frag}{H H':Hp}{P:Addr}{rows:List (List cF)}(e:Dat H H')(h:Br K H P rows):Br K H' P rows:=by
 obtain⟨cs,a,b⟩:=h
 exact⟨cs,Dat.tup e a,Paired.iS b λ_ _ z=>z.dat e⟩
theorem rW{α β γ:Type}{F:γ->β->Prop}{g:α->γ}:∀{l₁:List α} {l₂:List β},Paired (λa b=>F (g a) b) l₁ l₂->Paired F (l₁.map g) l₂
 |_,_,.nil=>.nil
 |_,_,.cons r t=>.cons r (rW t)
theorem Br.mat{K:PySem.W.Frag}{H:Hp}{P:Addr}{rows:List (List cF)}(h:Br K H P rows):NC K H (.tup P) rows:=by
 obtain⟨qs,a,b⟩:=h
 refine⟨qs.map Cp.tup,?_,rW b⟩
 rw[List.map_map]
 exact a
theorem Ky{K:PySem.W.Frag}{H:Hp}{c:Cp}{xs:List V}(h:c.at K H xs)(hx:∀x,c≠ .txt x):QN K c.val H xs.length:=by
 cases c with
 |lst a=>exact .inl ⟨_,h,rfl⟩
 |tup a=>exact .inr ⟨_,h,rfl⟩
 |txt x=>exact absurd rfl (hx x)
theorem ki.len{K:PySem.W.Frag}{H:Hp}{c:Cp}{fs:List cF}(h:ki K H c fs)(hx:∀x,c≠ .txt x):QN K c.val H fs.length:=by
 obtain⟨ps,a,b⟩:=h
 have z:=Ky a hx
 rw[List.length_map,Paired.len b]at z
 exact z
def o5(n:Nat):Bool:=(decide ((32:Int)<=(n:Int))&&decide ((n:Int)<=126))&& !JT (.int n) [.int 34,.int 37,.int 45]
def Aj(x:Str):Prop:=0<x.cps.size/\x.cps.size<=100/\(∀c∈x.cps.toList,o5 c=true)/\x.cps.toList.Nodup
theorem pV{x:Str}(h:x.cps.toList.Nodup){i j a b:Nat}(hi:x.cps[i]? =some a)(hj:x.cps[j]? =some b)(hij:i≠j):a≠b:=by
 intro z
 subst z
 rw[←Array.getElem?_toList]at hi hj
 exact hij ((List.getElem?_inj (List.getElem?_eq_some_iff.mp hi).1 h).mp (hi.trans hj.symm))
theorem Gi(val:Nat->Str)(k:Str):∀i,(met val i).any (·==k)=true->∃j,j<i/\val j=k
 | 0,h=>by rw[xD]at h;cases h
 |i+1,h=>by
  rw[qh,tE,Bool.or_eq_true]at h
  rcases h with h|h
  ·obtain⟨j,h1,h2⟩:=Gi val k i h
   exact⟨j,by omega,h2⟩
  ·exact⟨i,by omega,(of_decide_eq_true h).symm⟩
theorem C9{val:Nat->Str}{n:Nat}(h:∀i j,i<n->j<n->i≠j->val i≠val j):∀i,i<=n->(met val i).length=i
 | 0,_=>by rw[xD];rfl
 |i+1,hi=>by
  rw[qh,pJ]
  have e:¬((met val i).any (·==val i)=true):=λz=>by
   obtain⟨j,h1,h2⟩:=Gi val _ i z
   exact h j i (by omega) (by omega) (by omega) h2
  rw[if_neg e,C9 h i (by omega)]
theorem Hq{x:Str}(h:x.cps.toList.Nodup):(met (lW x) x.cps.size).length=x.cps.size:=by
 refine C9 (n:=x.cps.size) (λi j hi hj hij z=>?_) _ (Nat.le_refl _)
 unfold lW at z
 have e1:x.cps[i]? =some (x.cps.getD i 0):=by simp[hi]
 have e2:x.cps[j]? =some (x.cps.getD j 0):=by simp[hj]
 refine pV h e1 e2 hij ?_
 have z2: #[x.cps.getD i 0]= #[x.cps.getD j 0]:=congrArg Str.cps z
 simpa using z2
def Cq:Sp:=λvs H Q _=>∃c:Nat,vs=[.str ⟨#[c]⟩]/\Q (.bl (o5 c)) H
def wO:Sp:=λvs H Q _=>∃x:Str,vs=[.str x]/\x.cps.size<=1000/\∀H',ai H H'->Q (.bl (x.cps.toList.all o5)) H'
def sJ:Sp:=λvs H Q _=>∃x:Str,vs=[.str x]/\Aj x/\∀H',ai H H'->Q .iP H'
def NB(c:Cp):Prop:=∀x,c≠ .txt x
def Ia(K:PySem.W.Frag)(H:Hp)(c:Cp)(rows:List (List cF)):Prop:=NB c/\∃cs:List Cp,(∀d∈cs,NB d)/\c.at K H (cs.map Cp.val)/\Paired (ki K H) cs rows
theorem Ia.dat{K:PySem.W.Frag}{H H':Hp}{c:Cp}{rows:List (List cF)}(e:Dat H H')(h:Ia K H c rows):Ia K H' c rows:=by
 obtain⟨n,cs,m,a,b⟩:=h
 exact⟨n,cs,m,Dat.cp e a,Paired.iS b λ_ _ z=>z.dat e⟩
def Lc(n:Nat)(rows:List (List cF)):Prop:=rows.length=n/\∀r∈rows,r.length=n
def pU(K:PySem.W.Frag):Sp:=λvs H Q _=>∃(x:Str) (c:Cp) (rows:List (List cF)),vs=[.str x,c.val]/\Ia K H c rows/\x.cps.size<=100/\Lc x.cps.size rows/\Q .iP H
def Lf(rows:List (List cF))(i j:Nat)(f:cF):Prop:=∃r,rows[i]? =some r/\r[j]? =some f
def keyOf(a b:Nat):List Key:=[.inr ⟨#[a]⟩,.inr ⟨#[b]⟩]
def FA(kvs:List (List Key×V))(x:Str)(rows:List (List cF))(u:Int):Prop :=
 ∀i j a b f,x.cps[i]? =some a->x.cps[j]? =some b->Lf rows i j f->lT kvs (keyOf a b)=some (.int (f.1*(u / f.2)))
def Sm(i:Int):Prop:=i.natAbs<2 ^ 200
def Bu(i:Int):Prop:=i.natAbs<=2 ^ 4380
theorem Sm.bg{i:Int}(h:Sm i):Bg i:=Nat.lt_of_lt_of_le h (Nat.pow_le_pow_right (by decide) (by decide))
theorem Bu.bg{i:Int}(h:Bu i):Bg i:=Nat.lt_of_le_of_lt h (Nat.pow_lt_pow_right (by decide) (by decide))
def Rh(u:Int)(f:cF):Prop:=DR f/\Sm f.1/\Bu (u / f.2)
def FY(K:PySem.W.Frag):Sp:=λvs H Q _=>∃(x:Str) (P:Addr) (u:Int) (rows:List (List cF)),vs=[.str x,.ref P,.int u]/\Br K H P rows/\x.cps.size<=100/\x.cps.toList.Nodup/\Lc x.cps.size rows/\(∀r∈rows,∀f∈r,Rh u f) ∧
 ∀d H' kvs,ai H H'->H d=none->H' d=some (.dT kvs)->FA kvs x rows u->Q (.ref d) H'
def jt(x:Str)(P o m:Addr)(u:Int)(d:Addr×Addr):List (Str×V) :=
 aE "costs" (.ref d.1) (aE "unit" (.int u) (aE "factors" (.ref d.2) (aE "more" (.ref m) (aE "opening" (.ref o) (aE "pairs" (.ref P) (aE "signs" (.str x) []))))))
theorem Dv{x:Str}{P o m:Addr}{u:Int}{d:Addr×Addr}:(jt x P o m u d).lookup ("signs" :Str)=some (.str x):=by
 unfold jt
 rw[av,if_neg (by decide +kernel),av,if_neg (by decide +kernel),av,if_neg (by decide +kernel),av,if_neg (by decide +kernel),av,if_neg (by decide +kernel),av,if_neg (by decide +kernel),av,if_pos rfl]
theorem yO{x:Str}{P o m:Addr}{u:Int}{d:Addr×Addr}:(jt x P o m u d).lookup ("opening" :Str)=some (.ref o):=by
 unfold jt
 rw[av,if_neg (by decide +kernel),av,if_neg (by decide +kernel),av,if_neg (by decide +kernel),av,if_neg (by decide +kernel),av,if_pos rfl]
theorem E9{x:Str}{P o m:Addr}{u:Int}{d:Addr×Addr}:(jt x P o m u d).lookup ("more" :Str)=some (.ref m):=by
 unfold jt
 rw[av,if_neg (by decide +kernel),av,if_neg (by decide +kernel),av,if_neg (by decide +kernel),av,if_pos rfl]
theorem yP{x:Str}{P o m:Addr}{u:Int}{d:Addr×Addr}:(jt x P o m u d).lookup ("factors" :Str)=some (.ref d.2):=by
 unfold jt
 rw[av,if_neg (by decide +kernel),av,if_neg (by decide +kernel),av,if_pos rfl]
theorem sE{x:Str}{P o m:Addr}{u:Int}{d:Addr×Addr}:(jt x P o m u d).lookup ("unit" :Str)=some (.int u):=by
 unfold jt
 rw[av,if_neg (by decide +kernel),av,if_pos rfl]
theorem Dw{x:Str}{P o m:Addr}{u:Int}{d:Addr×Addr}:(jt x P o m u d).lookup ("costs" :Str)=some (.ref d.1):=by
 unfold jt
 rw[av,if_pos rfl]
def uN(x:Str)(P o m:Addr)(u:Int)(d:Addr×Addr)(ou mu:Int):List (Str×V) :=
 aE "more_units" (.int mu) (aE "opening_units" (.int ou) (jt x P o m u d))
theorem tH {x:Str} {P o m:Addr} {u:Int} {d:Addr×Addr} {ou mu:Int} {f:Str} (h1:¬f= "more_units") (h2:¬f= "opening_units"):(uN x P o m u d ou mu).lookup f=(jt x P o m u d).lookup f:=by
 unfold uN
 rw[av,if_neg h1,av,if_neg h2]
theorem o7{x:Str}{P o m:Addr}{u:Int}{d:Addr×Addr}{ou mu:Int}:(uN x P o m u d ou mu).lookup ("signs" :Str)=some (.str x):=(tH (by decide +kernel) (by decide +kernel)).trans Dv
theorem o8{x:Str}{P o m:Addr}{u:Int}{d:Addr×Addr}{ou mu:Int}:(uN x P o m u d ou mu).lookup ("factors" :Str)=some (.ref d.2):=(tH (by decide +kernel) (by decide +kernel)).trans yP
theorem HE{x:Str}{P o m:Addr}{u:Int}{d:Addr×Addr}{ou mu:Int}:(uN x P o m u d ou mu).lookup ("unit" :Str)=some (.int u):=(tH (by decide +kernel) (by decide +kernel)).trans sE
theorem E8{x:Str}{P o m:Addr}{u:Int}{d:Addr×Addr}{ou mu:Int}:(uN x P o m u d ou mu).lookup ("costs" :Str)=some (.ref d.1):=(tH (by decide +kernel) (by decide +kernel)).trans Dw
theorem rE {x:Str} {P o m:Addr} {u:Int} {d:Addr×Addr} {v:V} {f:Str} (h2:¬f= "opening_units"):(aE "opening_units" v (jt x P o m u d)).lookup f=(jt x P o m u d).lookup f:=by
 rw[av,if_neg h2]
theorem sD{x:Str}{P o m:Addr}{u:Int}{d:Addr×Addr}{ou mu:Int}:(uN x P o m u d ou mu).lookup ("opening_units" :Str)=some (.int ou):=by
 unfold uN
 rw[av,if_neg (by decide +kernel),av,if_pos rfl]
theorem vO{x:Str}{P o m:Addr}{u:Int}{d:Addr×Addr}{ou mu:Int}:(uN x P o m u d ou mu).lookup ("more_units" :Str)=some (.int mu):=by
 unfold uN
 rw[av,if_pos rfl]
theorem JD{x:Str}{P o m:Addr}:(aE "more" (.ref m) (aE "opening" (.ref o) (aE "pairs" (.ref P) (aE "signs" (.str x) []))):List (Str×V)).lookup ("pairs" :Str)=some (.ref P):=by
 rw[av,if_neg (by decide +kernel),av,if_neg (by decide +kernel),av,if_pos rfl]
theorem ET{x:Str}{P o m:Addr}:(aE "more" (.ref m) (aE "opening" (.ref o) (aE "pairs" (.ref P) (aE "signs" (.str x) []))):List (Str×V)).lookup ("opening" :Str)=some (.ref o):=by
 rw[av,if_neg (by decide +kernel),av,if_pos rfl]
theorem LY{x:Str}{P o m:Addr}:(aE "more" (.ref m) (aE "opening" (.ref o) (aE "pairs" (.ref P) (aE "signs" (.str x) []))):List (Str×V)).lookup ("more" :Str)=some (.ref m):=by
 rw[av,if_pos rfl]
theorem EU{x:Str}{P o m fl:Addr}:(aE "factors" (.ref fl) (aE "more" (.ref m) (aE "opening" (.ref o) (aE "pairs" (.ref P) (aE "signs" (.str x) [])))):List (Str×V)).lookup ("factors" :Str)=some (.ref fl):=by
 rw[av,if_pos rfl]
theorem JC{x:Str}{P o m fl:Addr}{u:Int}:(aE "unit" (.int u) (aE "factors" (.ref fl) (aE "more" (.ref m) (aE "opening" (.ref o) (aE "pairs" (.ref P) (aE "signs" (.str x) []))))):List (Str×V)).lookup ("signs" :Str)=some (.str x):=by
 rw[av,if_neg (by decide +kernel),av,if_neg (by decide +kernel),av,if_neg (by decide +kernel),av,if_neg (by decide +kernel),av,if_neg (by decide +kernel),av,if_pos rfl]
theorem Hl{x:Str}{P o m fl:Addr}{u:Int}:(aE "unit" (.int u) (aE "factors" (.ref fl) (aE "more" (.ref m) (aE "opening" (.ref o) (aE "pairs" (.ref P) (aE "signs" (.str x) []))))):List (Str×V)).lookup ("pairs" :Str)=some (.ref P):=by
 rw[av,if_neg (by decide +kernel),av,if_neg (by decide +kernel),av,if_neg (by decide +kernel),av,if_neg (by decide +kernel),av,if_pos rfl]
theorem LW{x:Str}{P o m fl:Addr}{u:Int}:(aE "unit" (.int u) (aE "factors" (.ref fl) (aE "more" (.ref m) (aE "opening" (.ref o) (aE "pairs" (.ref P) (aE "signs" (.str x) []))))):List (Str×V)).lookup ("unit" :Str)=some (.int u):=by
 rw[av,if_pos rfl]
theorem aY{f:Str}{v:V}{fs:List (Str×V)}{n:Nat}(h:fs.length<=n):(aE f v fs).length<=n+1:=by
 have:=qk f v fs
 omega
structure mJ(K:PySem.W.Frag)(C:Addr)(H:Hp)(x:Addr)(sg:Str)(rows:List (List cF))(fo fm:cF):Prop where
 sig:Aj sg
 Zb:Lc sg.cps.size rows
 ok:∀r∈rows,∀f∈r,Rh (cu fo.2 fm.2 rows) f
 Ik:Rh (cu fo.2 fm.2 rows) fo
 Il:Rh (cu fo.2 fm.2 rows) fm
 pos:0<cu fo.2 fm.2 rows
 big:Bu (cu fo.2 fm.2 rows)
 ob:∃dx P o m,∃d:Addr×Addr,∃kvs,H x=some (.ins C dx (uN sg P o m (cu fo.2 fm.2 rows) d (fo.1*(cu fo.2 fm.2 rows / fo.2)) (fm.1*(cu fo.2 fm.2 rows / fm.2))))/\Br K H P rows/\kr K H o fo/\kr K H m fm/\H d.1=some (.dT kvs)/\FA kvs sg rows (cu fo.2 fm.2 rows) ∧
  ∃fs:List Int,(∀f∈fs,om f)/\qX fs=cu fo.2 fm.2 rows/\H d.2=some (.lst (fs.map V.int))
theorem mJ.same{K:PySem.W.Frag}{C:Addr}{H H':Hp}{x:Addr}{sg:Str}{rows:List (List cF)}{fo fm:cF}(e:ai H H')(h:mJ K C H x sg rows fo fm):mJ K C H' x sg rows fo fm:=by
 obtain⟨a,b,c,d,f,g,i,dx,P,o,m,dd,kvs,h1,h2,h3,h4,h5,h6,fs,h7,h8,h9⟩:=h
 exact⟨a,b,c,d,f,g,i,dx,P,o,m,dd,kvs,e _ _ h1,h2.dat (Dat.of e),h3.same e,h4.same e,e _ _ h5,h6,fs,h7,h8,e _ _ h9⟩
def KS(H:Hp)(x c:Addr):Prop:=∀C dx fs,H x=some (.ins C dx fs)->fs.lookup ("factors" :Str)≠some (.ref c)
def Ug(f:cF):Prop:=DR f/\Sm f.1
def yK(rows:List (List cF)):List (List cF):=rows.map λr=>r.map gH
def Ja(K:PySem.W.Frag)(C:Addr):Sp:=λvs H Q _=>∃(x dx o m:Addr) (sg:Str) (c:Cp) (rows:List (List cF)) (fo fm:cF),vs=[.ref x,.str sg,c.val,.ref o,.ref m]/\H x=some (.ins C dx [])/\Aj sg/\sg.cps.size<=12 ∧
 Ia K H c rows/\Lc sg.cps.size rows/\(∀r∈rows,∀f∈r,Ug f)/\kr K H o fo/\Ug fo/\kr K H m fm/\Ug fm ∧
 ∀H',mJ K C H' x sg (yK rows) (gH fo) (gH fm)->(∀b u,H b=some u->b≠x->H' b=some u)->(∀c,H c≠none->KS H' x c)->Q .iP H'
def Cg(K:PySem.W.Frag)(C:Addr):Sp:=λvs H Q _=>∃(x:Addr) (sg:Str) (rows:List (List cF)) (fo fm:cF),vs=[.ref x]/\mJ K C H x sg rows fo fm/\Q (.int (cu fo.2 fm.2 rows)) H
def rQ(K:PySem.W.Frag)(C:Addr):Sp:=λvs H Q _=>∃(x:Addr) (sg:Str) (rows:List (List cF)) (fo fm:cF) (i j a b:Nat) (f:cF),vs=[.ref x,.str ⟨#[a]⟩,.str ⟨#[b]⟩]/\mJ K C H x sg rows fo fm ∧
 sg.cps[i]? =some a/\sg.cps[j]? =some b/\Lf rows i j f/\∀H',ai H H'->Q (.int (f.1*(cu fo.2 fm.2 rows / f.2))) H'
def ug(K:PySem.W.Frag)(C:Addr):Sp:=λvs H Q _=>∃(x:Addr) (sg:Str) (rows:List (List cF)) (fo fm:cF),vs=[.ref x]/\mJ K C H x sg rows fo fm/\Q (.int (fo.1*(cu fo.2 fm.2 rows / fo.2))) H
def Eo(K:PySem.W.Frag)(C:Addr):Sp:=λvs H Q _=>∃(x:Addr) (sg:Str) (rows:List (List cF)) (fo fm:cF),vs=[.ref x]/\mJ K C H x sg rows fo fm/\Q (.int (fm.1*(cu fo.2 fm.2 rows / fm.2))) H
def zM(K:PySem.W.Frag)(C:Addr):Sp:=λvs H Q _=>∃(x:Addr) (n:Int) (sg:Str) (rows:List (List cF)) (fo fm:cF),vs=[.ref x,.int n]/\mJ K C H x sg rows fo fm ∧
 ∀q H',ai H H'->H q=none->H' q=some (.tup [.int (gH (n,cu fo.2 fm.2 rows)).1,.int (gH (n,cu fo.2 fm.2 rows)).2])->Q (.ref q) H'
end GP
namespace GP
open PySem L2 uc
theorem jl{α β:Type}{l:List α}{g:α->β}{i:Nat}{y:β}(h:(l.map g)[i]? =some y):∃x,l[i]? =some x/\y=g x:=by
 rw[List.getElem?_map]at h
 cases e:l[i]? with
 |none=>rw[e]at h;cases h
 |some x=>rw[e]at h;exact⟨x,rfl,(Option.some.inj h).symm⟩
def kP(kvs:List (List Key×V))(x:Str)(rows:List (List cF))(u:Int)(n m:Nat):Prop :=
 ∀i j a b f,(i<n\/(i=n/\j<m))->x.cps[i]? =some a->x.cps[j]? =some b->Lf rows i j f->lT kvs (keyOf a b)=some (.int (f.1*(u / f.2)))
theorem kP.nil(x:Str)(rows:List (List cF))(u:Int):kP [] x rows u 0 0:=λi j a b f h=>by omega
theorem Hu{a b c d:Nat}(h:keyOf a b=keyOf c d):a=c/\b=d:=by
 unfold keyOf at h
 have h1:=(List.cons.inj h).1
 have h2:=(List.cons.inj (List.cons.inj h).2).1
 have e1:(⟨#[a]⟩:Str)=⟨#[c]⟩:=Sum.inr.inj h1
 have e2:(⟨#[b]⟩:Str)=⟨#[d]⟩:=Sum.inr.inj h2
 have z1: #[a]= #[c]:=congrArg Str.cps e1
 have z2: #[b]= #[d]:=congrArg Str.cps e2
 exact⟨by simpa using z1,by simpa using z2⟩
theorem kP.put{kvs:List (List Key×V)}{x:Str}{rows:List (List cF)}{u:Int}{n m a b:Nat}{f:cF}(nd:x.cps.toList.Nodup)(h:kP kvs x rows u n m)(ha:x.cps[n]? =some a)(hb:x.cps[m]? =some b)(hf:Lf rows n m f):
  kP (putK kvs (keyOf a b) (.int (f.1*(u / f.2)))) x rows u n (m+1):=by
 intro i j c d g hij hc hd hg
 rw[B3]
 by_cases e:i=n/\j=m
 ·obtain⟨rfl,rfl⟩:=e
  rw[ha]at hc
  rw[hb]at hd
  cases hc
  cases hd
  obtain⟨r,r1,r2⟩:=hf
  obtain⟨r',r3,r4⟩:=hg
  rw[r1]at r3
  cases r3
  rw[r2]at r4
  cases r4
  rw[if_pos rfl]
 ·have hne:¬keyOf c d=keyOf a b:=λz=>by
   obtain⟨z1,z2⟩:=Hu z
   subst z1 z2
   refine e ⟨?_,?_⟩
   ·exact Decidable.byContradiction λq=>pV nd hc ha q rfl
   ·exact Decidable.byContradiction λq=>pV nd hd hb q rfl
  rw[if_neg hne]
  exact h i j c d g (by omega) hc hd hg
theorem kP.row{kvs:List (List Key×V)}{x:Str}{rows:List (List cF)}{u:Int}{n m:Nat}(hm:x.cps.size<=m)(h:kP kvs x rows u n m):kP kvs x rows u (n+1) 0:=by
 intro i j a b f hij ha hb hf
 refine h i j a b f ?_ ha hb hf
 have:j<x.cps.size:=by
  rw[←Array.getElem?_toList]at hb
  have:=(List.getElem?_eq_some_iff.mp hb).1
  simpa using this
 omega
theorem kP.all{kvs:List (List Key×V)}{x:Str}{rows:List (List cF)}{u:Int}{n:Nat}(hn:x.cps.size<=n)(h:kP kvs x rows u n 0):FA kvs x rows u:=by
 intro i j a b f ha hb hf
 refine h i j a b f (.inl ?_) ha hb hf
 have:i<x.cps.size:=by
  rw[←Array.getElem?_toList]at ha
  have:=(List.getElem?_eq_some_iff.mp ha).1
  simpa using this
 omega
theorem JK{a b:Int}(ha:0<a)(hb:0<b):0<lm a b:=by
 have h:=o6 a hb
 have:=Int.ediv_pos_of_pos_of_dvd ha (Int.le_of_lt h) (Int.gcd_dvd_left a b)
 exact Int.mul_pos this hb
theorem m7(a g:Int):(a / g).natAbs<=a.natAbs:=Int.natAbs_ediv_le_natAbs a g
theorem JL(a b:Int):(lm a b).natAbs<=a.natAbs*b.natAbs:=by
 unfold lm
 rw[Int.natAbs_mul]
 exact Nat.mul_le_mul_right _ (m7 a _)
theorem Dt:∀(l:List Int) {u:Int},0<u->(∀b∈l,0<b)->0<l.foldl lm u
 |[],_,h,_=>h
 |b::l,_,h,hb=>Dt l (JK h (hb b List.mem_cons_self)) λc hc=>hb c (List.mem_cons_of_mem _ hc)
theorem Du{B:Nat}:∀(l:List Int) {u:Int},(∀b∈l,b.natAbs<=B)->(l.foldl lm u).natAbs<=u.natAbs*B ^ l.length
 |[],_,_=>by simp
 |b::l,u,h=>by
  have h1:=Du (B:=B) l (u:=lm u b) λc hc=>h c (List.mem_cons_of_mem _ hc)
  have h2:=JL u b
  have h3:=h b List.mem_cons_self
  show(l.foldl lm (lm u b)).natAbs<=_
  refine Nat.le_trans h1 ?_
  rw[List.length_cons,Nat.pow_succ,Nat.mul_comm (B ^ l.length) B,←Nat.mul_assoc]
  exact Nat.mul_le_mul_right _ (Nat.le_trans h2 (Nat.mul_le_mul_left _ h3))
theorem xP{n:Nat}:∀{rows:List (List cF)},(∀r∈rows,r.length=n)->rows.flatten.length=rows.length*n
 |[],_=>by simp
 |r::rows,h=>by
  rw[List.flatten_cons,List.length_append,h r List.mem_cons_self,xP λr' hr=>h r' (List.mem_cons_of_mem _ hr),List.length_cons,Nat.succ_mul,Nat.add_comm]
theorem DR.abs{f:cF}(h:DR f):f.2.natAbs<=2 ^ 30:=by
 obtain⟨h1,h2⟩:=h
 have:(2:Nat) ^ 30=1073741824:=by decide
 omega
theorem ID{rows:List (List cF)}{fo fm:cF}(ho:DR fo)(hm:DR fm)(h:∀r∈rows,∀f∈r,DR f):0<cu fo.2 fm.2 rows:=by
 refine Dt _ (JK (by have:=ho.1;omega) (by have:=hm.1;omega)) λb hb=>?_
 obtain⟨f,hf,rfl⟩:=List.mem_map.mp hb
 obtain⟨r,hr,hfr⟩:=List.mem_flatten.mp hf
 have:=(h r hr f hfr).1
 omega
theorem IE{n:Nat}{rows:List (List cF)}{fo fm:cF}(hn:n<=12)(hs:Lc n rows)(ho:DR fo)(hm:DR fm)(h:∀r∈rows,∀f∈r,DR f):Bu (cu fo.2 fm.2 rows):=by
 have h1:(cu fo.2 fm.2 rows).natAbs<=(lm fo.2 fm.2).natAbs*(2 ^ 30) ^ (rows.flatten.map (·.2)).length:=by
  refine Du _ λb hb=>?_
  obtain⟨f,hf,rfl⟩:=List.mem_map.mp hb
  obtain⟨r,hr,hfr⟩:=List.mem_flatten.mp hf
  exact(h r hr f hfr).abs
 have h2:(lm fo.2 fm.2).natAbs<=2 ^ 30*2 ^ 30:=Nat.le_trans (JL _ _) (Nat.mul_le_mul ho.abs hm.abs)
 have h3:(rows.flatten.map (·.2)).length<=144:=by
  rw[List.length_map,xP hs.2,hs.1]
  exact Nat.le_trans (Nat.mul_le_mul hn hn) (by decide)
 have h4:(2 ^ 30:Nat) ^ (rows.flatten.map (·.2)).length<=(2 ^ 30) ^ 144:=Nat.pow_le_pow_right (by decide) h3
 have h5:(2 ^ 30:Nat)*2 ^ 30*(2 ^ 30) ^ 144<=2 ^ 4380:=by
  rw[←Nat.pow_mul,←Nat.pow_add,←Nat.pow_add]
  exact Nat.pow_le_pow_right (by decide) (by decide)
 exact Nat.le_trans h1 (Nat.le_trans (Nat.mul_le_mul h2 h4) h5)
theorem qj{f:cF}(h:DR f):DR (gH f):=by
 obtain⟨h1,h2⟩:=h
 have h0:0<f.2:=by omega
 have p:=EY f.1 h0
 have l:=lo_le f.1 h0
 exact⟨by show 1<=(lo f.1 f.2).2;omega,by show(lo f.1 f.2).2<_;omega⟩
theorem L6{f:cF}(h:Sm f.1):Sm (gH f).1:=Nat.lt_of_le_of_lt (m7 _ _) h
theorem Bu.div{u:Int}(h:Bu u)(g:Int):Bu (u / g):=Nat.le_trans (m7 _ _) h
theorem L5{n:Nat}{rows:List (List cF)}(h:Lc n rows):Lc n (yK rows):=by
 refine⟨by unfold yK;rw[List.length_map];exact h.1,λr hr=>?_⟩
 obtain⟨r',h',rfl⟩:=List.mem_map.mp hr
 rw[List.length_map]
 exact h.2 r' h'
theorem A0{p:cF->Prop}{rows:List (List cF)}(h:∀r∈rows,∀f∈r,p (gH f)):∀r∈yK rows,∀f∈r,p f:=by
 intro r hr f hf
 obtain⟨r',h',rfl⟩:=List.mem_map.mp hr
 obtain⟨f',hf',rfl⟩:=List.mem_map.mp hf
 exact h r' h' f' hf'
theorem Lf.mem{rows:List (List cF)}{i j:Nat}{f:cF}(h:Lf rows i j f):∃r∈rows,f∈r:=by
 obtain⟨r,h1,h2⟩:=h
 exact⟨r,List.mem_of_getElem? h1,List.mem_of_getElem? h2⟩
end GP
namespace GP
open PySem L2 uc
theorem c7.off{K:PySem.W.Frag}{H:Hp}{l a:Addr}{ys xs:List V}{o:HO}(hl:H l=some (.lst ys))(h:c7 K H a xs):c7 K (L2.upd H l o) a xs:=by
 rcases h with(h|⟨u,h⟩)|h
 ·exact .inl (.inl (by rw[aq (qb h hl (by intro z;cases z))];exact h))
 ·exact .inl (.inr ⟨u,by rw[aq (qb h hl (by intro z;cases z))];exact h⟩)
 ·exact .inr h
theorem ki.off{K:PySem.W.Frag}{H:Hp}{l q:Addr}{ys:List V}{fs:List cF}{o:HO}(hl:H l=some (.lst ys))(h:ki K H (.tup q) fs):ki K (L2.upd H l o) (.tup q) fs:=by
 obtain⟨ps,a,b⟩:=h
 exact⟨ps,c7.off hl a,Paired.iS b λ_ _ z=>c7.off hl z⟩
def Off(x:Addr)(H H':Hp):Prop:=∀b u,H b=some u->b≠x->H' b=some u
theorem Off.of{x:Addr}{H H':Hp}(e:ai H H'):Off x H H':=λb u h _=>e b u h
theorem Off.trans{x:Addr}{H H' NG:Hp}(e:Off x H H')(f:Off x H' NG):Off x H NG:=λb u h n=>f b u (e b u h n) n
theorem Off.set{x:Addr}{H:Hp}{o:HO}:Off x H (L2.upd H x o):=λb u h n=>by rw[aq n];exact h
theorem Off.dat{x C dx:Addr}{fs:List (Str×V)}{H H':Hp}(hx:H x=some (.ins C dx fs))(e:Off x H H'):Dat H H':=λb u n h=>e b u h λz=>by
 subst z
 rw[hx]at h
 cases h
 exact n _ _ _ rfl
theorem Zg{a:Str}{x:V}:(aE a x []).length<1000:=Nat.lt_of_le_of_lt (aY (Nat.le_refl 0)) (by decide)
theorem pl2{a b:Str}{x y:V}:(aE a x (aE b y [])).length<1000:=Nat.lt_of_le_of_lt (aY (aY (Nat.le_refl 0))) (by decide)
theorem pl3{a b c:Str}{x y z:V}:(aE a x (aE b y (aE c z []))).length<1000:=Nat.lt_of_le_of_lt (aY (aY (aY (Nat.le_refl 0)))) (by decide)
theorem pl4{a b c d:Str}{x y z w:V}:(aE a x (aE b y (aE c z (aE d w [])))).length<1000:=Nat.lt_of_le_of_lt (aY (aY (aY (aY (Nat.le_refl 0))))) (by decide)
theorem pl5{a b c d e:Str}{x y z w v:V}:(aE a x (aE b y (aE c z (aE d w (aE e v []))))).length<1000:=Nat.lt_of_le_of_lt (aY (aY (aY (aY (aY (Nat.le_refl 0)))))) (by decide)
theorem pl6{a b c d e g:Str}{x y z w v t:V}:(aE a x (aE b y (aE c z (aE d w (aE e v (aE g t [])))))).length<1000:=Nat.lt_of_le_of_lt (aY (aY (aY (aY (aY (aY (Nat.le_refl 0))))))) (by decide)
theorem pl7{x:Str}{P o m:Addr}{u:Int}{d:Addr×Addr}:(jt x P o m u d).length<1000:=Nat.lt_of_le_of_lt (aY (aY (aY (aY (aY (aY (aY (Nat.le_refl 0)))))))) (by decide)
theorem pl8{x:Str}{P o m:Addr}{u:Int}{d:Addr×Addr}{a:Str}{v:V}:(aE a v (jt x P o m u d)).length<1000:=Nat.lt_of_le_of_lt (aY (aY (aY (aY (aY (aY (aY (aY (Nat.le_refl 0))))))))) (by decide)
end GP
namespace GP
open PySem L2 uc
theorem GC{a b c:Int}(h:Int.gcd a b=1)(d:a∣b*c):a∣c:=by
 have d':a.natAbs∣b.natAbs*c.natAbs:=by rw[←Int.natAbs_mul];exact Int.natAbs_dvd_natAbs.mpr d
 have h':Nat.Coprime a.natAbs b.natAbs:=h
 exact Int.natAbs_dvd_natAbs.mp (h'.dvd_of_dvd_mul_left d')
theorem JG{x y x' y':Int}(hy:0<y)(hy':0<y')(h:Int.gcd x y=1)(h':Int.gcd x' y'=1)(e:x*y'=x'*y):x=x'/\y=y':=by
 have d1:y∣y':=GC (b:=x) (by rw[Int.gcd_comm];exact h) (by rw[e];exact Int.dvd_mul_left _ _)
 have d2:y'∣y:=GC (b:=x') (by rw[Int.gcd_comm];exact h') (by rw[←e];exact Int.dvd_mul_left _ _)
 have ey:=Int.dvd_antisymm (Int.le_of_lt hy) (Int.le_of_lt hy') d1 d2
 subst ey
 exact⟨Int.eq_of_mul_eq_mul_right (Int.ne_of_gt hy) e,rfl⟩
theorem Kz{ov un b:Int}(hb:0<b)(hg:Int.gcd ov un=1):Int.gcd (ov / (Int.gcd ov b:Int)) (un*(b / (Int.gcd ov b:Int)))=1:=by
 have h1:Int.gcd (ov / (Int.gcd ov b:Int)) (b / (Int.gcd ov b:Int))=1:=JI ov hb
 have h2:Int.gcd (ov / (Int.gcd ov b:Int)) un=1:=by
  refine Nat.dvd_one.mp ?_
  rw[←hg]
  refine Int.dvd_gcd (Int.dvd_trans (Int.gcd_dvd_left ..) ?_) (Int.gcd_dvd_right ..)
  exact⟨_,(EZ ov b).symm⟩
 have z:Nat.Coprime (ov / (Int.gcd ov b:Int)).natAbs (un.natAbs*(b / (Int.gcd ov b:Int)).natAbs):=Nat.Coprime.mul_right h2 h1
 rw[←Int.natAbs_mul]at z
 exact z
theorem Fe{ov un b n p:Int}(he:ov*p=n*un):ov / (Int.gcd ov b:Int)*(p*b)=n*(un*(b / (Int.gcd ov b:Int))):=by
 have h1:=EZ ov b
 have h2:=JH ov b
 unfold lo at h1 h2
 dsimp only at h1 h2
 generalize ov / (Int.gcd ov b:Int)=x at *
 generalize b / (Int.gcd ov b:Int)=y at *
 generalize (Int.gcd ov b:Int)=g at *
 rw[←Int.mul_assoc n,←he,←h1,←h2]
 ac_rfl
theorem R8{n U ov un:Int}(hU:0<U)(hun:0<un)(hg:Int.gcd ov un=1)(he:ov*U=n*un):gH (n,U)=(ov,un):=by
 have c:=Dd n U
 have e:(lo n U).1*un=ov*(lo n U).2:=by
  refine Int.eq_of_mul_eq_mul_right (Int.ne_of_gt hU) ?_
  calc (lo n U).1*un*U=(lo n U).1*U*un:=by ac_rfl
   _=n*un*(lo n U).2:=by rw[c];ac_rfl
   _=ov*(lo n U).2*U:=by rw[←he];ac_rfl
 obtain⟨z1,z2⟩:=JG (EY n hU) hun (JI n hU) hg e
 show lo n U=(ov,un)
 rw[←z1,←z2]
theorem Ed{f:cF}{u:Int}(hd:(gH f).2∣u):(gH f).1*(u / (gH f).2)*f.2=f.1*u:=by
 have c:=Dd f.1 f.2
 calc (gH f).1*(u / (gH f).2)*f.2=(gH f).1*f.2*(u / (gH f).2):=by rw[Int.mul_right_comm]
  _=f.1*(gH f).2*(u / (gH f).2):=by rw[show(gH f).1*f.2=f.1*(gH f).2 from c]
  _=f.1*u:=by rw[Int.mul_assoc,Int.mul_ediv_cancel' hd]
end GP
namespace L2
open PySem PySem.Spec PyProof.Rows
def rD(scope:Scope)(X:Cx):Bool:=scope.names.all λy=>(y.2 != NameKind.free)||(X.env.scope.names.lookup y.1==some NameKind.cell)
def ixB(scope:Scope)(X:Cx)(N:List Str)(nt:Nat)(ix:List Nat):Bool:=(List.range ix.length).all λk=>match N[nt+k]?,ix[k]? with
 |some x,some j=>(X.N[j]? ==some x)&&(scope.names.contains (x,NameKind.free))&&((relabel scope X.env).names.lookup x==some NameKind.cell)
 |_,_=>false
theorem cN.rD{X:Cx}{scope:Scope}{N:List Str}{nt:Nat}{ix:List Nat}(kind:scope.kind= .function)(cell:∀y∈scope.names,y.2= .cell->(y.1,NameKind.free)∉scope.names)
  (names:∀y∈scope.names,y.2= .local->scope.names.lookup y.1=some .local) (hf:L2.rD scope X=true) (hl:N.length=nt+ix.length) (hx:ixB scope X N nt ix=true) (ok:X.Ok) :
  ∃cl,cN X scope cl N (UG nt ix):=by
 refine cN.free kind cell names (λy hy hk=>?_) hl (λk j hj=>?_) ok
 ·have z:=List.all_eq_true.mp hf y hy
  rw[hk]at z
  have z2:X.env.scope.names.lookup y.1=some NameKind.cell:=by simpa using z
  exact z2
 ·have hk:k<ix.length:=(List.getElem?_eq_some_iff.mp hj).1
  have z:=List.all_eq_true.mp hx k (List.mem_range.mpr hk)
  have hn:nt+k<N.length:=by omega
  rw[List.getElem?_eq_getElem hn,hj]at z
  simp only[Bool.and_eq_true]at z
  obtain⟨⟨z1,z2⟩,z3⟩:=z
  exact⟨_,List.getElem?_eq_getElem hn,by simpa using z1,by simpa using z2,by simpa using z3⟩
theorem Kp.Cy{r:St}{v:Option V}:Kp (none::r) ((none::r).set 0 v):=λi x e=>by
 cases i with
 |zero=>cases e
 |succ i=>exact e
theorem bf{X:Cx}:lJ X (.builtin "isinstance") (λxs H Q=>∃x n t b,xs=[x,.ty n]/\(tP X.K H x t\/∃a ys,x= .ref a/\c7 X.K H a ys/\t= .type "tuple")/\PySem.W.kitOne X.K t (.type n)=some b/\Q (.bl b) H):=by
 intro pins s σ H xs us Q I r h
 obtain⟨x,n,t,b,rfl,ty,e,q⟩:=h
 obtain⟨u,w',rfl,rx,rn⟩:=vals2 r
 cases rn
 rcases ty with ty|⟨a,ys,rfl,hs,rfl⟩
 ·exact TK.bY (Nat.le_refl s.toks) (Hx I rx ty e λtk hup=>⟨.bl b,H,I.tok _,rfl,q⟩)
 ·cases (show u=Value.ref a from rx)
  obtain⟨its,_,⟨o,h1,h2,_⟩,_⟩:=I.tuple hs
  exact TK.bY (Nat.le_refl s.toks) (PySem.W.kia_one PySem.W.kitx_tuple I.pL ⟨o,h1,h2⟩ e (λz=>nomatch z) λtk hup=>⟨.bl b,H,I.tok _,rfl,q⟩)
end L2
namespace GP
open PySem L2 uc
theorem fZ{K:PySem.W.Frag}{t:Value}:PySem.W.kitOne K t t=some true:=by unfold PySem.W.kitOne;rw[if_pos (by simp)]
theorem o4{K:PySem.W.Frag}:PySem.W.kitOne K (.type "int") (.type "bool")=some false:=by kernel_rfl
theorem tG{K:PySem.W.Frag}:PySem.W.kitOne K (.type "int") (.type "list")=some false:=by kernel_rfl
theorem rC{K:PySem.W.Frag}:PySem.W.kitOne K (.type "int") (.type "tuple")=some false:=by kernel_rfl
theorem vf{K:PySem.W.Frag}:PySem.W.kitOne K (.type "int") (.type "str")=some false:=by kernel_rfl
theorem mY{K:PySem.W.Frag}:PySem.W.kitOne K (.type "tuple") (.type "list")=some false:=by kernel_rfl
def Wo(t:Addr)(H:Hp):Hp:=λb=>if b=t then none else H b
theorem Wo.sub{t:Addr}{H:Hp}:ai (Wo t H) H:=λb u h=>by
 unfold Wo at h
 by_cases e:b=t
 ·rw[if_pos e]at h;cases h
 ·rw[if_neg e]at h;exact h
theorem Wo.ne{t:Addr}{H:Hp}{b:Addr}{u:HO}(h:Wo t H b=some u):b≠t:=λe=>by
 unfold Wo at h
 rw[if_pos e]at h;cases h
theorem Wo.in{t:Addr}{H:Hp}{b:Addr}{u:HO}(n:b≠t)(h:H b=some u):Wo t H b=some u:=by
 unfold Wo
 rw[if_neg n];exact h
theorem Wo.free{t:Addr}{H:Hp}{b:Addr}(h:H b=none):Wo t H b=none:=by
 unfold Wo
 split
 ·rfl
 ·exact h
theorem Wo.set{t:Addr}{H:Hp}{o:HO}:Wo t (L2.upd H t o)=Wo t H:=by
 funext b
 unfold Wo
 by_cases e:b=t
 ·rw[if_pos e,if_pos e]
 ·rw[if_neg e,if_neg e,aq e]
theorem Wo.same{t:Addr}{H H':Hp}(e:ai H H'):ai (Wo t H) (Wo t H'):=λb u h=>Wo.in (Wo.ne h) (e b u (Wo.sub b u h))
theorem Wo.upd{t:Addr}{H:Hp}{o:HO}:ai (Wo t H) (L2.upd H t o):=λb u h=>by rw[aq (Wo.ne h)];exact Wo.sub b u h
theorem wG{H:Hp}{t r:Addr}{o:HO}(h:L2.upd H t o r=none):H r=none:=by
 by_cases e:r=t
 ·rw[e,ah]at h;cases h
 ·rw[aq e]at h;exact h
structure wz(K:PySem.W.Frag)(H:Hp)(s t:Addr)(ns:List Int)(k:Int):Prop where
 sq:bP K (Wo t H) s (ns.map V.int)
 len:ns.length<=63
 at_:H t=some (.lst [.int k])
 k0:0<=k
theorem wz.RL{K:PySem.W.Frag}{H:Hp}{s t:Addr}{ns:List Int}{k:Int}(c:wz K H s t ns k)(o:HO):bP K (L2.upd H t o) s (ns.map V.int):=ai.seq Wo.upd c.sq
theorem wz.same{K:PySem.W.Frag}{H H':Hp}{s t:Addr}{ns:List Int}{k:Int}(c:wz K H s t ns k)(e:ai H H'):wz K H' s t ns k:=⟨ai.seq (Wo.same e) c.sq,c.len,e _ _ c.at_,c.k0⟩
theorem wz.step{K:PySem.W.Frag}{H:Hp}{s t:Addr}{ns:List Int}{k k':Int}(c:wz K H s t ns k)(h:0<=k'):wz K (L2.upd H t (.lst [.int k'])) s t ns k':=⟨by rw[Wo.set];exact c.sq,c.len,ah,h⟩
theorem wz.off{K:PySem.W.Frag}{H H':Hp}{s t:Addr}{ns:List Int}{k k':Int}(c:wz K H s t ns k)(e:ai (Wo t H) (Wo t H'))(h:H' t=some (.lst [.int k']))(h0:0<=k'):wz K H' s t ns k':=⟨ai.seq e c.sq,c.len,h,h0⟩
theorem xV{c:Int}(h1: -(10 ^ 40)<=c)(h2:c<=10 ^ 40):Sm c:=by
 have h:c.natAbs<=10 ^ 40:=by omega
 have h3:(10:Nat) ^ 40<2 ^ 200:=by decide
 exact Nat.lt_of_le_of_lt h h3
def Ld(f:cF):Prop:=1<=f.2/\f.2<=999/\Sm f.1
theorem Ld.h{f:cF}(h:Ld f):Ug f:=⟨⟨h.1,by have:=h.2.1;omega⟩,h.2.2⟩
def pR(K:PySem.W.Frag):Sp:=λvs H Q _=>∃(s t:Addr) (ns:List Int) (k:Int),vs=[.ref s,.ref t]/\wz K H s t ns k/\k<=100000 ∧
 ∀m:Int,0<=m->m<1999999973->Q (.int m) (L2.upd H t (.lst [.int (k+1)]))
structure tU(K:PySem.W.Frag)(H:Hp)(l:Addr)(rs:List Addr)(rows:List (List cF)):Prop where
 len:rs.length=rows.length
 at_:H l=some (.lst (rs.map V.ref))
 nd:rs.Nodup
 nl:l∉rs
 row:∀(i:Nat) r row,rs[i]? =some r->rows[i]? =some row->∃ps:List Addr,H r=some (.lst (ps.map V.ref))/\Paired (kr K H) ps row
theorem tU.same{K:PySem.W.Frag}{H H':Hp}{l:Addr}{rs:List Addr}{rows:List (List cF)}(e:ai H H')(h:tU K H l rs rows):tU K H' l rs rows :=
 ⟨h.len,e _ _ h.at_,h.nd,h.nl,λi r row h1 h2=>by
  obtain⟨ps,a,b⟩:=h.row i r row h1 h2
  exact⟨ps,e _ _ a,Paired.iS b λ_ _ z=>z.same e⟩⟩
theorem uv{α β:Type}{F:α->β->Prop}:∀{l₁:List α} {l₂:List β},l₁.length=l₂.length->(∀(i:Nat) x y,l₁[i]? =some x->l₂[i]? =some y->F x y)->Paired F l₁ l₂
 |[],[],_,_=>.nil
 |x::l₁,y::l₂,hl,h=>.cons (h 0 x y rfl rfl) (uv (by simpa using hl) λi a b h1 h2=>h (i+1) a b h1 h2)
theorem tU.Xn{K:PySem.W.Frag}{H:Hp}{l:Addr}{rs:List Addr}{rows:List (List cF)}(h:tU K H l rs rows):Ia K H (.lst l) rows:=by
 refine⟨λx z=>(by cases z),rs.map Cp.lst,λd hd x z=>?_,?_,?_⟩
 ·obtain⟨q,_,e⟩:=List.mem_map.mp hd
  rw[←e]at z
  cases z
 ·rw[List.map_map]
  exact bP.of h.at_
 ·refine rW (uv h.len λi r row h1 h2=>?_)
  obtain⟨ps,a,b⟩:=h.row i r row h1 h2
  exact⟨ps,bP.of a,b⟩
end GP
namespace L2
open PySem PySem.Spec PyProof.Rows
set_option maxHeartbeats 2000000 in
theorem z9{X:Cx}{elt tg iter:Expr}{scope:Scope}{pos pos':Pos}{wi:TI}{g:TG}{te:TE}{N:List Str}{nh:St->St}(hc:X.calm=true)(hS:X.Ok->∃cl,cN X scope cl N nh)(hi:PI X tg iter wi)
  (hg:∀cl C s H ex pn E,PG (iA X scope cl C N s H ex pn E) tg g) (he:∀cl C s H ex pn E,PE (iA X scope cl C N s H ex pn E) elt te) (hs:∀x,foldedSetIterable iter X.env x=pure x)
  {pins:List (Addr×Obj)} {s:Shared} {σ:St} {H:Hp} {Q:VK} {use:Option (Value->Sem Unit)} {QQ:Value->Shared->Prop} (I:Inv X pins σ H s) (h:IK wi g te nh σ H Q)
  (Qs:∀(l C:Addr) (mC:Str->Option Value) (H':Hp) (s':Shared),Inv X pins σ H' s'->pO X pins H' C->s'.heap.Ns C mC->Q (.ref l) H'->compPost (model X.prog X.w) X.A X.xe use QQ (.ref l) C (.ok .next) s') :
  wpAny (model X.prog X.w) X.A (comprehension (.ListComp elt [⟨tg,iter,[],0⟩] scope pos) scope X.env pos' (newList []) false (eval iter X.env) use) QQ X.xe s:=by
 obtain⟨cl,S⟩:=hS I.ok
 refine wpAny_comprehension_free (use:=use) rfl hs S.clos S.kind S.names (dI (hi pins s σ H _ I h) λv s1 h1=>dI h1 λitv s2 h2=>?_)
 obtain⟨it,fp,tn,J,H2,e,I2,T,st2,f2,hq⟩:=h2
 subst e
 obtain⟨W,⟨m0,w0⟩,turn⟩:=hq _ I2.fresh
 refine wpAny_newObj_type (DE S λBh h₁ G E3 kp=>?_)
 have I3:Inv X pins σ (upd H2 s2.heap.objs.size (.lst [])) { s2 with heap:=s2.heap.push { cls:=.type "list",data:=.seq ([]:List Value).toArray } }:=I2.Se (t':=s2.toks) .nil (Nat.zero_le _)
 have CO:∀b o,s2.heap.get? b=some o->(s2.heap.push { cls:=.type "list",data:=.seq ([]:List Value).toArray }).get? b=some o:=λb o e=>Heap.get?_push_of_some _ e
 have f3:∀b∈fp,pO X pins (upd H2 s2.heap.objs.size (.lst [])) b/\b<(s2.heap.push { cls:=.type "list",data:=.seq ([]:List Value).toArray }).objs.size:=λb hb=>by
  obtain⟨o,ho,_⟩:=T.obj _ _ st2 b hb
  have hlt:=Heap.lt_size ho
  obtain⟨f0,f1⟩:=f2 b hb
  exact⟨⟨by rw[aq (Nat.ne_of_lt hlt)];exact f0,f1⟩,Heap.lt_size (CO b o ho)⟩
 have st3:tn 0 h₁:=T.keep _ _ _ st2 λb _ o e=>kp b o (CO b o e)
 generalize hR:(λr s'=>compPost (model X.prog X.w) X.A X.xe use QQ (.ref s2.heap.objs.size) (s2.heap.push { cls:=.type "list",data:=.seq ([]:List Value).toArray }).objs.size r s')=R
 generalize qU:iA X scope Bh (s2.heap.push { cls:=.type "list",data:=.seq ([]:List Value).toArray }).objs.size N { s2 with heap:=s2.heap.push { cls:=.type "list",data:=.seq ([]:List Value).toArray } }
  (upd H2 s2.heap.objs.size (.lst [])) fp (X.pn++pins) (notedBy (model X.prog X.w) X.A (compEnvC scope Bh (s2.heap.push { cls:=.type "list",data:=.seq ([]:List Value).toArray }).objs.size X.env) λe s'=>R (.error e) s')=X'
 have I4:Inv X' [] (nh σ) (upd H2 s2.heap.objs.size (.lst [])) { s2 with heap:=h₁ }:=by
  subst qU
  exact Di (s:={ s2 with heap:=s2.heap.push { cls:=.type "list",data:=.seq ([]:List Value).toArray } }) S G I3 f3 kp E3 s2.toks
 have YX:PG X' tg g:=by subst qU;exact hg _ _ _ _ _ _ _
 have YY:PE X' elt te:=by subst qU;exact he _ _ _ _ _ _ _
 have stat:∀{H':Hp},(∀b∈fp,H' b=none)->∀b∈fp,pO X' [] H' b:=λhn b hb=>by
  subst qU
  obtain⟨⟨_,f1,fn,_,f4,f5⟩,lt⟩:=f3 b hb
  refine⟨hn b hb,Nat.ne_of_lt lt,λz=>?_,.inl hb,λx c e=>(G.look x c e).elim (λz=>Nat.ne_of_gt (Nat.lt_trans lt z.1)) λz=>f4 x c (S.sub x c z),λp hp=>f5 p ?_⟩
  ·rcases List.mem_cons.mp (I3.rO b z)with q|q
   ·exact f1 q
   ·exact fn q
  ·rcases List.mem_append.mp hp with z|z
   ·exact z
   ·cases z
 have hp1:X'.prog=X.prog:=by subst qU;rfl
 have hp2:X'.w=X.w:=by subst qU;rfl
 have hp3:X'.K=X.K:=by subst qU;rfl
 have S9:X'.calm=true:=by subst qU;exact hc
 have Ip:X'.A=X.A:=by subst qU;rfl
 have Qm:X'.env=compEnvC scope Bh (s2.heap.push { cls:=.type "list",data:=.seq ([]:List Value).toArray }).objs.size X.env:=by subst qU;rfl
 have Nk:X'.xe=notedBy (model X.prog X.w) X.A X'.env λe s'=>R (.error e) s':=by subst qU;rfl
 have fin:∀{H':Hp} {s':Shared},Inv X' [] (nh σ) H' s'->Q (.ref s2.heap.objs.size) H'->R (.ok .next) s':=by
  intro H' s' I5 q
  subst hR
  obtain⟨mC,Tf,_⟩:=I5.loc
  rw[Qm]at Tf
  have hok:lS X.prog X.w H' s'.heap:=by
   have z:=I5.hok
   rw[hp1,hp2]at z
   exact z
  have u:Un (frs X.stack) fp (upd H2 s2.heap.objs.size (.lst [])) H' (s2.heap.push { cls:=.type "list",data:=.seq ([]:List Value).toArray }) s'.heap:=by
   have z:=I5.base
   subst qU
   exact z
  have hC:H' (s2.heap.push { cls:=.type "list",data:=.seq ([]:List Value).toArray }).objs.size=none:=by
   have zf:=I5.free
   rw[Qm]at zf
   exact zf
  refine Qs _ _ mC H' s' (I3.KG (ch:=fp) (s':=s') (by have z:=I5.os;subst qU;exact z) u hok I5.bare (λb hb=>?_) (by have z:=I5.up;subst qU;exact Nat.le_trans I3.up z)) (I3.uM (Nat.le_refl _) hC) Tf q
  obtain⟨⟨_,f1,_,YH,f4,f5⟩,_⟩:=f3 b hb
  exact⟨YH,f1,f4,f5⟩
 have loop:∀s3:Shared,Inv X' [] (nh σ) (upd H2 s2.heap.objs.size (.lst [])) s3->tn 0 s3.heap →
   codeAny (model X.prog X.w) X.A (.compLoop (.ListComp elt [⟨tg,iter,[],0⟩] scope pos) 0 (.ref it) (.ref s2.heap.objs.size) X'.env) R s3:=by
  intro s3 J3 t3
  refine codeAny_loop rfl (λn s'=>∃i ys H',Inv X' [] (nh σ) H' s'/\tn i s'.heap/\(∀b∈fp,H' b=none)/\W i n ys H') ?_ m0 ⟨0,[],_,J3,t3,λb hb=>(f3 b hb).1.1,w0⟩
  rintro n s4 ⟨i,ys,H4,J4,t4,n4,w4⟩
  show wpAny _ _ ((compTurn (.ListComp elt [⟨tg,iter,[],0⟩] scope pos) 0 (.ref it) (.ref s2.heap.objs.size) X'.env).onRaise (λx=>do noteFrame x X'.env;theTreesLotGoes x)) _ _ s4
  refine wpAny_noted ?_
  rw[compTurn_list1]
  refine wpAny_bind (wpAny_standAt (wpAny_bind ?_))
  rcases turn i n ys H4 w4 with⟨stop,q⟩|⟨go,step⟩
  ·have z:=T.done X' hp1 hp2 hp3 S9 i [] s4 (nh σ) H4 (notedBy (model X.prog X.w) X.A X'.env λe s'=>R (.error e) s') J4 (stat n4) t4 stop
   rw[Ip]at z
   refine wpAny_mono z (λr s5 ⟨hr,J5⟩=>?_) λ_ _ x=>x
   subst hr
   exact wpAny_pure (fin J5 q)
  ·have z:=T.item X' hp1 hp2 hp3 S9 i [] s4 (nh σ) H4 (notedBy (model X.prog X.w) X.A X'.env λe s'=>R (.error e) s') J4 (stat n4) t4 go
   rw[Ip]at z
   refine wpAny_mono z (λr s5 ⟨u,hr,h5⟩=>?_) λ_ _ x=>x
   subst hr
   refine wpAny_bind (wpAny_mono h5 (λ_ s6 ⟨x,H6,J6,r6,y6,t6,n6⟩=>?_) λ_ _ x=>x)
   have Y0:=J6.pinned (stat n6) (T.obj _ _ t6)
   have zg:=YX _ s6 (nh σ) H6 x u _ Y0 r6 (step x H6 y6)
   rw[hp1,hp2,Ip,Nk]at zg
   refine wpAny_bind (wpAny_mono zg (λ_ s7 ⟨BQ,H7,J7,k7,q7⟩=>?_) λ_ _ x=>x)
   have ze:=YY _ s7 BQ H7 _ J7 q7
   rw[hp1,hp2,Ip,Nk]at ze
   refine wpAny_bind (wpAny_bind (wpAny_mono ze (λyv s8 ⟨y,H8,J8,r8,e8,z8,m',hm,w8⟩=>?_) λ_ _ x=>x))
   have za:=cY (X:=X') _ s8 BQ H8 (.ref s2.heap.objs.size) [y] (.ref s2.heap.objs.size) [yv] (λ_ H9=>H9=upd H8 s2.heap.objs.size (.lst (ys++[y]))) J8 rfl (.cons r8 .nil) ⟨_,ys,y,rfl,rfl,e8,z8,rfl⟩
   rw[hp1,hp2,Ip,Nk]at za
   refine wpAny_bind (wpAny_mono za (λ_ s9 ⟨_,H9,J9,_,e9⟩=>?_) λ_ _ x=>x)
   subst e9
   refine wpAny_pure (wpAny_pure ⟨rfl,m',hm,i+1,ys++[y],_,?_,?_,?_,w8⟩)
   ·refine J9.IC.weak ?_ ?_
    ·rw[S.len,J9.len]
     subst qU
     rfl
    ·exact k7
   ·exact T.keep _ _ _ t6 λb hb o e=>(J9.pin (b,o) (List.mem_append_right _ (List.mem_append_right _ (iK hb e)))).1
   ·intro b hb
    obtain⟨o,e,d⟩:=T.obj _ _ t6 b hb
    exact(J9.pin (b,o) (List.mem_append_right _ (List.mem_append_right _ (iK hb e)))).2.1
 have l0:=loop _ I4 st3
 have l1:=codeAny_compStart_list l0 (T.self X.A 0 _ _ _ st3 l0)
 rw[Qm]at l1
 subst hR
 exact l1
theorem mH{X:Cx}{elt tg iter:Expr}{scope:Scope}{pos:Pos}{wi:TI}{g:TG}{te:TE}{N:List Str}{nh:St->St}(hc:X.calm=true)(hS:X.Ok->∃cl,cN X scope cl N nh)(hi:PI X tg iter wi)
  (hg:∀cl C s H ex pn E,PG (iA X scope cl C N s H ex pn E) tg g) (he:∀cl C s H ex pn E,PE (iA X scope cl C N s H ex pn E) elt te)
  (hs:∀x,foldedSetIterable iter X.env x=pure x:=by intro _;rfl):PE X (.ListComp elt [⟨tg,iter,[],0⟩] scope pos) (IK wi g te nh):=by
 intro pins s σ H Q I h
 rw[eval_ListComp]
 refine z9 (use:=none) (QQ:=EP X pins σ Q) hc hS hi hg he hs I h ?_
 intro l C mC H' s' I' fp hn q
 exact⟨mC,hn,λh' sb=>⟨.ref l,H',I'.moved (ch:=[C]) (t':=s'.toks) (λb o hb e=>(sb.2 b (by simpa using hb)).trans e) (λb hb=>by rw[List.mem_singleton.mp hb];exact fp),rfl,q⟩⟩
theorem wZ{X:Cx}{i:Nat}{y:Str}{py spos:Pos}{elt tg iter:Expr}{scope:Scope}{pos:Pos}{wi:TI}{g:TG}{te:TE}{N:List Str}{nh:St->St}(hN:X.N.Nodup)(hi:X.N[i]? =some y)(hx:Loc X.env.scope y)
  (hc:X.calm=true) (hS:X.Ok->∃cl,cN X scope cl N nh) (hit:PI X tg iter wi)
  (hg:∀cl C s H ex pn E,PG (iA X scope cl C N s H ex pn E) tg g) (he:∀cl C s H ex pn E,PE (iA X scope cl C N s H ex pn E) elt te)
  (hsw:swapsWith (.ListComp elt [⟨tg,iter,[],0⟩] scope pos) (some (.Name y py)) spos.line X.env=pure true:=by rfl)
  (hf:X.fn y=true\/X.env.scope.names.lookup y=some .local:=by first|exact .inl rfl|exact .inr rfl|assumption)
  (hs:∀x,foldedSetIterable iter X.env x=pure x:=by intro _;rfl):PS X (.Assign [.Name y py] (.ListComp elt [⟨tg,iter,[],0⟩] scope pos) spos) (Lx (IK wi g te nh) (Gu i)):=by
 intro pins s σ H D I h
 rw[exec_Assign_Name_used _ _ _ _ hsw]
 refine wpAny_bind (wpAny_standAt (wpAny_bind ?_))
 show wpAny _ X.A (do let _ ←comprehension (.ListComp elt [⟨tg,iter,[],0⟩] scope pos) scope X.env _ (newList []) false (eval iter X.env) (some (assign (.Name y py) X.env))) _ _ s
 refine wpAny_bind (wpAny_mono (z9 (use:=some (assign (.Name y py) X.env)) (QQ:=λ_ s'=>SP X pins D .next s') hc hS hit hg he hs I h ?_) (λ_ s' hq=>wpAny_pure (wpAny_pure hq)) λ_ _ e=>e)
 intro l C mC H' s' I' fp hn q
 show wpAny _ X.A (assign (.Name y py) X.env (.ref l)) _ _ _
 refine wpAny_assign_Name (uf I' hN hi hx (v:=.ref l) rfl (λs2 I2 sb=>?_) hf)
 obtain⟨a,sb,ha⟩:=sb
 have nC:C≠a:=by
  obtain⟨_,f1,_,_,f4,_⟩:=fp
  rcases ha with z|z
  ·rw[z];exact f1
  ·exact λe=>f4 y a z e.symm
 refine⟨mC,hn.sameBut sb nC,λh' WX=>?_⟩
 refine⟨_,H',I2.moved (ch:=[C]) (t':=s2.toks) (λb o hb e=>(WX.2 b (by simpa using hb)).trans e) (λb hb=>?_),q⟩
 rw[List.mem_singleton.mp hb]
 exact fp
end L2
namespace L2
open PySem PySem.Spec PyProof.Rows
theorem Mj{X:Cx}{K':PySem.W.Frag}(hK:X.K=K'):Uj X (RU K'):=by subst hK;exact bR
end L2
namespace GP
open PySem L2 uc
theorem Wo.aq{t q:Addr}{H:Hp}{o:HO}(n:q≠t):Wo t (L2.upd H q o)=L2.upd (Wo t H) q o:=by
 funext b
 by_cases e:b=q
 ·subst e
  rw[L2.ah]
  unfold Wo
  rw[if_neg n,L2.ah]
 ·rw[L2.aq e]
  unfold Wo
  split
  ·rfl
  ·rw[L2.aq e]
theorem Wo.step{t:Addr}{H H':Hp}{o:HO}(e:ai (L2.upd H t o) H'):ai (Wo t H) (Wo t H'):=by
 have z:=Wo.same (t:=t) e
 rw[Wo.set]at z
 exact z
theorem Wo.back{t r:Addr}{H H':Hp}{o:HO}(e:ai (Wo t H) (Wo t H'))(ht:H' t=some o)(h:H' r=none):H r=none:=by
 cases q:H r with
 |none=>rfl
 |some u =>
  have n:r≠t:=λz=>by rw[z,ht]at h;cases h
  have z:=Wo.sub _ _ (e r u (Wo.in n q))
  rw[h]at z
  cases z
theorem Paired.RJ{α β:Type}{F:α->β->Prop}{x:α}{y:β}:∀{l₁:List α} {l₂:List β} (j:Nat),Paired F l₁ l₂->F x y->Paired F (l₁.set j x) (l₂.set j y)
 |_,_,_,.nil,_=>.nil
 |_,_,0,.cons r t,h=>.cons h t
 |_,_,j+1,.cons r t,h=>.cons r (Paired.RJ j t h)
theorem tU.put{K:PySem.W.Frag}{H:Hp}{l r p:Addr}{rs ps:List Addr}{rows:List (List cF)}{row:List cF}{i j:Nat}{f:cF}(h:tU K H l rs rows)(hr:rs[i]? =some r)(Qh:rows[i]? =some row)
  (hps:H r=some (.lst (ps.map V.ref))) (hp:Paired (kr K H) ps row) (hf:kr K H p f):tU K (L2.upd H r (.lst ((ps.map V.ref).set j (.ref p)))) l rs (rows.set i (row.set j f)):=by
 have UK:l≠r:=λz=>h.nl (z▸List.mem_of_getElem? hr)
 refine⟨by rw[List.length_set];exact h.len,by rw[L2.aq UK];exact h.at_,h.nd,h.nl,λi' r' Pg h1 h2=>?_⟩
 have hi:i<rows.length:=(List.getElem?_eq_some_iff.mp Qh).1
 by_cases e:i=i'
 ·subst e
  rw[hr]at h1
  cases h1
  rw[List.getElem?_set,if_pos rfl,if_pos hi]at h2
  cases h2
  refine⟨ps.set j p,by rw[L2.ah,List.map_set],?_⟩
  exact Paired.iS (Paired.RJ j hp hf) λ_ _ z=>c7.off hps z
 ·rw[List.getElem?_set,if_neg e]at h2
  obtain⟨ps',a,b⟩:=h.row i' r' Pg h1 h2
  have n:r'≠r:=λz=>by
   subst z
   exact e ((List.getElem?_inj (List.getElem?_eq_some_iff.mp hr).1 h.nd).mp (hr.trans h1.symm))
  exact⟨ps',by rw[L2.aq n];exact a,Paired.iS b λ_ _ z=>c7.off hps z⟩
theorem tU.snoc{K:PySem.W.Frag}{H H':Hp}{l r:Addr}{rs ps:List Addr}{rows:List (List cF)}{row:List cF}(h:tU K H l rs rows)(e:ai H H')(hr:H r=none)(hps:H' r=some (.lst (ps.map V.ref)))(hp:Paired (kr K H') ps row):
  tU K (L2.upd H' l (.lst (rs.map V.ref++[.ref r]))) l (rs++[r]) (rows++[row]):=by
 have hl':=e _ _ h.at_
 have UK:r≠l:=λz=>by rw[z,h.at_]at hr;cases hr
 have nin:r∉rs:=λz=>by
  obtain⟨i,hi,ei⟩:=List.getElem_of_mem z
  have hi2:i<rows.length:=by rw[←h.len];exact hi
  obtain⟨ps',a,_⟩:=h.row i r rows[i] (by rw[List.getElem?_eq_getElem hi,ei]) (List.getElem?_eq_getElem hi2)
  rw[hr]at a
  cases a
 refine⟨by rw[List.length_append,List.length_append,h.len];rfl,by rw[L2.ah,List.map_append];rfl,?_,?_,λi r' Pg h1 h2=>?_⟩
 ·refine List.nodup_append.mpr ⟨h.nd,(by simp),λx hx y hy z=>?_⟩
  rw[List.mem_singleton.mp hy]at z
  exact nin (z▸hx)
 ·intro z
  rcases List.mem_append.mp z with z|z
  ·exact h.nl z
  ·exact UK (List.mem_singleton.mp z).symm
 ·by_cases q:i<rs.length
  ·rw[List.getElem?_append_left q]at h1
   rw[List.getElem?_append_left (by rw[←h.len];exact q)]at h2
   obtain⟨ps',a,b⟩:=h.row i r' Pg h1 h2
   have n:r'≠l:=λz=>h.nl (z▸List.mem_of_getElem? h1)
   exact⟨ps',by rw[L2.aq n];exact e _ _ a,Paired.iS b λ_ _ z=>c7.off hl' (z.same e)⟩
  ·have q':rs.length<=i:=Nat.le_of_not_lt q
   rw[List.getElem?_append_right q']at h1
   rw[List.getElem?_append_right (by rw[←h.len];exact q')]at h2
   have z:i-rs.length=0:=by
    have:=(List.getElem?_eq_some_iff.mp h1).1
    simp at this
    omega
   rw[z]at h1
   rw[←h.len,z]at h2
   cases h1
   cases h2
   exact⟨ps,by rw[L2.aq UK];exact hps,Paired.iS hp λ_ _ z=>c7.off hl' z⟩
end GP
namespace GP
open PySem L2 uc
section
variable{K:PySem.W.Frag}{C:Addr}{H0 H H':Hp}{t l x o m:Addr}{rs:List Addr}{sg:Str}{rows:List (List cF)}{fo fm:cF}{k:Int}
end
end GP
namespace L2
open PySem PySem.Spec PyProof.Rows
section
variable{X:Cx}
end
end L2
namespace GP
open PySem L2 uc
def TupAt(H:Hp)(q:Addr)(f:cF):Prop:=H q=some (.tup [.int f.1,.int f.2])
theorem TupAt.same{H H':Hp}{q:Addr}{f:cF}(e:ai H H')(h:TupAt H q f):TupAt H' q f:=e _ _ h
theorem TupAt.fr{K:PySem.W.Frag}{H:Hp}{q:Addr}{f:cF}(h:TupAt H q f):kr K H q f:=c7.of h
def Of(sg x:Str):Prop:=∀c∈x.cps.toList,c∈sg.cps.toList
theorem QC{x:Str}{i c:Nat}(h:x.cps[i]? =some c):i<x.cps.size:=by
 rw[←Array.getElem?_toList]at h
 have:=(List.getElem?_eq_some_iff.mp h).1
 simpa using this
theorem nT{x:Str}{i c:Nat}(h:x.cps[i]? =some c):c∈x.cps.toList:=by
 rw[←Array.getElem?_toList]at h
 exact List.mem_of_getElem? h
theorem kh{x:Str}{i c:Nat}(h:x.cps[i]? =some c):x.cps.toList[i]? =some c:=by
 rw[Array.getElem?_toList];exact h
theorem Bc{x:Str}{i:Nat}(h:i<x.cps.size):∃c,x.cps[i]? =some c:=⟨x.cps[i],by simp[h]⟩
def Pw(sg:Str)(rows:List (List cF))(u:Int)(a b:Nat):Int :=
 match (rows[sg.cps.toList.idxOf a]?).bind (·[sg.cps.toList.idxOf b]?)with
 |some f=>f.1*(u / f.2)
 |none=>0
theorem Ju{sg:Str}{rows:List (List cF)}{u:Int}{a b:Nat}(sq:Lc sg.cps.size rows)(ha:a∈sg.cps.toList)(hb:b∈sg.cps.toList):
  ∃i j f,sg.cps[i]? =some a/\sg.cps[j]? =some b/\Lf rows i j f/\Pw sg rows u a b=f.1*(u / f.2):=by
 have hi:=List.idxOf_lt_length_iff.mpr ha
 have hj:=List.idxOf_lt_length_iff.mpr hb
 have ei:sg.cps.toList[sg.cps.toList.idxOf a]? =some a:=by rw[List.getElem?_eq_getElem hi,List.getElem_idxOf hi]
 have ej:sg.cps.toList[sg.cps.toList.idxOf b]? =some b:=by rw[List.getElem?_eq_getElem hj,List.getElem_idxOf hj]
 have hi':sg.cps.toList.idxOf a<rows.length:=by rw[sq.1];simpa using hi
 have hj':sg.cps.toList.idxOf b<(rows[sg.cps.toList.idxOf a]).length:=by rw[sq.2 _ (List.getElem_mem hi')];simpa using hj
 refine⟨_,_,(rows[sg.cps.toList.idxOf a])[sg.cps.toList.idxOf b],by rw[←Array.getElem?_toList];exact ei,by rw[←Array.getElem?_toList];exact ej,⟨_,List.getElem?_eq_getElem hi',List.getElem?_eq_getElem hj'⟩,?_⟩
 unfold Pw
 rw[List.getElem?_eq_getElem hi']
 show(match (rows[sg.cps.toList.idxOf a])[sg.cps.toList.idxOf b]? with|some f=>f.1*(u / f.2)|none=>0)=_
 rw[List.getElem?_eq_getElem hj']
def jV(u:Int)(f:cF):Int:=f.1*(u / f.2)
def F0(K:PySem.W.Frag)(C:Addr):Sp:=λvs H Q _=>∃(x:Addr) (sg:Str) (rows:List (List cF)) (fo fm:cF) (a b:Str),vs=[.ref x,.str a,.str b]/\mJ K C H x sg rows fo fm ∧
 Q (.int (if a=b then jV (cu fo.2 fm.2 rows) fm else jV (cu fo.2 fm.2 rows) fo+jV (cu fo.2 fm.2 rows) fm)) H
end GP
namespace GP
open PySem L2 uc
theorem c7.wo{K:PySem.W.Frag}{H:Hp}{t a:Addr}{ys xs:List V}(ht:H t=some (.lst ys))(h:c7 K H a xs):c7 K (Wo t H) a xs:=by
 rcases h with(h|⟨u,h⟩)|h
 ·exact .inl (.inl (Wo.in (qb h ht (by intro z;cases z)) h))
 ·exact .inl (.inr ⟨u,Wo.in (qb h ht (by intro z;cases z)) h⟩)
 ·exact .inr h
theorem mJ.wo{K:PySem.W.Frag}{C:Addr}{H:Hp}{t x:Addr}{ys:List V}{sg:Str}{rows:List (List cF)}{fo fm:cF}(ht:H t=some (.lst ys))(nf:KS H x t)(h:mJ K C H x sg rows fo fm):mJ K C (Wo t H) x sg rows fo fm:=by
 obtain⟨a,b,c,d,f,g,i,dx,P,o,m,dd,kvs,h1,⟨qs,h2,h2'⟩,h3,h4,h5,h6,fs,h7,h8,h9⟩:=h
 have n:dd.2≠t:=λz=>nf _ _ _ h1 (by rw[o8,z])
 refine⟨a,b,c,d,f,g,i,dx,P,o,m,dd,kvs,Wo.in (qb h1 ht (by intro z;cases z)) h1,⟨qs,c7.wo ht h2,Paired.iS h2' λq r z=>?_⟩,c7.wo ht h3,c7.wo ht h4,Wo.in (qb h5 ht (by intro z;cases z)) h5,h6,fs,h7,h8,Wo.in n h9⟩
 obtain⟨ps,z1,z2⟩:=z
 exact⟨ps,c7.wo ht z1,Paired.iS z2 λ_ _ y=>c7.wo ht y⟩
end GP
namespace L2
open PySem PySem.Spec PyProof.Rows
def Fy(h:Heap)(φ:Addr->Prop)(ea:Addr)(cls:Value)(od:Option Addr):Prop :=
 φ ea/\∃vs sl,h.get? ea=some ⟨cls,od,.fields vs,sl⟩/\(od=none->vs[2]? =some .none)/\(vs[1]? =some .none ∨
  ∃T oT ts,vs[1]? =some (.ref T)/\T≠ea/\φ T/\h.get? T=some oT/\oT.data= .fields ts/\3<ts.size)
def zw(h:Heap)(φ:Addr->Prop)(ea:Addr)(cls:Value)(od:Option Addr):Prop :=
 φ ea/\∃vs sl,h.get? ea=some ⟨cls,od,.fields vs,sl⟩/\(od=none->vs[2]? =some .none) ∧
  ∃T oT ts,vs[1]? =some (.ref T)/\T≠ea/\φ T/\h.get? T=some oT/\oT.data= .fields ts/\3<ts.size
theorem zw.n{h:Heap}{φ:Addr->Prop}{ea:Addr}{cls:Value}{od:Option Addr}(x:zw h φ ea cls od):Fy h φ ea cls od:=by
 obtain⟨p,vs,sl,e,c2,t⟩:=x
 exact⟨p,vs,sl,e,c2,.inr t⟩
theorem Fy.to{h:Heap}{φ ψ:Addr->Prop}{ea:Addr}{cls:Value}{od:Option Addr}(x:Fy h φ ea cls od)(m:∀b,φ b->ψ b):Fy h ψ ea cls od:=by
 obtain⟨p,vs,sl,e,c2,t⟩:=x
 refine⟨m _ p,vs,sl,e,c2,?_⟩
 rcases t with t|⟨T,oT,ts,a,b,c,d⟩
 ·exact .inl t
 ·exact .inr ⟨T,oT,ts,a,b,m _ c,d⟩
structure nV(fr:List Addr)(φ:Addr->Prop)(h h':Heap):Prop where
 keep:∀b o,h.get? b=some o->¬ φ b->b∉fr->h'.get? b=some o
 slot:∀b o,h.get? b=some o->¬ φ b->∃sl,h'.get? b=some { o with slots:=sl }
 there:∀b o,h.get? b=some o->∃o',h'.get? b=some o'
 size:h.objs.size<=h'.objs.size
theorem nV.refl{fr:List Addr}{φ:Addr->Prop}{h:Heap}:nV fr φ h h:=⟨λ_ _ e _ _=>e,λ_ o e _=>⟨o.slots,e⟩,λ_ o e=>⟨o,e⟩,Nat.le_refl _⟩
theorem nV.trans{fr:List Addr}{φ:Addr->Prop}{h h1 h2:Heap}(a:nV fr φ h h1)(b:nV fr φ h1 h2):nV fr φ h h2 where
 keep:=λc o e n f=>b.keep c o (a.keep c o e n f) n f
 slot:=λc o e n=>by
  obtain⟨sl,e1⟩:=a.slot c o e n
  obtain⟨Ij,e2⟩:=b.slot c _ e1 n
  exact⟨Ij,e2⟩
 there:=λc o e=>by
  obtain⟨o',e1⟩:=a.there c o e
  exact b.there c o' e1
 size:=Nat.le_trans a.size b.size
section
variable{M:Model}{A:Around}{E:Value->Shared->Prop}{s:Shared}{base:Heap}{env e0:Env}{r:List Env}{L ea:Addr}{φ:Addr->Prop}{cls:Value}{od:Option Addr}
theorem Dr{Q:Value->Shared->Prop}(hs:A.frames=some (e0::r))(hl:s.heap.FunFrames base (e0::r))(h0:e0.frame=some L)(he:env.frame=some L)
  (h:∀h',Heap.SlotsOnly ((e0::r).filterMap (·.frame)) s.heap h'->Q (.ref L) { s with heap:=h' }):wpAny M A (PySem.frameOf env) Q E s:=by
 unfold PySem.frameOf
 refine wpAny_bind (wpAny_frameEnvs hs ?_)
 rw[show((e0::r).dropWhile λx=>x.frame != env.frame)=e0::r by simp[List.dropWhile,h0,he]]
 unfold frameObject
 refine wpAny_bind (wpAny_bind (wpAny_readyFrames_fun hl λh1 k1=>wpAny_pure ?_))
 rw[h0]
 exact wpAny_pure (h h1 k1)
theorem z7{vs:Array Value}{sl:Array (Option Value)}{head:Value}{hadNext:Bool}{Q:Unit->Shared->Prop}(hs:A.frames=some (e0::r))(hl:s.heap.FunFrames base (e0::r))(h0:e0.frame=some L)(hf:env.frame=some L)
  (pe:φ ea) (he:s.heap.get? ea=some ⟨cls,od,.fields vs,sl⟩) (h1:1<vs.size) (h2:od=none->vs[2]? =some .none) (new:∀b,s.heap.objs.size<=b->φ b)
  (q:∀h',nV (frs (e0::r)) φ s.heap h'->zw h' φ ea cls od->Q () { s with heap:=h' }) :
  wpAny M A (do let a ←PySem.frameOf env;let pl ←entryPlaceOf L hadNext;let b ←EntryCells.newEntry head a .none (rawInt L) .none pl;setField (.ref ea) 1 b) Q E s:=by
 have nfr:ea∉(e0::r).filterMap (·.frame):=λhm=>by
  obtain⟨_,o,ho,nf⟩:=hl.mem hm
  rw[he]at ho
  cases ho
  exact nf vs rfl
 refine wpAny_bind (Dr hs hl h0 hf λg k=>?_)
 refine wpAny_bind (wpAny_entryPlaceOf λpl pk=>?_)
 simp only[EntryCells.newEntry,newFields]
 refine wpAny_bind (wpAny_newObj_type ?_ (pk.sizeOk5 _ _ _ _ _))
 have e1:g.get? ea=some ⟨cls,od,.fields vs,sl⟩:=(k.2.1 ea nfr).trans he
 have ne:g.objs.size≠ea:=Nat.ne_of_gt (Heap.lt_size e1)
 generalize hob:({ cls:=.type "traceback",dict:=none,data:=.fields ([head,.ref L,.none,rawInt L,.none]++(if pl.isEmpty then List.replicate 6 Value.none else pl)).toArray }:Obj)=ob
 have e2:=Heap.get?_push_of_some (h:=g) ob e1
 refine wpAny_setField e2 rfl h1 (q _ ⟨λb o e n f=>?_,λb o e n=>?_,λb o e=>?_,?_⟩ ⟨pe,_,sl,Heap.get?_update_self _ e2 rfl,λz=>(Array.getElem?_setIfInBounds_ne (by decide)).trans (h2 z),g.objs.size,ob,_,?_,ne,new _ (Nat.le_of_eq k.1.symm),?_,by subst hob;rfl,?_⟩)
 ·have be:b≠ea:=λz=>n (z▸pe)
  rw[Heap.get?_update_other _ _ (Ne.symm be)]
  exact Heap.get?_push_of_some _ ((k.2.1 b f).trans e)
 ·have be:b≠ea:=λz=>n (z▸pe)
  obtain⟨Ij,e'⟩:=k.2.2 b o e
  refine⟨Ij,?_⟩
  rw[Heap.get?_update_other _ _ (Ne.symm be)]
  exact Heap.get?_push_of_some _ e'
 ·by_cases be:b=ea
  ·subst be
   exact⟨_,Heap.get?_update_self _ e2 rfl⟩
  ·obtain⟨Ij,e'⟩:=k.2.2 b o e
   exact⟨{ o with slots:=Ij },(Heap.get?_update_other _ _ (Ne.symm be)).trans (Heap.get?_push_of_some _ e')⟩
 ·rw[Heap.size_after_update,Heap.size_push,k.1]
  exact Nat.le_succ _
 ·simp[h1]
 ·rw[Heap.get?_update_other _ _ (Ne.symm ne)]
  exact Heap.get?_push_size _ (by subst hob;rfl)
 ·rw[List.size_toArray,List.length_append]
  exact Nat.lt_of_lt_of_le (by decide:3<5) (Nat.le_add_right _ _)
theorem CY{Q:Unit->Shared->Prop}(hs:A.frames=some (e0::r))(hl:s.heap.FunFrames base (e0::r))(h0:e0.frame=some L)(hf:env.frame=some L)
  (x:Fy s.heap φ ea cls od) (new:∀b,s.heap.objs.size<=b->φ b) (q:∀h',nV (frs (e0::r)) φ s.heap h'->zw h' φ ea cls od->Q () { s with heap:=h' }) :
  wpAny M A (noteFrame (.ref ea) env) Q E s:=by
 obtain⟨pe,vs,sl,he,c2,hv⟩:=x
 unfold noteFrame
 simp only[hf]
 rcases hv with h1|⟨T,oT,ts,h1,ne,pT,hT,hd,h3⟩
 ·refine wpAny_bind (wpAny_field he rfl h1 ?_)
  rw[if_neg (by decide)]
  exact z7 hs hl h0 hf pe he (Array.getElem?_eq_some_iff.mp h1).1 c2 new q
 ·have g3:ts[3]? =some ts[3]:=Array.getElem?_eq_getElem h3
  refine wpAny_bind (wpAny_field he rfl h1 ?_)
  rw[if_pos (show(Value.ref T != Value.none)=true by simp)]
  refine wpAny_bind (wpAny_field hT hd g3 ?_)
  by_cases e3:(ts[3]==rawInt L)=true
  ·rw[if_pos e3]
   exact wpAny_pure (q s.heap nV.refl ⟨pe,vs,sl,he,c2,T,oT,ts,h1,ne,pT,hT,hd,h3⟩)
  ·rw[if_neg e3]
   refine wpAny_bind (wpAny_setField hT hd h3 ?_)
   have other:∀b,b≠T->(s.heap.update T (Obj.mapFields (·.setIfInBounds 3 Value.none))).get? b=s.heap.get? b:=λb z=>Heap.get?_update_other _ _ (Ne.symm z)
   have n1:nV (frs (e0::r)) φ s.heap (s.heap.update T (Obj.mapFields (·.setIfInBounds 3 Value.none))):=by
    refine⟨λb o e n f=>(other b λz=>n (z▸pT)).trans e,λb o e n=>⟨o.slots,(other b λz=>n (z▸pT)).trans e⟩,λb o e=>?_,Nat.le_of_eq (Heap.size_after_update ..).symm⟩
    by_cases z:b=T
    ·subst z
     exact⟨_,Heap.get?_update_self _ hT (Obj.isFreed_of_fields (Obj.data_mapFields hd _))⟩
    ·exact⟨o,(other b z).trans e⟩
   refine z7 (s:={ s with heap:=s.heap.update T (Obj.mapFields (·.setIfInBounds 3 Value.none)) }) hs (hl.of_keeps λb o e nf=>⟨o,(other b λz=>?_).trans e,rfl⟩) h0 hf pe ((other ea (Ne.symm ne)).trans he) (Array.getElem?_eq_some_iff.mp h1).1 c2
    (λb hb=>new b (Nat.le_trans n1.size hb)) λh' n2 x2=>q h' (n1.trans n2) x2
   subst z
   rw[hT]at e
   cases e
   exact nf ts hd
theorem sC{fl:Option Addr}{fr:List Addr}{Q:Unit->Shared->Prop}(x:zw s.heap φ ea cls od)(q:∀h',nV fr φ s.heap h'->zw h' φ ea cls od->Q () { s with heap:=h' }):
  wpAny M A (setFlight (.ref ea) fl) Q E s:=by
 obtain⟨pe,vs,sl,he,c2,T,oT,ts,h1,ne,pT,hT,hd,h3⟩:=x
 unfold setFlight
 refine wpAny_bind (wpAny_field he rfl h1 ?_)
 rw[if_pos (show(Value.ref T != Value.none)=true by simp)]
 have other:∀(f:Obj->Obj) b,b≠T->(s.heap.update T f).get? b=s.heap.get? b:=λf b z=>Heap.get?_update_other _ _ (Ne.symm z)
 refine wpAny_setField hT hd h3 (q _ ⟨λb o e n f=>(other _ b λz=>n (z▸pT)).trans e,λb o e n=>⟨o.slots,(other _ b λz=>n (z▸pT)).trans e⟩,λb o e=>?_,Nat.le_of_eq (Heap.size_after_update ..).symm⟩
  ⟨pe,vs,sl,(other _ ea (Ne.symm ne)).trans he,c2,T,_,_,h1,ne,pT,Heap.get?_update_self _ hT (Obj.isFreed_of_fields (Obj.data_mapFields hd _)),Obj.data_mapFields hd _,by simp[h3]⟩)
 by_cases z:b=T
 ·subst z
  exact⟨_,Heap.get?_update_self _ hT (Obj.isFreed_of_fields (Obj.data_mapFields hd _))⟩
 ·exact⟨o,(other _ b z).trans e⟩
end
end L2
namespace L2
open PySem PySem.Spec PyProof.Rows
section
variable{X:Cx}{pins:List (Addr×Obj)}{σ:St}{H H':Hp}{s:Shared}
def MI(X:Cx)(pins:List (Addr×Obj))(H:Hp)(b:Addr):Prop :=
 H b=none/\b≠X.env.locals/\b∉X.fs/\(X.s₀.heap.get? b=none\/b∈X.ex)/\(∀x c,X.env.cells.lookup x=some c->c≠b)/\∀p∈X.pn++pins,p.1≠b
theorem Inv.UB{b:Addr}(I:Inv X pins σ H s)(hn:s.heap.get? b=none)(hH:H' b=none):MI X pins H' b:=by
 refine⟨hH,λz=>?_,λz=>?_,?_,λx c e z=>?_,λp hp z=>?_⟩
 ·obtain⟨m,⟨o,_,_,ho,_⟩,_⟩:=I.loc
  rw[←z,hn]at ho
  cases ho
 ·obtain⟨_,o,ho,_⟩:=I.sr.mem z
  rw[hn]at ho
  cases ho
 ·by_cases hx:b∈X.ex
  ·exact .inr hx
  ·left
   cases q:X.s₀.heap.get? b with
   |none=>rfl
   |some o =>
    obtain⟨o',e⟩:=I.base.there b o q hx
    rw[hn]at e
    cases e
 ·obtain⟨v,o,ho,_⟩:=I.cell x c e
  rw[z,hn]at ho
  cases ho
 ·have q:=(I.pin p hp).1
  rw[z,hn]at q
  cases q
theorem Inv.Rm{b:Addr}(I:Inv X pins σ H s)(hb:s.heap.objs.size<=b):MI X pins H b:=I.UB (Heap.get?_none_of_le hb) (I.hok.fresh hb)
theorem Un.noted{fs fr ex:List Addr}{H₀:Hp}{h₀ h h':Heap}{φ:Addr->Prop}(u:Un fs ex H₀ H h₀ h)(n:nV fr φ h h')(new:∀b o,h₀.get? b=some o->b∉ex->¬ φ b)(hf:∀b o,h₀.get? b=some o->b∈fr->b∈fs):Un fs ex H₀ H h₀ h' where
 keep:=λb o e hn nf nx=>n.keep b o (u.keep b o e hn nf nx) (new b o e nx) λz=>nf (hf b o e z)
 slot:=λb o e hn hb nx=>by
  obtain⟨sl,e1⟩:=u.slot b o e hn hb nx
  obtain⟨Ij,e2⟩:=n.slot b _ e1 (new b o e nx)
  exact⟨Ij,e2⟩
 free:=u.free
 there:=λb o e nx=>by
  obtain⟨o',e1⟩:=u.there b o e nx
  exact n.there b o' e1
 tups:=u.tups
 qV:=u.qV
 rL:=u.rL
theorem lS.noted{P:Program}{w:World}{h h':Heap}{fr:List Addr}{φ:Addr->Prop}(x:lS P w H h)(n:nV fr φ h h')(hφ:∀b,φ b->H b=none)(hf:∀b∈fr,H b=none):lS P w H h':=λa u e =>
 (x a u e).stay (λb v hb q=>by
  have nb:H b≠none:=λz=>by
   rcases hb with y|y
   ·rw[y,e]at z;cases z
   ·rw[y]at z;cases z
  exact n.keep b v q (λz=>nb (hφ b z)) λz=>nb (hf b z)) (λ_ q=>q) λ_ _ q=>q
theorem Inv.noted{h':Heap}(I:Inv X pins σ H s)(n:nV (frs X.stack) (MI X pins H) s.heap h'):Inv X pins σ H { s with heap:=h' }:=by
 have cellK:∀x c,X.env.cells.lookup x=some c->∀v,s.heap.IsCell c v->h'.IsCell c v:=λx c e v ⟨o,ho,hd⟩=>by
  obtain⟨sl,q⟩:=n.slot c o ho λk=>k.2.2.2.2.1 x c e rfl
  exact⟨_,q,hd⟩
 refine⟨I.ok,I.os,I.bare,I.base.noted n (λb o e nx k=>?_) (λb o e z=>?_),?_,λx c e=>?_,I.free,I.jF,λp hp=>?_,I.hok.noted n (λb k=>k.1) I.Ar,I.len,I.up⟩
 ·rcases k.2.2.2.1 with z|z
  ·rw[e]at z;cases z
  ·exact nx z
 ·rcases List.mem_cons.mp (I.rO b z)with q|q
  ·subst q
   exact absurd (Nat.lt_of_lt_of_le (Heap.lt_size e) I.ok.above) (Nat.lt_irrefl _)
  ·exact q
 ·obtain⟨m,⟨o,es,ep,ho,rr⟩,hl⟩:=I.loc
  obtain⟨sl,q⟩:=n.slot _ o ho λk=>k.2.1 rfl
  refine⟨m,⟨_,es,ep,q,rr⟩,λi x v e1 e2 e3=>?_⟩
  obtain⟨u,rv,l⟩:=hl i x v e1 e2 e3
  refine⟨u,rv,?_⟩
  rcases l with l|⟨k,c,e,z⟩
  ·exact .inl l
  ·exact .inr ⟨k,c,e,cellK x c e _ z⟩
 ·obtain⟨v,z⟩:=I.cell x c e
  exact⟨v,cellK x c e v z⟩
 ·obtain⟨e,hn,ne,nf,d⟩:=I.pin p hp
  refine⟨n.keep p.1 p.2 e (λk=>k.2.2.2.2.2 p hp rfl) λz=>?_,hn,ne,nf,d⟩
  rcases List.mem_cons.mp (I.rO _ z)with q|q
  ·exact ne q
  ·exact nf q
end
theorem Un.same{fs ex:List Addr}{H₀ H:Hp}{h₀ h h':Heap}(u:Un fs ex H₀ H h₀ h)(k:∀b o,h₀.get? b=some o->h'.get? b=h.get? b):Un fs ex H₀ H h₀ h' where
 keep:=λb o e hn nf nx=>(k b o e).trans (u.keep b o e hn nf nx)
 slot:=λb o e hn hb nx=>by
  obtain⟨sl,e1⟩:=u.slot b o e hn hb nx
  exact⟨sl,(k b o e).trans e1⟩
 free:=u.free
 there:=λb o e nx=>by
  obtain⟨o',e1⟩:=u.there b o e nx
  exact⟨o',(k b o e).trans e1⟩
 tups:=u.tups
 qV:=u.qV
 rL:=u.rL
def vz(P:Program)(w:World):Ii:=λouter H s E e s'=>∃ea cls od H',e= .ref ea/\s'.os=s.os/\AllBare s'.gens/\s.toks<=s'.toks/\Un (frs outer) [] H H' s.heap s'.heap/\lS P w H' s'.heap ∧
 Fy s'.heap (λb=>s.heap.get? b=none/\H' b=none) ea cls od/\E cls od H'
def Lets(X:Cx)(E:St->XK):Prop:=∀(pins:List (Addr×Obj)) (σ:St) (H:Hp) (s:Shared) (ea:Addr) (cls:Value) (od:Option Addr),Inv X pins σ H s->Fy s.heap (MI X pins H) ea cls od->E σ cls od H->X.xe (.ref ea) s
theorem Lets.pass{X:Cx}{E:St->XK}{pins:List (Addr×Obj)}{σ:St}{H:Hp}{s s':Shared}{e:Value}(L:Lets X E)(I:Inv X pins σ H s)(h:vz X.prog X.w X.stack H s (E σ) e s'):X.xe e s':=by
 obtain⟨ea,cls,od,H',rfl,os,bare,tt,un,hok,x,hE⟩:=h
 have I2:Inv X pins σ H' s':=I.KG (ch:=[]) os un hok bare (λb z=>nomatch z) (Nat.le_trans I.up tt)
 exact L pins σ H' s' ea cls od I2 (x.to λb k=>I.UB k.1 k.2) hE
theorem Lets.passes{X:Cx}{E:XK}(L:Lets X λ_=>E):Passes (vz X.prog X.w) X E:=λ_ _ _ _ _ _ I h=>L.pass I h
section
variable{P:Program}{w:World}{K:PySem.W.Frag}{mg:Str->Option Value}{base:Heap}
theorem oZ{N:List Str}{qual:Str}{scope:Scope}{f:Addr}{cd:Value}{A:Around}{outer:List Env}{s:Shared}{H:Hp}{E:XK}:Lets (tL (vz P w) P w K mg base N qual scope f cd A outer s H E) λ_=>E:=by
 intro pins σ H' s' ea cls od I x hE
 show wpAny _ _ (leaving _ (.ref ea)) _ _ s'
 unfold leaving
 refine wpAny_bind (CY I.ok.frames I.stack rfl rfl x (λb hb=>I.Rm hb) λh1 n1 x1=>?_)
 refine sC (fr:=frs (tL (vz P w) P w K mg base N qual scope f cd A outer s H E).stack) x1 λh2 n2 x2=>?_
 have I2:=I.noted (n1.trans n2)
 refine⟨ea,cls,od,H',rfl,I2.os,I2.bare,I2.up,I2.base,I2.hok,x2.n.to λb k=>⟨?_,k.1⟩,hE⟩
 rcases k.2.2.2.1 with z|z
 ·exact z
 ·exact nomatch z
theorem oX{N:List Str}{qual:Str}{scope:Scope}{f:Addr}{cd:Value}{A:Around}{outer:List Env}{s:Shared}{H:Hp}{E:XK}:
  PassesOwn (model P w) (tL (vz P w) P w K mg base N qual scope f cd A outer s H E).A (tL (vz P w) P w K mg base N qual scope f cd A outer s H E).env (tL (vz P w) P w K mg base N qual scope f cd A outer s H E).xe:=PassesOwn.leaving
theorem Le.PB{x qual:Str}{st:Stmt}{f:Addr}{fd:FuncData}{N ps:List Str}{k:Nat}{sp:Sp}(F:Le K x qual st f fd)(S:aF N ps (ay st))(len:∀vs H Q E,sp vs H Q E->vs.length=ps.length)
  (hbody:∀(cdv:Value) (A:Around) (outer:List Env) (s:Shared) (H:Hp) (vs:List V) (Q:VK) (E:XK),jT k (A.deeper (envOfC qual (ay st) s.heap.objs.size f cdv))->sp vs H Q E →
   ∃t,Al (tL (vz P w) P w K mg base N qual (ay st) f cdv A outer s H E) (dQ st) t/\t { nx:=λ_ H'=>Q .iP H',rt:=Q } (start N vs) H):aI P w K mg base (vz P w) (k+1) f fd ps sp:=by
 obtain⟨oc,od,dV,kV,doc,pm,an,cdv,ct,osl,rfl,lk,hcd⟩:=F.ex
 exact Kl lk hcd S len λA outer s H vs Q E hr D7=>hbody cdv A outer s H vs Q E hr D7
end
theorem bI.got{P:Program}{w:World}{H:Hp}{h:Heap}{a:Addr}{o:HO}(x:bI P w H h a o):h.get? a≠none:=by
 cases o with
 |lst xs=>obtain⟨_,_,_,_,e⟩:=x;rw[e];exact λz=>nomatch z
 |tup xs=>obtain⟨_,_,_,ob,e,_⟩:=x;rw[e];exact λz=>nomatch z
 |dK kvs=>obtain⟨_,_,_,_,o,_,_,e,_⟩:=x;rw[e];exact λz=>nomatch z
 |dT kvs=>obtain⟨_,_,_,_,o,_,_,e,_⟩:=x;rw[e];exact λz=>nomatch z
 |set S n=>obtain⟨o,_,_,_,e,_⟩:=x;rw[e];exact λz=>nomatch z
 |ins C dx fs=>obtain⟨_,_,_,e,_⟩:=x;rw[e];exact λz=>nomatch z
 |own y=>obtain⟨_,e⟩:=x;rw[e];exact λz=>nomatch z
 |xd fs=>obtain⟨_,⟨_,_,_,e,_⟩,_⟩:=x;rw[e];exact λz=>nomatch z
 |UH lo hi=>obtain⟨_,_,_,e⟩:=x;rw[e];exact λz=>nomatch z
 |su ob u=>obtain⟨e,_⟩:=x;rw[e];exact λz=>nomatch z
 |MS ps=>have e:h.get? a=some _:=x;rw[e];exact λz=>nomatch z
 |met f y=>have e:h.get? a=some _:=x;rw[e];exact λz=>nomatch z
 |ext φ=>obtain⟨_,⟨_,e⟩,_⟩:=x;rw[e];exact λz=>nomatch z
theorem lS.none_of{P:Program}{w:World}{H:Hp}{h:Heap}{a:Addr}(x:lS P w H h)(e:h.get? a=none):H a=none:=by
 cases q:H a with
 |none=>rfl
 |some o=>exact absurd e (x a o q).got
set_option genInjectivity false in
structure XP where
 nm:Str
 q:Str
 N:Addr
 bs:List Value
 bm:List Value
 hdct:Bool
 sn:List Str
 sub:List Value
 ab:Bool
 col:Option Bool
 dd:Option Addr
 k0:Option Value
 k1:Option Value
 k2:Option Value
 k3:Option Value
 k5:Option Value
 mN:Str->Option Value
abbrev XP.obj(d:XP)(C:Addr)(newId:String):Obj:=excClassObj d.nm d.q C d.N d.bs d.bm d.hdct d.sn d.sub d.ab d.col d.dd d.k0 d.k1 d.k2 d.k3 d.k5 newId
structure YV(K:PySem.W.Frag)(C:Addr)(Bn B newId inN nid initId:String)(bmN bmB:List Value):Prop where
 fn:ExcBaseFacts Bn newId inN bmN
 has:bmB.contains (.type Bn)=true
 fb:ExcBaseFacts B nid initId bmB
 obj:∀h:Heap,K.In h->∃d:XP,h.get? C=some (d.obj C newId)/\h.Ns d.N d.mN/\d.mN "__init__" =none/\OwnTail h bmB d.bm
def KP(K:PySem.W.Frag)(C:Addr):Prop:=∃Bn B newId inN nid initId bmN bmB,YV K C Bn B newId inN nid initId bmN bmB
theorem Lh {K:PySem.W.Frag} {C:Addr} (q:PySem.W.excIn K C [.type "ValueError",.type "Exception",.type "BaseException",.type "object"] "ValueError.__new__" =true):KP K C:=by
 refine⟨_,_,_,_,_,_,_,_,PySem.F.excBase_ValueError,PySem.F.excBase_ValueError.hasB,PySem.F.excBase_ValueError,λh k=>?_⟩
 unfold PySem.W.excIn at q
 split at q
 ·rename_i dd cd sl hob
  split at q
  ·rename_i C' bm k0 k1 k2 k3 nn k5 hmr JW
   simp only[Bool.and_eq_true,beq_iff_eq,Bool.not_eq_true']at q
   obtain⟨⟨⟨⟨⟨e1,e2⟩,e3⟩,e4⟩,e5⟩,e6⟩:=q
   subst e1 e2
   obtain⟨nm,bs,mro,ns,qn,hd,sn,sub,ab,col,del⟩:=cd
   dsimp only at hmr e3 e5 e6
   subst hmr e3
   have hsl:sl= #[k0,k1,k2,k3,some (.builtin "ValueError.__new__"),k5]:=by
    obtain⟨l⟩:=sl
    simp only at JW
    rw[JW]
   subst hsl
   exact⟨⟨nm,qn,ns,bs,bm,hd,sn,sub,ab,col,dd,k0,k1,k2,k3,k5,_⟩,k _ _ hob,.of_isNs (PySem.W.isNs_of_in k e5),PySem.W.nsMap_none_of_in k e5 e6,PySem.W.tail_of_in k e4⟩
  ·cases q
 ·cases q
def O0(C:Addr)(E:St->XK)(t:TA):TS:=λ_ σ H=>t σ H λvs H1=>vs.length<=sizeLine/\E σ (.ref C) none H1
theorem Ji{X:Cx}{E:St->XK}{C:Addr}{x:Str}{np cpos pos:Pos}{e:Expr}{es:List Expr}{t:TA}(L:Lets X E)(OE:KP X.K C)(hc:X.calm=true)
  (hg:Gl X x) (hm:X.mg x=some (.ref C)) (ha:PA X (e::es) t) (hdb:(x==("__debug__" :Str))=false:=by decide) (he:starEach (e::es) X.env=(false,eval e X.env)::starEach es X.env:=by rfl)
  (hpl:(backTo cpos (starEach es X.env)).any (·.1)=false:=by rfl):PS X (.Raise (some (.Call (.Name x np) (e::es) [] cpos)) none pos) (O0 C E t):=by
 intro pins s σ H D I h
 obtain⟨Bn,B,newId,inN,nid,initId,bmN,bmB,O⟩:=OE
 obtain⟨d,hC,hN,hni,T⟩:=O.obj X.base I.ok.mod.Nc
 refine wpAny_Raise_call_subU (C:=C) (nm:=d.nm) (q:=d.q) (N:=d.N) (bs:=d.bs) (bm:=d.bm) (hdct:=d.hdct) (sn:=d.sn) (sub:=d.sub) (ab:=d.ab) (col:=d.col) (dd:=d.dd) (k0:=d.k0) (k1:=d.k1) (k2:=d.k2) (k3:=d.k3) (k5:=d.k5) O.fn O.has O.fb
  (mN:=d.mN) (T.hasType O.fb.hasBase) (I.ok.hd hc) (by rw[he];show(false||(backTo cpos (starEach es X.env)).any (·.1))=false;rw[hpl];rfl) hni (nP I hg hm ⟨rfl,?_⟩ hdb)
 have z:=ha cpos pins s σ H _ I h
 rw[he]at z ⊢
 refine Calls.evalArgs_plain (dI z λus s2 ⟨vs,H2,I2,r,hl,q2⟩=>⟨rfl,?_,I2.bk _ _ hC,hN.keeps I2.bk,T.keeps I2.bk,λh' ea hm=>?_⟩)
 ·show us.length<=sizeLine
  rw[←r.length]
  exact hl
 ·obtain⟨t',ht,_,_⟩:=hm.there
  exact L pins σ H2 _ ea (.ref C) none (I2.kept (t':=s2.toks) hm.keeps) ⟨I2.UB hm.new (I2.hok.none_of hm.new),_,_,ht,λ_=>rfl,.inl rfl⟩ q2
end L2
namespace L2
open PySem PySem.Spec PyProof.Rows
def Fm(X:Cx):Prop:=∃e0 r L,X.stack=e0::r/\e0.frame=some L/\X.env.frame=some L
theorem Qx{CX:Ii}{P:Program}{w:World}{K:PySem.W.Frag}{mg:Str->Option Value}{base:Heap}{N:List Str}{qual:Str}{scope:Scope}{f:Addr}{cd:Value}{A:Around}{outer:List Env}{s:Shared}{H:Hp}{E:XK}:
  Fm (tL CX P w K mg base N qual scope f cd A outer s H E).PF:=⟨_,_,_,rfl,rfl,rfl⟩
abbrev Cx.xW(X:Cx)(pn:List (Addr×Obj))(xe:Value->Shared->Prop):Cx:={ X with pn:=pn,xe:=xe }
theorem Cx.Ok.xW{X:Cx}(ok:X.Ok)(pn:List (Addr×Obj))(xe:Value->Shared->Prop):(X.xW pn xe).Ok :=
 ⟨ok.mod,ok.kind,ok.glob,ok.blt,ok.above,ok.inj,ok.has,ok.MG,ok.hd,ok.frames,ok.stk,ok.U7,ok.bs,ok.KH,ok.EL,ok.HF,ok.sr,ok.Mz,ok.tk⟩
section
variable{X:Cx}{pins ps:List (Addr×Obj)}{σ:St}{H:Hp}{s:Shared}{xe:Value->Shared->Prop}
theorem Inv.xW(I:Inv X pins σ H s):Inv (X.xW (X.pn++pins) xe) [] σ H s :=
 ⟨I.ok.xW _ _,I.os,I.bare,I.base,I.loc,I.cell,I.free,I.jF,λp hp=>I.pin p (by simpa using hp),I.hok,I.len,I.up⟩
theorem Inv.rK(ok:X.Ok)(I:Inv (X.xW (X.pn++pins) xe) ps σ H s):Inv X pins σ H s :=
 ⟨ok,I.os,I.bare,I.base,I.loc,I.cell,I.free,I.jF,λp hp=>I.pin p (List.mem_append_left _ hp),I.hok,I.len,I.up⟩
theorem MI.rK{b:Addr}(k:MI (X.xW (X.pn++pins) xe) ps H b):MI X pins H b :=
 ⟨k.1,k.2.1,k.2.2.1,k.2.2.2.1,k.2.2.2.2.1,λp hp=>k.2.2.2.2.2 p (List.mem_append_left _ hp)⟩
theorem zw.to{h:Heap}{φ ψ:Addr->Prop}{ea:Addr}{cls:Value}{od:Option Addr}(x:zw h φ ea cls od)(m:∀b,φ b->ψ b):zw h ψ ea cls od:=by
 obtain⟨p,vs,sl,e,c2,T,oT,ts,a,b,c,d⟩:=x
 exact⟨m _ p,vs,sl,e,c2,T,oT,ts,a,b,m _ c,d⟩
end
abbrev TH:=Value->Option Addr->TS
def PH(X:Cx)(hs:List ExceptHandler)(th:TH):Prop :=
 ∀(pins:List (Addr×Obj)) (s:Shared) (σ:St) (H:Hp) (D:Ends) (ea:Addr) (cls:Value) (od:Option Addr),Inv X pins σ H s->zw s.heap (MI X pins H) ea cls od->th cls od D σ H →
  wpAny (model X.prog X.w) X.A (handleBy (.ref ea) X.env hs) (SP X pins D) X.xe s
def WG(tb:(St->XK)->TS)(th:TH):TS:=λD σ H=>tb (λσ' cls od H'=>th cls od D σ' H') D σ H
theorem Pj{X:Cx}{body:List Stmt}{h₀:ExceptHandler}{hs:List ExceptHandler}{pos:Pos}{tb:(St->XK)->TS}{th:TH}(F:Fm X)
  (hb:∀(E:St->XK) (pn:List (Addr×Obj)) (xe:Value->Shared->Prop),Lets (X.xW pn xe) E->PassesOwn (model X.prog X.w) X.A X.env xe->Al (X.xW pn xe) body (tb E)) (hh:PH X (h₀::hs) th) :
  PS X (.Try body (h₀::hs) [] [] pos) (WG tb th):=by
 intro pins s σ H D I h
 obtain⟨e0,r,L,hst,h0,hf⟩:=F
 refine wpAny_Try_except ?_
 generalize XH:(λe s₁=>wpAny (model X.prog X.w) X.A (noteFrame e X.env) (λ_ s₂=>wpAny (model X.prog X.w) X.A (setFlight e none) (λ_ s₃=>wpAny (model X.prog X.w) X.A (handleBy e X.env (h₀::hs)) (SP X pins D) X.xe s₃) X.xe s₂) X.xe s₁)=xe
 have LX:Lets (X.xW (X.pn++pins) xe) λσ' cls od H'=>th cls od D σ' H':=by
  intro ps σ' H' s' ea cls od J x q
  show xe (.ref ea) s'
  subst XH
  have fr:=J.ok.frames
  have sf:=J.stack
  refine CY (s:=s') (e0:=e0) (r:=r) (by rw[←hst];exact fr) (by rw[←hst];exact sf) h0 hf x (λb hb=>J.Rm hb) λh1 n1 x1=>?_
  refine sC (fr:=frs (e0::r)) x1 λh2 n2 x2=>?_
  have M8:=n1.trans n2
  rw[←hst]at M8
  have J2:=J.noted M8
  exact hh pins _ σ' H' D ea cls od (J2.rK I.ok) (x2.to λb k=>k.rK) q
 have po:PassesOwn (model X.prog X.w) X.A X.env xe:=by
  subst XH
  exact PassesOwn.looking
 refine wpAny_mono (hb _ _ xe LX po [] s σ H D I.xW h) (λf s1 q=>?_) λe s1 q=>?_
 ·cases f with
  |next =>
   obtain⟨σ',H',J,q⟩:=q
   exact wpAny_execs_nil ⟨σ',H',J.rK I.ok,q⟩
  |brk =>
   obtain⟨σ',H',J,q⟩:=q
   exact⟨σ',H',J.rK I.ok,q⟩
  |cont =>
   obtain⟨σ',H',J,q⟩:=q
   exact⟨σ',H',J.rK I.ok,q⟩
  |ret u =>
   obtain⟨v,σ',H',J,rv,q⟩:=q
   exact⟨v,σ',H',J.rK I.ok,rv,q⟩
 ·have q':xe e s1:=q
  subst XH
  exact q'
abbrev Cx.within(X:Cx)(ea:Addr):Cx:={ X with A:=X.A.mark (some (.ref ea)),calm:=false,xe:=λ_ _=>False }
theorem Cx.Ok.within{X:Cx}(ok:X.Ok)(ea:Addr):(X.within ea).Ok :=
 ⟨ok.mod,ok.kind,ok.glob,ok.blt,ok.above,ok.inj,ok.has,ok.MG,(λz=>nomatch z),ok.frames,ok.stk,ok.U7,ok.bs,ok.KH,ok.EL,ok.HF,ok.sr,ok.Mz,ok.tk⟩
section
variable{X:Cx}{pins:List (Addr×Obj)}{σ:St}{H:Hp}{s:Shared}{ea:Addr}
theorem Inv.within(I:Inv X pins σ H s)(ea:Addr):Inv (X.within ea) pins σ H s:=⟨I.ok.within ea,I.os,I.bare,I.base,I.loc,I.cell,I.free,I.jF,I.pin,I.hok,I.len,I.up⟩
theorem Inv.behind(ok:X.Ok)(I:Inv (X.within ea) pins σ H s):Inv X pins σ H s:=⟨ok,I.os,I.bare,I.base,I.loc,I.cell,I.free,I.jF,I.pin,I.hok,I.len,I.up⟩
end
def K9(ea:Addr)(cls:Value)(od:Option Addr):HO:=.ext λh=>∃vs sl,h.get? ea=some ⟨cls,od,.fields vs,sl⟩
def Ends.un(D:Ends)(i:Nat):Ends:={ nx:=λσ H=>D.nx (σ.set i none) H,rt:=D.rt,bk:=λσ H=>D.bk (σ.set i none) H,ct:=λσ H=>D.ct (σ.set i none) H }
theorem Inv.II{X:Cx}{pins:List (Addr×Obj)}{σ:St}{H:Hp}{s:Shared}{a:Addr}{o:HO}(I:Inv X pins σ H s)(k:MI X pins H a)(new:bI X.prog X.w (upd H a o) s.heap a o):Inv X pins σ (upd H a o) s:=by
 obtain⟨hn,k1,k2,k3,k4,k5⟩:=k
 refine⟨I.ok,I.os,I.bare,⟨I.base.keep,I.base.slot,λb ob q n hx=>?_,I.base.there,λb xs q=>?_,λb ob u q=>?_,λb ps q=>?_⟩,I.loc,I.cell,?_,λx c e=>?_,λp hp=>?_,λb u q=>?_,I.len,I.up⟩
 ·have ne:b≠a:=λz=>by
   rcases k3 with y|y
   ·rw[←z,q]at y;cases y
   ·exact hx (z▸y)
  rw[aq ne]
  exact I.base.free b ob q n hx
 ·have q':=I.base.tups b xs q
  rw[aq (aM q' hn)];exact q'
 ·have q':=I.base.qV b ob u q
  rw[aq (aM q' hn)];exact q'
 ·obtain⟨more,q'⟩:=I.base.rL b ps q
  exact⟨more,by rw[aq (aM q' hn)];exact q'⟩
 ·rw[aq (Ne.symm k1)];exact I.free
 ·rw[aq (k4 x c e)];exact I.jF x c e
 ·obtain⟨e,n,r⟩:=I.pin p hp
  exact⟨e,by rw[aq (k5 p hp)];exact n,r⟩
 ·by_cases hb:b=a
  ·subst hb;rw[ah]at q;cases q;exact new
  ·rw[aq hb]at q
   exact(I.hok b u q).stay (λc v _ r=>r) (λc r=>by rw[aq (aM r hn)];exact r) λc xs r=>by rw[aq (aM r hn)];exact r
structure XB(K:PySem.W.Frag)(D:Addr):Prop where
 hd:PySem.W.hasDictIn K D=true
 ty:PySem.W.typeIn K (.ref D)=some (.type "type")
 be:PySem.W.mroIn K D (.type "BaseException")=some true
theorem HG{M:Model}{A:Around}{E:Value->Shared->Prop}{s:Shared}{K:PySem.W.Frag}{Q:Bool->Shared->Prop}{ea C D:Addr}{o:Obj}{b:Bool}(k:K.In s.heap)(he:s.heap.get? ea=some o)(hc:o.cls= .ref C)
  (h0:PySem.W.subIn K (.ref C) (.ref D)=some b) (h2:XB K D) (q:Q b s):wpAny M A (excMatches (.ref ea) (.ref D)) Q E s:=by
 have h1:PySem.W.kitCls K (.ref C) (.ref D)=some b:=by
  obtain⟨cd,hcd,_⟩:=PySem.W.any_some h2.hd
  show(if((PySem.W.clsIn K D).isSome&&PySem.W.typeIn K (.ref D)==some (.type "type"))=true then PySem.W.subIn K (.ref C) (.ref D)else none)=some b
  rw[if_pos (by rw[hcd,h2.ty];simp)]
  exact h0
 obtain⟨lt,li,ls⟩:=PySem.W.kit_cls (M:=M) k h1
 have lb:=PySem.W.looks_mroIn (M:=M) k h2.be
 have le:PySem.W.Looks M s.heap (typeOf (.ref ea)) (.ref C):=by
  intro A' Q' E' s' kk qq
  unfold typeOf
  exact wpAny_bind (wpAny_loadPart (kk _ _ he) (wpAny_pure (by rw[hc];exact qq)))
 have l0:PySem.W.Looks M s.heap (isInstance (.ref D) (.type "tuple")) false:=lt.andThen (PySem.W.Looks.of_pure tc_notTuple)
 have l1:PySem.W.Looks M s.heap (isExcClass (.ref D)) true:=by
  unfold isExcClass
  exact li.andThen lb
 unfold excMatches
 refine wpAny_bind (l0.here (wpAny_bind ?_))
 simp only[Bool.false_eq_true,if_false]
 refine wpAny_pure ?_
 rw[List.forIn_cons]
 refine wpAny_bind (wpAny_bind (wpAny_bind (l1.here ?_)))
 simp only[Bool.not_true,Bool.false_eq_true,if_false]
 refine wpAny_pure (wpAny_pure ?_)
 refine wpAny_bind (le.here (wpAny_bind ?_))
 rw[List.forIn_cons]
 refine wpAny_bind (wpAny_bind (ls.here ?_))
 cases b with
 |true =>
  simp only[if_true]
  exact wpAny_pure (wpAny_pure (wpAny_pure q))
 |false =>
  simp only[Bool.false_eq_true,if_false]
  exact wpAny_pure (wpAny_pure (wpAny_pure q))
theorem name_goes{X:Cx}{pins:List (Addr×Obj)}{σ:St}{H:Hp}{s:Shared}{M:Model}{A:Around}{E:Value->Shared->Prop}{Q:Unit->Shared->Prop}{i:Nat}{n:Str}{pos:Pos}(I:Inv X pins σ H s)(hN:X.N.Nodup)(hi:X.N[i]? =some n)(hl:X.env.scope.names.lookup n=some .local)
  (h:∀s',Inv X pins (σ.set i none) H s'->Q () s'):wpAny M A (do bindName X.env n .none;unbindBehindTheSuite X.env n pos) Q E s:=by
 obtain⟨m,hn,hlk⟩:=I.loc
 refine wpAny_nameGoes_keeps hl hn (by rw[I.ok.kind];rfl) λh' v hn' sb=>h _ ?_
 have cellK:∀x c,X.env.cells.lookup x=some c->∀v,s.heap.IsCell c v->h'.IsCell c v:=λx c e v ⟨o,ho,hd⟩=>⟨o,(sb.2 c (I.Nr x c e)).trans ho,hd⟩
 refine⟨I.ok,I.os,I.bare,I.base.same λb o e=>sb.2 b (Nat.ne_of_lt (Nat.lt_of_lt_of_le (Heap.lt_size e) I.ok.above)),⟨_,hn',λj y u e1 e2 e3=>?_⟩,λx c e=>?_,I.free,I.jF,λp hp=>?_,I.hok.but I.free sb,by rw[List.length_set];exact I.len,Nat.le_succ_of_le I.up⟩
 ·have ji:i≠j:=λz=>by
   subst z
   rw[List.getElem?_set_self (by rw[I.len];exact(List.getElem?_eq_some_iff.mp hi).1)]at e2
   cases e2
  rw[List.getElem?_set_ne ji]at e2
  obtain⟨w,rv,l⟩:=hlk j y u e1 e2 e3
  refine⟨w,rv,?_⟩
  rcases l with⟨k1,k2⟩|⟨k,c,e,z⟩
  ·refine .inl ⟨k1,?_⟩
   have ne:y≠n:=λz=>ji (xA hN hi (z▸e1))
   show(if y=n then v else m y)=some w
   rw[if_neg ne]
   exact k2
  ·exact .inr ⟨k,c,e,cellK y c e _ z⟩
 ·obtain⟨v,z⟩:=I.cell x c e
  exact⟨v,cellK x c e v z⟩
 ·obtain⟨e,hh,ne,r⟩:=I.pin p hp
  exact⟨(sb.2 _ ne).trans e,hh,ne,r⟩
def tAs(K:PySem.W.Frag)(C:Addr)(i:Nat)(ts:TS)(th:TH):TH:=λcls od D σ H=>∃Ce b,cls= .ref Ce/\PySem.W.subIn K (.ref Ce) (.ref C)=some b ∧
 if b=true then ∀ea,H ea=none->ts (D.un i) (σ.set i (some (.ref ea))) (upd H ea (K9 ea cls od))else th cls od D σ H
theorem M5{X:Cx}{i:Nat}{n x:Str}{C:Addr}{b₀:Stmt}{suite:List Stmt}{np pos:Pos}{rest:List ExceptHandler}{ts:TS}{th:TH}(hN:X.N.Nodup)(hi:X.N[i]? =some n)(hl:X.env.scope.names.lookup n=some .local)(hg:Gl X x)(hm:X.mg x=some (.ref C))
  (Kd:XB X.K C) (hsu:∀ea,Al (X.within ea) (b₀::suite) ts) (hr:PH X rest th) (hdb:(x==("__debug__" :Str))=false:=by decide) :
  PH X (.ExceptHandler (some (.Name x np)) (some n) (b₀::suite) pos::rest) (tAs X.K C i ts th):=by
 intro pins s σ H D ea cls od I x h
 obtain⟨Ce,b,rfl,hk,h⟩:=h
 obtain⟨pe,vs,sl,he,hT⟩:=id x
 refine wpAny_handleBy_cons (codeAny_handlers_test (nP (X:=X.within ea) (I.within ea) hg hm ?_ hdb)) (by intro q;cases q)
 refine HG I.pL he rfl hk Kd ?_
 cases b with
 |false=>exact hr pins s σ H D ea _ od I x h
 |true =>
  refine codeAny_handlers_suite_as ?_
  refine sC (fr:=frs X.stack) x λh1 n1 x1=>?_
  have I1:=I.noted n1
  obtain⟨Zh,vs1,WW,U0,_⟩:=id x1
  have I2:Inv X pins σ (upd H ea (K9 ea (.ref Ce) od)) { s with heap:=h1 }:=I1.II Zh ⟨⟨vs1,WW,U0⟩,⟨_,U0⟩,λh1 h2 ⟨v,s',e⟩ k=>⟨v,s',k _ e⟩⟩
  refine wL (X:=X.within ea) (I2.within ea) hN hi (.inl hl) (v:=.ref ea) rfl (λs2 I3=>?_) (.inr hl)
  have z:=hsu ea pins s2 _ _ (D.un i) I3 (h ea Zh.1)
  refine wpAny_mono z (λf s3 q=>?_) λ_ _ z=>False.elim z
  cases f with
  |next =>
   obtain⟨σ',H',J,q⟩:=q
   exact name_goes (J.behind I.ok) hN hi hl λs4 J4=>⟨_,_,J4,q⟩
  |brk =>
   obtain⟨σ',H',J,q⟩:=q
   exact name_goes (J.behind I.ok) hN hi hl λs4 J4=>⟨_,_,J4,q⟩
  |cont =>
   obtain⟨σ',H',J,q⟩:=q
   exact name_goes (J.behind I.ok) hN hi hl λs4 J4=>⟨_,_,J4,q⟩
  |ret u =>
   obtain⟨v,σ',H',J,rv,q⟩:=q
   exact name_goes (J.behind I.ok) hN hi hl λs4 J4=>⟨v,_,_,J4,rv,q⟩
theorem Po{X:Cx}:PH X [] λ_ _ _ _ _=>False:=λ_ _ _ _ _ _ _ _ _ _ h=>False.elim h
def O7(sp:Sp)(yl:List V)(E:St->XK)(t:TA):TE:=λσ H Q=>t σ H λvs H1=>sp (vs++yl) H1 Q (E σ)
section
variable{X:Cx}{k:Nat}{f C:Addr}{fd:FuncData}{ps:List Str}{sp:Sp}{yl:List V}{ds:List Value}{E:St->XK}{x:Str}{p pos:Pos}{e:Expr}{es:List Expr}{t:TA}
theorem Jt(F:aI X.prog X.w X.K X.mg X.base (vz X.prog X.w) k f fd ps sp)(hr:jT k X.A)(hg:Gl X x)(hm:X.mg x=some (.ref f))(hk:PySem.W.keepIn X.K (.ref f)=true)(hb:Binds X.K fd ps ds)(hd:Vals yl ds)(LX:Lets X E)
  (ha:PA X (e::es) t) (hdb:(x==("__debug__" :Str))=false:=by decide) (he:starEach (e::es) X.env=(false,eval e X.env)::starEach es X.env:=by rfl) (hpl:(backTo pos (starEach es X.env)).any (·.1)=false:=by rfl) :
  PE X (.Call (.Name x p) (e::es) [] pos) (O7 sp yl E t):=by
 intro pins s σ H Q I h
 refine wpAny_Call_Name_kw (nP I hg hm ?_ hdb)
 refine PySem.W.callWith_K (h₀:=X.base) I.ok.mod.Nc hk (dI (ha pos pins s σ H _ I h) λus s1 ⟨vs,H1,I1,r,q⟩=>⟨I1.pL,?_⟩) he hpl
 have r2:Vals (vs++yl) (us++ds):=r.append hd
 have hl:(us++ds).length=ps.length:=by rw[←r2.length];exact F.len _ _ _ _ q
 refine wpAny_call (codeAny_mono (F.run X.A X.stack s1 H1 ⟨us,[]⟩ (us++ds) (vs++yl) Q (E σ) hr I1.MC (hb s1 us I1.pL hl) r2 q) λrr s' hq=>?_)
 cases rr with
 |error e=>exact LX.pass I1 hq
 |ok fl =>
  cases fl with
  |ret u=>exact I1.after hq
  |next=>exact False.elim hq
  |brk=>exact False.elim hq
  |cont=>exact False.elim hq
end
end L2
namespace L2
open PySem PySem.Spec PyProof.Rows
end L2
namespace L2
open PySem PySem.Spec PyProof.Rows
section
variable{X:Cx}
abbrev TJ:=St->Hp->Str->(Str->Hp->Prop)->Prop
def PJ(X:Cx)(es:List Expr)(tj:TJ):Prop:=∀(pins:List (Addr×Obj)) (s:Shared) (σ:St) (H:Hp) (acc:Str) (R:Str->Hp->Prop),Inv X pins σ H s->tj σ H acc R →
 Joins (model X.prog X.w) X.A X.xe (evalEach es X.env) acc (λout s1=>out.length<=sizeLine/\∃H1,Inv X pins σ H1 s1/\R out H1) s
theorem Jj:PJ X [] (λ_ H acc R=>acc.length<=sizeLine/\R acc H):=λ_ _ _ H _ _ I h=>⟨h.1,H,I,h.2⟩
theorem qN{e:Expr}{es:List Expr}{te:TE}{tj:TJ}(he:PE X e te)(hr:PJ X es tj)(hx:evalEach (e::es) X.env=eval e X.env::evalEach es X.env:=by rfl):
  PJ X (e::es) (λσ H acc R=>te σ H λv H1=>∃y,v= .str y/\(acc++y).length<=sizeLine/\tj σ H1 (acc++y) R):=by
 intro pins s σ H acc R I h
 rw[hx]
 refine dI (he pins s σ H _ I h) λu s1 ⟨v,H1,I1,r,y,e1,hl,q⟩=>?_
 subst e1
 obtain⟨t,rfl⟩:=r
 exact⟨y,t,rfl,hl,hr pins s1 σ H1 _ R I1 q⟩
theorem zW{M:Model}{A:Around}{E:Value->Shared->Prop}:∀{parts:List (Sem Value)} {acc:Str} {Q Q':Str->Shared->Prop} {s:Shared},Joins M A E parts acc Q s->(∀out s1,Q out s1->Q' out s1)->Joins M A E parts acc Q' s
 |[],_,_,_,_,h,k=>k _ _ h
 |_::_,_,_,_,_,h,k=>dI h λ_ _ ⟨y,t,e,hl,q⟩=>⟨y,t,e,hl,zW q k⟩
theorem Ga{v₁ v₂:Expr}{rest:List Expr}{pos:Pos}{tj:TJ}(h:PJ X (v₁::v₂::rest) tj):PE X (.JoinedStr (v₁::v₂::rest) pos) (λσ H Q=>tj σ H Str.empty λout H1=>Q (.str out) H1):=by
 intro pins s σ H Q I q
 refine wpAny_JoinedStr (zW (h pins s σ H Str.empty _ I q) λout s1 ⟨hl,H1,I1,q1⟩=>⟨hl,.str out,H1,I1.tok _,⟨_,rfl⟩,q1⟩)
theorem LL{value:Expr}{pos:Pos}{te:TE}(he:PE X value te):PE X (.FormattedValue value 114 none pos) (λσ H Q=>te σ H λv H1=>∃x,v= .str x/\(reprText x).length<=sizeLine/\Q (.str (reprText x)) H1):=by
 intro pins s σ H Q I h
 refine wpAny_FormattedValue_repr (dI (he pins s σ H _ I h) λu s1 ⟨v,H1,I1,r,x,e,hl,q⟩=>?_)
 subst e
 obtain⟨t,rfl⟩:=r
 refine wpAny_pyReprObj_str (x:=x) ?_ hl
 exact wpAny_formatField_str ⟨.str (reprText x),H1,I1.tok _,⟨_,rfl⟩,q⟩ ⟨.str (reprText x),H1,(I1.tok _).tok _,⟨_,rfl⟩,q⟩ hl
theorem Jr{value:Expr}{pos:Pos}{te:TE}(he:PE X value te):PE X (.FormattedValue value (-1) none pos) (λσ H Q=>te σ H λv H1=>∃i:Int,v= .int i/\i.natAbs.log2<1920/\Q (.str (Str.ofString (toString i))) H1):=by
 intro pins s σ H Q I h
 refine wpAny_FormattedValue_plain (dI (he pins s σ H _ I h) λu s1 ⟨v,H1,I1,r,i,e,hl,q⟩=>?_)
 subst e
 obtain⟨t,rfl⟩:=r
 exact wpAny_formatField_int hl ⟨.str (Str.ofString (toString i)),H1,I1.tok _ (by show s1.toks<=_;omega),⟨_,rfl⟩,q⟩
end
structure Nx(K:PySem.W.Frag)(C:Addr):Prop where
 ga:PySem.W.findIn K (.ref C) "__getattribute__" =some (some (.builtin "BaseException.__getattribute__"))
 gn:PySem.W.findIn K (.ref C) "__getattr__" =some none
 hd:PySem.W.hasDictIn K C=true
 ha:PySem.W.findIn K (.ref C) "__class__" =some (some (.builtin "object.__class__"))
 hn:PySem.W.specialIn K (.builtin "object.__class__") "__get__" =some (some (.builtin "getset_descriptor.__get__"))
 htk:PySem.W.takesIn K (.builtin "object.__class__")=some true
 hm:PySem.W.mroIn K C (.type "object")=some true
 hb:PySem.W.mroIn K C (.type "BaseException")=some true
theorem HH{prog:Program}{w:World}{A:Around}{E:Value->Shared->Prop}{s:Shared}{K:PySem.W.Frag}{x C:Addr}{ox:Obj}{od:Option Obj}{Q:Option Value->Shared->Prop}(Z:Nx K C)(k:K.In s.heap)(I:PySem.W.InstAt s.heap x ox C od)
  (h:Q (some (.ref C)) { s with toks:=s.toks+1 }):wpAny (model prog w) A (getAttr? (.ref x) "__class__") Q E s:=by
 obtain⟨hh,g,d,t,os⟩:=s
 have L0:=I.type (M:=model prog w)
 have L1:=PySem.W.looks_findIn (M:=model prog w) k Z.ga
 have L2:=PySem.W.looks_findIn (M:=model prog w) k Z.gn
 have LB:=PySem.W.looks_mroIn (M:=model prog w) k Z.hb
 have hf:PySem.W.findObj K C od "__class__" =some (.bind (.builtin "getset_descriptor.__get__") (.builtin "object.__class__")):=by
  obtain⟨cd,hc,_⟩:=PySem.W.any_some Z.hd
  unfold PySem.W.findObj
  rw[hc,Option.bind_some,Z.ha,Option.bind_some]
  simp[Z.hn,Z.htk]
 have LF:=PySem.W.looks_find (M:=model prog w) k I hf
 unfold getAttr? getAttrBy? getAttrBy
 refine wpAny_bind (wpAny_mkText (wpAny_bind (wpAny_attempt (wpAny_holding (wpAny_bind (L0.at (wpAny_bind (L1.at ?_))))))))
 show wpAny _ _ (getAttrByItsOwn _ _ _ _ _ _) _ _ _
 unfold getAttrByItsOwn hookBefore
 refine wpAny_bind (L2.at ?_)
 refine wpAny_bind (wpAny_attempt (wpAny_holding ?_))
 show wpAny _ _ (boundAndCalled _ _ _) _ _ _
 unfold boundAndCalled
 refine wpAny_bind (wpAny_of_eq (PySem.F.attr_ValueError.ga.bind (.ref x)) ?_)
 show wpAny _ _ (call (.builtin "BaseException.__getattribute__") [.ref x,.str "__class__" t]) _ _ _
 refine wpAny_call (codeAny_call_builtin PySem.F.attr_ValueError.ga.plain PySem.F.entry_bexc_ga ?_)
 have c1:builtinKind "BaseException.__getattribute__" =some .slot:=by decide +kernel
 have c2:splitId "BaseException.__getattribute__" =some ("BaseException","__getattribute__"):=by decide +kernel
 have c3:=PySem.F.args_bexc_ga (.ref x) (.str "__class__" t)
 simp only[checkBuiltinCall,c1,c2]
 refine wpAny_bind (wpAny_bind (L0.at (LB.at ?_)))
 simp only[Bool.not_true,Bool.false_eq_true,if_false]
 unfold argsOk at c3
 refine wpAny_of_eq c3 ?_
 unfold Builtin.«object.__getattribute__»
 refine wpAny_bind (wpAny_pure (wpAny_bind (wpAny_pure (wpAny_bind (L0.at (wpAny_bind (LF.at ?_)))))))
 show wpAny _ _ (holding [.builtin "object.__class__"] (call (.builtin "getset_descriptor.__get__") [.builtin "object.__class__",.ref x,.ref C]) >>= ret) _ _ _
 refine wpAny_bind (wpAny_holding (wpAny_call (PySem.W.class_get (ox:=ox) (od:=od) k I Z.hm ?_)))
 refine wpAny_pure ?_
 show wpAny _ _ (handedOut (.ref C)) _ _ _
 exact PySem.W.handed_on rfl (wpAny_pure h)
end L2
namespace L2
open PySem PySem.Spec PyProof.Rows
theorem Dg{K:PySem.W.Frag}{x C:Addr}{ox:Obj}{od:Option Obj}(Z:Nx K C):PySem.W.KitX K (.ref x) (.ref C) (λh=>PySem.W.InstAt h x ox C od) where
 ty:=λ_ _ _ I=>I.type
 it:=λ_ _ k _=>by
  obtain⟨cd,hcd,_⟩:=PySem.W.any_some Z.hd
  unfold PySem.W.clsIn at hcd
  split at hcd
  ·rename_i c1 d1 cd1 WW hob
   intro A1 Q1 E1 s1 kk q
   unfold isType loadHead
   exact wpAny_bind (wpAny_loadPart (kk _ _ (k _ _ hob)) (wpAny_pure q))
  ·cases hcd
 ne:=λh tp dd its n sl k htp=>by
  obtain⟨cd,hcd,_⟩:=PySem.W.any_some Z.hd
  refine Bool.eq_false_iff.mpr λq=>?_
  have e:=Value.ref.inj (beq_iff_eq.mp q)
  subst e
  unfold PySem.W.clsIn at hcd
  split at hcd
  ·rename_i c1 d1 cd1 WW hob
   have z:=(k _ _ hob).symm.trans htp
   cases z
  ·cases hcd
 ca:=λk I q=>HH Z k I q
end L2
namespace GP
open PySem L2 uc
theorem KL{x:Str}(h:x.length<=20)(hz:100<=sizeLine):(Str.empty++x).length<=sizeLine:=by
 rw[strLen_append]
 have:Str.empty.length=0:=rfl
 omega
theorem Ai{x y:Str}(h:x.length<=20)(hz:y.length+20<=sizeLine):((Str.empty++x)++y).length<=sizeLine:=by
 rw[strLen_append,strLen_append]
 have:Str.empty.length=0:=rfl
 omega
end GP
namespace L2
open PySem PySem.Spec PyProof.Rows
theorem Jd{X:Cx}:SlR X (λx lo hi H Q=>∃y,x= .str y/\y.length<=sizeLine/\Q (.str (Txt.slice y lo hi)) H):=by
 intro pins s σ H x v vl vu lo hi sl Q I rx hs pl pu h
 obtain⟨y,rfl,hz,q⟩:=h
 obtain⟨t,rfl⟩:=rx
 refine⟨"str",_,PySem.F.slot_str_getitem.lookup,typeIs_str _ _ _,?_⟩
 have fin:(Txt.slice y lo hi).length<=sizeLine/\∀t' k,s.toks<=k->EP X pins σ Q (.str (Txt.slice y lo hi) t') { s with toks:=k }:=⟨Nat.le_trans (Txt.slice_le y _ _) hz,λt' k hk=>⟨.str (Txt.slice y lo hi),H,I.tok k hk,⟨_,rfl⟩,q⟩⟩
 refine TK.bY (Nat.le_refl s.toks) ?_
 cases pl with
 |none =>
  cases pu with
  |none=>exact wpAny_getItem_str_slice (l:=none) (u:=none) (st:=none) hs rfl (post_val_or_str fin)
  |int j u=>exact wpAny_getItem_str_slice (l:=none) (u:=some (j,u)) (st:=none) hs rfl (post_val_or_str fin)
 |int i u =>
  cases pu with
  |none=>exact wpAny_getItem_str_slice (l:=some (i,u)) (u:=none) (st:=none) hs rfl (post_val_or_str fin)
  |int j u'=>exact wpAny_getItem_str_slice (l:=some (i,u)) (u:=some (j,u')) (st:=none) hs rfl (post_val_or_str fin)
end L2
namespace GP
open PySem L2 uc
theorem qF{x y:Str}:(x++y).cps.toList=x.cps.toList++y.cps.toList:=by
 show(x.cps++y.cps).toList=_
 exact Array.toList_append ..
end GP
namespace L2
open PySem PySem.Spec PyProof.Rows
section
variable{prog:Program}{w:World}{A:Around}{E:Value->Shared->Prop}{h:Heap}{gs:Array GenState}{dr:Drawn}{tk:Nat}{os:OsState}
variable{nm qn:Str}{C N:Addr}{bs tl bmB bmN:List Value}{hdct:Bool}{sn:List Str}{sub:List Value}{ab:Bool}{col:Option Bool}{dd:Option Addr}{k0 k1 k2 k3 k5:Option Value}{B Bn newId nid initId inN:String}
theorem wJ{mN:Str->Option Value}{rest:List Value}{fI:Addr}{oI:Obj}{Q:Fin->Shared->Prop}(Fn:ExcBaseFacts Bn newId inN bmN)(hBn:bmB.contains (.type Bn)=true)(FB:ExcBaseFacts B nid initId bmB)(T:OwnTail h bmB tl)
  (hob:h.get? C=some (excClassObj nm qn C N bs tl hdct sn sub ab col dd k0 k1 k2 k3 k5 newId)) (hns:h.Ns N mN) (Qq:mN "__init__" =some (.ref fI)) (hfo:h.get? fI=some oI) (hfc:oI.cls= .type "function")
  (hq:∀h' e,Heap.MadeExcOf h h' e (.ref C) rest->wpAny (model prog w) A (call (.ref fI) (.ref e::rest)) (λr s'=>r= .none/\Q (.done (.ret (.ref e))) s') E ⟨h',gs,dr,tk,os⟩) (hz:rest.length<=sizeLine) :
  wpAny (model prog w) A (Builtin.«type.__call__» ⟨.ref C::rest,[]⟩) Q E ⟨h,gs,dr,tk,os⟩:=by
 repeat (first|with_reducible refine wpAny_loadPart_at hob ?_|with_reducible refine wpAny_madeBy_exc hob ?_|wp_step)
 refine codeAny_call_builtin_code (Code.quiet_builtin _ Fn.quiet) (wpAny_check_new_subU Fn hBn T hob ?_)
 refine codeAny_exc_new_subU Fn hBn FB T hob ?_ hz
 show wpAny _ _ _ _ _ _
 have kp:∀b o,h.get? b=some o->((h.push { cls:=.type "tuple",data:=.seq rest.toArray }).push { cls:=.ref C,data:=.fields #[.ref h.objs.size,.none,.none,.none,.bool false,.none] }).get? b=some o:=λb o e=>Heap.get?_push_of_some _ (Heap.get?_push_of_some _ e)
 have Td:=kp _ _ hob
 have Ye:=kp _ _ hfo
 have X0:=hns.keeps kp
 have T1:=T.keeps kp
 have Nm:((h.push { cls:=.type "tuple",data:=.seq rest.toArray }).push { cls:=.ref C,data:=.fields #[.ref h.objs.size,.none,.none,.none,.bool false,.none] }).get? (h.objs.size+1)=some { cls:=.ref C,data:=.fields #[.ref h.objs.size,.none,.none,.none,.bool false,.none] }:=by heap_get
 have hself:(Value.ref C::tl).contains (.ref C)=true:=by simp
 unfold isInstance
 repeat (first|with_reducible refine wpAny_loadPart_at Nm ?_|(with_reducible refine wpAny_isSubtype_exc Td ?_;rw[hself])|wp_step)
 show wpAny _ _ (typeLookup (.ref C) _) _ _ _
 refine wpAny_typeLookup_tail Td X0 T1 FB.mroIs FB.init.lookup ?_
 rw[Qq]
 refine wpAny_holding (wpAny_bind ?_)
 unfold bindSpecial
 refine wpAny_bind (wpAny_typeOf (T:= "function") ⟨_,Ye,hfc⟩ ?_)
 rw[if_pos (by decide)]
 have made:Heap.MadeExcOf h ((h.push { cls:=.type "tuple",data:=.seq rest.toArray }).push { cls:=.ref C,data:=.fields #[.ref h.objs.size,.none,.none,.none,.bool false,.none] }) (h.objs.size+1) (.ref C) rest :=
  ⟨kp,Heap.get?_none_of_le (Nat.le_succ _),h.objs.size,Nm,Heap.get?_none_of_le (Nat.le_refl _),Heap.get?_push_of_some _ (Heap.get?_push_at rfl rfl)⟩
 refine wpAny_pure (wpAny_bind (wpAny_mono (hq _ _ made) (λr s' hr=>?_) λ_ _ x=>x))
 obtain⟨rfl,hQ⟩:=hr
 wp_walk
 exact hQ
theorem HQ{mN:Str->Option Value}{rest:List Value}{fI:Addr}{oI:Obj}{Q:Value->Shared->Prop}(Fn:ExcBaseFacts Bn newId inN bmN)(hBn:bmB.contains (.type Bn)=true)(FB:ExcBaseFacts B nid initId bmB)(T:OwnTail h bmB tl)
  (hob:h.get? C=some (excClassObj nm qn C N bs tl hdct sn sub ab col dd k0 k1 k2 k3 k5 newId)) (hns:h.Ns N mN) (Qq:mN "__init__" =some (.ref fI)) (hfo:h.get? fI=some oI) (hfc:oI.cls= .type "function")
  (hq:∀h' e,Heap.MadeExcOf h h' e (.ref C) rest->wpAny (model prog w) (A.under (.builtin "type.__call__" ⟨.ref C::rest,[]⟩)) (call (.ref fI) (.ref e::rest)) (λr s'=>r= .none/\Q (.ref e) s') E ⟨h',gs,dr,tk,os⟩) (hz:rest.length<=sizeLine) :
  wpAny (model prog w) A (call (.ref C) rest) Q E ⟨h,gs,dr,tk,os⟩:=by
 have l1:=tc_lookup
 have l2:=tc_bind (.ref C)
 have hTy:(⟨h,gs,dr,tk,os⟩:Shared).TypeIs (.ref C) "type" :=⟨_,hob,rfl⟩
 refine wpAny_call (codeAny_of_tree ?_)
 show wpAny _ _ (callAny (.ref C) _) _ _ _
 repeat (any_goals (first|assumption|with_reducible refine wpAny_loadPart_at hob ?_|wp_step))
 refine⟨rfl,codeAny_call_builtin_at (Code.quiet_builtin _ (by decide +kernel)) entry_typeCall (wpAny_check_type_call_sub hob (wJ Fn hBn FB T hob hns Qq hfo hfc (λh' e hm=>?_) hz))⟩
 exact hq h' e hm
end
end L2
namespace L2
open PySem PySem.Spec PyProof.Rows
def newX(e C:Addr)(od:Option Addr):HO:=.ext λh=>∃vs sl,h.get? e=some ⟨.ref C,od,.fields vs,sl⟩/\vs[1]? =some .none/\vs[2]? =some .none/\4<vs.size
def zC(dx:Addr)(fs:List (Str×V)):HO:=.ext λh=>∃mA,h.Ns1 dx mA/\(∀f,lP (fs.lookup f) (mA f))/\PySem.Within mA (fs.map (·.1))
section
variable{P:Program}{w:World}{H:Hp}{h:Heap}
theorem AZ{e C:Addr}{od:Option Addr}{vs:Array Value}{sl:Array (Option Value)}(he:h.get? e=some ⟨.ref C,od,.fields vs,sl⟩)(h1:vs[1]? =some .none/\vs[2]? =some .none/\4<vs.size):bI P w H h e (newX e C od) :=
 ⟨⟨vs,sl,he,h1⟩,⟨_,he⟩,λ_ _ ⟨v,s,e,z⟩ k=>⟨v,s,k _ e,z⟩⟩
theorem Eb{dx:Addr}{fs:List (Str×V)}{mA:Str->Option Value}(n:h.Ns1 dx mA)(r:∀f,lP (fs.lookup f) (mA f))(wi:PySem.Within mA (fs.map (·.1))):bI P w H h dx (zC dx fs) :=
 ⟨⟨mA,n,r,wi⟩,(let ⟨o,_,_,e,_⟩:=n;⟨o,e⟩),λ_ _ ⟨m,n,r,wi⟩ k=>⟨m,n.at k,r,wi⟩⟩
end
def del(H:Hp)(e:Addr):Hp:=λb=>if b=e then none else H b
theorem qp{H:Hp}{e b:Addr}(h:b≠e):del H e b=H b:=by unfold del;rw[if_neg h]
theorem DA{H:Hp}{e:Addr}:del H e e=none:=by unfold del;rw[if_pos rfl]
theorem tK{H:Hp}{e b:Addr}(h:H b=none):del H e b=none:=by unfold del;split<;>first|rfl|exact h
theorem NJ{H:Hp}{a:Addr}{o:HO}(h:H a=some o):upd H a o=H:=by
 funext b
 unfold upd
 split
 ·rename_i z;rw[z,h]
 ·rfl
section
variable{X:Cx}{pins:List (Addr×Obj)}{σ:St}{H:Hp}{s:Shared}
theorem Inv.drop{e:Addr}{φ:Heap->Prop}(I:Inv X pins σ H s)(he:H e=some (.ext φ)):Inv X pins σ (del H e) s:=by
 have ne:∀{b:Addr} {o:HO},H b=some o->(∀ ψ,o≠ .ext ψ)->b≠e:=λ{b o} hb n z=>by
  subst z
  rw[he]at hb
  exact n _ (Option.some.inj hb).symm
 refine⟨I.ok,I.os,I.bare,⟨I.base.keep,I.base.slot,λb ob q n hx=>tK (I.base.free b ob q n hx),I.base.there,λb xs q=>?_,λb ob u q=>?_,λb ps q=>?_⟩,I.loc,I.cell,tK I.free,λx c q=>tK (I.jF x c q),λp hp=>?_,λb u q=>?_,I.len,I.up⟩
 ·have q':=I.base.tups b xs q
  rw[qp (ne q' λψ z=>by cases z)];exact q'
 ·have q':=I.base.qV b ob u q
  rw[qp (ne q' λψ z=>by cases z)];exact q'
 ·obtain⟨more,q'⟩:=I.base.rL b ps q
  exact⟨more,by rw[qp (ne q' λψ z=>by cases z)];exact q'⟩
 ·obtain⟨a,n,r⟩:=I.pin p hp
  exact⟨a,tK n,r⟩
 ·have hb:b≠e:=λz=>by rw[z,DA]at q;cases q
  rw[qp hb]at q
  exact(I.hok b u q).stay (λc v _ r=>r) (λc r=>by rw[qp (ne r λψ z=>by cases z)];exact r) λc xs r=>by rw[qp (ne r λψ z=>by cases z)];exact r
end
section
variable{M:Model}{A:Around}{E:Value->Shared->Prop}{env:Env}
variable{nm q:Str}{C N:Addr}{bs bm:List Value}{hdct:Bool}{sn:List Str}{sub:List Value}{ab:Bool}{col:Option Bool}{dd:Option Addr}{k0 k1 k2 k3 k5:Option Value}{newId:String}
theorem Ez {s:Shared} {x:Sem Value} {Q:Flow->Shared->Prop} (hbase:bm.contains (.type "BaseException")=true) (hh:A.handled=none)
  (h:wpAny M A x (λv s₁=>∃e od vs sl,v= .ref e/\s₁.heap.get? C=some (excClassObj nm q C N bs bm hdct sn sub ab col dd k0 k1 k2 k3 k5 newId) ∧
   s₁.heap.get? e=some ⟨.ref C,od,.fields vs,sl⟩/\vs[1]? =some .none/\E (.ref e) s₁) E s):wpAny M A (raiseStmt env (some x) none) Q E s:=by
 have hcB:(Value.ref C::bm).contains (.type "BaseException")=true:=by rw[List.contains_cons,hbase,Bool.or_true]
 unfold raiseStmt
 refine wpAny_bind (wpAny_mono h (λv s₁ h₁=>?_) λ_ _ x=>x)
 obtain⟨e,od,vs,sl,rfl,hC,he,hv,hE⟩:=h₁
 obtain⟨hp,g,d,tk,os⟩:=s₁
 repeat (first|with_reducible refine wpAny_loadPart_at he ?_|with_reducible refine wpAny_loadPart_at hC ?_|(with_reducible refine wpAny_isSubtype_exc hC ?_;rw[hcB])|wp_step)
 rw[hv]
 refine wpAny_pure ?_
 rw[if_neg (by decide)]
 exact wpAny_pure (wpAny_raiseNew_none hh hE)
end
def IB:List Value:=[.type "ValueError",.type "Exception",.type "BaseException",.type "object"]
structure GI(K:PySem.W.Frag)(C fI:Addr):Prop where
 obj:∀h:Heap,K.In h->∃d:XP,h.get? C=some (d.obj C "ValueError.__new__")/\h.Ns d.N d.mN/\d.mN "__init__" =some (.ref fI)/\OwnTail h IB d.bm
def Fc(K:PySem.W.Frag)(C fI:Addr):Bool:=match K.lookup C with
 |some ⟨.type "type",_,.cls cd,sl⟩=>(match cd.mro,sl.toList with
  | .ref C'::bm,[_,_,_,_,some (.builtin n),_]=>C'==C&&n== "ValueError.__new__" && !cd.hasDel&&PySem.W.tailIn K IB bm&&PySem.W.nsOkIn K cd.ns&&PySem.W.nsIn K cd.ns "__init__" ==some (some (.ref fI))
  |_,_=>false)
 |_=>false
theorem EJ{K:PySem.W.Frag}{h:Heap}{N:Addr}{mg:Str->Option Value}{n:Str}{v:Value}(X:K.In h)(G:h.Ns N mg)(e:PySem.W.nsIn K N n=some (some v)):mg n=some v:=by
 obtain⟨o,es,ep,ho,hd,_,hf⟩:=G
 unfold PySem.W.nsIn at e
 split at e
 ·rename_i c d es' n' sl q
  have:=X _ _ q
  rw[ho]at this
  cases this
  cases hd
  split at e
  ·rename_i he
   cases e
   rw[←hf]
   unfold nsFind findBy
   rw[←Array.find?_toList,he]
   rfl
  ·split at e
   ·cases e
   ·cases e
 ·cases e
theorem BW{K:PySem.W.Frag}{C fI:Addr}(q:Fc K C fI=true):GI K C fI:=by
 refine⟨λh k=>?_⟩
 unfold Fc at q
 split at q
 ·rename_i dd cd sl hob
  split at q
  ·rename_i C' bm k0 k1 k2 k3 nn k5 hmr JW
   simp only[Bool.and_eq_true,beq_iff_eq,Bool.not_eq_true']at q
   obtain⟨⟨⟨⟨⟨e1,e2⟩,e3⟩,e4⟩,e5⟩,e6⟩:=q
   subst e1 e2
   obtain⟨nm,bs,mro,ns,qn,hd,sn,sub,ab,col,del⟩:=cd
   dsimp only at hmr e3 e5 e6
   subst hmr e3
   have hsl:sl= #[k0,k1,k2,k3,some (.builtin "ValueError.__new__"),k5]:=by
    obtain⟨l⟩:=sl
    simp only at JW
    rw[JW]
   subst hsl
   have G:h.Ns ns _:=.of_isNs (PySem.W.isNs_of_in k e5)
   exact⟨⟨nm,qn,ns,bs,bm,hd,sn,sub,ab,col,dd,k0,k1,k2,k3,k5,_⟩,k _ _ hob,G,EJ k G e6,PySem.W.tail_of_in k e4⟩
  ·cases q
 ·cases q
structure XBase(K:PySem.W.Frag)(W:Addr):Prop where
 ga:PySem.W.specialIn K (.ref W) "__getattribute__" =some (some (.builtin "type.__getattribute__"))
 rd:PySem.W.readsIn K W (.type "type")=true
 fd:PySem.W.findCls K (.ref W) (.type "type") "__init__" =some (.val (.builtin "ValueError.__init__"))
def rM:List Value->Bool
 |[]=>false
 |v::r=>(v::r)==IB||match v with| .ref _=>rM r|_=>false
structure Ub(K:PySem.W.Frag)(C:Addr):Prop where
 hd:PySem.W.hasDictIn K C=true
 po:((PySem.W.clsIn K C).any λcd=>rM cd.mro)=true
 sa:PySem.W.findIn K (.ref C) "__setattr__" =some (some (.builtin "object.__setattr__"))
theorem zP(self:Value):∀{l:List Value},rM l=true->refuseLoop self "__setattr__" l=pure ()
 |[],e=>by cases e
 |v::r,e=>by
  unfold rM at e
  rcases Bool.or_eq_true_iff.mp e with q|q
  ·rw[beq_iff_eq.mp q];exact PySem.F.store_ValueError.passes self
  ·split at q
   ·rw[refuseLoop_ref];exact zP self q
   ·cases q
theorem IA:∀{l:List Value},rM l=true->l.contains (.type "object")=true
 |[],e=>by cases e
 |v::r,e=>by
  unfold rM at e
  rcases Bool.or_eq_true_iff.mp e with q|q
  ·rw[beq_iff_eq.mp q];decide +kernel
  ·split at q
   ·rw[List.contains_cons,IA q,Bool.or_true]
   ·cases q
end L2
namespace L2
open PySem PySem.Spec PyProof.Rows
def RE(K:PySem.W.Frag)(t:TA):TE:=λσ H Q=>t σ H λvs H1=>∃e C fI od y,vs=[.ref e,y]/\H1 e=some (newX e C od)/\GI K C fI/\Q .iP H1
theorem LP {X:Cx} {x:Str} {W:Addr} {np apos cpos:Pos} {a b:Expr} {t:TA} {pl:Sem Bool} (hW:XBase X.K W) (hg:Gl X x) (hm:X.mg x=some (.ref W)) (ha:PA X [a,b] t) (hdb:(x==("__debug__" :Str))=false:=by decide)
  (hev:eval (.Call (.Attribute (.Name x np) "__init__" apos) [a,b] [] cpos) X.env=(do
   let ov ←eval (.Name x np) X.env
   standAt apos.atName
   let (f,first) ←holding [ov] (getMethod ov "__init__" pl)
   callWith cpos f first (backTo cpos (starEach [a,b] X.env)) (backToKw cpos (keywordEach [] X.env))):=by rfl)
  (hs:starEach [a,b] X.env=(false,eval a X.env)::starEach [b] X.env:=by rfl) (hpl:(backTo cpos (starEach [b] X.env)).any (·.1)=false:=by rfl) :
  PE X (.Call (.Attribute (.Name x np) "__init__" apos) [a,b] [] cpos) (RE X.K t):=by
 intro pins s σ H Q I h
 refine PySem.W.methodCall_KW (pl:=pl) (nP I hg hm ?_ hdb) hev
 refine PySem.W.method_cls I.pL hW.ga (PySem.W.cls_value I.pL hW.rd hW.fd (by decide +kernel) ?_)
 have hA:=ha cpos pins { s with toks:=s.toks+1 } σ H _ (I.tok _) h
 rw[hs]at hA ⊢
 refine Calls.callWith_builtin (by show(false||(backTo cpos (starEach [b] X.env)).any (·.1))=false;rw[hpl]<;>rfl) (Calls.evalArgs_plain ?_)
 refine dI hA λus s2 ⟨vs,H2,I2,r2,e,C,fI,od,y,e1,hx,O,q⟩=>?_
 subst e1
 obtain⟨u1,u2,rfl,ru1,_⟩:=vals2 r2
 cases (show u1=Value.ref e from ru1)
 obtain⟨⟨vs,sl,he,h1⟩,_,_⟩:=(show bI X.prog X.w H2 s2.heap e (newX e C od) from I2.hok e _ hx)
 obtain⟨d,hC,hN,hni,T⟩:=O.obj s2.heap I2.pL
 have F:=PySem.F.excBase_ValueError
 have I2':=I2
 obtain⟨hh,gs,dr,tk,os⟩:=s2
 show wpAny _ _ (call (.builtin "ValueError.__init__") [.ref e,u2]) _ _ _
 refine wpAny_call (codeAny_call_builtin F.init.plain F.initEntry (wpAny_check_init_subU F T hC he rfl ?_))
 have hv:0<vs.size:=Nat.lt_of_le_of_lt (Nat.zero_le 1) (Array.getElem?_eq_some_iff.mp h1.1).1
 have hv0:vs[0]? =some vs[0]:=Array.getElem?_eq_getElem hv
 wp_walk
 rw[hv0]
 refine wpAny_pure ?_
 have hg:(hh.push { cls:=.type "tuple",data:=.seq #[u2] }).get? e=some ⟨.ref C,od,.fields vs,sl⟩:=Heap.get?_push_of_some _ he
 refine wpAny_bind (wpAny_setField hg rfl hv ?_)
 have hu:=Heap.get?_update_self (Obj.mapFields (·.setIfInBounds 0 (Value.ref hh.objs.size))) hg rfl
 have fin:EP X pins σ Q Value.none ⟨(hh.push { cls:=.type "tuple",data:=.seq #[u2] }).update e (Obj.mapFields (·.setIfInBounds 0 (Value.ref hh.objs.size))),gs,dr,tk,os⟩:=by
  refine⟨.iP,H2,?_,rfl,q⟩
  have J1:=I2'.kept (h':=hh.push { cls:=.type "tuple",data:=.seq #[u2] }) (t':=tk) λb u z=>Heap.get?_push_of_some _ z
  have J2:=J1.write (x:=e) (e:=e) (o:=newX e C od) (t':=tk) (by rw[hx];exact True.intro) (.inl rfl) (λb u hb z=>(Heap.get?_update_other _ _ (Ne.symm hb)).trans z) ⟨_,hu⟩ (AZ hu (by simp[h1]))
  rw[NJ hx]at J2
  exact J2
 cases hq:vs[0]with
 |ref t0=>exact wpAny_letGo (wpAny_pure fin)
 |_=>exact wpAny_pure (wpAny_pure fin)
end L2
namespace L2
open PySem PySem.Spec PyProof.Rows
section
variable{prog:Program}{w:World}{A:Around}{E:Value->Shared->Prop}{s:Shared}{K:PySem.W.Frag}{x dx C:Addr}{name:Str}{v:Value}{R:Result->Shared->Prop}
theorem Gb{ox:Obj}{od:Option Obj}{tk:Tok}(X:K.In s.heap)(I:PySem.W.InstAt s.heap x ox C od)(S:Ub K C)(ht:PySem.W.takerIn K C name=some none)
  (h:∀b,wpAny (model prog w) A.in1 (Builtin.ObjectAttr.storeInOwnDict (.ref x) (.ref C) (.str name tk) name v b)
   (λfin s'=>match fin with| .done f=>R (.ok f) s'| .again c'=>c'.quiet=true/\codeAny (model prog w) A c' R s') (λe s'=>R (.error e) s') s) :
  codeAny (model prog w) A (.call (.builtin "object.__setattr__") ⟨[.ref x,.str name tk,v],[]⟩) R s:=by
 have SF:=PySem.F.store_object
 obtain⟨cd,hc,ho⟩:=PySem.W.any_some S.po
 have ne:cd.mro.isEmpty=false:=by cases q:cd.mro with|nil=>rw[q]at ho;cases ho|cons _ _=>rfl
 have sub:PySem.W.Looks (model prog w) s.heap (isInstance (.ref x) (.type "object")) true:=I.type.andThen (PySem.W.looks_mroIn X (by unfold PySem.W.mroIn;rw[hc,Option.bind_some,if_neg (by rw[ne];decide),IA ho]))
 refine codeAny_call_builtin SF.slot.plain SF.entry (@PySem.W.check_slot (model prog w) _ _ s "object.__setattr__" "object" "__setattr__" (.ref x) [.str name tk,v] [] _ SF.kind SF.split sub (SF.args (.ref x) (.str name tk) v) ?_)
 obtain⟨attr,ha,hr⟩:=Option.bind_eq_some_iff.mp ht
 have hm:PySem.W.Looks (model prog w) s.heap (mroOf (.ref C)) cd.mro:=(PySem.W.looks_clsIn X hc).andThen .now
 have L3:PySem.W.Looks (model prog w) s.heap (Builtin.ObjectAttr.storeTaker? attr) none:=by
  cases attr with
  |none=>cases hr;exact .now
  |some a =>
   obtain⟨b,hb,e⟩:=Option.map_eq_some_iff.mp hr
   refine(PySem.W.looks_takesIn X hb).andThen ?_
   cases b with
   |false=>exact .now
   |true=>cases e
 rw[PySem.W.osa_eq,refuse_eq]
 refine wpAny_bind (wpAny_bind (I.type.here (wpAny_bind (hm.here ?_))))
 rw[zP _ ho]
 refine wpAny_pure (wpAny_bind (I.type.here (wpAny_bind ((PySem.W.looks_findIn X ha).here (wpAny_bind (L3.here ?_))))))
 exact h _
theorem El{vs:Array Value}{sl:Array (Option Value)}{mA:Str->Option Value}{ns:List Str}{Q:Unit->Shared->Prop}(X:K.In s.heap)(S:Ub K C)(ht:PySem.W.takerIn K C name=some none)
  (he:s.heap.get? x=some ⟨.ref C,some dx,.fields vs,sl⟩) (hn:s.heap.Ns1 dx mA) (hw:PySem.Within mA ns) (hsz:ns.length+1<=sizeLine)
  (h:∀h',h'.Ns1 dx (λy=>if y=name then some v else mA y)->Heap.SameBut dx s.heap h'->Q () { s with heap:=h',toks:=s.toks+2 }):wpAny (model prog w) A (setAttr (.ref x) name v) Q E s:=by
 obtain⟨od,ho,hl⟩:=uE hn
 have J:PySem.W.InstAt s.heap x ⟨.ref C,some dx,.fields vs,sl⟩ C (some od):=⟨he,rfl,rfl,ho⟩
 refine PySem.W.set_plain X J S.sa (Gb (s:={ s with toks:=s.toks+1 }) X J S ht λb=>?_)
 obtain⟨cd,hc,hd'⟩:=PySem.W.any_some S.hd
 refine wpAny_bind (wpAny_pure (wpAny_bind (wpAny_bind (wpAny_loadPart he (wpAny_bind (PySem.W.Looks.here (s:={ s with toks:=s.toks+1 }) (PySem.W.looks_clsIn X hc) ?_))))))
 rw[hd']
 refine wpAny_pure (a:=some dx) (wpAny_bind (wpAny_pure (wpAny_bind ?_)))
 refine wpAny_nsSet1 (s:={ s with toks:=s.toks+1 }) hn λh' hn2 hs2=>?_
 obtain⟨oD,esD,epD,Te,Tt,Tu⟩:=hn2.count (PySem.Within.cons name v hw)
 refine wpAny_bind (wpAny_lookBehind Te (by rw[Tt];exact pastItsLine_dict (Nat.le_trans Tu (by rw[List.length_cons];omega))) ?_)
 exact wpAny_pure (h _ hn2 hs2)
theorem Em{vs:Array Value}{sl:Array (Option Value)}{Q:Unit->Shared->Prop}(X:K.In s.heap)(S:Ub K C)(ht:PySem.W.takerIn K C name=some none)
  (he:s.heap.get? x=some ⟨.ref C,none,.fields vs,sl⟩)
  (h:∀h',h'.Ns1 s.heap.objs.size (λy=>if y=name then some v else none)->Heap.SameBut s.heap.objs.size ((s.heap.push PySem.W.emptyDict).update x λo=>{ o with dict:=some s.heap.objs.size }) h'->Q () { s with heap:=h',toks:=s.toks+2 }):wpAny (model prog w) A (setAttr (.ref x) name v) Q E s:=by
 have J:PySem.W.InstAt s.heap x ⟨.ref C,none,.fields vs,sl⟩ C none:=⟨he,rfl,rfl,trivial⟩
 refine PySem.W.set_plain X J S.sa (Gb (s:={ s with toks:=s.toks+1 }) X J S ht λb=>?_)
 obtain⟨cd,hc,hd'⟩:=PySem.W.any_some S.hd
 refine wpAny_bind (wpAny_pure (wpAny_bind (wpAny_bind (wpAny_loadPart he (wpAny_bind (PySem.W.Looks.here (s:={ s with toks:=s.toks+1 }) (PySem.W.looks_clsIn X hc) ?_))))))
 rw[hd']
 rw[if_neg (by decide)]
 have hxs:x≠s.heap.objs.size:=Nat.ne_of_lt (Heap.lt_size he)
 have S1:(s.heap.push PySem.W.emptyDict).get? x=some ⟨.ref C,none,.fields vs,sl⟩:=Heap.get?_push_of_some _ he
 show wpAny (model prog w) A.in1 (alloc PySem.W.emptyDict >>= λd=>update x (λo=>{ o with dict:=some d }) >>= λ_=>dictMade (.ref C) x d) _ _ _
 refine wpAny_bind (wpAny_alloc (wpAny_bind (wpAny_update S1 ?_)))
 refine wpAny_pure ?_
 have hgd:((s.heap.push PySem.W.emptyDict).update x λo=>{ o with dict:=some s.heap.objs.size }).get? s.heap.objs.size=some PySem.W.emptyDict :=
  (Heap.get?_update_ne _ _ _ _ hxs.symm).trans (Heap.get?_push_size _ rfl)
 have hnd:((s.heap.push PySem.W.emptyDict).update x λo=>{ o with dict:=some s.heap.objs.size }).Ns s.heap.objs.size (λ_=>none) :=
  ⟨_,#[],_,hgd,rfl,λe he=>absurd he (by simp),λ_=>rfl⟩
 show wpAny _ _ (Builtin.ObjectAttr.storeInDict s.heap.objs.size (.str name s.toks) name v) _ _ _
 refine wpAny_bind (wpAny_pure (wpAny_bind ?_))
 refine wpAny_nsSet1 (s:={ s with heap:=(s.heap.push PySem.W.emptyDict).update x λo=>{ o with dict:=some s.heap.objs.size },toks:=s.toks+1 }) (Heap.Ns1.of_empty hnd) λh' hn2 hs2=>?_
 obtain⟨oD,esD,epD,Te,Tt,Tu⟩:=hn2.count (PySem.Within.cons name v PySem.Within.nil)
 refine wpAny_bind (wpAny_lookBehind Te (by rw[Tt];exact pastItsLine_dict (Nat.le_trans Tu (by rw[List.length_cons,List.length_nil,sizeLine_eq];omega))) ?_)
 exact wpAny_pure (h _ hn2 hs2)
end
end L2
namespace L2
open PySem PySem.Spec PyProof.Rows
theorem CB{fs:List (Str×V)}{mA:Str->Option Value}{f:Str}{y:V}{u:Value}(r:∀g,lP (fs.lookup g) (mA g))(ry:RelV y u):∀g,lP ((aE f y fs).lookup g) (if g=f then some u else mA g):=λg=>by
 rw[av]
 by_cases q:g=f
 ·rw[if_pos q,if_pos q];exact ry
 ·rw[if_neg q,if_neg q];exact r g
theorem wB{fs:List (Str×V)}{mA:Str->Option Value}{f:Str}{y:V}{u:Value}(wi:PySem.Within mA (fs.map (·.1))):PySem.Within (λg=>if g=f then some u else mA g) ((aE f y fs).map (·.1)):=λg hg=>by
 by_cases q:g=f
 ·rw[q];exact(oE f y fs).1
 ·refine(oE f y fs).2 g (wi g λz=>hg ?_)
  show(if g=f then some u else mA g)=none
  rw[if_neg q];exact z
def RO(K:PySem.W.Frag)(ta tv:TE)(f:Str):TS:=λD σ H=>tv σ H λy H1=>ta σ H1 λx H2=>∃e C,x= .ref e/\Ub K C/\bM K C f ∧
 ((H2 e=some (newX e C none)/\∀dx,H2 dx=none->D.nx σ (upd (upd (upd H2 dx (zC dx [])) e (newX e C (some dx))) dx (zC dx (aE f y [])))) ∨
  ∃dx fs,H2 e=some (newX e C (some dx))/\H2 dx=some (zC dx fs)/\fs.length<1000/\D.nx σ (upd H2 dx (zC dx (aE f y fs))))
theorem F3{X:Cx}{o value:Expr}{f:Str}{pos pos':Pos}{ta tv:TE}(ha:PE X o ta)(hv:PE X value tv)(hs:swapsWith value (some (.Attribute o f pos')) pos.line X.env=pure false):PS X (.Assign [.Attribute o f pos'] value pos) (RO X.K ta tv f):=by
 intro pins s σ H D I h
 refine plainObj_wpAny_Assign_Attribute (dI (hv pins s σ H _ I h) λu s1 ⟨y,H1,I1,ry,q⟩=>dI (ha pins s1 σ H1 _ I1 q) λov s2 ⟨x,H2,I2,rx,e,C,ex,S,n,hk⟩=>?_) hs
 subst ex
 obtain rfl:ov=Value.ref e:=rx
 rcases hk with⟨hx,q2⟩|⟨dx,fs,hx,hd,hl,q2⟩
 ·obtain⟨⟨vs,sl,he,h1⟩,_,_⟩:=(show bI X.prog X.w H2 s2.heap e (newX e C none) from I2.hok e _ hx)
  refine Em I2.pL S n.IJ he λh' hn' sb=>?_
  have ne:e≠s2.heap.objs.size:=Nat.ne_of_lt (Heap.lt_size he)
  have e1:(s2.heap.push PySem.W.emptyDict).get? s2.heap.objs.size=some PySem.W.emptyDict:=Heap.get?_push_size _ rfl
  have n1:(s2.heap.push PySem.W.emptyDict).Ns1 s2.heap.objs.size (λ_=>none):=Heap.Ns1.of_empty ⟨_,#[],_,e1,rfl,(λe he=>absurd he (by simp)),λ_=>rfl⟩
  have U0:(s2.heap.push PySem.W.emptyDict).get? e=some ⟨.ref C,none,.fields vs,sl⟩:=Heap.get?_push_of_some _ he
  have ZU:=Heap.get?_update_self (λo=>{ o with dict:=some s2.heap.objs.size }) U0 rfl
  have J1:=I2.laid (a:=s2.heap.objs.size) (o:=zC s2.heap.objs.size []) (h':=s2.heap.push PySem.W.emptyDict) (t':=s2.toks) (λb u q=>Heap.get?_push_of_some _ q) (Nat.le_refl _) (Eb n1 (λ_=>True.intro) (λy hy=>absurd rfl hy))
  have J2:=J1.write (x:=e) (e:=e) (o:=newX e C (some s2.heap.objs.size)) (t':=s2.toks) (by rw[aq ne,hx];exact True.intro) (.inl rfl) (λb u hb q=>(Heap.get?_update_other _ _ (Ne.symm hb)).trans q) ⟨_,ZU⟩ (AZ ZU h1)
  have J3:=J2.write (x:=s2.heap.objs.size) (e:=s2.heap.objs.size) (o:=zC s2.heap.objs.size (aE f y [])) (h':=h') (t':=s2.toks+2) (by rw[aq (Ne.symm ne),ah];exact True.intro) (.inl rfl) (λb u hb q=>(sb.2 b hb).trans q) (let ⟨o,_,_,e,_⟩:=hn';⟨o,e⟩)
   (Eb hn' (CB (mA:=λ_=>none) (λ_=>True.intro) ry) (wB (mA:=λ_=>none) λy hy=>absurd rfl hy)) (ht:=by show s2.toks<=s2.toks+2;omega)
  exact⟨σ,_,J3,q2 _ (I2.hok.fresh (Nat.le_refl _))⟩
 ·obtain⟨⟨vs,sl,he,h1⟩,_,_⟩:=(show bI X.prog X.w H2 s2.heap e (newX e C (some dx)) from I2.hok e _ hx)
  obtain⟨⟨mA,nA,rA,wA⟩,_,_⟩:=(show bI X.prog X.w H2 s2.heap dx (zC dx fs) from I2.hok dx _ hd)
  refine El I2.pL S n.IJ he nA wA (by rw[List.length_map,sizeLine_eq];omega) λh' hn' sb=>?_
  have J3:=I2.write (x:=dx) (e:=dx) (o:=zC dx (aE f y fs)) (h':=h') (t':=s2.toks+2) (by rw[hd];exact True.intro) (.inl rfl) (λb u hb q=>(sb.2 b hb).trans q) (let ⟨o,_,_,e,_⟩:=hn';⟨o,e⟩) (Eb hn' (CB rA ry) (wB wA))
  exact⟨σ,_,J3,q2⟩
structure YU(K:PySem.W.Frag)(C f:Addr):Prop where
 cls:GI K C f
 fn:PySem.W.isFn K (.ref f)=true
 kp:PySem.W.keepIn K (.ref C)=true
def Lv(C:Addr)(sp:Sp)(E:St->XK)(t:TA):TS:=λ_ σ H=>t σ H λvs H1=>vs.length<=sizeLine/\∀e,H1 e=none →
 sp (.ref e::vs) (upd H1 e (newX e C none)) (λv H2=>v= .iP/\∃od,H2 e=some (newX e C od)/\E σ (.ref C) od (del H2 e)) (E σ)
theorem G4{X:Cx}{E:St->XK}{C f:Addr}{x:Str}{np cpos pos:Pos}{k:Nat}{fd:FuncData}{ps:List Str}{sp:Sp}{e:Expr}{es:List Expr}{t:TA}(L:Lets X E)(M:YU X.K C f)
  (F:aI X.prog X.w X.K X.mg X.base (vz X.prog X.w) k f fd ps sp) (hr:jT (k+1) X.A) (hb:Binds X.K fd ps []) (hc:X.calm=true)
  (hg:Gl X x) (hm:X.mg x=some (.ref C)) (ha:PA X (e::es) t) (hdb:(x==("__debug__" :Str))=false:=by decide) (he:starEach (e::es) X.env=(false,eval e X.env)::starEach es X.env:=by rfl)
  (hpl:(backTo cpos (starEach es X.env)).any (·.1)=false:=by rfl):PS X (.Raise (some (.Call (.Name x np) (e::es) [] cpos)) none pos) (Lv C sp E t):=by
 intro pins s σ H D I h
 obtain⟨d,hC,hN,hni,T⟩:=M.cls.obj X.base I.ok.mod.Nc
 rw[arm_exec_Raise]
 have FB:=PySem.F.excBase_ValueError
 simp only[evalOpt,Option.map]
 refine wpAny_bind (wpAny_standAt (Ez (C:=C) (nm:=d.nm) (q:=d.q) (N:=d.N) (bs:=d.bs) (bm:=d.bm) (hdct:=d.hdct) (sn:=d.sn) (sub:=d.sub) (ab:=d.ab) (col:=d.col) (dd:=d.dd) (k0:=d.k0) (k1:=d.k1) (k2:=d.k2) (k3:=d.k3) (k5:=d.k5) (newId:= "ValueError.__new__") (T.hasType FB.hasBase) (I.ok.hd hc) ?_))
 refine wpAny_bind (dI (Q:=λv s₁=>∃e od vs sl,v= .ref e/\s₁.heap.get? C=some (d.obj C "ValueError.__new__")/\s₁.heap.get? e=some ⟨.ref C,od,.fields vs,sl⟩/\vs[1]? =some .none/\X.xe (.ref e) s₁) ?_ λv s2 h2=>wpAny_bind (wpAny_standAt (wpAny_pure h2)))
 refine wpAny_Call_Name_kw (nP I hg hm ?_ hdb)
 refine PySem.W.callWith_K (h₀:=X.base) I.ok.mod.Nc M.kp (dI (ha cpos pins s σ H _ I h) λus s1 ⟨vs,H1,I1,r,hl,q1⟩=>⟨I1.pL,?_⟩) he hpl
 have hfo:∃o,s1.heap.get? f=some o/\o.cls= .type "function" :=by
  obtain⟨o,ho,hc⟩:=Option.map_eq_some_iff.mp (beq_iff_eq.mp M.fn)
  exact⟨o,I1.pL _ _ ho,hc⟩
 obtain⟨oI,hfo,hfc⟩:=hfo
 have I1':=I1
 obtain⟨hh,gs,dr,tk,os⟩:=s1
 refine HQ (N:=d.N) (mN:=d.mN) FB FB.hasB FB (T.keeps I1.bk) (I1.bk _ _ hC) (hN.keeps I1.bk) hni hfo hfc (λh' ea made=>?_) (by show us.length<=sizeLine;rw[←r.length];exact hl)
 obtain⟨t',ht,_,_⟩:=made.there
 have xo:=I1.UB made.new (I1.hok.none_of made.new)
 have J0:Inv X pins σ H1 ⟨h',gs,dr,tk,os⟩:=I1.kept (t':=tk) made.keeps
 have J1:Inv X pins σ (upd H1 ea (newX ea C none)) ⟨h',gs,dr,tk,os⟩:=J0.II xo (AZ ht ⟨rfl,rfl,by simp⟩)
 have hq:=q1 ea xo.1
 have r2:Vals (V.ref ea::vs) (Value.ref ea::us):=.cons rfl r
 have hlen:(Value.ref ea::us).length=ps.length:=by rw[←r2.length];exact F.len _ _ _ _ hq
 refine wpAny_call (codeAny_mono (F.run _ X.stack _ _ ⟨Value.ref ea::us,[]⟩ (Value.ref ea::us) _ _ (E σ) (hr.make C us []) (J1.MC.make C us []) (by have z:=hb _ (Value.ref ea::us) J1.pL (by rw[List.append_nil];exact hlen);rw[List.append_nil]at z;exact z) r2 hq) λrr s' hq'=>?_)
 cases rr with
 |error e=>exact L.pass J1 hq'
 |ok fl =>
  cases fl with
  |ret u =>
   obtain⟨v,H',I3,rv,ev,od,hx,qE⟩:=J1.after hq'
   subst ev
   obtain⟨⟨vs',Ij,he',oq⟩,_,_⟩:=(show bI X.prog X.w H' s'.heap ea (newX ea C od) from I3.hok ea _ hx)
   refine⟨rv,ea,od,vs',Ij,rfl,I3.bk _ _ hC,he',oq.1,?_⟩
   exact L pins σ (del H' ea) s' ea (.ref C) od (I3.drop hx) ⟨⟨DA,xo.2⟩,vs',Ij,he',λ_=>oq.2.1,.inl oq.1⟩ qE
  |next=>exact False.elim hq'
  |brk=>exact False.elim hq'
  |cont=>exact False.elim hq'
end L2
namespace L2
open PySem PySem.Spec PyProof.Rows
section
variable{X:Cx}{a b c:Expr}{ta tb tc:TE}{pos:Pos}{rest:List Expr}
end
end L2
namespace L2
open PySem PySem.Spec PyProof.Rows
def Ek(wi:TI)(g:TG)(tt:TT)(te:TE)(nh:St->St):TE:=λσ H Q=>wi σ H λJ H1=>∀l,H1 l=none->∃W:Nat->Nat->List V->Hp->Prop,(∃m,W 0 m [] (upd H1 l (.lst []))) ∧
 ∀i m ys H2,W i m ys H2->(J.stop i H2/\Q (.ref l) H2) ∨
  (J.go i H2/\∀x H3,J.zA i H2 x H3->g x (nh σ) H3 λuW H4=>Kp (nh σ) uW/\tt uW H4 λb H5 =>
   if b=true then te uW H5 (λy H6=>H6 l=some (.lst ys)/\ys.length<sizeLine/\∃m',m'<m/\W (i+1) m' (ys++[y]) (upd H6 l (.lst (ys++[y]))))else ∃m',m'<m/\W (i+1) m' ys H5)
theorem SR{A B:Prop}(h:if false=true then A else B):B:=by rw[if_neg Bool.false_ne_true]at h;exact h
theorem SQ{A B:Prop}(h:if true=true then A else B):A:=by rw[if_pos rfl]at h;exact h
set_option maxHeartbeats 2000000 in
theorem xS{X:Cx}{elt tg iter test:Expr}{tt:TT}{scope:Scope}{pos pos':Pos}{wi:TI}{g:TG}{te:TE}{N:List Str}{nh:St->St}(hc:X.calm=true)(hS:X.Ok->∃cl,cN X scope cl N nh)(hi:PI X tg iter wi)
  (hg:∀cl C s H ex pn E,PG (iA X scope cl C N s H ex pn E) tg g) (he:∀cl C s H ex pn E,PE (iA X scope cl C N s H ex pn E) elt te) (ht:∀cl C s H ex pn E,PT (iA X scope cl C N s H ex pn E) test tt) (hs:∀x,foldedSetIterable iter X.env x=pure x)
  {pins:List (Addr×Obj)} {s:Shared} {σ:St} {H:Hp} {Q:VK} {use:Option (Value->Sem Unit)} {QQ:Value->Shared->Prop} (I:Inv X pins σ H s) (h:Ek wi g tt te nh σ H Q)
  (Qs:∀(l C:Addr) (mC:Str->Option Value) (H':Hp) (s':Shared),Inv X pins σ H' s'->pO X pins H' C->s'.heap.Ns C mC->Q (.ref l) H'->compPost (model X.prog X.w) X.A X.xe use QQ (.ref l) C (.ok .next) s') :
  wpAny (model X.prog X.w) X.A (comprehension (.ListComp elt [⟨tg,iter,[test],0⟩] scope pos) scope X.env pos' (newList []) false (eval iter X.env) use) QQ X.xe s:=by
 obtain⟨cl,S⟩:=hS I.ok
 refine wpAny_comprehension_free (use:=use) rfl hs S.clos S.kind S.names (dI (hi pins s σ H _ I h) λv s1 h1=>dI h1 λitv s2 h2=>?_)
 obtain⟨it,fp,tn,J,H2,e,I2,T,st2,f2,hq⟩:=h2
 subst e
 obtain⟨W,⟨m0,w0⟩,turn⟩:=hq _ I2.fresh
 refine wpAny_newObj_type (DE S λBh h₁ G E3 kp=>?_)
 have I3:Inv X pins σ (upd H2 s2.heap.objs.size (.lst [])) { s2 with heap:=s2.heap.push { cls:=.type "list",data:=.seq ([]:List Value).toArray } }:=I2.Se (t':=s2.toks) .nil (Nat.zero_le _)
 have CO:∀b o,s2.heap.get? b=some o->(s2.heap.push { cls:=.type "list",data:=.seq ([]:List Value).toArray }).get? b=some o:=λb o e=>Heap.get?_push_of_some _ e
 have f3:∀b∈fp,pO X pins (upd H2 s2.heap.objs.size (.lst [])) b/\b<(s2.heap.push { cls:=.type "list",data:=.seq ([]:List Value).toArray }).objs.size:=λb hb=>by
  obtain⟨o,ho,_⟩:=T.obj _ _ st2 b hb
  have hlt:=Heap.lt_size ho
  obtain⟨f0,f1⟩:=f2 b hb
  exact⟨⟨by rw[aq (Nat.ne_of_lt hlt)];exact f0,f1⟩,Heap.lt_size (CO b o ho)⟩
 have st3:tn 0 h₁:=T.keep _ _ _ st2 λb _ o e=>kp b o (CO b o e)
 generalize hR:(λr s'=>compPost (model X.prog X.w) X.A X.xe use QQ (.ref s2.heap.objs.size) (s2.heap.push { cls:=.type "list",data:=.seq ([]:List Value).toArray }).objs.size r s')=R
 generalize qU:iA X scope Bh (s2.heap.push { cls:=.type "list",data:=.seq ([]:List Value).toArray }).objs.size N { s2 with heap:=s2.heap.push { cls:=.type "list",data:=.seq ([]:List Value).toArray } }
  (upd H2 s2.heap.objs.size (.lst [])) fp (X.pn++pins) (notedBy (model X.prog X.w) X.A (compEnvC scope Bh (s2.heap.push { cls:=.type "list",data:=.seq ([]:List Value).toArray }).objs.size X.env) λe s'=>R (.error e) s')=X'
 have I4:Inv X' [] (nh σ) (upd H2 s2.heap.objs.size (.lst [])) { s2 with heap:=h₁ }:=by
  subst qU
  exact Di (s:={ s2 with heap:=s2.heap.push { cls:=.type "list",data:=.seq ([]:List Value).toArray } }) S G I3 f3 kp E3 s2.toks
 have YX:PG X' tg g:=by subst qU;exact hg _ _ _ _ _ _ _
 have YY:PE X' elt te:=by subst qU;exact he _ _ _ _ _ _ _
 have PT':PT X' test tt:=by subst qU;exact ht _ _ _ _ _ _ _
 have stat:∀{H':Hp},(∀b∈fp,H' b=none)->∀b∈fp,pO X' [] H' b:=λhn b hb=>by
  subst qU
  obtain⟨⟨_,f1,fn,_,f4,f5⟩,lt⟩:=f3 b hb
  refine⟨hn b hb,Nat.ne_of_lt lt,λz=>?_,.inl hb,λx c e=>(G.look x c e).elim (λz=>Nat.ne_of_gt (Nat.lt_trans lt z.1)) λz=>f4 x c (S.sub x c z),λp hp=>f5 p ?_⟩
  ·rcases List.mem_cons.mp (I3.rO b z)with q|q
   ·exact f1 q
   ·exact fn q
  ·rcases List.mem_append.mp hp with z|z
   ·exact z
   ·cases z
 have hp1:X'.prog=X.prog:=by subst qU;rfl
 have hp2:X'.w=X.w:=by subst qU;rfl
 have hp3:X'.K=X.K:=by subst qU;rfl
 have S9:X'.calm=true:=by subst qU;exact hc
 have Ip:X'.A=X.A:=by subst qU;rfl
 have Qm:X'.env=compEnvC scope Bh (s2.heap.push { cls:=.type "list",data:=.seq ([]:List Value).toArray }).objs.size X.env:=by subst qU;rfl
 have Nk:X'.xe=notedBy (model X.prog X.w) X.A X'.env λe s'=>R (.error e) s':=by subst qU;rfl
 have fin:∀{H':Hp} {s':Shared},Inv X' [] (nh σ) H' s'->Q (.ref s2.heap.objs.size) H'->R (.ok .next) s':=by
  intro H' s' I5 q
  subst hR
  obtain⟨mC,Tf,_⟩:=I5.loc
  rw[Qm]at Tf
  have hok:lS X.prog X.w H' s'.heap:=by
   have z:=I5.hok
   rw[hp1,hp2]at z
   exact z
  have u:Un (frs X.stack) fp (upd H2 s2.heap.objs.size (.lst [])) H' (s2.heap.push { cls:=.type "list",data:=.seq ([]:List Value).toArray }) s'.heap:=by
   have z:=I5.base
   subst qU
   exact z
  have hC:H' (s2.heap.push { cls:=.type "list",data:=.seq ([]:List Value).toArray }).objs.size=none:=by
   have zf:=I5.free
   rw[Qm]at zf
   exact zf
  refine Qs _ _ mC H' s' (I3.KG (ch:=fp) (s':=s') (by have z:=I5.os;subst qU;exact z) u hok I5.bare (λb hb=>?_) (by have z:=I5.up;subst qU;exact Nat.le_trans I3.up z)) (I3.uM (Nat.le_refl _) hC) Tf q
  obtain⟨⟨_,f1,_,YH,f4,f5⟩,_⟩:=f3 b hb
  exact⟨YH,f1,f4,f5⟩
 have loop:∀s3:Shared,Inv X' [] (nh σ) (upd H2 s2.heap.objs.size (.lst [])) s3->tn 0 s3.heap →
   codeAny (model X.prog X.w) X.A (.compLoop (.ListComp elt [⟨tg,iter,[test],0⟩] scope pos) 0 (.ref it) (.ref s2.heap.objs.size) X'.env) R s3:=by
  intro s3 J3 t3
  refine codeAny_loop rfl (λn s'=>∃i ys H',Inv X' [] (nh σ) H' s'/\tn i s'.heap/\(∀b∈fp,H' b=none)/\W i n ys H') ?_ m0 ⟨0,[],_,J3,t3,λb hb=>(f3 b hb).1.1,w0⟩
  rintro n s4 ⟨i,ys,H4,J4,t4,n4,w4⟩
  show wpAny _ _ ((compTurn (.ListComp elt [⟨tg,iter,[test],0⟩] scope pos) 0 (.ref it) (.ref s2.heap.objs.size) X'.env).onRaise (λx=>do noteFrame x X'.env;theTreesLotGoes x)) _ _ s4
  refine wpAny_noted ?_
  rw[compTurn_list]
  refine wpAny_bind (wpAny_standAt (wpAny_bind ?_))
  rcases turn i n ys H4 w4 with⟨stop,q⟩|⟨go,step⟩
  ·have z:=T.done X' hp1 hp2 hp3 S9 i [] s4 (nh σ) H4 (notedBy (model X.prog X.w) X.A X'.env λe s'=>R (.error e) s') J4 (stat n4) t4 stop
   rw[Ip]at z
   refine wpAny_mono z (λr s5 ⟨hr,J5⟩=>?_) λ_ _ x=>x
   subst hr
   exact wpAny_pure (fin J5 q)
  ·have z:=T.item X' hp1 hp2 hp3 S9 i [] s4 (nh σ) H4 (notedBy (model X.prog X.w) X.A X'.env λe s'=>R (.error e) s') J4 (stat n4) t4 go
   rw[Ip]at z
   refine wpAny_mono z (λr s5 ⟨u,hr,h5⟩=>?_) λ_ _ x=>x
   subst hr
   refine wpAny_bind (wpAny_mono h5 (λ_ s6 ⟨x,H6,J6,r6,y6,t6,n6⟩=>?_) λ_ _ x=>x)
   have Y0:=J6.pinned (stat n6) (T.obj _ _ t6)
   have zg:=YX _ s6 (nh σ) H6 x u _ Y0 r6 (step x H6 y6)
   rw[hp1,hp2,Ip,Nk]at zg
   refine wpAny_bind (wpAny_mono zg (λ_ s7 ⟨BQ,H7,J7,k7,q7⟩=>?_) λ_ _ x=>x)
   have zt:=PT' _ s7 BQ H7 _ J7 q7
   rw[hp1,hp2,Ip,Nk]at zt
   refine wpAny_bind (wpAny_mono (wpAny_tests_one zt) (λok s7b h7b=>?_) λ_ _ x=>x)
   obtain⟨H7b,Ui,Ze⟩:=h7b
   cases ok with
   |false =>
    obtain⟨m',hm,w8⟩:=SR Ze
    refine wpAny_pure ⟨rfl,m',hm,i+1,ys,_,?_,?_,?_,w8⟩
    ·refine Ui.IC.weak ?_ ?_
     ·rw[S.len,Ui.len]
      subst qU
      rfl
     ·exact k7
    ·exact T.keep _ _ _ t6 λb hb o e=>(Ui.pin (b,o) (List.mem_append_right _ (List.mem_append_right _ (iK hb e)))).1
    ·intro b hb
     obtain⟨o,e,d⟩:=T.obj _ _ t6 b hb
     exact(Ui.pin (b,o) (List.mem_append_right _ (List.mem_append_right _ (iK hb e)))).2.1
   |true =>
    have ze:=YY _ s7b BQ H7b _ Ui (SQ Ze)
    rw[hp1,hp2,Ip,Nk]at ze
    refine wpAny_bind (wpAny_bind (wpAny_mono ze (λyv s8 h8=>?_) λ_ _ x=>x))
    obtain⟨y,H8,J8,r8,e8,z8,m',hm,w8⟩:=h8
    have za:=cY (X:=X') _ s8 BQ H8 (.ref s2.heap.objs.size) [y] (.ref s2.heap.objs.size) [yv] (λ_ H9=>H9=upd H8 s2.heap.objs.size (.lst (ys++[y]))) J8 rfl (.cons r8 .nil) ⟨_,ys,y,rfl,rfl,e8,z8,rfl⟩
    rw[hp1,hp2,Ip,Nk]at za
    refine wpAny_bind (wpAny_mono za (λ_ s9 h9=>?_) λ_ _ x=>x)
    obtain⟨_,H9,J9,_,e9⟩:=h9
    subst e9
    refine wpAny_pure (wpAny_pure ⟨rfl,m',hm,i+1,ys++[y],_,?_,?_,?_,w8⟩)
    ·refine J9.IC.weak ?_ ?_
     ·rw[S.len,J9.len]
      subst qU
      rfl
     ·exact k7
    ·exact T.keep _ _ _ t6 λb hb o e=>(J9.pin (b,o) (List.mem_append_right _ (List.mem_append_right _ (iK hb e)))).1
    ·intro b hb
     obtain⟨o,e,d⟩:=T.obj _ _ t6 b hb
     exact(J9.pin (b,o) (List.mem_append_right _ (List.mem_append_right _ (iK hb e)))).2.1
 have l0:=loop _ I4 st3
 have l1:=codeAny_compStart_list l0 (T.self X.A 0 _ _ _ st3 l0)
 rw[Qm]at l1
 subst hR
 exact l1
theorem CN{X:Cx}{elt tg iter test:Expr}{tt:TT}{scope:Scope}{pos:Pos}{wi:TI}{g:TG}{te:TE}{N:List Str}{nh:St->St}(hc:X.calm=true)(hS:X.Ok->∃cl,cN X scope cl N nh)(hi:PI X tg iter wi)
  (hg:∀cl C s H ex pn E,PG (iA X scope cl C N s H ex pn E) tg g) (he:∀cl C s H ex pn E,PE (iA X scope cl C N s H ex pn E) elt te) (ht:∀cl C s H ex pn E,PT (iA X scope cl C N s H ex pn E) test tt)
  (hs:∀x,foldedSetIterable iter X.env x=pure x:=by intro _;rfl):PE X (.ListComp elt [⟨tg,iter,[test],0⟩] scope pos) (Ek wi g tt te nh):=by
 intro pins s σ H Q I h
 rw[eval_ListComp]
 refine xS (use:=none) (QQ:=EP X pins σ Q) hc hS hi hg he ht hs I h ?_
 intro l C mC H' s' I' fp hn q
 exact⟨mC,hn,λh' sb=>⟨.ref l,H',I'.moved (ch:=[C]) (t':=s'.toks) (λb o hb e=>(sb.2 b (by simpa using hb)).trans e) (λb hb=>by rw[List.mem_singleton.mp hb];exact fp),rfl,q⟩⟩
end L2
namespace GP
open PySem L2 uc
theorem zU{n:Nat}(h:n<=100000):((n:Nat):Int).natAbs.log2<1920:=by
 rw[Int.natAbs_natCast]
 by_cases z:n=0
 ·subst z;decide
 ·rw[Nat.log2_lt z]
  exact Nat.lt_of_le_of_lt h (Nat.lt_of_lt_of_le (show 100000<2 ^ 20 by decide) (Nat.pow_le_pow_right (by decide) (by decide)))
theorem Bb{a b:Str}{m n:Nat}(h1:a.length<=m)(h2:b.length<=n):(a++b).length<=m+n:=by rw[strLen_append];omega
theorem qt{i j:Int}:decide (V.int i=V.int j)=decide (i=j):=by
 by_cases h:i=j
 ·subst h;simp
 ·rw[decide_eq_false h,decide_eq_false (λz=>h (V.int.inj z))]
theorem ite_str{i j:Str}{A B:Prop}(h1:i=j->A)(h2:¬i=j->B):if(decide (V.str i=V.str j))=true then A else B:=by
 by_cases h:i=j
 ·rw[if_pos (by rw[h];simp)];exact h1 h
 ·rw[if_neg (by rw[decide_eq_false (λz=>h (V.str.inj z))];exact Bool.false_ne_true)];exact h2 h
def Cm(C:Addr):Sp:=λvs H Q _=>∃(e:Addr) (i j:Nat),vs=[.ref e,.int i,.int j]/\H e=some (newX e C none)/\i<=100000/\j<=100000 ∧
 ∀dx H',(∀b u,H b=some u->b≠e->H' b=some u)->H dx=none->H' e=some (newX e C (some dx))->H' dx=some (zC dx (aE "place" (.int j) (aE "row" (.int i) [])))->Q .iP H'
def Gj:List V:=[.str (Str.ofString "whole"),.str (Str.ofString "within"),.str (Str.ofString "over"),.str (Str.ofString "stretch")]
def kc(m:Str):Bool:=JT (.str m) Gj
def pS(C:Addr):Sp:=λvs H Q E=>∃m:Str,vs=[.str m]/\(kc m=true->Q .iP H)/\(kc m=false->(reprText m).length<=20/\E (.ref C) none H)
def vK(m:Str)(q:cF):Bool :=
 if m=Str.ofString "whole" then decide (q.1=0)&&decide (q.2=0)else if m=Str.ofString "within" then decide (q.1=0)else if m=Str.ofString "over" then decide (q.2=0)else true
def yJ(m f s:Str)(q:cF):Bool :=
 if m=Str.ofString "whole" then decide (q.1=(f.cps.size:Int))&&decide (q.2=(s.cps.size:Int))else if m=Str.ofString "stretch" then true else decide (q.1=(f.cps.size:Int))
def I9(K:PySem.W.Frag):Sp:=λvs H Q _=>∃(m:Str) (a:Addr) (q:cF),vs=[.str m,.ref a]/\kr K H a q/\Q (.bl (vK m q)) H
def I8(K:PySem.W.Frag):Sp:=λvs H Q _=>∃(m f s:Str) (a:Addr) (q:cF),vs=[.str m,.str f,.str s,.ref a]/\kr K H a q/\f.cps.size<=1000/\s.cps.size<=1000/\Q (.bl (yJ m f s q)) H
theorem yL {m:Str} (h:kc m=true) (h1:¬m=Str.ofString "whole") (h2:¬m=Str.ofString "within") (h3:¬m=Str.ofString "over"):m=Str.ofString "stretch" :=by
 unfold kc Gj JT at h
 simp only[List.any_cons,List.any_nil,Bool.or_false,Bool.or_eq_true,La]at h
 rcases h with h|h|h|h
 ·exact absurd (show Str.ofString "whole" =m by simpa using h).symm h1
 ·exact absurd (show Str.ofString "within" =m by simpa using h).symm h2
 ·exact absurd (show Str.ofString "over" =m by simpa using h).symm h3
 ·exact(show Str.ofString "stretch" =m by simpa using h).symm
end GP
namespace L2
open PySem PySem.Spec PyProof.Rows
theorem Ko{prog:Program}{w:World}{A:Around}{E:Value->Shared->Prop}{s:Shared}{K:PySem.W.Frag}{x C:Addr}{ox:Obj}{od:Option Obj}{name:Str}{expr:Bool}{v:Value}{Q:Value->Shared->Prop}(Z:Nx K C)(k:K.In s.heap)(I:PySem.W.InstAt s.heap x ox C od)
  (hf:PySem.W.findObj K C od name=some (.value v)) (hd:PySem.W.handedIn v=true) (h:Q v { s with toks:=s.toks+1 }):wpAny (model prog w) A (getAttr (.ref x) name expr) Q E s:=by
 obtain⟨hh,g,d,t,os⟩:=s
 have L0:=I.type (M:=model prog w)
 have L1:=PySem.W.looks_findIn (M:=model prog w) k Z.ga
 have L2:=PySem.W.looks_findIn (M:=model prog w) k Z.gn
 have LB:=PySem.W.looks_mroIn (M:=model prog w) k Z.hb
 have LF:=PySem.W.looks_find (M:=model prog w) k I hf
 unfold getAttr getAttrBy
 refine wpAny_bind (wpAny_mkText (wpAny_holding (wpAny_bind (L0.at (wpAny_bind (L1.at ?_))))))
 show wpAny _ _ (getAttrByItsOwn _ _ _ _ _ _) _ _ _
 unfold getAttrByItsOwn hookBefore
 refine wpAny_bind (L2.at ?_)
 refine wpAny_bind (wpAny_attempt (wpAny_holding ?_))
 have e0:∀n:Value,callGetattribute (.ref x) n (.builtin "BaseException.__getattribute__") expr=boundAndCalled (.builtin "BaseException.__getattribute__") (.ref x) n:=λn=>by
  unfold callGetattribute
  cases expr<;>rfl
 rw[e0]
 unfold boundAndCalled
 refine wpAny_bind (wpAny_of_eq (PySem.F.attr_ValueError.ga.bind (.ref x)) ?_)
 show wpAny _ _ (call (.builtin "BaseException.__getattribute__") [.ref x,.str name t]) _ _ _
 refine wpAny_call (codeAny_call_builtin PySem.F.attr_ValueError.ga.plain PySem.F.entry_bexc_ga ?_)
 have c1:builtinKind "BaseException.__getattribute__" =some .slot:=by decide +kernel
 have c2:splitId "BaseException.__getattribute__" =some ("BaseException","__getattribute__"):=by decide +kernel
 have c3:=PySem.F.args_bexc_ga (.ref x) (.str name t)
 simp only[checkBuiltinCall,c1,c2]
 refine wpAny_bind (wpAny_bind (L0.at (LB.at ?_)))
 simp only[Bool.not_true,Bool.false_eq_true,if_false]
 unfold argsOk at c3
 refine wpAny_of_eq c3 ?_
 unfold Builtin.«object.__getattribute__»
 refine wpAny_bind (wpAny_pure (wpAny_bind (wpAny_pure (wpAny_bind (L0.at (wpAny_bind (LF.at ?_)))))))
 refine wpAny_pure ?_
 show wpAny _ _ (handedOut v) _ _ _
 rw[PySem.W.handedOut_of hd]
 exact wpAny_pure h
def MT(K:PySem.W.Frag)(ta:TE)(f:Str):TE:=λσ H Q=>ta σ H λx H1=>∃e C dx fs i,x= .ref e/\H1 e=some (K9 e (.ref C) (some dx))/\H1 dx=some (zC dx fs)/\Nx K C/\bM K C f/\fs.lookup f=some (.int i)/\Q (.int i) H1
theorem Dj{P:Program}{w:World}{H:Hp}{h:Heap}{e C dx:Addr}{fs:List (Str×V)}(hok:lS P w H h)(he:H e=some (K9 e (.ref C) (some dx)))(hd:H dx=some (zC dx fs)):
  ∃ox od,∃mA:Str->Option Value,PySem.W.InstAt h e ox C (some od)/\(∀name,PySem.W.lookIn name od=some (mA name))/\∀f,lP (fs.lookup f) (mA f):=by
 obtain⟨⟨vs,sl,h1⟩,_,_⟩:=(show bI P w H h e (K9 e (.ref C) (some dx)) from hok e _ he)
 obtain⟨⟨mA,nA,rA,wA⟩,_,_⟩:=(show bI P w H h dx (zC dx fs) from hok dx _ hd)
 obtain⟨od,ho,hl⟩:=uE nA
 exact⟨_,od,mA,⟨h1,rfl,rfl,ho⟩,hl,rA⟩
theorem LO{X:Cx}{e:Expr}{f:Str}{pos:Pos}{ta:TE}(he:PE X e ta)(hb:attributeBase e f X.env (eval e X.env)=eval e X.env):PE X (.Attribute e f pos) (MT X.K ta f):=by
 intro pins s σ H Q I h
 refine GF hb (dI (he pins s σ H _ I h) λu s1 ⟨x,H1,I1,rx,e,C,dx,fs,i,ex,hx,hd,Z,n,l,q⟩=>?_)
 subst ex
 obtain rfl:u=Value.ref e:=rx
 obtain⟨ox,od,mA,J,hl,rA⟩:=Dj I1.hok hx hd
 have r:=rA f
 rw[l]at r
 cases hm:mA f with
 |none=>rw[hm]at r;exact r.elim
 |some u =>
  rw[hm]at r
  obtain⟨t,rfl⟩:=(show ∃t,u=Value.int i t from r)
  refine Ko Z I1.pL J ?_ rfl ⟨.int i,H1,I1.tok _,⟨t,rfl⟩,q⟩
  obtain⟨cd,hc,U1⟩:=PySem.W.any_some Z.hd
  have hn:PySem.W.findIn X.K (.ref C) f=some none:=n
  unfold PySem.W.findObj
  rw[hc,Option.bind_some,hn,Option.bind_some]
  simp only[Option.bind_some,PySem.W.ownOf,U1,if_true,hl,hm]
theorem yR{X:Cx}:lJ X (.builtin "isinstance") (λxs H Q=>∃ea C od c cv b,xs=[.ref ea,c]/\((∃D,c= .ref D/\cv= .ref D)\/∃T,c= .ty T/\cv= .type T)/\H ea=some (K9 ea (.ref C) od)/\(od=none\/∃dx fs,od=some dx/\H dx=some (zC dx fs))/\Nx X.K C/\PySem.W.kitOne X.K (.ref C) cv=some b/\Q (.bl b) H):=by
 intro pins s σ H vs us Q I r h
 obtain⟨ea,C,od,c,cv,b,rfl,hc,hx,hod,Z,hk,q⟩:=h
 obtain⟨u,u2,rfl,rx,rc⟩:=vals2 r
 cases (show u=Value.ref ea from rx)
 have e2:u2=cv:=by
  rcases hc with⟨D,rfl,rfl⟩|⟨T,rfl,rfl⟩
  ·exact rc
  ·exact rc
 subst e2
 rcases hod with rfl|⟨dx,fs,rfl,hd⟩
 ·obtain⟨⟨ws,sl,e⟩,_,_⟩:=(show bI X.prog X.w H s.heap ea (K9 ea (.ref C) none) from I.hok ea _ hx)
  exact TK.bY (Nat.le_refl s.toks) (PySem.W.kia_one (Dg (ox:=⟨.ref C,none,.fields ws,sl⟩) (od:=none) Z) I.pL ⟨e,rfl,rfl,trivial⟩ hk (λz=>nomatch z) λtk hup=>⟨.bl b,H,I.tok tk,rfl,q⟩)
 ·obtain⟨ox,o,mA,J,hl,rA⟩:=Dj I.hok hx hd
  exact TK.bY (Nat.le_refl s.toks) (PySem.W.kia_one (Dg (ox:=ox) (od:=some o) Z) I.pL J hk (λz=>nomatch z) λtk hup=>⟨.bl b,H,I.tok tk,rfl,q⟩)
end L2
namespace GP
open PySem L2 uc
theorem Ct{x:Str}{lo hi:Option Int}{a b:Nat}(e:PySem.Builtin.Str.strSliceIndices lo hi 1 x.length=PySem.Builtin.Str.strSliceIndices (some (a:Int)) (some (b:Int)) 1 x.length)(hab:a<=b)(hb:b<=x.cps.size):(Txt.slice x lo hi).cps.toList=(x.cps.toList.drop a).take (b-a):=by
 have hb':b<=x.length:=hb
 have f:=StrLaws.sliced_plain x hab hb'
 unfold Txt.slice
 rw[e]
 split
 ·next h =>
  have hl:(PySem.Builtin.Str.strSliceIndices (some (a:Int)) (some (b:Int)) 1 x.length).length=x.length:=by simpa using h
  rw[StrLaws.strSliceIndices_plain hab hb',List.length_map,List.length_range]at hl
  have hl':b-a=x.cps.size:=hl
  have ha:a=0:=by omega
  subst ha
  rw[List.drop_zero,List.take_of_length_le (by rw[Array.length_toList];omega)]
 ·exact f
theorem Cu{x:Str}{k:Int}(h0:0<=k)(h1:k<=(x.cps.size:Int)):(Txt.slice x none (some k)).cps.toList=x.cps.toList.take k.toNat:=by
 obtain⟨n,rfl⟩:∃n:Nat,k=(n:Int):=⟨k.toNat,(Int.toNat_of_nonneg h0).symm⟩
 have e:=Ct (x:=x) (lo:=none) (hi:=some (n:Int)) (a:=0) (b:=n) (by
  simp only[PySem.Builtin.Str.strSliceIndices]
  simp
  rw[show max (0:Int) (min 0 (x.length:Int))=0 by omega]) (Nat.zero_le _) (by omega)
 rw[e,List.drop_zero]
 rfl
theorem Cv{x:Str}{k:Int}(h0:0<=k)(h1:k<=(x.cps.size:Int)):(Txt.slice x (some k) none).cps.toList=x.cps.toList.drop k.toNat:=by
 obtain⟨n,rfl⟩:∃n:Nat,k=(n:Int):=⟨k.toNat,(Int.toNat_of_nonneg h0).symm⟩
 have e:=Ct (x:=x) (lo:=some (n:Int)) (hi:=none) (a:=n) (b:=x.cps.size) (by
  have hl:x.length=x.cps.size:=rfl
  simp only[PySem.Builtin.Str.strSliceIndices,hl]
  simp
  rw[if_neg (show ¬(x.cps.size:Int)<0 by omega),show max (0:Int) (min (x.cps.size:Int) (x.cps.size:Int))=(x.cps.size:Int) by omega]) (by omega) (Nat.le_refl _)
 rw[e,List.take_of_length_le (by rw[List.length_drop,Array.length_toList];omega)]
 rfl
def t9(sg a b:Str)(i j:Nat):Prop :=
 (i=0/\(∃c,a.cps[j]? =some c/\c∉sg.cps.toList)/\∀k c,k<j->a.cps[k]? =some c->c∈sg.cps.toList) ∨
 (i=1/\Of sg a/\(∃c,b.cps[j]? =some c/\c∉sg.cps.toList)/\∀k c,k<j->b.cps[k]? =some c->c∈sg.cps.toList)
theorem t9.no{sg a b:Str}{i j:Nat}(h:t9 sg a b i j):¬(Of sg a/\Of sg b):=λo=>by
 rcases h with⟨_,⟨c,hc,hn⟩,_⟩|⟨_,_,⟨c,hc,hn⟩,_⟩
 ·exact hn (o.1 c (nT hc))
 ·exact hn (o.2 c (nT hc))
theorem xQ{sg a:Str}{j j':Nat}(h:(∃c,a.cps[j]? =some c/\c∉sg.cps.toList)/\∀k c,k<j->a.cps[k]? =some c->c∈sg.cps.toList)
  (h':(∃c,a.cps[j']? =some c/\c∉sg.cps.toList)/\∀k c,k<j'->a.cps[k]? =some c->c∈sg.cps.toList):j=j':=by
 obtain⟨⟨c,hc,hn⟩,h2⟩:=h
 obtain⟨⟨d,hd,hm⟩,h3⟩:=h'
 rcases Nat.lt_trichotomy j j' with z|z|z
 ·exact absurd (h3 j c z hc) hn
 ·exact z
 ·exact absurd (h2 j' d z hd) hm
theorem t9.uniq{sg a b:Str}{i j i' j':Nat}(h:t9 sg a b i j)(h':t9 sg a b i' j'):i=i'/\j=j':=by
 rcases h with⟨e,h1,h2⟩|⟨e,o,h1,h2⟩
 ·rcases h' with⟨e',k1,k2⟩|⟨e',o',k1,k2⟩
  ·exact⟨e.trans e'.symm,xQ ⟨h1,h2⟩ ⟨k1,k2⟩⟩
  ·obtain⟨c,hc,hn⟩:=h1
   exact absurd (o' c (nT hc)) hn
 ·rcases h' with⟨e',k1,k2⟩|⟨e',o',k1,k2⟩
  ·obtain⟨c,hc,hn⟩:=k1
   exact absurd (o c (nT hc)) hn
  ·exact⟨e.trans e'.symm,xQ ⟨h1,h2⟩ ⟨k1,k2⟩⟩
def Ba(i j:Nat):List (Str×V):=aE "place" (.int j) (aE "row" (.int i) [])
theorem Km{i j:Nat}:(Ba i j).lookup ("row" :Str)=some (.int i):=by
 unfold Ba
 rw[av,if_neg (by decide +kernel),av,if_pos rfl]
theorem Fb{i j:Nat}:(Ba i j).lookup ("place" :Str)=some (.int j):=by
 unfold Ba
 rw[av,if_pos rfl]
def Co(C:Addr):Sp:=λvs H Q E=>∃(sg:Str) (l:Addr) (a b:Str),vs=[.str sg,.ref l]/\H l=some (.lst [.str a,.str b])/\a.cps.size<=1000/\b.cps.size<=1000/\(Of sg a->Of sg b->∀H',ai H H'->Q .iP H') ∧
 (∀i j,t9 sg a b i j->∀dx H',ai H H'->H' dx=some (zC dx (Ba i j))->E (.ref C) (some dx) H')
def FN(K:PySem.W.Frag)(C CE:Addr):Sp:=λvs H Q E=>∃(x l:Addr) (sg:Str) (rows:List (List cF)) (fo fm:cF) (a b:Str),vs=[.ref x,.ref l]/\mJ K C H x sg rows fo fm/\H l=some (.lst [.str a,.str b])/\a.cps.size<=1000/\b.cps.size<=1000/\(Of sg a->Of sg b->∀H',ai H H'->Q .iP H') ∧
 (∀i j,t9 sg a b i j->∀dx H',ai H H'->H' dx=some (zC dx (Ba i j))->E (.ref CE) (some dx) H')
theorem tF{K:PySem.W.Frag}:PySem.W.kitOne K (.type "str") (.type "list")=some false:=by kernel_rfl
theorem rB{K:PySem.W.Frag}:PySem.W.kitOne K (.type "str") (.type "tuple")=some false:=by kernel_rfl
theorem zS{α:Type}[DecidableEq α]:∀{l m:List α},l.Nodup->(∀a∈l,a∈m)->l.length<=m.length
 |[],_,_,_=>Nat.zero_le _
 |a::l,m,nd,h=>by
  have ha:=h a List.mem_cons_self
  obtain⟨n1,n2⟩:=List.nodup_cons.mp nd
  have ih:=zS (l:=l) (m:=m.erase a) n2 λb hb=>by
   have nb:b≠a:=λz=>n1 (z▸hb)
   exact(List.mem_erase_of_ne nb).mpr (h b (List.mem_cons_of_mem _ hb))
  rw[List.length_erase_of_mem ha]at ih
  have hp:0<m.length:=List.length_pos_of_mem ha
  rw[List.length_cons]
  omega
end GP
namespace GP
open PySem L2 uc
theorem Ah{sg f b:Str}{c:Nat}{k:Int}(h0:0<=k)(h1:k<=(f.cps.size:Int))(of:Of sg f)(hc:c∉sg.cps.toList):
  (∃d,((Txt.slice f none (some k)++(⟨#[c]⟩:Str))++Txt.slice f (some k) none).cps[k.toNat]? =some d/\d∉sg.cps.toList) ∧
  ∀j d,j<k.toNat->((Txt.slice f none (some k)++(⟨#[c]⟩:Str))++Txt.slice f (some k) none).cps[j]? =some d->d∈sg.cps.toList:=by
 have e:((Txt.slice f none (some k)++(⟨#[c]⟩:Str))++Txt.slice f (some k) none).cps.toList=f.cps.toList.take k.toNat++[c]++f.cps.toList.drop k.toNat:=by rw[qF,qF,Cu h0 h1,Cv h0 h1]
 have l:(f.cps.toList.take k.toNat).length=k.toNat:=by rw[List.length_take,Array.length_toList];omega
 refine⟨⟨c,?_,hc⟩,λj d hj hd=>?_⟩
 ·rw[←Array.getElem?_toList,e,List.getElem?_append_left (by rw[List.length_append,l];exact Nat.lt_succ_self _),List.getElem?_append_right (by rw[l];exact Nat.le_refl _),l,Nat.sub_self]
  rfl
 ·rw[←Array.getElem?_toList,e,List.getElem?_append_left (by rw[List.length_append,l];exact Nat.lt_succ_of_lt hj),List.getElem?_append_left (by rw[l];exact hj)]at hd
  exact of d (List.mem_of_mem_take (List.mem_of_getElem? hd))
theorem Gp{f:Str}{c:Nat}{k:Int}(h0:0<=k)(h1:k<=(f.cps.size:Int)):((Txt.slice f none (some k)++(⟨#[c]⟩:Str))++Txt.slice f (some k) none).cps.size=f.cps.size+1:=by
 rw[←Array.length_toList,qF,qF,Cu h0 h1,Cv h0 h1,List.length_append,List.length_append,List.length_take,List.length_drop,Array.length_toList]
 show min k.toNat f.cps.size+1+(f.cps.size-k.toNat)=_
 omega
end GP
namespace L2
open PySem PySem.Spec PyProof.Rows
section
variable{X:Cx}{o:Expr}{to:TE}{g:Str}{c j:Nat}{u:Tok}{apos cpos p1 p2:Pos}
end
end L2
namespace L2
open PySem PySem.Spec PyProof.Rows
abbrev sg(c:Nat):V:=.str ⟨#[c]⟩
theorem wF:∀{cs:List Nat} {us:List Value},Vals (cs.map sg) us->∃l:List (Str×Tok),us=strValues l/\l.map (·.1)=cs.map λc=>(⟨#[c]⟩:Str)
 |[],_,.nil=>⟨[],rfl,rfl⟩
 |c::cs,_,.cons r rs=>by
  obtain⟨t,e⟩:=r
  obtain⟨l,e1,e2⟩:=wF rs
  exact⟨(⟨#[c]⟩,t)::l,by rw[e,e1];rfl,by rw[List.map_cons,e2];rfl⟩
theorem z0:∀(l:List Nat) (n:Nat),(l.map λc=>(⟨#[c]⟩:Str)).foldl (λa (x:Str)=>a+x.length+(⟨#[]⟩:Str).length) n=n+l.length
 |[],_=>rfl
 |c::l,n=>by
  rw[List.map_cons,List.foldl_cons,z0 l]
  show n+1+0+l.length=n+(l.length+1)
  omega
theorem JB{X:Cx}{K':PySem.W.Frag}(hK:X.K=K'):YZ X "str.join" (λx xs H Q=>∃(l:Addr) (cs:List Nat),x= .str ⟨#[]⟩/\xs=[.ref l]/\bP K' H l (cs.map sg)/\cs.length<=100000/\Q (.str ⟨cs.toArray⟩) H):=by
 subst hK
 intro pins s σ H x xs v us Q I rx rs h
 obtain⟨l,cs,rfl,rfl,hl,hn,q⟩:=h
 obtain⟨t,rfl⟩:=rx
 cases rs with
 |cons r rr =>
  cases rr
  cases r
  obtain⟨its,r1,t1,_⟩:=I.list hl
  obtain⟨ls,e1,e2⟩:=wF r1
  refine TK.bY (Nat.le_refl s.toks) (SC.join (l:=ls) (by rw[←e1];exact t1.isList) e2 ?_ λt' k hk=>⟨.str ⟨cs.toArray⟩,H,I.tok k hk,⟨t',?_⟩,q⟩)
  ·unfold JoinOk
   rw[List.foldl_toArray,z0]
   unfold Builtin.Str.tooLong
   rw[Bool.not_eq_true',decide_eq_false_iff_not,Nat.zero_add]
   exact Nat.not_lt.mpr (Nat.le_trans hn (by decide))
  ·have e:Txt.join ⟨#[]⟩ (cs.map λc=>(⟨#[c]⟩:Str))=⟨cs.toArray⟩:=by
    show Builtin.Str.glued _ _=_
    rw[StrLaws.glued_eq_join,join_ones]
   rw[e]
theorem Gh{X:Cx}:YZ X "str.join" (λx xs H Q=>∃(l:Addr) (cs:List Nat),x= .str ⟨#[]⟩/\xs=[.ref l]/\bP X.K H l (cs.map sg)/\cs.length<=100000/\Q (.str ⟨cs.toArray⟩) H):=JB rfl
end L2
namespace L2
open PySem PySem.Spec PyProof.Rows
def nv(sp:Sp):Sp:=λvs H Q _=>sp vs H Q λ_ _ _=>False
theorem aI.nv{P:Program}{w:World}{K:PySem.W.Frag}{mg:Str->Option Value}{base:Heap}{k:Nat}{f:Addr}{fd:FuncData}{ps:List Str}{sp:Sp}(F:aI P w K mg base (vz P w) k f fd ps sp):aI P w K mg base cj k f fd ps (nv sp) :=
 ⟨λvs H Q E q=>F.len vs H Q _ q,λA outer s H args us vs Q E hr he hb hv hs=>codeAny_mono (F.run A outer s H args us vs Q _ hr he hb hv hs) λr s' h=>by
  cases r with
  |error e=>obtain⟨ea,cls,od,H',h⟩:=h;exact(h.2.2.2.2.2.2.2:False).elim
  |ok fl=>cases fl<;>exact h⟩
theorem Bd{J:It}{g:TG}{te:TE}{σ':St}{H1:Hp}{D:Hp->Prop}{l:Addr}(n:Nat)(f:Nat->V)(hl:H1 l=none)(hn:n<sizeLine)
  (go:∀i H,ai H1 H->i<n->J.go i H) (st:∀H,ai H1 H->J.stop n H)
  (el:∀i x H H3 (R:VK),ai H1 H->i<n->J.zA i H x H3->(∀H5,ai H H5->R (f i) H5)->g x σ' H3 λuW H4=>Kp σ' uW/\te uW H4 R)
  (fin:∀H',ai H1 H'->H' l=some (.lst ((List.range n).map f))->D H') :
  ∃W:Nat->Nat->List V->Hp->Prop,(∃m,W 0 m [] (upd H1 l (.lst [])))/\∀i m ys H2,W i m ys H2->(J.stop i H2/\D H2) ∨
   (J.go i H2/\∀x H3,J.zA i H2 x H3->g x σ' H3 λuW H4=>Kp σ' uW/\te uW H4 λy H5=>H5 l=some (.lst ys)/\ys.length<sizeLine/\∃m',m'<m/\W (i+1) m' (ys++[y]) (upd H5 l (.lst (ys++[y])))):=by
 refine⟨λi m ys H2=>m=n-i/\i<=n/\ys=(List.range i).map f/\ai H1 H2/\H2 l=some (.lst ys),⟨n,rfl,Nat.zero_le _,rfl,GP.ai.upd hl,ah⟩,?_⟩
 rintro i m ys H2 ⟨rfl,hi,rfl,s2,h2⟩
 by_cases hlt:i<n
 ·refine .inr ⟨go i H2 s2 hlt,λx H3 y=>el i x H2 H3 _ s2 hlt y λH5 s5=>?_⟩
  refine⟨s5 _ _ h2,by rw[List.length_map,List.length_range];omega,n-(i+1),by omega,rfl,hlt,?_,GP.ai.at (s2.trans s5) hl,ah⟩
  rw[List.range_succ,List.map_append];rfl
 ·have e:i=n:=by omega
  subst e
  exact .inl ⟨st H2 s2,fin H2 s2 h2⟩
theorem Be{J:It}{g:TG}{tt:TT}{te:TE}{σ':St}{H1:Hp}{D:Hp->Prop}{l:Addr}(n:Nat)(b:Nat->Bool)(f:Nat->V)(hl:H1 l=none)(hn:n<sizeLine)
  (go:∀i H,ai H1 H->i<n->J.go i H) (st:∀H,ai H1 H->J.stop n H)
  (el:∀i x H H3 (R:VK) (S:Hp->Prop),ai H1 H->i<n->J.zA i H x H3->(b i=true->∀H5,ai H H5->R (f i) H5)->(b i=false->∀H5,ai H H5->S H5) →
   g x σ' H3 λuW H4=>Kp σ' uW/\tt uW H4 λb' H5=>if b'=true then te uW H5 R else S H5)
  (fin:∀H',ai H1 H'->H' l=some (.lst (((List.range n).filter b).map f))->D H') :
  ∃W:Nat->Nat->List V->Hp->Prop,(∃m,W 0 m [] (upd H1 l (.lst [])))/\∀i m ys H2,W i m ys H2->(J.stop i H2/\D H2) ∨
   (J.go i H2/\∀x H3,J.zA i H2 x H3->g x σ' H3 λuW H4=>Kp σ' uW/\tt uW H4 λb H5 =>
    if b=true then te uW H5 (λy H6=>H6 l=some (.lst ys)/\ys.length<sizeLine/\∃m',m'<m/\W (i+1) m' (ys++[y]) (upd H6 l (.lst (ys++[y]))))else ∃m',m'<m/\W (i+1) m' ys H5):=by
 refine⟨λi m ys H2=>m=n-i/\i<=n/\ys=((List.range i).filter b).map f/\ai H1 H2/\H2 l=some (.lst ys),⟨n,rfl,Nat.zero_le _,rfl,GP.ai.upd hl,ah⟩,?_⟩
 rintro i m ys H2 ⟨rfl,hi,rfl,s2,h2⟩
 by_cases hlt:i<n
 ·refine .inr ⟨go i H2 s2 hlt,λx H3 y=>el i x H2 H3 _ _ s2 hlt y (λhb H5 s5=>?_) λhb H5 s5=>?_⟩
  ·refine⟨s5 _ _ h2,?_,n-(i+1),by omega,rfl,hlt,?_,GP.ai.at (s2.trans s5) hl,ah⟩
   ·rw[List.length_map]
    exact Nat.lt_of_le_of_lt (Nat.le_trans (List.length_filter_le _ _) (by rw[List.length_range];omega)) hn
   ·rw[List.range_succ,List.filter_append,List.map_append,List.filter_cons_of_pos hb];rfl
  ·refine⟨n-(i+1),by omega,rfl,hlt,?_,s2.trans s5,s5 _ _ h2⟩
   rw[List.range_succ,List.filter_append,List.filter_cons_of_neg (by rw[hb];exact Bool.false_ne_true),List.filter_nil,List.append_nil]
 ·have e:i=n:=by omega
  subst e
  exact .inl ⟨st H2 s2,fin H2 s2 h2⟩
theorem CH{X:Cx}{i:Nat}{y:Str}{py spos:Pos}{elt tg iter test:Expr}{tt:TT}{scope:Scope}{pos:Pos}{wi:TI}{g:TG}{te:TE}{N:List Str}{nh:St->St}(hN:X.N.Nodup)(hi:X.N[i]? =some y)(hx:Loc X.env.scope y)
  (hc:X.calm=true) (hS:X.Ok->∃cl,cN X scope cl N nh) (hit:PI X tg iter wi)
  (hg:∀cl C s H ex pn E,PG (iA X scope cl C N s H ex pn E) tg g) (he:∀cl C s H ex pn E,PE (iA X scope cl C N s H ex pn E) elt te) (ht:∀cl C s H ex pn E,PT (iA X scope cl C N s H ex pn E) test tt)
  (hsw:swapsWith (.ListComp elt [⟨tg,iter,[test],0⟩] scope pos) (some (.Name y py)) spos.line X.env=pure true:=by rfl)
  (hf:X.fn y=true\/X.env.scope.names.lookup y=some .local:=by first|exact .inl rfl|exact .inr rfl|assumption)
  (hs:∀x,foldedSetIterable iter X.env x=pure x:=by intro _;rfl):PS X (.Assign [.Name y py] (.ListComp elt [⟨tg,iter,[test],0⟩] scope pos) spos) (Lx (Ek wi g tt te nh) (Gu i)):=by
 intro pins s σ H D I h
 rw[exec_Assign_Name_used _ _ _ _ hsw]
 refine wpAny_bind (wpAny_standAt (wpAny_bind ?_))
 show wpAny _ X.A (do let _ ←comprehension (.ListComp elt [⟨tg,iter,[test],0⟩] scope pos) scope X.env _ (newList []) false (eval iter X.env) (some (assign (.Name y py) X.env))) _ _ s
 refine wpAny_bind (wpAny_mono (xS (use:=some (assign (.Name y py) X.env)) (QQ:=λ_ s'=>SP X pins D .next s') hc hS hit hg he ht hs I h ?_) (λ_ s' hq=>wpAny_pure (wpAny_pure hq)) λ_ _ e=>e)
 intro l C mC H' s' I' fp hn q
 show wpAny _ X.A (assign (.Name y py) X.env (.ref l)) _ _ _
 refine wpAny_assign_Name (uf I' hN hi hx (v:=.ref l) rfl (λs2 I2 sb=>?_) hf)
 obtain⟨a,sb,ha⟩:=sb
 have nC:C≠a:=by
  obtain⟨_,f1,_,_,f4,_⟩:=fp
  rcases ha with z|z
  ·rw[z];exact f1
  ·exact λe=>f4 y a z e.symm
 refine⟨mC,hn.sameBut sb nC,λh' WX=>?_⟩
 refine⟨_,H',I2.moved (ch:=[C]) (t':=s2.toks) (λb o hb e=>(WX.2 b (by simpa using hb)).trans e) (λb hb=>?_),q⟩
 rw[List.mem_singleton.mp hb]
 exact fp
end L2
namespace L2
open PySem PySem.Spec PyProof.Rows
def Up(K:PySem.W.Frag)(a:Addr)(n:Nat):It :=
 ⟨λi H=>∃xs x,bP K H a xs/\i<n/\xs[n-1-i]? =some x,λi H x H'=>H'=H/\∀xs,bP K H a xs->xs[n-1-i]? =some x,λi _=>n<=i⟩
theorem IG{P:Program}{w:World}{K:PySem.W.Frag}{tg:Expr}(a it:Addr)(n:Nat):Turn P w K tg (Up K a n) [it] it (λi h=>i<=n/\h.IsRevIter it a ((n:Int)-1-(i:Int))) where
 mem:=by simp
 obj:=λi h st b hb=>by
  have e:b=it:=by simpa using hb
  subst e
  obtain⟨o,e,c,d⟩:=st.2
  exact⟨o,e,λv z=>by rw[d]at z;cases z⟩
 keep:=λi h h' st k=>⟨st.1,st.2.at λo e=>k it (by simp) o e⟩
 item:=by
  intro X hP hw hK hc i pins s σ H E I hf st hg
  subst hP hw hK
  obtain⟨xs,x,hq,hi,hx⟩:=hg
  obtain⟨its,rv,p,hz⟩:=I.list hq
  obtain⟨u,hu,ru⟩:=rv.get hx
  obtain⟨f0,f1,f2,f3,f4,f5⟩:=hf it (by simp)
  have st':s.heap.IsRevIter it a ((n-1-i:Nat):Int):=by
   rw[show((n-1-i:Nat):Int)=(n:Int)-1-(i:Int) by omega]
   exact st.2
  refine wpAny_pyNext_rev_item st' p.isList (x:=u) (by simpa using hu) λh' st' sb=>?_
  have I1:Inv X pins σ H { s with heap:=h' }:=I.turned (t':=s.toks) (λb o hb e=>(sb.2 b hb).trans e) f0 f1 f3 f4 f5
  obtain⟨o,e,c,d⟩:=id st'
  refine⟨u,rfl,zZ (s:={ s with heap:=h' }) e c d (by decide) ⟨x,H,I1,ru,⟨rfl,λys hy=>by rw[I.xJ hy hq];exact hx⟩,⟨by omega,?_⟩,λb hb=>(hf b hb).1⟩⟩
  rw[show(n:Int)-1-((i+1:Nat):Int)=((n-1-i:Nat):Int)-1 by omega]
  exact st'
 done:=by
  intro X hP hw hK hc i pins s σ H E I hf st hg
  subst hP hw hK
  obtain⟨f0,f1,f2,f3,f4,f5⟩:=hf it (by simp)
  have hg':n<=i:=hg
  have st':s.heap.IsRevIter it a (-1):=by
   rw[show(-1:Int)=(n:Int)-1-(i:Int) by have:=st.1;omega]
   exact st.2
  exact wpAny_pyNext_rev_end (I.ok.hd hc) st' λh' eb=>⟨rfl,I.turned (t':=s.toks) (λb o hb e=>eb b o hb e) f0 f1 f3 f4 f5⟩
 self:=λ_ _ _ _ _ st h=>wpAny_pyIter_revIter st.2 h
def XC(K:PySem.W.Frag)(ta:TA):TI:=λσ H R=>ta σ H λvs H1=>∃a xs,vs=[.ref a]/\bP K H1 a xs/\R (Up K a xs.length) H1
theorem boot_reversed:bootBuiltins "reversed" =some (.type "reversed"):=by decide +kernel
theorem Pn {X:Cx} {tg a:Expr} {ta:TA} {p pos:Pos} (hg:Gl X "reversed") (hm:X.mg "reversed" =none) (ha:PA X [a] ta) (hs:starEach [a] X.env=[(false,eval a X.env)]:=by rfl):PI X tg (.Call (.Name "reversed" p) [a] [] pos) (XC X.K ta):=by
 intro pins s σ H R I h
 refine Call_ (ql I hg hm boot_reversed (PyProof.Rows.callWith_type1 (dI (ha pos pins s σ H _ I h) λus s1 ⟨vs,H1,I1,r1,q1⟩=>?_) hs rfl))
 obtain⟨l,xs,rfl,hq,q⟩:=q1
 obtain⟨u,rfl,ru⟩:=vals1 r1
 cases ru
 obtain⟨its,rv,pl,hz⟩:=I1.list hq
 have hl:s1.heap.IsList l its.toArray:=pl.isList
 have hlen:=rv.length
 refine call_reversed_list hl ?_
 have e0:({ s1 with heap:=s1.heap.push (revObj l ((its.toArray.size:Int)-1)) }:Shared).heap.IsRevIter s1.heap.objs.size l ((xs.length:Int)-1-((0:Nat):Int)) :=
  ⟨_,Heap.get?_push_size _ rfl,rfl,by rw[show(xs.length:Int)-1-((0:Nat):Int)=(its.toArray.size:Int)-1 by rw[List.size_toArray];omega];rfl⟩
 refine wpAny_pyIter_revIter e0 ?_
 refine⟨s1.heap.objs.size,[s1.heap.objs.size],_,_,H1,rfl,I1.kept (t':=s1.toks) λb o e=>Heap.get?_push_of_some _ e,IG l _ xs.length,⟨Nat.zero_le _,e0⟩,λb hb=>?_,q⟩
 have e:b=s1.heap.objs.size:=by simpa using hb
 subst e
 exact I1.uM (Nat.le_refl _) (I1.hok.fresh (Nat.le_refl _))
end L2
namespace L2
open PySem PySem.Spec PyProof.Rows
theorem MA{K:PySem.W.Frag}{a:Addr}{xs:List V}{g:TG}{tb:TS}{D:Ends}{σ:St}{H:Hp}(Pv:Nat->St->Hp->Prop)(h0:Pv 0 σ H)(hl:∀i σ H,i<xs.length->Pv i σ H->bP K H a xs)
  (hs:∀i x σ H,i<xs.length->xs[xs.length-1-i]? =some x->Pv i σ H->g x σ H λσ2 H2=>tb { D with nx:=Pv (i+1),ct:=Pv (i+1),bk:=D.nx } σ2 H2) (hd:∀ σ H,Pv xs.length σ H->D.nx σ H) :
  ∃W:Nat->Nat->St->Hp->Prop,(∃m,W 0 m σ H)/\∀i m σ H,W i m σ H →
   ((Up K a xs.length).stop i H/\D.nx σ H)\/((Up K a xs.length).go i H/\∃N:St->Hp->Prop,(∀ σ' H',N σ' H'->∃m',m'<m/\W (i+1) m' σ' H')/\∀x H',(Up K a xs.length).zA i H x H'->g x σ H' λσ2 H2=>tb { D with nx:=N,ct:=N,bk:=D.nx } σ2 H2):=by
 refine⟨λi m σ H=>m=xs.length-i/\i<=xs.length/\Pv i σ H,⟨xs.length,by simp,Nat.zero_le _,h0⟩,?_⟩
 rintro i m σ H ⟨rfl,hi,p⟩
 by_cases hlt:i<xs.length
 ·have hx:xs[xs.length-1-i]? =some xs[xs.length-1-i]:=List.getElem?_eq_getElem (by omega)
  refine .inr ⟨⟨xs,_,hl i σ H hlt p,hlt,hx⟩,Pv (i+1),λσ' H' p'=>⟨xs.length-(i+1),by omega,rfl,hlt,p'⟩,λx H' y=>?_⟩
  obtain⟨e,y⟩:=y
  subst e
  exact hs i x σ _ hlt (y xs (hl i σ _ hlt p)) p
 ·have e:i=xs.length:=by omega
  subst e
  exact .inl ⟨Nat.le_refl _,hd σ H p⟩
end L2
namespace L2
open PySem PySem.Spec PyProof.Rows
abbrev NK:=Int×Int×Str
section
variable{P:Program}{w:World}{A:Around}{E:Value->Shared->Prop}{s:Shared}
def pN(P:Program)(w:World)(h:Heap)(k:NK)(a:Addr):Prop:=∃o n p t,h.get? a=some o/\o.cls= .type "tuple" /\o.data= .seq #[.ref p,.str k.2.2 t] n/\IsTupleKey (bW P w) h [.inl k.1,.inl k.2.1] p
theorem pN.typeIs{k:NK}{a:Addr}(x:pN P w s.heap k a):s.TypeIs (.ref a) "tuple" :=let ⟨o,_,_,_,ho,hc,_⟩:=x;⟨o,ho,hc⟩
theorem pN.inj{h:Heap}{a:Addr}{x y:NK}(hx:pN P w h x a)(hy:pN P w h y a):x=y:=by
 obtain⟨o,n,p,t,ho,_,hd,hi⟩:=hx
 obtain⟨o',n',p',t',ho',_,hd',hi'⟩:=hy
 obtain rfl:o=o':=Option.some.inj (ho.symm.trans ho')
 rw[hd]at hd'
 injection hd' with h1 _
 have oq:=congrArg Array.toList h1
 simp only[List.cons.injEq,Value.ref.injEq,Value.str.injEq,and_true]at oq
 obtain⟨rfl,e,_⟩:=oq
 have:=hi.inj hi'
 simp only[List.cons.injEq,Sum.inl.injEq,and_true]at this
 obtain⟨x1,x2,x3⟩:=x
 obtain⟨y1,y2,y3⟩:=y
 simp only at e this
 obtain⟨rfl,rfl⟩:=this
 subst e
 rfl
theorem pN.keeps{h h':Heap}{k:NK}{a d:Addr}{o:Obj}{es ep}(x:pN P w h k a)(ho:h.get? d=some o)(hd:o.data= .dict es ep)(hs:Heap.SameBut d h h'):pN P w h' k a:=by
 obtain⟨o',n,p,t,ho',hc,hd',hi⟩:=x
 have hne:a≠d:=by
  rintro rfl
  obtain rfl:o'=o:=Option.some.inj (ho'.symm.trans ho)
  rw[hd]at hd';exact nomatch hd'
 exact⟨o',n,p,t,(hs.2 a hne).trans ho',hc,hd',hi.keeps ho hd hs⟩
def ER(P:Program)(w:World)(k:NK):Int:=reduceHash (Builtin.Tuple.tupleHashOf [tupleKeyHash (bW P w) [.inl k.1,.inl k.2.1],(bW P w).hash (.inr k.2.2)])
theorem G9{k:NK}{a:Addr}{Q:Int->Shared->Prop}(hu:A.units+1<cLine)(hk:pN P w s.heap k a)(h:Q (ER P w k) { s with toks:=s.toks+5 }):
  wpAny (model P w) A (pyHash (.ref a)) Q E s:=by
 have hT:=hk.typeIs
 obtain⟨o,n,p,t,ho,_,hd,hi⟩:=hk
 unfold pyHash
 first|unfold pyHashByItsType|skip
 first|refine wpAny_bind (wpAny_cRoomFor_or (.inr (Nat.lt_of_succ_lt hu)) ?_)|skip
 refine wpAny_bind (wpAny_specialOf hT PySem.F.slot_tuple_hash.lookup ?_)
 show wpAny _ _ (if(some (Value.builtin "tuple.__hash__")==some Value.none)=true then _ else _) Q E s
 rw[if_neg (by rw[beq_builtin_none];exact Bool.false_ne_true)]
 refine wpAny_bind (wpAny_specialOf hT PySem.F.slot_tuple_hash.lookup ?_)
 show wpAny _ _ (callSpecialIfBoundUnlessNone? (.ref a) "__hash__" _ >>= _) Q E s
 refine wpAny_bind (wpAny_callSpecialIfBoundUnlessNone?_slot hT PySem.F.slot_tuple_hash (wpAny_call_entry PySem.F.slot_tuple_hash hT PySem.F.entry_tuple_hash ?_ (PySem.F.args_tuple_hash_1 _)))
 show wpAny _ _ (Builtin.Tuple.tupleItemsOf (.ref a) >>= _) _ _ s
 refine wpAny_bind (wpAny_tupleItemsOf ho hd ?_)
 refine wpAny_bind ?_
 rw[←Array.forIn_toList]
 refine wpAny_forIn_list _
  (λrest (b:Array Int) s'=>(rest=[.ref p,.str k.2.2 t]/\b= #[]/\s'=s)\/(rest=[.str k.2.2 t]/\b.toList=[tupleKeyHash (bW P w) [.inl k.1,.inl k.2.1]]/\s'={ s with toks:=s.toks+3 }) ∨
   (rest=[]/\b.toList=[tupleKeyHash (bW P w) [.inl k.1,.inl k.2.1],(bW P w).hash (.inr k.2.2)]/\s'={ s with toks:=s.toks+4 })) _ ?_ ?_ _ _ (.inl ⟨rfl,rfl,rfl⟩)
 ·rintro x rest b s' (⟨e,rfl,rfl⟩|⟨e,hb,rfl⟩|⟨e,_⟩)
  ·cases e
   refine wpAny_bind (wpAny_pyHash_tuple (knd:=bW P w) (ks:=[.inl k.1,.inl k.2.1]) hu hi ?_)
   first
    |exact wpAny_pure (.inr (.inl ⟨rfl,rfl,rfl⟩))
    |exact wpAny_bind (wpAny_pure (wpAny_pure (.inr (.inl ⟨rfl,rfl,rfl⟩))))
  ·cases e
   refine wpAny_bind ((bW P w).pyHash (k:=.inr k.2.2) (v:=.str k.2.2 t) (by show decide _=true;simp) ?_)
   first
    |exact wpAny_pure (.inr (.inr ⟨rfl,by simp[hb],rfl⟩))
    |exact wpAny_bind (wpAny_pure (wpAny_pure (.inr (.inr ⟨rfl,by simp[hb],rfl⟩))))
  ·cases e
 ·rintro b s' (⟨e,_⟩|⟨e,_⟩|⟨_,hb,rfl⟩)
  ·cases e
  ·cases e
  show wpAny _ _ (retInt (Builtin.Tuple.tupleHashOf b.toList)) _ _ _
  rw[hb]
  refine wpAny_ret_mkInt ?_
  unfold ER at h
  generalize Builtin.Tuple.tupleHashOf [tupleKeyHash (bW P w) [.inl k.1,.inl k.2.1],(bW P w).hash (.inr k.2.2)]=T at *
  show wpAny _ _ (if(decide (-(2:Int) ^ 63<=T)&&decide (T<2 ^ 63))=true then _ else _) Q E _
  unfold reduceHash at h
  by_cases hr:(decide (-(2:Int) ^ 63<=T)&&decide (T<2 ^ 63))=true
  ·rw[if_pos hr]
   rw[if_pos hr]at h
   exact wpAny_pure h
  ·rw[if_neg hr]
   rw[if_neg hr]at h
   exact wpAny_bind (wpAny_rule (wpAny_pure h))
theorem EO{x y:NK}{a b:Addr}{Pq:PySem.Fin->Shared->Prop}(hu:A.units<cLine)(hx:pN P w s.heap x a)(hy:pN P w s.heap y b)(h:Pq (.done (.ret (.bool (decide (x=y))))) s):
  wpAny (model P w) A (Builtin.«tuple.__eq__» ⟨[.ref a,.ref b],[]⟩) Pq E s:=by
 have hTb:=hy.typeIs
 obtain⟨oa,na,p,t,hoa,_,hda,ZT⟩:=hx
 obtain⟨ob,nb,q,u,hob,_,hdb,hib⟩:=hy
 obtain⟨x1,x2,x3⟩:=x
 obtain⟨y1,y2,y3⟩:=y
 simp only at hda ZT hdb hib
 show wpAny _ _ (isInstance (.ref b) (.type "tuple") >>= _) _ _ s
 refine wpAny_bind (wpAny_isInstance hTb isSubtype_tuple_tuple ?_)
 simp only[Bool.not_true,Bool.false_eq_true,if_false]
 refine wpAny_bind (wpAny_tupleItemsOf hoa hda ?_)
 refine wpAny_bind (wpAny_tupleItemsOf hob hdb ?_)
 refine wpAny_bind ?_
 refine wpAny_forIn_list _
  (λrest r s'=>r.1=none/\s'=s/\(rest=[(.ref p,.ref q),(.str x3 t,.str y3 u)]\/(rest=[(.str x3 t,.str y3 u)]/\x1=y1/\x2=y2)\/(rest=[]/\x1=y1/\x2=y2/\x3=y3))) _ ?_ ?_ _ _ ⟨rfl,rfl,.inl rfl⟩
 ·rintro⟨c,d⟩ rest r s' ⟨hr,rfl,e|⟨e,rfl,rfl⟩|⟨e,_⟩⟩
  ·cases e
   refine wpAny_bind (wpAny_eqBool_tuple (knd:=bW P w) (x:=[.inl x1,.inl x2]) (y:=[.inl y1,.inl y2]) hu ZT hib ?_)
   by_cases hk:x1=y1/\x2=y2
   ·obtain⟨rfl,rfl⟩:=hk
    rw[decide_eq_true rfl]
    simp only[Bool.not_true,Bool.false_eq_true,if_false]
    exact wpAny_pure ⟨rfl,rfl,.inr (.inl (by simp))⟩
   ·have e1:¬([Sum.inl x1,Sum.inl x2]:List Key)=[.inl y1,.inl y2]:=λz=>hk (by simpa using z)
    rw[decide_eq_false e1]
    simp only[Bool.not_false,if_true]
    have hf:decide ((x1,x2,x3)=(y1,y2,y3))=false:=decide_eq_false λz=>hk (by simp only[Prod.mk.injEq]at z;exact⟨z.1,z.2.1⟩)
    rw[hf]at h
    exact wpAny_bind (wpAny_pure (wpAny_pure (wpAny_pure h)))
  ·cases e
   refine wpAny_bind ((bW P w).eqBool (a:=.inr x3) (b:=.inr y3) (u:=.str x3 t) (v:=.str y3 u) (qf P w x3 t) (qf P w y3 u) ?_)
   by_cases hk:x3=y3
   ·subst hk
    rw[decide_eq_true rfl]
    simp only[Bool.not_true,Bool.false_eq_true,if_false]
    exact wpAny_pure ⟨rfl,rfl,.inr (.inr (by simp))⟩
   ·have e1:¬(Sum.inr x3:Key)= .inr y3:=λz=>hk (by simpa using z)
    rw[decide_eq_false e1]
    simp only[Bool.not_false,if_true]
    have hf:decide ((x1,x2,x3)=(x1,x2,y3))=false:=decide_eq_false λz=>hk (by simp only[Prod.mk.injEq]at z;exact z.2.2)
    rw[hf]at h
    exact wpAny_bind (wpAny_pure (wpAny_pure (wpAny_pure h)))
  ·cases e
 ·rintro⟨r1,r2⟩ s' ⟨hr,rfl,e|⟨e,_⟩|⟨_,rfl,rfl,rfl⟩⟩
  ·cases e
  ·cases e
  simp only at hr
  subst hr
  refine wpAny_pure ?_
  rw[decide_eq_true rfl]at h
  exact h
theorem Hf{x y:NK}{a b:Addr}{Q:Bool->Shared->Prop}(hu:A.units+1<cLine)(hx:pN P w s.heap x a)(hy:pN P w s.heap y b)(h:Q (decide (x=y)) s):
  wpAny (model P w) A (eqBool (.ref a) (.ref b)) Q E s:=by
 unfold eqBool
 try with_reducible refine wpAny_holding ?_
 show wpAny _ _ (if(Value.ref a==Value.ref b)=true then _ else _) Q E s
 by_cases hab:(Value.ref a==Value.ref b)=true
 ·rw[if_pos hab]
  have e:a=b:=by have:=eq_of_beq hab;injection this
  subst e
  obtain rfl:=hx.inj hy
  exact wpAny_bind (wpAny_rule (wpAny_pure (by simpa using h)))
 ·rw[if_neg hab]
  exact wpAny_bind (wpAny_richCompare_same_room (op:=.Eq) hx.typeIs hy.typeIs PySem.F.slot_tuple_eq
   (wpAny_call_entry PySem.F.slot_tuple_eq hx.typeIs PySem.F.entry_tuple_eq (EO hu hx hy ⟨_,rfl,(λe=>nomatch e),wpAny_truthy_bool h⟩) (PySem.F.args_tuple_eq_2 _ _)) (Nat.lt_of_succ_lt hu))
theorem CD(n:Nat){ks:List Key}{a:Addr}{Q:Bool->Shared->Prop}(hk:IsTupleKey (bW P w) s.heap ks a)(h:Q true s):wpAny (model P w) A (eqIsQuiet (n+1) (.ref a)) Q E s:=by
 have hT:=hk.typeIs
 obtain⟨o,items,m,ho,_,hd,hi⟩:=hk
 unfold eqIsQuiet
 refine wpAny_bind (wpAny_specialOf hT PySem.F.slot_tuple_eq.lookup ?_)
 show wpAny _ _ (isInstance (.ref a) (.type "tuple") >>= _) _ _ s
 refine wpAny_bind (wpAny_isInstance hT isSubtype_tuple_tuple ?_)
 simp only[Bool.not_true,Bool.false_eq_true,if_false]
 refine wpAny_bind (wpAny_seqItems ho hd ?_)
 refine wpAny_bind ?_
 show wpAny _ _ (forIn items _ _) _ _ s
 rw[←Array.forIn_toList]
 refine wpAny_forIn_list _ (λrest r s'=>r.1=none/\s'=s/\∀v∈rest,carriedByValue v=true) _ ?_ ?_ _ _ ⟨rfl,rfl,hi.byValue⟩
 ·rintro v rest r s' ⟨hr,rfl,hall⟩
  rw[eqIsQuiet_byValue _ (hall v List.mem_cons_self)]
  refine wpAny_bind (wpAny_pure ?_)
  simp only[Bool.not_true,Bool.false_eq_true,if_false]
  exact wpAny_pure ⟨rfl,rfl,λu XQ=>hall u (List.mem_cons_of_mem _ XQ)⟩
 ·rintro⟨r1,r2⟩ s' ⟨hr,rfl,_⟩
  simp only at hr
  subst hr
  exact wpAny_pure h
theorem Jy{k:NK}{a:Addr}{Q:Bool->Shared->Prop}(hk:pN P w s.heap k a)(h:Q true s):wpAny (model P w) A (eqIsQuiet 8 (.ref a)) Q E s:=by
 have hT:=hk.typeIs
 obtain⟨o,m,p,t,ho,_,hd,hi⟩:=hk
 unfold eqIsQuiet
 refine wpAny_bind (wpAny_specialOf hT PySem.F.slot_tuple_eq.lookup ?_)
 show wpAny _ _ (isInstance (.ref a) (.type "tuple") >>= _) _ _ s
 refine wpAny_bind (wpAny_isInstance hT isSubtype_tuple_tuple ?_)
 simp only[Bool.not_true,Bool.false_eq_true,if_false]
 refine wpAny_bind (wpAny_seqItems ho hd ?_)
 refine wpAny_bind ?_
 show wpAny _ _ (forIn #[Value.ref p,Value.str k.2.2 t] _ _) _ _ s
 rw[←Array.forIn_toList]
 refine wpAny_forIn_list _ (λrest r s'=>r.1=none/\s'=s/\∀v∈rest,v= .ref p\/carriedByValue v=true) _ ?_ ?_ _ _ ⟨rfl,rfl,λv hv=>?_⟩
 ·rintro v rest r s' ⟨hr,rfl,hall⟩
  have step:wpAny (model P w) A (eqIsQuiet 7 v) (λb s2=>b=true/\s2=s') E s':=by
   rcases hall v List.mem_cons_self with rfl|hv
   ·exact CD 6 hi ⟨rfl,rfl⟩
   ·rw[eqIsQuiet_byValue _ hv]
    exact wpAny_pure ⟨rfl,rfl⟩
  refine wpAny_bind (wpAny_mono step (λb s2 z=>?_) λ_ _ z=>z)
  obtain⟨rfl,rfl⟩:=z
  simp only[Bool.not_true,Bool.false_eq_true,if_false]
  exact wpAny_pure ⟨rfl,rfl,λu XQ=>hall u (List.mem_cons_of_mem _ XQ)⟩
 ·rintro⟨r1,r2⟩ s' ⟨hr,rfl,_⟩
  simp only at hr
  subst hr
  exact wpAny_pure h
 ·simp only[List.mem_cons,List.not_mem_nil,or_false]at hv
  rcases hv with rfl|rfl
  ·exact .inl rfl
  ·exact .inr rfl
end
def gM(P:Program)(w:World):HeapKind P w NK where
 is:=pN P w
 hash:=ER P w
 draws:=λ_=>5
 room:=λA=>A.units+1<cLine
 inj:=λhx hy=>hx.inj hy
 keeps:=λx ho hd hs=>x.keeps ho hd hs
 pyHash:=λhu hk h=>G9 hu hk h
 eqBool:=λhu hx hy h=>Hf hu hx hy h
 quiet:=λhk h=>Jy hk h
end L2
namespace L2
open PySem PySem.Spec PyProof.Rows PySem.W
def yV(d:Addr)(es:Array DictEntry)(ep:Nat)(h:Heap):Prop:=∃o,h.get? d=some o/\o.ExactDict/\o.data= .dict es ep
section
variable{P:Program}{w:World}{A:Around}{E:Value->Shared->Prop}{s:Shared}{d:Addr}{es:Array DictEntry}{ep:Nat}
theorem yV.ty(m:yV d es ep s.heap):s.TypeIs (.ref d) "dict" :=let ⟨o,ho,hc,_⟩:=m;⟨o,ho,hc.1⟩
theorem yV.mv{h h':Heap}(m:yV d es ep h)(e:∀o,h.get? d=some o->h'.get? d=some o):yV d es ep h':=let ⟨o,ho,r⟩:=m;⟨o,e _ ho,r⟩
theorem CC{Q:Value->Shared->Prop}(hd:(d==sysModules)=false)(m:yV d es ep s.heap)
  (hQ:Q (.ref s.heap.objs.size) { s with heap:=s.heap.push { cls:=.type "dict_keyiterator",data:=.fields #[.ref d,.int 0 0,.int es.size 0,.int ep 0] } }):wpAny (model P w) A (pyIter (.ref d)) Q E s:=by
 have hT:=m.ty
 obtain⟨o,ho,hc,hdat⟩:=m
 refine wpAny_pyIter_slot hT PySem.F.slot_dict_iter (wpAny_call_entry PySem.F.slot_dict_iter hT PySem.F.entry_dict_iter ?_ (PySem.F.args_dict_iter_1 _))
 unfold Builtin.«dict.__iter__»
 refine wpAny_bind ?_
 unfold Builtin.Dict.dictSlotNone
 refine wpAny_bind (wpAny_notOrdered_dict hT ?_)
 show wpAny _ _ (pure (Value.ref d)) _ _ s
 refine wpAny_pure ?_
 show wpAny _ _ (Builtin.Dict.showsAll d >>= _) _ _ s
 unfold Builtin.Dict.showsAll
 rw[if_neg (by rw[hd];exact Bool.false_ne_true)]
 refine wpAny_bind (wpAny_pure (wpAny_bind (wpAny_dictEntries ho hdat (wpAny_bind (wpAny_dictEpoch ho hdat ?_)))))
 refine wpAny_bind (wpAny_newObj_type (wpAny_pure ⟨_,rfl,"dict_keyiterator",_,⟨_,Heap.get?_push_size _ rfl,rfl⟩,PySem.F.slot_dict_keyiterator_next.lookup,?_⟩))
 simpa[rawInt]using hQ
theorem sO{it:Addr}{i:Nat}{Q:Option Value->Shared->Prop}(hit:s.heap.IsKeyIter it d i es.size ep)(m:yV d es ep s.heap)
  (item:∀(hi:i<es.size) h',h'.IsKeyIter it d (i+1) es.size ep->Heap.SameBut it s.heap h'->Q (some es[i].key) { s with heap:=h' })
  (stop:es.size<=i->A.handled=none/\∀h',Heap.ExtBut it s.heap h'->Q none { s with heap:=h' }):wpAny (model P w) A (pyNext (.ref it)) Q E s:=by
 obtain⟨o,ho,hc,hd⟩:=id hit
 obtain⟨od,hod,hcd,U1⟩:=m
 unfold pyNext
 refine wpAny_bind (wpAny_attempt (wpAny_callSpecial?_slot (name:=Str.ofString "__next__") hit.typeIs PySem.F.slot_dict_keyiterator_next
  (wpAny_call_entry PySem.F.slot_dict_keyiterator_next hit.typeIs PySem.F.entry_dict_keyiterator_next ?_ (PySem.F.args_dict_keyiterator_next_1 _))))
 refine wpAny_bind (wpAny_pure (wpAny_bind (wpAny_bind ?_)))
 first|refine wpAny_bind (wpAny_typeNameOfWhole_keyiter hit.typeIs (wpAny_pure ?_))|refine wpAny_bind (wpAny_typeNameOf_keyiter hit.typeIs (wpAny_pure ?_))
 refine wpAny_bind (wpAny_fieldsOf ho hd ?_)
 have hown:Builtin.Dict_items.ownsTuple "dict_keyiterator" =false:=by decide
 simp only[hown,Bool.false_eq_true,if_false]
 show wpAny _ _ (if(Value.ref d==Value.none)=true then _ else _) _ _ s
 rw[if_neg (show ¬((Value.ref d==Value.none)=true) from Bool.false_ne_true)]
 refine wpAny_bind (wpAny_pure (wpAny_bind (wpAny_dictEntries hod U1 ?_)))
 rw[if_neg (by simp)]
 refine wpAny_bind (wpAny_pure (wpAny_bind (wpAny_dictEpoch hod U1 ?_)))
 rw[if_neg (by simp)]
 refine wpAny_pure ?_
 by_cases hlt:i<es.size
 ·simp only[show ¬((i:Int)<0) from by omega,if_false,Int.toNat_natCast,Array.getElem?_eq_getElem hlt]
  refine wpAny_bind ?_
  first|refine wpAny_bind (wpAny_typeNameOfWhole_keyiter hit.typeIs (wpAny_pure ?_))|refine wpAny_bind (wpAny_typeNameOf_keyiter hit.typeIs (wpAny_pure ?_))
  refine wpAny_bind (wpAny_isOneOf_keyiter hit.typeIs ?_)
  show wpAny _ _ (setField (.ref it) 1 (rawInt ((i:Int)+1)) >>= _) _ _ s
  refine wpAny_bind (wpAny_setField ho hd (by simp) ?_)
  have HA:(s.heap.update it (Obj.mapFields (·.setIfInBounds 1 (rawInt ((i:Int)+1))))).IsKeyIter it d (i+1) es.size ep :=
   ⟨_,Heap.get?_update_self _ ho (Obj.isFreed_of_fields (Obj.data_mapFields hd _)),(Obj.cls_mapFields ..).trans hc,by rw[Obj.data_mapFields hd];simp[rawInt]⟩
  refine wpAny_bind (wpAny_holding (wpAny_bind (wpAny_isOneOf_keyiter (s:={ s with heap:=s.heap.update it (Obj.mapFields (·.setIfInBounds 1 (rawInt ((i:Int)+1)))) }) HA.typeIs ?_)))
  show wpAny _ _ (pure es[i].key) _ _ _
  exact wpAny_pure (wpAny_pure ⟨_,rfl,wpAny_pure (item hlt _ HA (Heap.SameBut.update ..))⟩)
 ·obtain⟨hh,hQ⟩:=stop (by omega)
  simp only[show ¬((i:Int)<0) from by omega,if_false,Int.toNat_natCast,Array.getElem?_eq_none (show es.size<=i by omega)]
  refine wpAny_bind ?_
  first|refine wpAny_bind (wpAny_typeNameOfWhole_keyiter hit.typeIs (wpAny_pure ?_))|refine wpAny_bind (wpAny_typeNameOf_keyiter hit.typeIs (wpAny_pure ?_))
  show wpAny _ _ (setField (.ref it) 0 .none >>= _) _ _ s
  refine wpAny_bind (wpAny_setField ho hd (by simp) ?_)
  show wpAny _ _ (newExc (.type "StopIteration") [] >>= _) _ _ _
  refine wpAny_bind ?_
  simp only[newExc,newTuple]
  refine wpAny_bind (wpAny_newObj_type ?_ (by size_fits))
  refine wpAny_bind (m:=firstArgMember _ _) (wpAny_of_eq (a:=Value.none) (by first|rfl|(simp only[firstArgMember];rfl)) ?_)
  refine wpAny_newObj_type ?_ (by size_fits)
  simp only[raiseNew]
  refine wpAny_bind (wpAny_handled ?_)
  rw[show A.in1.handled=none from hh]
  refine wpAny_bind (wpAny_pure (wpAny_throw ?_))
  refine wpAny_bind (wpAny_isInstance (T:= "StopIteration") (b:=true) ⟨_,Heap.get?_push_size _ rfl,rfl⟩ isSubtype_stop ?_)
  exact wpAny_pure (hQ _ (((Heap.SameBut.update ..).extBut.push _).push _))
theorem G2(hh:A.handled=none)(I:Addr)(ne:d≠I):
  Walks P w A I [I,d] [I] es.size (λi v=>∃h:i<es.size,v=es[i].key) (λi h=>h.IsKeyIter I d i es.size ep/\yV d es ep h) where
 sub:=λb hb=>by simp at hb;simp[hb]
 frame:=λ_ _ _ st hk=>⟨st.1.at λo e=>hk I (by simp) o e,st.2.mv λo e=>hk d (by simp) o e⟩
 item:=λi s Q E hi st hQ=>sO st.1 st.2 (λhi h' HA hs'=>hQ _ h' s.toks ⟨hi,rfl⟩ ⟨HA,st.2.mv λo e=>hs'.extBut d o ne e⟩ λb o hb e=>hs'.extBut b o (λh=>hb (by simp[h])) e) λz=>absurd hi (by omega)
 done:=λs Q E st hQ=>sO st.1 st.2 (λhi=>absurd hi (Nat.lt_irrefl _)) λ_=>⟨hh,λh' he'=>hQ h' s.toks λb o hb e=>he' b o (λh=>hb (by simp[h])) e⟩
 self:=λ_ _ _ _ st hQ=>wpAny_pyIter_keyiter st.1 hQ
theorem LG(lo:(d==sysModules)=false):KdlSrc P w "dict" d d es.size (λi v=>∃h:i<es.size,v=es[i].key) (yV d es ep) where
 type:=λ_ m=>m.ty
 there:=λ_ ⟨_,ho,_⟩=>⟨Heap.lt_size ho,Heap.lt_size ho⟩
 keep:=λ_ _ m hk=>m.mv λo e=>hk d (.inl rfl) o e
 notList:=by decide
 notTuple:=by decide
 hint:=λ_ _ _ _ m hq=>kdl_hint_dict m.ty hq
 iter:=λ_ s hh m=>⟨_,_,(λ_ _ hq=>CC lo m hq),G2 hh _ (let ⟨_,ho,_⟩:=m;Nat.ne_of_lt (Heap.lt_size ho)),⟨⟨_,Heap.get?_push_size _ rfl,rfl,rfl⟩,m.mv λo e=>Heap.get?_push_of_some _ e⟩⟩
end
end L2
namespace L2
open PySem PySem.Spec PyProof.Rows PySem.W
abbrev NE:=NK×Addr×V
abbrev KN:List NE->List (NK×Addr×Value)->Prop:=Paired λp q=>p.1=q.1/\p.2.1=q.2.1/\RelV p.2.2 q.2.2
def gx(kvs:List NE)(k:NK):Option V:=(kvs.find? λx=>decide (x.1=k)).map (·.2.2)
def pM(kvs:List NE)(k:NK)(q:Addr)(v:V):List NE:=if(gx kvs k).isSome then kvs.map (λx=>if x.1=k then(x.1,x.2.1,v)else x)else kvs++[(k,q,v)]
theorem jo{p:NE}{ps:List NE}{k:NK}(e:p.1=k):gx (p::ps) k=some p.2.2:=by simp[gx,List.find?_cons,e]
theorem gK{p:NE}{ps:List NE}{k:NK}(e:¬p.1=k):gx (p::ps) k=gx ps k:=by simp[gx,List.find?_cons,e]
theorem KN.val{kvs:List NE}{xs:List (NK×Addr×Value)}(r:KN kvs xs)(k:NK):lP (gx kvs k) ((atKey xs k).map (·.2)):=by
 induction r with
 |nil=>exact True.intro
 | @cons p q ps qs h t ih =>
  obtain⟨h1,_,h2⟩:=h
  by_cases e:p.1=k
  ·have e':q.1=k:=h1.symm.trans e
   have b:atKey (q::qs) k=some q.2:=by simp[atKey,List.find?_cons,e']
   rw[jo e,b];exact h2
  ·have e':¬q.1=k:=λz=>e (h1.trans z)
   have b:atKey (q::qs) k=atKey qs k:=by simp[atKey,List.find?_cons,e']
   rw[gK e,b];exact ih
theorem KN.put{kvs:List NE}{xs:List (NK×Addr×Value)}(r:KN kvs xs)(k:NK){b:Addr}{y:V}{u:Value}(ry:RelV y u):KN (pM kvs k b y) (storedH xs k b u):=by
 have e:(gx kvs k).isSome=(atKey xs k).isSome:=by rw[(r.val k).uI,Option.isSome_map]
 unfold pM storedH
 rw[e]
 by_cases q:(atKey xs k).isSome=true
 ·rw[if_pos q,if_pos q]
  clear e q
  induction r with
  |nil=>exact .nil
  | @cons p q ps qs h t ih =>
   rw[List.map_cons,List.map_cons]
   refine .cons ?_ ih
   obtain⟨h1,h2,h3⟩:=h
   unfold putAt
   by_cases e:p.1=k
   ·rw[if_pos e,if_pos (h1.symm.trans e)];exact⟨h1,h2,ry⟩
   ·rw[if_neg e,if_neg (λz=>e (h1.trans z))];exact⟨h1,h2,h3⟩
 ·rw[if_neg q,if_neg q];exact Paired.snoc r ⟨rfl,rfl,ry⟩
theorem sY(kvs:List NE)(k:NK)(q:Addr)(v:V):(pM kvs k q v).length<=kvs.length+1:=by
 unfold pM
 split
 ·rw[List.length_map];omega
 ·rw[List.length_append];exact Nat.le_refl _
theorem Jw{kvs:List NE}{k:NK}(h:gx kvs k=none)(q:Addr)(v:V):pM kvs k q v=kvs++[(k,q,v)]:=by unfold pM;rw[h];rfl
def QM(P:Program)(w:World)(a:Addr)(kvs:List NE)(h:Heap):Prop:=kvs.length<=sizeLine/\(a==sysModules)=false/\∃xs,KN kvs xs ∧
 ∃o es ep,h.get? a=some o/\o.ExactDict/\o.data= .dict es ep/\es.toList=xs.map (entryOfKey (gM P w))/\(xs.map (·.1)).Nodup
def sF(P:Program)(w:World)(a:Addr)(kvs:List NE):HO:=.ext (QM P w a kvs)
theorem Jz{P:Program}{w:World}{H:Hp}{h:Heap}{a:Addr}{kvs:List NE}(e:QM P w a kvs h):bI P w H h a (sF P w a kvs):=by
 obtain⟨z,lo,xs,r,o,es,ep,ho,c⟩:=e
 exact⟨⟨z,lo,xs,r,o,es,ep,ho,c⟩,⟨o,ho⟩,λh1 h2 ⟨z,lo,xs,r,o,es,ep,ho,c⟩ k=>⟨z,lo,xs,r,o,es,ep,k _ ho,c⟩⟩
def gJ(H:Hp)(q:Addr)(k:NK):Prop:=∃p,H q=some (.tup [.ref p,.str k.2.2])/\H p=some (.tup [.int k.1,.int k.2.1])
structure ND(P:Program)(w:World)(H:Hp)(a:Addr)(kvs:List NE):Prop where
 at_:H a=some (sF P w a kvs)
 keys:∀x∈kvs,gJ H x.2.1 x.1
theorem k_of{P:Program}{w:World}{H:Hp}{h:Heap}{q:Addr}{k:NK}(ok:lS P w H h)(e:gJ H q k):(gM P w).is h k q:=by
 obtain⟨p,h1,h2⟩:=e
 obtain⟨_,its,r,o,g1,g2,n,g3⟩:=(show bI P w H h q (.tup [.ref p,.str k.2.2]) from ok q _ h1)
 cases r with
 |cons r1 r =>
  cases r with
  |cons r2 r =>
   cases r
   cases r1
   obtain⟨t,rfl⟩:=(show ∃t,_=Value.str k.2.2 t from r2)
   exact⟨o,n,p,t,g1,g2,g3,xK (ks:=[.inl k.1,.inl k.2.1]) ok h2⟩
theorem ND.raw{P:Program}{w:World}{H:Hp}{h:Heap}{a:Addr}{kvs:List NE}(d:ND P w H a kvs)(ok:lS P w H h):kvs.length<=sizeLine/\(a==sysModules)=false/\∃xs,KN kvs xs/\h.DictOfH (gM P w) a xs:=by
 obtain⟨z,lo,xs,r,o,es,ep,ho,h2,h3,h4,h5⟩:=(ok a _ d.at_).1
 refine⟨z,lo,xs,r,o,es,ep,ho,h2,h3,h4,λx hx=>?_,h5⟩
 have all:∀{l:List NE} {m:List (NK×Addr×Value)},KN l m->(∀x∈l,gJ H x.2.1 x.1)->∀x∈m,(gM P w).is h x.1 x.2.1:=by
  intro l m q
  induction q with
  |nil=>intro _ x hx;exact nomatch hx
  | @cons p q ps qs hq t ih =>
   intro hk x hx
   rcases List.mem_cons.mp hx with e|hx
   ·subst e
    rw[←hq.1,←hq.2.1]
    exact k_of ok (hk p List.mem_cons_self)
   ·exact ih (λy hy=>hk y (List.mem_cons_of_mem _ hy)) x hx
 exact all r d.keys x hx
section
variable{X:Cx}{pins:List (Addr×Obj)}{σ:St}{H:Hp}{s:Shared}{a q:Addr}{k:NK}{kvs:List NE}{v:V}{r:Value}{A:Around}{E:Value->Shared->Prop}
theorem Hh{Q:Value->Shared->Prop}(hu:A.units+2<cLine)(I:Inv X pins σ H s)(d:ND X.prog X.w H a kvs)(hk:gJ H q k)(l:gx kvs k=some v)(h:∀w' s',Inv X pins σ H s'->RelV v w'->Q w' s'):
  wpAny (model X.prog X.w) A (getItem (.ref a) (.ref q)) Q E s:=by
 obtain⟨z,hd,xs,rel,dd⟩:=d.raw I.hok
 obtain⟨w',hw,rw'⟩:=lP.some_of (v:=v) (o:=(atKey xs k).map (·.2)) (by rw[←l];exact rel.val k)
 obtain⟨p,hp,hp2⟩:=Option.map_eq_some_iff.mp hw
 refine wpAny_getItem_heap (show A.in1.units+1<cLine from hu) (k_of I.hok hk) dd hp ?_
 rw[hp2]
 exact h w' _ (I.tok _) rw'
theorem Xm{Q:Value->Shared->Prop}(hu:A.units+2<cLine)(I:Inv X pins σ H s)(d:ND X.prog X.w H a kvs)(hk:gJ H q k)(h:∀s',Inv X pins σ H s'->Q (.bool (gx kvs k).isSome) s'):
  wpAny (model X.prog X.w) A (compareOp .In (.ref q) (.ref a)) Q E s:=by
 obtain⟨z,hd,xs,rel,dd⟩:=d.raw I.hok
 refine wpAny_in_heap (show A.in1.units+1<cLine from hu) (k_of I.hok hk) hd dd ?_
 have e:=(rel.val k).uI
 rw[Option.isSome_map]at e
 rw[←e]
 exact h _ (I.tok _)
theorem Hg{Q:Unit->Shared->Prop}(hu:A.units+2<cLine)(I:Inv X pins σ H s)(d:ND X.prog X.w H a kvs)(hk:gJ H q k)(hl:kvs.length<sizeLine)(rv:RelV v r)(h:∀s',Inv X pins σ (upd H a (sF X.prog X.w a (pM kvs k q v))) s'->Q () s'):
  wpAny (model X.prog X.w) A (setItem (.ref a) (.ref q) r) Q E s:=by
 obtain⟨z,hd,xs,rel,dd⟩:=d.raw I.hok
 have hz:xs.length<=sizeLine:=by rw[←Paired.length rel];exact z
 have hl':(pM kvs k q v).length<=sizeLine:=by have:=sY kvs k q v;omega
 refine wpAny_setItem_heap (hsz:=hz) (show A.in1.units+1<cLine from hu) (k_of I.hok hk) dd λh' Rc hs=>h _ ?_
 obtain⟨o,es,ep,ho,h2,h3,h4,_,h5⟩:=Rc
 exact wu I (by rw[d.at_];exact True.intro) hs ⟨o,ho⟩ (Jz ⟨hl',hd,_,rel.put k rv,o,es,ep,ho,h2,h3,h4,h5⟩)
theorem xB(I:Inv X pins σ H s)(d:ND X.prog X.w H a kvs):s.TypeIs (.ref a) "dict" :=by
 obtain⟨_,_,_,_,dd⟩:=d.raw I.hok
 exact dd.typeIs
end
def Rw(P:Program)(w:World)(td ty:TE):TE:=λσ H Q=>td σ H λx H1=>ty σ H1 λy H2=>∃a kvs k q v,x= .ref a/\y= .ref q/\ND P w H2 a kvs/\gJ H2 q k/\gx kvs k=some v/\Q v H2
def RN(P:Program)(w:World)(td ty tv:TE):TS:=λD σ H=>tv σ H λv H1=>td σ H1 λx H2=>ty σ H2 λy H3=>∃a kvs k q,x= .ref a/\y= .ref q/\ND P w H3 a kvs/\gJ H3 q k/\kvs.length<sizeLine/\D.nx σ (upd H3 a (sF P w a (pM kvs k q v)))
def Rv(P:Program)(w:World):TE:=λ_ H Q=>∀p,H p=none->Q (.ref p) (upd H p (sF P w p []))
section
variable{X:Cx}{o i e value:Expr}{pos pos' tpos:Pos}{td ty tv:TE}{Pr:Program}{wo:World}
theorem qO(hu:X.A.units+2<cLine)(ho:PE X o td)(hi:PE X i ty)(hs:MM i)(hP:X.prog=Pr)(hw:X.w=wo):PE X (.Subscript o i pos) (Rw Pr wo td ty):=by
 subst hP hw
 intro pins s σ H Q I h
 refine sH PySem.F.slot_dict_getitem.lookup hs (dI (ho pins s σ H _ I h) λu s1 ⟨x,H1,I1,rx,q1⟩=>dI (hi pins s1 σ H1 _ I1 q1) λiv s2 ⟨y,H2,I2,ry,a,kvs,k,q,v,ex,ey,d,hk,l,q2⟩=>?_)
 subst ex ey
 obtain rfl:u=Value.ref a:=rx
 obtain rfl:iv=Value.ref q:=ry
 exact⟨xB I2 d,Hh hu I2 d hk l λw' s3 I3 rw'=>⟨v,H2,I3,rw',q2⟩⟩
theorem wg(hu:X.A.units+2<cLine)(ho:PE X o td)(hi:PE X i ty)(hv:PE X value tv)(hs:swapsWith value (some (.Subscript o i pos')) pos.line X.env=pure false)(hP:X.prog=Pr)(hw:X.w=wo):
  PS X (.Assign [.Subscript o i pos'] value pos) (RN Pr wo td ty tv):=by
 subst hP hw
 intro pins s σ H D I h
 refine wpAny_Assign_Subscript (dI (hv pins s σ H _ I h) λr s1 ⟨v,H1,I1,rv,q1⟩=>dI (ho pins s1 σ H1 _ I1 q1) λu s2 ⟨x,H2,I2,rx,q2⟩=>dI (hi pins s2 σ H2 _ I2 q2) λiv s3 ⟨y,H3,I3,ry,a,kvs,k,q,ex,ey,d,hk,hl,q3⟩=>?_) hs
 subst ex ey
 obtain rfl:u=Value.ref a:=rx
 obtain rfl:iv=Value.ref q:=ry
 exact Hg hu I3 d hk hl rv λs4 I4=>⟨σ,_,I4,q3⟩
theorem PL{P:Program}{w:World}(h:Heap)(hb:sysModules<h.objs.size):QM P w h.objs.size [] (h.push { cls:=.type "dict",data:=.dict #[] }) :=
 ⟨Nat.zero_le _,beq_eq_false_iff_ne.mpr (Ne.symm (Nat.ne_of_lt hb)),[],.nil,_,#[],0,Heap.get?_push_size _ rfl,⟨rfl,rfl,rfl⟩,rfl,rfl,List.nodup_nil⟩
theorem AH(hP:X.prog=Pr)(hw:X.w=wo):PE X (.Dict [] [] pos) (Rv Pr wo):=by
 subst hP hw
 exact λpins s σ H Q I h=>wpAny_Dict_empty ⟨.ref s.heap.objs.size,_,I.laid (a:=s.heap.objs.size) (o:=sF X.prog X.w s.heap.objs.size []) (t':=s.toks) (λ_ _ q=>Heap.get?_push_of_some _ q) (Nat.le_refl _) (Jz (PL s.heap I.big)),rfl,h _ (I.hok.fresh (Nat.le_refl _))⟩
theorem Bk(Kc:X.calm=true)(hP:X.prog=Pr)(hw:X.w=wo):lJ X (.type "list") (λxs H Q=>∃a kvs,xs=[.ref a]/\ND Pr wo H a kvs/\∀l,H l=none->Q (.ref l) (upd H l (.lst (kvs.map λx=>.ref x.2.1)))):=by
 subst hP hw
 intro pins s σ H xs us Q I r h
 obtain⟨a,kvs,rfl,d,q⟩:=h
 obtain⟨u,rfl,rx⟩:=vals1 r
 cases rx
 obtain⟨z,lo,xs,rel,o,es,ep,h1,h2,h3,h4,_⟩:=d.raw I.hok
 have hes:es.size=xs.length:=size_of_entries h4
 have hlk:=Paired.length rel
 refine TK.bY (Nat.le_refl _) (kdl_call (LG (es:=es) (ep:=ep) lo) (I.ok.hd Kc) ⟨o,h1,h2,h3⟩ (by omega) λh' tk acc c kp hS hacc hup=>?_)
 refine⟨.ref s.heap.objs.size,_,I.laid (t':=tk) kp (Nat.le_refl _) (show bI X.prog X.w _ h' _ (.lst (kvs.map λx=>.ref x.2.1)) from⟨by rw[List.length_map];exact z,acc.toList,c,?_,by rw[Array.toArray_toList];exact hS⟩) hup,rfl,q _ (I.hok.fresh (Nat.le_refl _))⟩
 have hz:acc.size=kvs.length:=by rw[hacc.1];omega
 refine GP.uv (by rw[List.length_map];simp[hz]) λi x y hx hy=>?_
 rw[List.getElem?_map]at hx
 obtain⟨e,he,rfl⟩:=Option.map_eq_some_iff.mp hx
 rw[Array.getElem?_toList]at hy
 obtain⟨hi,rfl⟩:=hacc.2 i y hy
 obtain⟨x',hx',h5⟩:=GP.Paired.at rel he
 have:=entry_at h4 i
 rw[hx',Array.getElem?_eq_getElem hi]at this
 injection this with this
 rw[this]
 show Value.ref x'.2.1=Value.ref e.2.1
 rw[h5.2.1]
end
end L2
namespace L2
open PySem PySem.Spec PyProof.Rows PySem.W
section
variable{prog:Program}{w:World}{A:Around}{E:Value->Shared->Prop}{s:Shared}{q:Addr}
def MN(kf:Nat->Int)(n i:Nat):Prop:=∀j,j<n->kf i<=kf j/\(j<i->kf i<kf j)
theorem xF{h h':Heap}{l:Addr}{its:Array Value}(k:∀b o,h.get? b=some o->h'.get? b=some o)(x:h.IsList l its):h'.IsList l its:=by
 obtain⟨o,e,r⟩:=x
 exact⟨o,k _ _ e,r⟩
variable{g:Heap}{l I S:Addr}{vs:List Value}{R:Result->Shared->Prop}
theorem JE(kf:Nat->Int)(hh:A.handled=none)(hl:g.IsList l vs.toArray)(hI:g.get? I=none)(hS:g.get? S=none)(hSI:S≠I)
  (turn:∀i v h tk (Q:Value->Shared->Prop),vs[i]? =some v->(∀b o,g.get? b=some o->h.get? b=some o)->(∀h' tk' t,(∀b o,h.get? b=some o->h'.get? b=some o)->Q (.int (kf i) t) { s with heap:=h',toks:=tk' }) →
   wpAny (model prog w) A.in1 (call (.ref q) [v]) Q (λ_ _=>False) { s with heap:=h,toks:=tk })
  (hR:∀i v h' tk',vs[i]? =some v->MN kf vs.length i->(∀b o,g.get? b=some o->h'.get? b=some o)->R (.ok (.ret v)) { s with heap:=h',toks:=tk' }) :
  ∀(r j i:Nat) (h:Heap) (tk:Nat) (vb:Value) (tb:Tok) (c:Nat),vs.length-(j+1)=r->j+1<=vs.length->(∀b o,g.get? b=some o->h.get? b=some o)->h.get? S=some (seqObj "list" #[vb,.int (kf i) tb] c) →
   h.IsListIter I l (j+1)->vs[i]? =some vb->i<=j->MN kf (j+1) i →
   codeAny (model prog w) A (.builtin "min.loop" ⟨[.ref I,.ref q,.ref S],[]⟩) R { s with heap:=h,toks:=tk }:=by
 have nm:(toString "min" ++toString ".loop" :String)= "min.loop" :=by decide
 obtain⟨ol,JY,rl⟩:=id hl
 have lI:l≠I:=λz=>by rw[z,hI]at JY;cases JY
 have W:=Walks.list (prog:=prog) (w:=w) (A:=A.in1) hh I l lI vs.toArray
 have sz:vs.toArray.size=vs.length:=by simp
 have nI:∀b o,g.get? b=some o->b∉[I]:=λb o e z=>by rw[List.mem_singleton.mp z,hI]at e;cases e
 have nS:∀b o,g.get? b=some o->b≠S:=λb o e z=>by rw[z,hS]at e;cases e
 intro r
 induction r with
 |zero =>
  intro j i h tk vb tb c hr hj kp gS hit XN hij hb
  have en:j+1=vs.length:=by omega
  refine codeAny_builtin PySem.F.entry_min_loop ?_
  rw[Around.under_plainId PySem.F.plain_min_loop _]
  show wpAny _ A.in1 (seqItems? (.ref S) >>= _) _ _ _
  refine wpAny_bind (wpAny_seqItems gS rfl ?_)
  show wpAny _ A.in1 (tryCatch (pyNext (.ref I)) _ >>= _) _ _ _
  refine wpAny_bind (wpAny_tryCatch (W.done _ _ _ ⟨by rw[sz,←en];exact hit,xF kp hl⟩ λh1 MR hk1=>?_))
  have TU:=hk1 S _ (by simpa using hSI) gS
  show wpAny _ A.in1 (updateSeq S (λ_=> #[]) >>= _) _ _ _
  refine wpAny_bind ?_
  refine wpAny_updateSeq TU rfl (wpAny_bind (wpAny_letGo (wpAny_pure ?_)))
  refine hR i vb _ _ XN (by rw[←en];exact hb) λb o e=>?_
  rw[(Heap.SameBut.update h1 S _).2 b (nS b o e)]
  exact hk1 b o (nI b o e) (kp b o e)
 |succ r ih =>
  intro j i h tk vb tb c hr hj kp gS hit XN hij hb
  have lt:j+1<vs.length:=by omega
  refine codeAny_builtin PySem.F.entry_min_loop ?_
  rw[Around.under_plainId PySem.F.plain_min_loop _]
  show wpAny _ A.in1 (seqItems? (.ref S) >>= _) _ _ _
  refine wpAny_bind (wpAny_seqItems gS rfl ?_)
  show wpAny _ A.in1 (tryCatch (pyNext (.ref I)) _ >>= _) _ _ _
  refine wpAny_bind (wpAny_tryCatch (W.item (j+1) _ _ _ (by rw[sz];exact lt) ⟨hit,xF kp hl⟩ λv h1 MR hP hst hk1=>?_))
  have hv:vs[j+1]? =some v:=by simpa using hP
  have JQ:∀b o,g.get? b=some o->h1.get? b=some o:=λb o e=>hk1 b o (nI b o e) (kp b o e)
  have TU:=hk1 S _ (by simpa using hSI) gS
  obtain⟨oI,UU,rI⟩:=id hst.1
  show wpAny _ A.in1 (tryCatch (holding [v] (call (.ref q) [v])) _ >>= _) _ _ _
  refine wpAny_bind (wpAny_tryCatch (wpAny_holding (wpAny_mono (turn (j+1) v h1 MR (λu s'=>∃h2 Lq t2,u= .int (kf (j+1)) t2/\s'={ s with heap:=h2,toks:=Lq }/\∀b o,h1.get? b=some o->h2.get? b=some o) hv JQ λh2 Lq t2 k2=>⟨h2,Lq,t2,rfl,rfl,k2⟩) (λu s' hu=>?_) λ_ _ z=>z.elim)))
  obtain⟨h2,Lq,t2,rfl,rfl,k2⟩:=hu
  have ZC:∀b o,g.get? b=some o->h2.get? b=some o:=λb o e=>k2 b o (JQ b o e)
  have Rb:=k2 _ _ TU
  have Yd:h2.IsListIter I l (j+1+1):=⟨oI,k2 _ _ UU,rI⟩
  show wpAny _ A.in1 (tryCatch (holding [v,.int (kf (j+1)) t2] (richCompare .Lt (.int (kf (j+1)) t2) (.int (kf i) tb) >>= _)) _ >>= _) _ _ _
  refine wpAny_bind (wpAny_tryCatch (wpAny_holding (wpAny_bind (CmpOf.ints_lt (prog:=prog) (w:=w) (A:=A.in1) (P:=λi v=>∃t,v= .int (kf i) t) kf (λi v h=>h) (j+1) i _ _ _ _ _ ⟨t2,rfl⟩ ⟨tb,rfl⟩ ?_))))
  refine wpAny_bind (wpAny_holding (wpAny_truthy_bool ?_))
  refine wpAny_bind (wpAny_letGo (wpAny_pure ?_))
  by_cases gt:kf (j+1)<kf i
  ·obtain⟨c2,hc2⟩:∃c2,(h2.update S (Obj.mapSeq λ_=> #[v,.int (kf (j+1)) t2])).get? S=some (seqObj "list" #[v,.int (kf (j+1)) t2] c2):=⟨_,get?_update_seq Rb λ_=> #[v,.int (kf (j+1)) t2]⟩
   have gt':kf (j+1)<kf i:=gt
   simp only[gt',decide_true,if_true]
   refine wpAny_bind ?_
   refine wpAny_updateSeq Rb rfl (wpAny_bind (wpAny_letGo ?_))
   rw[nm]
   refine wpAny_pure ⟨plainId_quiet PySem.F.plain_min_loop _,ih (j+1) (j+1) _ _ v t2 c2 (by omega) lt (λb o e=>?_) hc2 ?_ hv (Nat.le_refl _) λj' hj'=>?_⟩
   ·rw[(Heap.SameBut.update h2 S _).2 b (nS b o e)]
    exact ZC b o e
   ·exact⟨oI,((Heap.SameBut.update h2 S _).2 I hSI.symm).trans (k2 _ _ UU),rI⟩
   ·by_cases e:j'=j+1
    ·subst e
     exact⟨by omega,λ_=>by omega⟩
    ·have b1:=hb j' (by omega)
     exact⟨by omega,λ_=>by omega⟩
  ·have gt':¬kf (j+1)<kf i:=gt
   simp only[gt',decide_false,Bool.false_eq_true,if_false]
   refine wpAny_bind (wpAny_letGo ?_)
   rw[nm]
   refine wpAny_pure ⟨plainId_quiet PySem.F.plain_min_loop _,ih (j+1) i _ _ vb tb c (by omega) lt ZC Rb Yd XN (by omega) λj' hj'=>?_⟩
   by_cases e:j'=j+1
   ·subst e
    exact⟨by omega,λ_=>by omega⟩
   ·exact hb j' (by omega)
theorem HN{Q:Value->Shared->Prop}(kf:Nat->Int)(hh:A.handled=none)(hl:s.heap.IsList l vs.toArray)
  (turn:∀i v h tk (Q:Value->Shared->Prop),vs[i]? =some v->(∀b o,s.heap.get? b=some o->h.get? b=some o)->(∀h' tk' t,(∀b o,h.get? b=some o->h'.get? b=some o)->Q (.int (kf i) t) { s with heap:=h',toks:=tk' }) →
   wpAny (model prog w) A.in1 (call (.ref q) [v]) Q (λ_ _=>False) { s with heap:=h,toks:=tk })
  (hne:0<vs.length)
  (h1:∀i v h' tk',vs[i]? =some v->MN kf vs.length i->(∀b o,s.heap.get? b=some o->h'.get? b=some o)->Q v { s with heap:=h',toks:=tk' }) :
  wpAny (model prog w) A (call (.builtin "min") [.ref l] [(Str.ofString "key",.ref q)]) Q E s:=by
 have nm:(toString "min" ++toString ".loop" :String)= "min.loop" :=by decide
 obtain⟨ol,JY,rl⟩:=id hl
 have lt:l<s.heap.objs.size:=Heap.lt_size JY
 refine kmk_tree PySem.F.kind_min PySem.F.plain_min PySem.F.entry_min (kmk_min_key _ _) ?_
 show wpAny _ A.in1 (Builtin.Builtins.bindParams "min" ["key","default"] 0 ⟨[],[(Str.ofString "key",.ref q)]⟩ >>= _) _ _ s
 refine wpAny_bind (wpAny_of_eq (show Builtin.Builtins.bindParams "min" ["key","default"] 0 ⟨[],[(Str.ofString "key",.ref q)]⟩=pure [some (.ref q),none] from rfl) ?_)
 refine wpAny_bind (wpAny_pure ?_)
 refine wpAny_bind (wpAny_pyIter_list hl ?_)
 refine wpAny_bind (wpAny_newList ?_ (Nat.zero_le _))
 rw[nm]
 have sI:(s.heap.push { cls:=.type "list_iterator",data:=.fields #[.ref l,.int 0 0] }).objs.size=s.heap.objs.size+1:=size_push' ..
 have hI:s.heap.get? s.heap.objs.size=none:=Heap.get?_none_of_le (Nat.le_refl _)
 have hS:s.heap.get? (s.heap.push { cls:=.type "list_iterator",data:=.fields #[.ref l,.int 0 0] }).objs.size=none:=by rw[sI];exact Heap.get?_none_of_le (Nat.le_succ _)
 have hSI:(s.heap.push { cls:=.type "list_iterator",data:=.fields #[.ref l,.int 0 0] }).objs.size≠s.heap.objs.size:=by rw[sI];exact Nat.ne_of_gt (Nat.lt_succ_self _)
 refine wpAny_pure ⟨plainId_quiet PySem.F.plain_min_loop _,?_⟩
 have ZD:∀b o,s.heap.get? b=some o->((s.heap.push { cls:=.type "list_iterator",data:=.fields #[.ref l,.int 0 0] }).push (seqObj "list" #[] 0)).get? b=some o:=λb o e=>Heap.get?_push_of_some _ (Heap.get?_push_of_some _ e)
 have gI:((s.heap.push { cls:=.type "list_iterator",data:=.fields #[.ref l,.int 0 0] }).push (seqObj "list" #[] 0)).get? s.heap.objs.size=some { cls:=.type "list_iterator",data:=.fields #[.ref l,.int 0 0] } :=
  Heap.get?_push_of_some _ (Heap.get?_push_size _ rfl)
 have gS:((s.heap.push { cls:=.type "list_iterator",data:=.fields #[.ref l,.int 0 0] }).push (seqObj "list" #[] 0)).get? (s.heap.push { cls:=.type "list_iterator",data:=.fields #[.ref l,.int 0 0] }).objs.size=some (seqObj "list" #[] 0):=Heap.get?_push_size _ rfl
 generalize (s.heap.push { cls:=.type "list_iterator",data:=.fields #[.ref l,.int 0 0] }).objs.size=S at hS hSI gS ⊢
 generalize hIe:s.heap.objs.size=I at hI hSI gI ⊢
 have lI:l≠I:=λz=>by rw[z,hI]at JY;cases JY
 have W:=Walks.list (prog:=prog) (w:=w) (A:=A.in1) hh I l lI vs.toArray
 have sz:vs.toArray.size=vs.length:=by simp
 have nI:∀b o,s.heap.get? b=some o->b∉[I]:=λb o e z=>by rw[List.mem_singleton.mp z,hI]at e;cases e
 have nS:∀b o,s.heap.get? b=some o->b≠S:=λb o e z=>by rw[z,hS]at e;cases e
 refine codeAny_builtin PySem.F.entry_min_loop ?_
 rw[Around.under_plainId PySem.F.plain_min_loop _]
 show wpAny _ A.in1 (seqItems? (.ref _) >>= _) _ _ _
 refine wpAny_bind (wpAny_seqItems gS rfl ?_)
 show wpAny _ A.in1 (tryCatch (pyNext (.ref I)) _ >>= _) _ _ _
 have ne:=hne
 refine wpAny_bind (wpAny_tryCatch (W.item 0 _ _ _ (by rw[sz];exact ne) ⟨⟨_,gI,rfl,rfl⟩,xF ZD hl⟩ λv oq MR hP hst hk1=>?_))
 have hv:vs[0]? =some v:=by simpa using hP
 have JQ:∀b o,s.heap.get? b=some o->oq.get? b=some o:=λb o e=>hk1 b o (nI b o e) (ZD b o e)
 have TU:=hk1 S _ (by simpa using hSI) gS
 obtain⟨oI,UU,rI⟩:=id hst.1
 show wpAny _ A.in1 (tryCatch (holding [v] (call (.ref q) [v])) _ >>= _) _ _ _
 refine wpAny_bind (wpAny_tryCatch (wpAny_holding (wpAny_mono (turn 0 v oq MR (λu s'=>∃h2 Lq t2,u= .int (kf 0) t2/\s'={ s with heap:=h2,toks:=Lq }/\∀b o,oq.get? b=some o->h2.get? b=some o) hv JQ λh2 Lq t2 k2=>⟨h2,Lq,t2,rfl,rfl,k2⟩) (λu s' hu=>?_) λ_ _ z=>z.elim)))
 obtain⟨h2,Lq,t2,rfl,rfl,k2⟩:=hu
 have Rb:=k2 _ _ TU
 obtain⟨c2,hc2⟩:∃c2,(h2.update S (Obj.mapSeq λ_=> #[v,.int (kf 0) t2])).get? S=some (seqObj "list" #[v,.int (kf 0) t2] c2):=⟨_,get?_update_seq Rb λ_=> #[v,.int (kf 0) t2]⟩
 show wpAny _ A.in1 (updateSeq S (λ_=> #[v,.int (kf 0) t2]) >>= _) _ _ _
 refine wpAny_bind ?_
 refine wpAny_updateSeq Rb rfl ?_
 rw[nm]
 refine wpAny_pure ⟨plainId_quiet PySem.F.plain_min_loop _,JE kf hh hl hI hS hSI turn (λi v h' tk' a b c=>h1 i v h' tk' a b c) _ 0 0 _ _ v t2 c2 rfl ne (λb o e=>?_) hc2 ?_ hv (Nat.le_refl _) λj' hj'=>?_⟩
 ·rw[(Heap.SameBut.update h2 S _).2 b (nS b o e)]
  exact k2 b o (JQ b o e)
 ·exact⟨oI,((Heap.SameBut.update h2 S _).2 I hSI.symm).trans (k2 _ _ UU),rI⟩
 ·have e:j'=0:=by omega
  subst e
  exact⟨by omega,λz=>absurd z (Nat.lt_irrefl _)⟩
end
def yf(h:Heap)(q:Addr)(qual:Str)(ps:Arguments)(body:Expr)(sc:Scope)(cl:List (Str×Addr)):Prop :=
 ∃pm c' ctv,h.get? q=some (kla_obj "<lambda>" qual ps body sc cl pm c' ctv)/\h.CodeRec (.ref c') qual
theorem qM{h h':Heap}{c:Addr}{q:Str}(k:∀b o,h.get? b=some o->h'.get? b=some o)(x:h.CodeRec (.ref c) q):h'.CodeRec (.ref c) q:=by
 obtain⟨c₂,o,vs,t,e,e1,e2⟩:=x
 exact⟨c₂,o,vs,t,e,k _ _ e1,e2⟩
theorem yf.keep{h h':Heap}{q:Addr}{qual:Str}{ps:Arguments}{body:Expr}{sc:Scope}{cl:List (Str×Addr)}(k:∀b o,h.get? b=some o->h'.get? b=some o)(x:yf h q qual ps body sc cl):yf h' q qual ps body sc cl:=by
 obtain⟨pm,c',ctv,e,r⟩:=x
 exact⟨pm,c',ctv,k _ _ e,qM k r⟩
structure GN(ps:Arguments)(body:Expr)(sc:Scope)(x r:Str):Prop where
 bind:∀(qual:Str) (cl:List (Str×Addr)) (pm cdv ct v:Value),bindArgs (kla_fn "<lambda>" qual ps body sc cl pm cdv ct) ⟨[v],[]⟩=pure [(x,v)]
 loc:sc.names.lookup x=some .local
 free:sc.names.lookup r=some .free
 cell:∀x∈sc.names,x.2≠ .cell
 kind:sc.kind= .function
 co:sc.isCoroutine=false
 gen:sc.isGenerator=false
 dx:(x==("__debug__" :Str))=false
 dr:(r==("__debug__" :Str))=false
 dc:(r==("__classdict__" :Str))=false
structure NF(P:Program)(w:World)(h:Heap)(A:Around)(env:Env)(x r:Str)(v rv:Value):Prop where
 x:∀(p:Pos) (s:Shared) (Q:Value->Shared->Prop) (E:Value->Shared->Prop),(∀b o,h.get? b=some o->s.heap.get? b=some o)->Q v s->wpAny (model P w) A (eval (.Name x p) env) Q E s
 r:∀(p:Pos) (s:Shared) (Q:Value->Shared->Prop) (E:Value->Shared->Prop),(∀b o,h.get? b=some o->s.heap.get? b=some o)->Q rv s->wpAny (model P w) A (eval (.Name r p) env) Q E s
section
variable{prog:Program}{w:World}{A:Around}{E:Value->Shared->Prop}{s:Shared}{q c:Addr}{qual x r:Str}{ps:Arguments}{body:Expr}{sc:Scope}
theorem Ht{v rv:Value}{Q:Value->Shared->Prop}(hl:yf s.heap q qual ps body sc [(r,c)])(T:GN ps body sc x r)(hc:s.heap.IsCell c (some rv))(hlim:s.heap.NoLimit)(hroom:A.depth<recursionLimit)
  (h:∀(env:Env) (A':Around) h1 MR (E':Value->Shared->Prop),A'.units=A.units+3->(∀b o,s.heap.get? b=some o->h1.get? b=some o)->NF prog w h1 A' env x r v rv->wpAny (model prog w) A' (eval body env) Q E' { s with heap:=h1,toks:=MR }) :
  wpAny (model prog w) A (call (.ref q) [v]) Q E s:=by
 obtain⟨pm,c',ctv,ho,hr⟩:=hl
 refine wpAny_call (kla_callFunE hroom ho rfl T.co T.gen rfl hr ?_)
 rw[T.bind]
 refine wpAny_pure (wpAny_newFunctionEnv T.cell (λy hy=>by rw[List.mem_singleton.mp hy];exact T.loc) (λh₁ hns S5=>⟨hlim.fresh _ S5,?_⟩) T.kind)
 have kp:∀b o,s.heap.get? b=some o->h₁.get? b=some o:=λb o e=>S5.extBut b o (Nat.ne_of_lt (Heap.lt_size e)) (Heap.get?_push_of_some _ e)
 refine kla_codeExpr (h _ _ h₁ _ _ rfl kp ⟨λp s1 Q1 E1 k1 hQ=>?_,λp s1 Q1 E1 k1 hQ=>?_⟩)
 ·refine wpAny_Name (wpAny_loadName_local T.kind T.loc (hns.keeps k1) (v:=v) ?_ hQ) T.dx
  show List.lookup x [(x,v)]=some v
  simp[List.lookup]
 ·obtain⟨o,g1,g2⟩:=hc
  refine wpAny_Name (wpAny_loadName_free T.kind T.free (c:=c) (v:=rv) ?_ ⟨o,k1 _ _ (kp _ _ g1),g2⟩ hQ T.dc) T.dr
  show List.lookup r [(r,c)]=some c
  simp[List.lookup]
end
end L2
namespace L2
open PySem PySem.Spec PyProof.Rows PySem.W
theorem pN.ext{P:Program}{w:World}{h h':Heap}{k:NK}{a:Addr}(e:∀b o,h.get? b=some o->h'.get? b=some o)(x:pN P w h k a):pN P w h' k a:=by
 obtain⟨o,n,p,t,ho,hc,hd,o2,its,n2,ho2,r⟩:=x
 exact⟨o,n,p,t,e _ _ ho,hc,hd,o2,its,n2,e _ _ ho2,r⟩
theorem Dz{P:Program}{w:World}{h h':Heap}{d:Addr}{xs:List (NK×Addr×Value)}(e:∀b o,h.get? b=some o->h'.get? b=some o)(x:h.DictOfH (gM P w) d xs):h'.DictOfH (gM P w) d xs:=by
 obtain⟨o,es,ep,ho,h2,h3,h4,h5,h6⟩:=x
 exact⟨o,es,ep,e _ _ ho,h2,h3,h4,λy hy=>(h5 y hy).ext e,h6⟩
def KV1(P:Program)(w:World)(H:Hp)(v rv:V)(k:Int):Prop:=∃p d kvs i j,v= .ref p/\H p=some (.tup [.int i,.int j])/\rv= .ref d/\ND P w H d kvs/\gx kvs (i,j,Str.ofString "p")=some (.int k)
def KV2(P:Program)(w:World)(H:Hp)(v rv:V)(k:Int):Prop:=∃p d q kvs ky c r,v= .ref p/\H p=some (.tup [.ref q,.int c])/\gJ H q ky/\rv= .ref d/\ND P w H d kvs/\gx kvs ky=some (.int r)/\k=c+r
def Ft(ps:Arguments)(body:Expr)(sc:Scope)(x r:Str)(KV:Program->World->Hp->V->V->Int->Prop):Prop :=
 GN ps body sc x r/\∀(P:Program) (w:World) (H:Hp) (v rv:V) (k:Int) (u ru:Value) (s:Shared) (h:Heap) (tk:Nat) (A:Around) (env:Env) (Q:Value->Shared->Prop) (E:Value->Shared->Prop),
  KV P w H v rv k->RelV v u->RelV rv ru->lS P w H h->A.units+2<cLine->NF P w h A env x r u ru →
  (∀h' tk' t,(∀b o,h.get? b=some o->h'.get? b=some o)->Q (.int k t) { s with heap:=h',toks:=tk' })->wpAny (model P w) A (eval body env) Q E { s with heap:=h,toks:=tk }
theorem Mc {ps:Arguments} {sc:Scope} {x r:Str} {p1 p2 p3 p4 p5:Pos} {j k:Nat} (T:GN ps (.Subscript (.Name r p1) (.Tuple [.Name x p2,.Constant (.str "p") j p3] k p4) p5) sc x r) :
  Ft ps (.Subscript (.Name r p1) (.Tuple [.Name x p2,.Constant (.str "p") j p3] k p4) p5) sc x r KV1:=by
 refine⟨T,λP w H v rv ky u ru s h tk A env Q E kv rx rr ok hu L hQ=>?_⟩
 obtain⟨p,d,kvs,a,b,rfl,hp,rfl,nd,hv⟩:=kv
 cases rx
 cases rr
 obtain⟨_,_,xs,rel,dd⟩:=nd.raw ok
 obtain⟨w',hw,t',rfl⟩:=lP.some_of (v:=.int ky) (o:=(atKey xs (a,b,Str.ofString "p")).map (·.2)) (by rw[←hv];exact rel.val _)
 obtain⟨y,hy,S0⟩:=Option.map_eq_some_iff.mp hw
 refine sH PySem.F.slot_dict_getitem.lookup (λ_ _=>rfl) (L.r _ _ _ _ (λ_ _ e=>e) (wpAny_Tuple_spliced ?_))
 show wpAny _ _ (spliced ((false,eval (.Name x p2) env)::backTo p4 (starEach [.Constant (.str "p") j p3] env))) _ _ _
 refine Calls.spliced_cons (L.x _ _ _ _ (λ_ _ e=>e) ?_)
 show wpAny _ _ (spliced ((false,eval (.Constant (.str "p") j p3) env)::backTo p4 (starEach [] env))) _ _ _
 refine Calls.spliced_cons (Calls.Constant_str (Calls.spliced_nil ⟨by show 2<=sizeLine;decide,?_⟩))
 have ext:∀b o,h.get? b=some o->(h.push { cls:=.type "tuple",data:=.seq [Value.ref p,Value.str "p" tk].toArray }).get? b=some o:=λb o e=>Heap.get?_push_of_some _ e
 refine⟨(Dz ext dd).typeIs (s:={ s with heap:=_,toks:=_ }),?_⟩
 refine wpAny_getItem_heap (knd:=gM P w) (k:=(a,b,Str.ofString "p")) (show A.in1.units+1<cLine from hu) ?_ (Dz ext dd) hy ?_
 ·exact⟨_,_,p,_,Heap.get?_push_size _ rfl,rfl,rfl,(xK (ks:=[.inl a,.inl b]) (ok.kept ext) hp)⟩
 ·rw[S0]
  exact hQ _ _ t' ext
theorem Mb{ps:Arguments}{sc:Scope}{x r:Str}{p1 p2 p3 p4 p5 p6 p7 p8 p9:Pos}{j1 j2:Nat}(T:GN ps (.BinOp (.Subscript (.Name x p1) (.Constant (.int 1) j1 p2) p3) .Add (.Subscript (.Name r p4) (.Subscript (.Name x p5) (.Constant (.int 0) j2 p6) p7) p8) p9) sc x r):
  Ft ps (.BinOp (.Subscript (.Name x p1) (.Constant (.int 1) j1 p2) p3) .Add (.Subscript (.Name r p4) (.Subscript (.Name x p5) (.Constant (.int 0) j2 p6) p7) p8) p9) sc x r KV2:=by
 refine⟨T,λP w H v rv ky u ru s h tk A env Q E kv rx rr ok hu L hQ=>?_⟩
 obtain⟨p,d,q,kvs,key,c,n,rfl,hp,hk,rfl,nd,hv,rfl⟩:=kv
 cases rx
 cases rr
 obtain⟨_,_,xs,rel,dd⟩:=nd.raw ok
 obtain⟨w',hw,t',rfl⟩:=lP.some_of (v:=.int n) (o:=(atKey xs key).map (·.2)) (by rw[←hv];exact rel.val _)
 obtain⟨y,hy,S0⟩:=Option.map_eq_some_iff.mp hw
 obtain⟨_,its,rv,o,g1,g2,m,g3⟩:=(show bI P w H h p (.tup [.ref q,.int c]) from ok p _ hp)
 cases rv with
 |cons r1 rv =>
 cases rv with
 |cons r2 rv =>
 cases rv
 cases r1
 obtain⟨tc,rfl⟩:=(show ∃t,_=Value.int c t from r2)
 have hT:∀t,({ s with heap:=h,toks:=t }:Shared).TypeIs (.ref p) "tuple" :=λt=>⟨o,g1,g2⟩
 refine wpAny_BinOp (Subscript_ (L.x _ _ _ _ (λ_ _ e=>e) (wpAny_Constant_int ?_)))
 refine subscriptTail_builtinR (T:= "tuple") (x:=.int c tc) (hT _) slot_tuple_getitem.lookup (getItem_tuple (j:=1) (items:= #[.ref q,.int c tc]) ⟨o,g1,g2,m,g3⟩ (by omega) (by omega) (by rfl) (by rfl) ⟨rfl,?_⟩) (by with_unfolding_all rfl)
 refine sH PySem.F.slot_dict_getitem.lookup (λ_ _=>rfl) (L.r _ _ _ _ (λ_ _ e=>e) (Subscript_ (L.x _ _ _ _ (λ_ _ e=>e) (wpAny_Constant_int ?_))))
 refine subscriptTail_builtinR (T:= "tuple") (x:=.ref q) (hT _) slot_tuple_getitem.lookup (getItem_tuple (j:=0) (items:= #[.ref q,.int c tc]) ⟨o,g1,g2,m,g3⟩ (by omega) (by omega) (by rfl) (by rfl) ⟨rfl,?_⟩) (by with_unfolding_all rfl)
 refine⟨dd.typeIs (s:={ s with heap:=h,toks:=_ }),wpAny_getItem_heap (knd:=gM P w) (k:=key) (show A.in1.units+1<cLine from hu) (k_of ok hk) dd hy ?_⟩
 rw[S0]
 exact add_int (hQ _ _ _ λ_ _ e=>e)
end L2
namespace L2
open PySem PySem.Spec PyProof.Rows
def nW(P:Addr)(ps:Array Value):HO:=.ext λh=>h.get? P=some (PySem.W.tabObj ps)
def Nu(c:Addr)(q:Str):HO:=.ext λh=>h.CodeRec (.ref c) q
def TabOk(H:Hp)(P:Addr)(ln:Pos)(q:Str):Prop:=H P=some (nW P #[])\/∃c',H P=some (nW P #[rawInt ln.line,rawInt ln.col,.ref c'])/\H c'=some (Nu c' q)
def NH(base:Heap)(mg:Str->Option Value):Prop:=∃bm ob,mg "__builtins__" =some (.ref bm)/\bm≠builtinsNs/\base.get? bm=some ob/\ob.cls= .type "module" /\ob.dict=some builtinsNs/\ob.data= .plain
theorem FF{Pr:Program}{w:World}{H:Hp}{h:Heap}{P:Addr}{ps:Array Value}(e:h.get? P=some (PySem.W.tabObj ps)):bI Pr w H h P (nW P ps):=⟨e,⟨_,e⟩,λ_ _ a k=>k _ a⟩
theorem QD{Pr:Program}{w:World}{H:Hp}{h:Heap}{c:Addr}{q:Str}(e:h.CodeRec (.ref c) q):bI Pr w H h c (Nu c q):=by
 refine⟨e,?_,λh1 h2 a k=>?_⟩
 ·obtain⟨c₂,o,vs,t,e0,e1,_⟩:=e
  cases e0
  exact⟨o,e1⟩
 ·obtain⟨c₂,o,vs,t,e0,e1,e2⟩:=a
  cases e0
  exact⟨c,o,vs,t,rfl,k _ e1,e2⟩
section
variable{X:Cx}{pins:List (Addr×Obj)}{σ:St}{H:Hp}{s:Shared}
theorem Inv.tab(I:Inv X pins σ H s){P:Addr}{ps:Array Value}(e:H P=some (nW P ps)):s.heap.get? P=some (PySem.W.tabObj ps):=(I.hok P _ e).1
theorem Inv.cd(I:Inv X pins σ H s){c:Addr}{q:Str}(e:H c=some (Nu c q)):s.heap.CodeRec (.ref c) q:=(I.hok c _ e).1
theorem Inv.OY(I:Inv X pins σ H s){P c:Addr}{ps ps':Array Value}{q:Str}{h' h2:Heap}{t':Nat}(e:H P=some (nW P ps))(hx:Heap.ExtBut P s.heap h')(hc:s.heap.objs.size<=c)(hr:h'.CodeRec (.ref c) q)(ht:h'.get? P=some (PySem.W.tabObj ps'))
  (k2:∀b o,h'.get? b=some o->h2.get? b=some o) (hup:s.toks<=t'):Inv X pins σ (upd (upd H P (nW P ps')) c (Nu c q)) { s with heap:=h2,toks:=t' }:=by
 have hn:H c=none:=I.hok.fresh hc
 have Zt:c≠P:=λz=>by rw[z,e]at hn;cases hn
 have lt:∀b o,s.heap.get? b=some o->b≠c:=λb o q=>Nat.ne_of_lt (Nat.lt_of_lt_of_le (Heap.lt_size q) hc)
 have Xk:∀b,H b=none->b≠P:=λb q z=>by rw[z,e]at q;cases q
 have other:∀b u,(∀ φ,u≠HO.ext φ)->H b=some u->upd (upd H P (nW P ps')) c (Nu c q) b=some u:=λb u hu q=>by
  rw[aq (λz=>by rw[z,hn]at q;cases q),aq (λz=>by rw[z,e]at q;cases q;exact hu _ rfl)]
  exact q
 have kp:∀b o,b≠P->s.heap.get? b=some o->h2.get? b=some o:=λb o hb q=>k2 b o (hx b o hb q)
 refine I.un ⟨λb o q n _ _=>kp b o (Xk b n) q,λb o q n _ _=>⟨o.slots,kp b o (Xk b n) q⟩,λb o q n _=>?_,λb o q _=>?_,λb xs q=>other b _ (λ_ z=>by cases z) q,λb o u q=>other b _ (λ_ z=>by cases z) q,λb ps q=>⟨#[],by rw[other b _ (λ_ z=>by cases z) q];simp⟩⟩ (λb u q=>?_) hup
 ·rw[aq (lt b o q),aq (Xk b n)]
  exact n
 ·by_cases z:b=P
  ·subst z;exact⟨_,k2 _ _ ht⟩
  ·exact⟨o,kp b o z q⟩
 ·by_cases z:b=c
  ·subst z
   rw[ah]at q
   cases q
   exact QD (qM k2 hr)
  ·rw[aq z]at q
   by_cases z2:b=P
   ·subst z2
    rw[ah]at q
    cases q
    exact FF (k2 _ _ ht)
   ·rw[aq z2]at q
    refine(I.hok b u q).stay (λd v hd qd=>kp d v ?_ qd) (λd qd=>other d _ (λ_ z=>by cases z) qd) λd xs qd=>other d _ (λ_ z=>by cases z) qd
    rcases hd with hd|hd
    ·rw[hd];exact z2
    ·intro z3
     rw[z3,e]at hd
     cases hd
end
theorem Pb{K:PySem.W.Frag}{H1 H2:Hp}{l:Addr}{vs:List V}(k:∀b u,(∀ φ,u≠HO.ext φ)->H1 b=some u->H2 b=some u)(h:bP K H1 l vs):bP K H2 l vs:=by
 rcases h with(h|⟨o,h⟩)|h
 ·exact .inl (.inl (k _ _ (λ_ z=>by cases z) h))
 ·exact .inl (.inr ⟨o,k _ _ (λ_ z=>by cases z) h⟩)
 ·exact .inr h
theorem DF{sc:Scope}{env:Env}{x r:Str}{c:Addr}(hn:sc.names=[(x,.local),(r,.free)])(hc:env.cells.lookup r=some c):closureFor sc env=pure [(r,c)]:=by
 have z:=pB (env:=env) sc.names [] (λy hy hk=>by
  rw[hn]at hy
  simp only[List.mem_cons,List.not_mem_nil,or_false]at hy
  rcases hy with rfl|rfl
  ·cases hk
  ·exact⟨c,hc⟩)
 unfold closureFor
 dsimp only
 rw[z,hn]
 have e:oJ (λx=>env.cells.lookup x) [(x,NameKind.local),(r,NameKind.free)] []=[(r,c)]:=by
  unfold oJ
  rw[if_neg (by decide)]
  unfold oJ
  rw[if_pos (by decide)]
  show(match env.cells.lookup r with|some a=>oJ _ [] ((r,a)::[])|none=>oJ _ [] [])=_
  rw[hc]
  rfl
 rw[e]
 rfl
theorem JA{P:Program}{w:World}{H H':Hp}{h:Heap}{d Pt:Addr}{kvs:List NE}{ps:Array Value}{φ:Heap->Prop}(nd:ND P w H d kvs)(ok:lS P w H h)(ht:h.get? Pt=some (PySem.W.tabObj ps))(hP:H Pt=some (.ext φ))(off:∀b u,b≠Pt->H b=some u->H' b=some u):ND P w H' d kvs:=by
 have neT:∀{b:Addr} {xs:List V},H b=some (.tup xs)->b≠Pt:=λ{b xs} e z=>by rw[z,hP]at e;cases e
 refine⟨off _ _ (λz=>?_) nd.at_,λx hx=>?_⟩
 ·obtain⟨_,_,xs,_,o,es,ep,ho,hc,_⟩:=(ok d _ nd.at_).1
  rw[z,ht]at ho
  cases ho
  exact absurd hc.1 (by intro q;cases q)
 ·obtain⟨p,h1,h2⟩:=nd.keys x hx
  exact⟨p,off _ _ (neT h1) h1,off _ _ (neT h2) h2⟩
def KU(KV:Program->World->Hp->V->V->Int->Prop):Prop:=∀(P:Program) (w:World) (H H':Hp) (h:Heap) (v rv:V) (k:Int) (Pt:Addr) (ps:Array Value) (φ:Heap->Prop),
 KV P w H v rv k->lS P w H h->h.get? Pt=some (PySem.W.tabObj ps)->H Pt=some (.ext φ)->(∀b u,b≠Pt->H b=some u->H' b=some u)->KV P w H' v rv k
theorem Mg:KU KV1:=λP w H H' h v rv k Pt ps φ kv ok ht hP off=>by
 obtain⟨p,d,kvs,i,j,rfl,hp,rfl,nd,hv⟩:=kv
 exact⟨p,d,kvs,i,j,rfl,off _ _ (λz=>by rw[z,hP]at hp;cases hp) hp,rfl,JA nd ok ht hP off,hv⟩
theorem Mf:KU KV2:=λP w H H' h v rv k Pt ps φ kv ok ht hP off=>by
 obtain⟨p,d,q,kvs,ky,c,r,rfl,hp,⟨q2,k1,k2⟩,rfl,nd,hv,rfl⟩:=kv
 have neT:∀{b:Addr} {xs:List V},H b=some (.tup xs)->b≠Pt:=λ{b xs} e z=>by rw[z,hP]at e;cases e
 exact⟨p,d,q,kvs,ky,c,r,rfl,off _ _ (neT hp) hp,⟨q2,off _ _ (neT k1) k1,off _ _ (neT k2) k2⟩,rfl,JA nd ok ht hP off,hv,rfl⟩
def Apart(Pr:Program)(wo:World)(H:Hp)(P:Addr):Prop:=(∀b q,H b=some (Nu b q)->b≠P)/\∀d kvs,H d=some (sF Pr wo d kvs)->d≠P
theorem DI{P:Program}{w:World}{H:Hp}{h:Heap}{Pt:Addr}{ps:Array Value}(ok:lS P w H h)(ht:h.get? Pt=some (PySem.W.tabObj ps))(hp:∀q t,ps[1]? ≠some (.str q t)):Apart P w H Pt:=by
 refine⟨λb q e z=>?_,λd kvs e z=>?_⟩
 ·obtain⟨c₂,o,vs,t,e0,e1,e2,e3⟩:=(ok b _ e).1
  cases e0
  rw[z,ht]at e1
  cases e1
  cases e2
  exact hp _ _ e3
 ·obtain⟨_,_,xs,_,o,es,ep,ho,hc,_⟩:=(ok d _ e).1
  rw[z,ht]at ho
  cases ho
  exact absurd hc.1 (by intro q;cases q)
def Rx(Pr:Program)(wo:World)(K:PySem.W.Frag)(KV:Program->World->Hp->V->V->Int->Prop)(P:Addr)(ln:Pos)(lq:Str)(ir:Nat)(ta:TA):TE:=λσ H Q=>ta σ H λzs H1=>∃(l:Addr) (vs:List V) (rv:V) (kf:Nat->Int),zs=[.ref l]/\σ[ir]? =some (some rv)/\bP K H1 l vs/\0<vs.length ∧
 (∀i v,vs[i]? =some v->KV Pr wo H1 v rv (kf i))/\TabOk H1 P ln lq/\∀H2,Apart Pr wo H1 P->(∀b u,b≠P->H1 b=some u->H2 b=some u)->TabOk H2 P ln lq->∀i v,vs[i]? =some v->MN kf vs.length i->Q v H2
theorem F9{X:Cx}{c P:Addr}{e:Expr}{ta:TA}{p pos qS JQ:Pos}{ps:Arguments}{body:Expr}{sc:Scope}{x r:Str}{ir:Nat}{KV:Program->World->Hp->V->V->Int->Prop}{Pr:Program}{wo:World}{K':PySem.W.Frag}(LK:Ft ps body sc x r KV)(KO:KU KV)(hn:sc.names=[(x,.local),(r,.free)])
  (hcode:X.env.code= .ref c) (hC:PySem.W.codeHdIn X.K c P=true) (hbm:NH X.base X.mg) (Kc:X.calm=true) (hroom:X.A.depth<recursionLimit) (hu:X.A.units+16<cLine)
  (hg:Gl X "min") (hm:X.mg "min" =none) (hv:bootBuiltins "min" =some (.builtin "min")) (hN:X.N[ir]? =some r) (hcell:X.env.kindOf r=some .cell) (ha:PA X [e] ta) (hP:X.prog=Pr) (hw:X.w=wo) (hK:X.K=K') (hd0:defaultsOf ps X.env=([],[]):=by rfl)
  (he:backTo pos (starEach [e] X.env)=(false,eval e X.env)::backTo pos (starEach [] X.env):=by rfl) (hpl:(backTo pos (starEach [e] X.env)).any (·.1)=false:=by rfl) :
  PE X (.Call (.Name "min" p) [e] [⟨some (Str.ofString "key"),.Lambda ps body sc qS,JQ⟩] pos) (Rx Pr wo K' KV P qS (X.env.qual++ "<lambda>") ir ta):=by
 subst hP hw hK
 intro pins s σ H Q I h
 refine wpAny_Call_Name_kw (ql I hg hm hv ?_)
 refine callWith_kw (dI (ha pos pins s σ H _ I h) λus s1 ⟨zs,H1,I1,r1,q1⟩=>?_) he hpl rfl rfl
 obtain⟨l,vs,rv,kf,rfl,hir,hq,hne,hkv,hT,k⟩:=q1
 obtain⟨u,rfl,rx⟩:=vals1 r1
 cases rx
 obtain⟨m,hns,hl⟩:=I1.loc
 obtain⟨ru,rru,lk⟩:=hl ir r rv hN hir (.inr (.inl hcell))
 obtain⟨cc,hcc,hic⟩:∃cc,X.env.cells.lookup r=some cc/\s1.heap.IsCell cc (some ru):=by
  rcases lk with⟨z,_⟩|⟨_,z⟩
  ·rw[hcell]at z;cases z
  ·exact z
 have hcl:=DF hn hcc
 refine kws_cons (PySem.W.kla_eval hd0 ?_)
 have hgs:s1.heap.Ns mainGlobals X.mg:=I1.mod.glob.keeps I1.bk
 obtain⟨bm,ob,b1,b2,b3,b4,b5,b6⟩:=hbm
 have Rg:=I1.bk _ _ b3
 have Z7:=PySem.W.codeHd_of_K I1.pL hC
 have ext:∃ φ,H1 P=some (.ext φ):=by
  rcases hT with hT|⟨_,hT,_⟩
  ·exact⟨_,hT⟩
  ·exact⟨_,hT⟩
 obtain⟨φ,hφ⟩:=ext
 have hAp:Apart X.prog X.w H1 P:=by
  rcases hT with hT|⟨_,hT,_⟩
  ·exact DI I1.hok (I1.tab hT) (λq t z=>by cases z)
  ·exact DI I1.hok (I1.tab hT) (λq t z=>by cases z)
 have after:∀(q:Addr) (H2:Hp) (s2:Shared),Inv X pins σ H2 s2->(∀b u,b≠P->H1 b=some u->H2 b=some u)->TabOk H2 P qS (X.env.qual++ "<lambda>")->bP X.K H2 l vs->yf s2.heap q (X.env.qual++ "<lambda>") ps body sc [(r,cc)]->s2.heap.IsCell cc (some ru)->(∀i v,vs[i]? =some v->KV X.prog X.w H2 v rv (kf i)) →
   wpAny (model X.prog X.w) X.A (evalAll ((backToKw pos (keywordEach [] X.env)).map (·.2)))
    (λkvs s₂=>wpAny (model X.prog X.w) X.A (call (.builtin "min") [.ref l] (((backToKw pos (keywordEach [⟨some (Str.ofString "key"),.Lambda ps body sc qS,JQ⟩] X.env)).filterMap (·.1)).zip (.ref q::kvs))) (EP X pins σ Q) X.xe s₂) X.xe s2:=by
  intro q H2 s2 I2 U5 hT2 hq2 Yv hc2 Yc
  refine kws_nil ?_
  show wpAny _ X.A (call (.builtin "min") [.ref l] [(Str.ofString "key",.ref q)]) _ _ s2
  have k1:=k H2 hAp U5 hT2
  obtain⟨its,r',pl,hz⟩:=I2.list hq2
  have hlen:=r'.length
  refine TK.bY (Nat.le_refl _) (HN (kf:=kf) (I2.ok.hd Kc) pl.isList (λi v h tk Q' hv' kp hQ=>?_) (by omega) λi v h' tk' hv' hb kp hup=>?_)
  ·have hi:i<its.length:=(List.getElem?_eq_some_iff.mp hv').1
   have hi1:i<vs.length:=by omega
   obtain⟨u',eu,WZ⟩:=r'.get (List.getElem?_eq_getElem hi1)
   rw[hv']at eu
   cases eu
   obtain⟨oc,gc1,gc2⟩:=hc2
   refine Ht (s:={ s2 with heap:=h,toks:=tk }) (A:=X.A.in1) (rv:=ru) (Yv.keep kp) LK.1 ⟨oc,kp _ _ gc1,gc2⟩ (I2.nolimit.keeps kp) hroom λenv A' h1 MR E' hA JQ L=>?_
   refine LK.2 X.prog X.w H2 vs[i] rv (kf i) v ru s2 h1 MR A' env _ _ (Yc i _ (List.getElem?_eq_getElem hi1)) WZ rru (I2.hok.kept λb o z=>JQ b o (kp b o z)) (by rw[hA];show X.A.units+1+3+2<cLine;omega) L λh' tk' t k'=>?_
   exact hQ h' tk' t λb o z=>k' b o (JQ b o z)
  ·have hi:i<its.length:=(List.getElem?_eq_some_iff.mp hv').1
   have hi1:i<vs.length:=by omega
   obtain⟨u',eu,WZ⟩:=r'.get (List.getElem?_eq_getElem hi1)
   rw[hv']at eu
   cases eu
   refine⟨vs[i],H2,I2.kept kp hup,WZ,k1 i _ (List.getElem?_eq_getElem hi1) ?_⟩
   rw[show vs.length=its.length by omega]
   exact hb
 have off:∀b,H1 b=none->b≠P:=λb q z=>by rw[z,hφ]at q;cases q
 have R4:∀{ps':Array Value},H1 P=some (nW P ps')->s1.heap.get? P=some (PySem.W.tabObj ps')->mainGlobals≠P/\bm≠P/\cc≠P:=λ{ps'} e e'=>by
  refine⟨λz=>?_,λz=>?_,λz=>?_⟩
  ·obtain⟨o,es,ep,eo,hd,_⟩:=hgs
   rw[z,e']at eo;cases eo;cases hd
  ·rw[z,e']at Rg;cases Rg;cases b4
  ·obtain⟨o,g1,g2⟩:=hic
   rw[z,e']at g1;cases g1;cases g2
 have bmG:bm≠mainGlobals:=λz=>by
  obtain⟨o,es,ep,eo,hd,_⟩:=hgs
  rw[z,eo]at Rg;cases Rg;rw[hd]at b6;cases b6
 rcases id hT with e0|⟨c',e0,ec⟩
 ·have tb:=I1.tab e0
  obtain⟨n1,n2,n3⟩:=R4 e0 tb
  refine TK.bY (Nat.le_refl _) (PySem.W.kla_makeFunction (mg:=X.mg) (ps:= #[]) hcl I1.ok.glob hgs hcode Z7 tb trivial rfl n1 ⟨bm,ob,b1,b2,bmG,n2,Rg,b4,b5,b6⟩ λc' ctv h' tk hx hge hlt hrec htb hup=>?_)
  have hcn:H1 c'=none:=I1.hok.fresh hge
  have Zt:P≠c':=λz=>off c' hcn z.symm
  have htb':h'.get? P=some (PySem.W.tabObj #[rawInt qS.line,rawInt qS.col,.ref c']):=by
   have:=htb
   rwa [show(#[]:Array Value)++ #[rawInt qS.line,rawInt qS.col,Value.ref c']= #[rawInt qS.line,rawInt qS.col,Value.ref c'] from rfl]at this
  have hoff:∀b u,b≠P->H1 b=some u->upd (upd H1 P (nW P #[rawInt qS.line,rawInt qS.col,.ref c'])) c' (Nu c' (X.env.qual++ "<lambda>")) b=some u:=λb u hb q=>by
   rw[aq (λz=>by rw[z,hcn]at q;cases q),aq hb]
   exact q
  refine after _ (upd (upd H1 P (nW P #[rawInt qS.line,rawInt qS.col,.ref c'])) c' (Nu c' (X.env.qual++ "<lambda>"))) _ (I1.OY e0 hx hge hrec htb' (λb o q=>Heap.get?_push_of_some _ q) hup) hoff (.inr ⟨c',by rw[aq Zt,ah],ah⟩) ?_ ⟨_,c',ctv,Heap.get?_push_size _ rfl,qM (λb o q=>Heap.get?_push_of_some _ q) hrec⟩ ?_ λi v hi=>KO _ _ _ _ _ _ _ _ _ _ _ (hkv i v hi) I1.hok tb e0 hoff
  ·refine Pb (λb u hu q=>?_) hq
   rw[aq (λz=>by rw[z,hcn]at q;cases q),aq (λz=>by rw[z,e0]at q;cases q;exact hu _ rfl)]
   exact q
  ·obtain⟨o,g1,g2⟩:=hic
   exact⟨o,Heap.get?_push_of_some _ (hx _ _ n3 g1),g2⟩
 ·have tb:=I1.tab e0
  obtain⟨n1,n2,n3⟩:=R4 e0 tb
  refine TK.bY (Nat.le_refl _) (PySem.W.kla_makeFunctionHit (mg:=X.mg) (ps:= #[rawInt qS.line,rawInt qS.col,.ref c']) (cv:=.ref c') hcl I1.ok.glob hgs hcode Z7 tb ?_ ?_ ⟨bm,ob,b1,b2,bmG,n2,Rg,b4,b5,b6⟩ λctv h' tk kp hsz hup=>?_)
  ·show TriplesOk [rawInt _,rawInt _,_]
   exact trivial
  ·exact codeAmong_snoc [] trivial rfl
  ·obtain⟨o,g1,g2⟩:=hic
   exact after _ H1 _ (I1.kept (λb o q=>Heap.get?_push_of_some _ (kp b o q)) hup) (λb u _ q=>q) hT hq ⟨_,c',ctv,Heap.get?_push_size _ rfl,qM (λb o q=>Heap.get?_push_of_some _ (kp b o q)) (I1.cd ec)⟩ ⟨o,Heap.get?_push_of_some _ (kp _ _ g1),g2⟩ hkv
end L2
namespace L2
open PySem PySem.Spec PyProof.Rows
def eN(K:PySem.W.Frag)(n:Str):Addr:=match PySem.W.nsIn K mainGlobals n with
 |some (some (.ref f))=>(match K.lookup f with
  |some ⟨_,_,.func fd,_⟩=>(match fd.code with
   | .ref c=>(match K.lookup c with
    |some ⟨_,_,.fields vs,_⟩=>(match (vs[11]? :Option Value)with|some (.ref P)=>P|_=>0)
    |_=>0)
   |_=>0)
  |_=>0)
 |_=>0
def pK(K:PySem.W.Frag)(n:Str):Bool:=match PySem.W.nsIn K mainGlobals n with
 |some (some (.ref f))=>(match K.lookup f with
  |some ⟨_,_,.func fd,_⟩=>(match fd.code with
   | .ref c=>PySem.W.codeHdIn K c (eN K n)&&(K.lookup (eN K n)).isNone
   |_=>false)
  |_=>false)
 |_=>false
theorem JP{K:PySem.W.Frag}{n:Str}{f:Addr}{oc:Value}{od:Option Addr}{fd:FuncData}{osl:Array (Option Value)}(h:pK K n=true)(a:PySem.W.nsIn K mainGlobals n=some (some (.ref f)))(l:K.lookup f=some ⟨oc,od,.func fd,osl⟩):
  ∃c,fd.code= .ref c/\PySem.W.codeHdIn K c (eN K n)=true:=by
 unfold pK at h
 rw[a]at h
 simp only[l]at h
 split at h
 ·rename_i c hc
  exact⟨c,hc,(Bool.and_eq_true_iff.mp h).1⟩
 ·cases h
theorem Df{K:PySem.W.Frag}{n:Str}(h:pK K n=true):(∃c,PySem.W.codeHdIn K c (eN K n)=true)/\K.lookup (eN K n)=none:=by
 unfold pK at h
 split at h
 ·split at h
  ·split at h
   ·obtain⟨h1,h2⟩:=Bool.and_eq_true_iff.mp h
    exact⟨⟨_,h1⟩,Option.isNone_iff_eq_none.mp h2⟩
   ·cases h
  ·cases h
 ·cases h
section
variable{P:Program}{w:World}{K:PySem.W.Frag}{mg:Str->Option Value}{base:Heap}
theorem Le.Zk{x qual:Str}{st:Stmt}{f:Addr}{fd:FuncData}{N ps:List Str}{k:Nat}{sp:Sp}(F:Le K x qual st f fd)(X7:pK K x=true)(hns:PySem.W.nsIn K mainGlobals x=some (some (.ref f)))(S:aF N ps (ay st))(len:∀vs H Q E,sp vs H Q E->vs.length=ps.length)
  (hbody:∀(c:Addr) (A:Around) (outer:List Env) (s:Shared) (H:Hp) (vs:List V) (Q:VK) (E:XK),PySem.W.codeHdIn K c (eN K x)=true->jT k (A.deeper (envOfC qual (ay st) s.heap.objs.size f (.ref c)))->sp vs H Q E →
   ∃t,Al (tL cj P w K mg base N qual (ay st) f (.ref c) A outer s H E).PF (dQ st) t/\t { nx:=λ_ H'=>Q .iP H',rt:=Q } (start N vs) H):aI P w K mg base cj (k+1) f fd ps sp:=by
 obtain⟨oc,od,dV,kV,doc,pm,an,cdv,ct,osl,rfl,lk,hcd⟩:=F.ex
 obtain⟨c,e1,e2⟩:=JP X7 hns lk
 have e1':cdv= .ref c:=e1
 subst e1'
 refine Kl lk hcd S len λA outer s H vs Q E hr D7=>?_
 obtain⟨t,h,q⟩:=hbody c A outer s H vs Q E e2 hr D7
 exact⟨t,h.PF,q⟩
end
set_option maxHeartbeats 1000000 in
theorem Hs{P:Program}{w:World}{K:PySem.W.Frag}{mg mb:Str->Option Value}{CX:Ii}{k:Nat}{fa a:Addr}{ts:List Addr}{fd:FuncData}{x:Str}{sp:Sp}{s₁:Shared}{vs:List Value}{ns:List Int}
  (KX:K.In s₁.heap) (hns:s₁.heap.Ns mainGlobals mg) (hb:s₁.heap.Ns builtinsNs mb) (hbb:∀x:Str,x≠ "__name__" ->mb x=bootBuiltins x) (hlim:s₁.heap.NoLimit) (hg:s₁.gens= #[]) (htk:Fl mg s₁.toks) (hbm:NH s₁.heap mg)
  (hT:∀P∈ts,s₁.heap.get? P=some (PySem.W.tabObj #[])) (hTk:∀P∈ts,K.lookup P=none) (hTc:∀P∈ts,∃c,PySem.W.codeHdIn K c P=true)
  (ha:s₁.heap.get? a=some { cls:=.type "list",data:=.seq vs.toArray }) (hi:IntsAre vs ns) (hl:ns.length<=sizeLine) (hr:jT k callerA)
  (F:∀base:Heap,K.In base->base.Ns mainGlobals mg->NH base mg->aI P w K mg base CX k fa fd [x] sp) (hbind:∀(s:Shared) (u:Value),BindsTo s fd ⟨[u],[]⟩ [(x,u)])
  (D7:∀H:Hp,(∀P∈ts,H P=some (nW P #[]))->bP K H a (ns.map V.int)->sp [.ref a] H (λv H'=>v= .bl true/\∀P∈ts,∃ps,H' P=some (nW P ps)) λ_ _ _=>False)
  (YB:∀H e s',CX [] H s₁ (λ_ _ _=>False) e s'->False) :
  codeAny (model P w) callerA (.call (.ref fa) ⟨[.ref a],[]⟩) (λr s'=>r= .ok (.ret (.bool true))/\OldK s₁.heap s'.heap/\s'.os=s₁.os/\AllBare s'.gens) s₁:=by
 have rv:=zE hi
 have Xp:=hi.length
 have Zu:a∉ts:=λz=>by have:=hT a z;rw[ha]at this;cases this
 have core:∀H:Hp,(∀b,H b=none\/b∈ts\/∃o xs,H b=some (.su o (.lst xs)))->(∀P∈ts,H P=some (nW P #[]))->bP K H a (ns.map V.int)->lS P w H s₁.heap->(∀b,H b≠none->b=a\/b∈ts)->(H a≠none->K.lookup a=none) →
   codeAny (model P w) callerA (.call (.ref fa) ⟨[.ref a],[]⟩) (λr s'=>r= .ok (.ret (.bool true))/\OldK s₁.heap s'.heap/\s'.os=s₁.os/\AllBare s'.gens) s₁:=by
  intro H hO hPt hS hok hA hK
  have baseOf:∀{b:Addr} {o:Obj},s₁.heap.get? b=some o->H b=none->(yN s₁.heap H).get? b=some o:=λe n=>Ka e n
  have free:∀{b:Addr} {o:Obj},s₁.heap.get? b=some o->o≠{ cls:=.type "list",data:=.seq vs.toArray }->o≠PySem.W.tabObj #[]->H b=none:=λ{b o} e d1 d2=>by
   cases q:H b with
   |none=>rfl
   |some u =>
    rcases hA b (by rw[q];simp)with e'|e'
    ·subst e';rw[ha]at e;cases e;exact absurd rfl d1
    ·rw[hT b e']at e;cases e;exact absurd rfl d2
  have UI:∀{b:Addr} {m:Str->Option Value},s₁.heap.Ns b m->(yN s₁.heap H).Ns b m:=λ{b m} ⟨o,es,ep,e,d,r⟩=>⟨o,es,ep,baseOf e (free e (λz=>by rw[z]at d;cases d) (λz=>by rw[z]at d;cases d)),d,r⟩
  have Z2:K.In (yN s₁.heap H):=λb o e=>baseOf (KX b o e) (by
   cases q:H b with
   |none=>rfl
   |some u =>
    rcases hA b (by rw[q];simp)with e'|e'
    ·subst e';rw[hK (by rw[q];simp)]at e;cases e
    ·rw[hTk b e']at e;cases e)
  have hBb:NH (yN s₁.heap H) mg:=by
   obtain⟨bm,ob,b1,b2,b3,b4,b5,b6⟩:=hbm
   exact⟨bm,ob,b1,b2,baseOf b3 (free b3 (λz=>by rw[z]at b6;cases b6) (λz=>by rw[z]at b6;cases b6)),b4,b5,b6⟩
  have hM:Mod K mg (yN s₁.heap H):=⟨Z2,UI hns,⟨mb,UI hb,hbb⟩,let ⟨mc,h1,h2⟩:=hlim;⟨mc,UI h1,h2⟩⟩
  have e0:Fz P w K mg (yN s₁.heap H) callerA [] s₁ H:=⟨rfl,hM,λb o e=>LR e,Nat.le_of_eq (HB _ _),trivial,λb hb=>absurd (show b∈([]:List Addr) from hb) (by simp),hok,.of_eq hg,htk⟩
  refine codeAny_mono ((F _ Z2 (UI hns) hBb).run callerA [] s₁ H ⟨[.ref a],[]⟩ [.ref a] [.ref a] _ _ hr e0 (hbind s₁ (.ref a)) (.cons rfl .nil) (D7 H hPt hS)) λr s' h=>?_
  cases r with
  |error e=>exact(YB H e s' h).elim
  |ok fl =>
   cases fl with
   |next=>exact False.elim h
   |brk=>exact False.elim h
   |cont=>exact False.elim h
   |ret u =>
    obtain⟨v,H',os,bare,un,Tc,r',_,q,qT⟩:=h
    have q':v= .bl true:=q
    subst q'
    obtain rfl:u=Value.bool true:=r'
    have tb:∀P∈ts,∃ps',s'.heap.get? P=some (PySem.W.tabObj ps'):=λP hP=>by obtain⟨ps',z⟩:=qT P hP;exact⟨ps',(Tc P _ z).1⟩
    have kp:∀b o,b∉ts->s₁.heap.get? b=some o->s'.heap.get? b=some o:=λb o K7 e=>by
     cases q:H b with
     |none=>exact un.keep b o e q (by intro z;exact absurd (show b∈([]:List Addr) from z) (by simp)) (by simp)
     |some u =>
      rcases hO b with z|z|⟨ob,xs,z⟩
      ·rw[q]at z;cases z
      ·exact absurd z K7
      ·have z2:=un.qV b ob _ z
       obtain⟨e1,_⟩:=hok b _ z
       obtain⟨e2,_⟩:=Tc b _ z2
       rw[e]at e1;cases e1
       exact e2
    refine⟨rfl,⟨λb o e=>?_,λb o e=>?_⟩,os,bare⟩
    ·by_cases K7:b∈ts
     ·rw[hT b K7]at e
      cases e
      obtain⟨c,hc⟩:=hTc b K7
      obtain⟨ps',e1⟩:=tb b K7
      have hcd:=PySem.W.codeHd_of_K KX hc
      exact .inr (.inl ⟨(hcd.tab (hT b K7)).isCodeTable,rfl,#[],ps',rfl,by rw[e1];simp[PySem.W.tabObj]⟩)
     ·exact .inl (kp b o K7 e)
    ·by_cases K7:b∈ts
     ·obtain⟨ps',e1⟩:=tb b K7
      exact⟨_,e1⟩
     ·exact⟨o,kp b o K7 e⟩
 have Zj:∀(H:Hp) (b:Addr),b∈ts->bI P w H s₁.heap b (nW b #[]):=λH b hb=>FF (hT b hb)
 cases hk:K.lookup a with
 |some o =>
  have e:=KX a o hk
  rw[ha]at e
  cases e
  refine core (λb=>if b∈ts then some (nW b #[])else none) (λb=>?_) (λb hb=>if_pos hb) (.inr ⟨_,vs.toArray,_,hk,rfl,rfl,rfl,by rw[List.size_toArray,Xp];exact hl,by simpa using rv⟩) (λb u z=>?_) (λb z=>?_) λz=>absurd (if_neg Zu) z
  ·by_cases hb:b∈ts
   ·exact .inr (.inl hb)
   ·exact .inl (if_neg hb)
  ·by_cases hb:b∈ts
   ·have z':=(if_pos hb).symm.trans z
    cases z'
    exact Zj _ b hb
   ·have z':=(if_neg hb).symm.trans z
    cases z'
  ·by_cases hb:b∈ts
   ·exact .inr hb
   ·exact absurd (if_neg hb) z
 |none =>
  refine core (λb=>if b=a then some (.su { cls:=.type "list",data:=.seq vs.toArray } (.lst (ns.map V.int)))else if b∈ts then some (nW b #[])else none) (λb=>?_) (λb hb=>?_) (.inl (.inr ⟨{ cls:=.type "list",data:=.seq vs.toArray },if_pos rfl⟩)) (λb u z=>?_) (λb z=>?_) λ_=>hk
  ·by_cases hb:b=a
   ·exact .inr (.inr ⟨_,_,if_pos hb⟩)
   ·by_cases hb2:b∈ts
    ·exact .inr (.inl hb2)
    ·exact .inl ((if_neg hb).trans (if_neg hb2))
  ·exact(if_neg (λz:b=a=>Zu (z▸hb))).trans (if_pos hb)
  ·by_cases hb:b=a
   ·have z':=(if_pos hb).symm.trans z
    cases z'
    subst hb
    exact⟨ha,by rw[List.length_map];exact hl,vs,_,rv,ha⟩
   ·by_cases hb2:b∈ts
    ·have z':=((if_neg hb).trans (if_pos hb2)).symm.trans z
     cases z'
     exact Zj _ b hb2
    ·have z':=((if_neg hb).trans (if_neg hb2)).symm.trans z
     cases z'
  ·by_cases hb:b=a
   ·exact .inl hb
   ·by_cases hb2:b∈ts
    ·exact .inr hb2
    ·exact absurd ((if_neg hb).trans (if_neg hb2)) z
theorem Iz{l:PySem.W.OpenLaw}{n k:Nat}{q:Program}{loose:List Str}{XP:(Str->Option Value)->Heap->Prop}{YP:World->Heap->Prop}{d:DefRec}{K:Params->PySem.W.Frag}{CX:World->Ii}{sp:World->Sp}{x:Str}{nms:List Str}
  (hn:l.most=some n) (hn2:n<=sizeLine) (hdf:d.params.defaults=[]) (hr:jT k callerA)
  (hY:∀(w:World) (h:Heap),YP w h->(K w.params).In h) (hYT:∀(w:World) (h:Heap),YP w h->∀nm∈nms,h.get? (eN (K w.params) nm)=some (PySem.W.tabObj #[])) (hL:∀w:World,∀nm∈nms,pK (K w.params) nm=true)
  (hG:∀w:World,PySem.W.nsIn (K w.params) mainGlobals "GAP" =some none)
  (F:∀(w:World) (mg:Str->Option Value) (fa:Addr) (h:Heap),(K w.params).In h->h.Ns mainGlobals mg->mg d.name=some (.ref fa) →
   ∃fd:FuncData,(∀(s:Shared) (u:Value),BindsTo s fd ⟨[u],[]⟩ [(x,u)]) ∧
    ∀base:Heap,(K w.params).In base->base.Ns mainGlobals mg->NH base mg->aI l.prog w (K w.params) mg base (CX w) k fa fd [x] (sp w))
  (D7:∀(w:World) (H:Hp) (a:Addr) (ns:List Int),ns.length<=n->(∀nm∈nms,H (eN (K w.params) nm)=some (nW (eN (K w.params) nm) #[]))->bP (K w.params) H a (ns.map V.int)->sp w [.ref a] H (λv H'=>v= .bl true/\∀nm∈nms,∃ps,H' (eN (K w.params) nm)=some (nW (eN (K w.params) nm) ps)) λ_ _ _=>False)
  (YB:∀(w:World) (H:Hp) (s:Shared) (e:Value) (s':Shared),CX w [] H s (λ_ _ _=>False) e s'->False) :
  PySem.W.WalkO q loose XP YP l.row.toRowW d [] (λf vs=>PySem.call f vs):=by
 refine Att.DH hn hdf λw s₀ s₁ mg mb fa o pm cd doc a vs ns G Y ho hd hcd hmg hobj hints hlen hg=>?_
 have KX:=hY w _ Y
 obtain⟨fd,hb,hF⟩:=F w mg fa _ KX G.T.g hmg
 have gap:=PySem.W.mg_none_of KX G.T.g (hG w)
 exact Hs (ts:=nms.map (eN (K w.params))) KX G.T.g G.T.b G.T.builtins G.T.nolimit hg (λv u e=>by rw[gap]at e;cases e) G.T.bmain
  (λP hP=>by obtain⟨nm,hm,rfl⟩:=List.mem_map.mp hP;exact hYT w _ Y nm hm) (λP hP=>by obtain⟨nm,hm,rfl⟩:=List.mem_map.mp hP;exact(Df (hL w nm hm)).2) (λP hP=>by obtain⟨nm,hm,rfl⟩:=List.mem_map.mp hP;exact(Df (hL w nm hm)).1)
  hobj hints (Nat.le_trans hlen hn2) hr hF hb (λH hO hS=>by
   have z:=D7 w H a ns hlen (λnm hm=>hO _ (List.mem_map.mpr ⟨nm,hm,rfl⟩)) hS
   have e:(λ(v:V) (H':Hp)=>v= .bl true/\∀P∈nms.map (eN (K w.params)),∃ps,H' P=some (nW P ps))=λv H'=>v= .bl true/\∀nm∈nms,∃ps,H' (eN (K w.params) nm)=some (nW (eN (K w.params) nm) ps):=by
    funext v H'
    simp
   rw[e]
   exact z) λH e s'=>YB w H s₁ e s'
end L2
namespace GP
open PySem L2 uc
def tD:List Int->Int
 |[]=>0
 |x::xs=>xs.foldl min x
theorem sy:∀(l:List Int) (x:Int),l.foldl min x<=x/\∀y∈l,l.foldl min x<=y
 |[],x=>⟨Int.le_refl _,λy hy=>(nomatch hy)⟩
 |a::l,x=>by
  obtain⟨h1,h2⟩:=sy l (min x a)
  rw[List.foldl_cons]
  refine⟨by omega,λy hy=>?_⟩
  rcases List.mem_cons.mp hy with rfl|hy
  ·omega
  ·exact h2 y hy
theorem vm:∀(l:List Int) (x:Int),l.foldl min x=x\/l.foldl min x∈l
 |[],x=>.inl rfl
 |a::l,x=>by
  rw[List.foldl_cons]
  rcases vm l (min x a)with h|h
  ·rw[h]
   by_cases e:x<=a
   ·exact .inl (by omega)
   ·rw[show min x a=a by omega]
    exact .inr List.mem_cons_self
  ·exact .inr (List.mem_cons_of_mem _ h)
theorem wk{l:List Int}{x:Int}(h:x∈l):tD l<=x:=by
 cases l with
 |nil=>exact nomatch h
 |cons a l =>
  rcases List.mem_cons.mp h with rfl|h
  ·exact(sy l _).1
  ·exact(sy l a).2 x h
theorem tw{l:List Int}(h:l≠[]):tD l∈l:=by
 cases l with
 |nil=>exact absurd rfl h
 |cons a l =>
  rcases vm l a with h|h
  ·exact List.mem_cons.mpr (.inl h)
  ·exact List.mem_cons_of_mem _ h
theorem LZ{l:List Int}{x:Int}(h:x∈l)(h2:∀y∈l,x<=y):tD l=x:=Int.le_antisymm (wk h) (h2 _ (tw (List.ne_nil_of_mem h)))
def fmin{α:Type}(f:α->Int):List α->Option α
 |[]=>none
 |x::xs=>match fmin f xs with
  |none=>some x
  |some y=>if f y<f x then some y else some x
theorem m6{α:Type}{f:α->Int}:∀{l:List α} {x:α},fmin f l=some x->x∈l
 |[],x,h=>by cases h
 |a::l,x,h=>by
  unfold fmin at h
  split at h
  ·cases h;exact List.mem_cons_self
  ·next y e =>
   split at h
   ·cases h;exact List.mem_cons_of_mem _ (m6 e)
   ·cases h;exact List.mem_cons_self
theorem A9{α:Type}{f:α->Int}:∀{l:List α} {k:Nat} {x:α},l[k]? =some x->(∀j y,l[j]? =some y->f x<=f y/\(j<k->f x<f y))->fmin f l=some x
 |[],k,x,h,_=>by simp at h
 |a::l,0,x,h,hx=>by
  obtain rfl:a=x:=by simpa using h
  unfold fmin
  split
  ·rfl
  ·next y e =>
   obtain⟨j,hj,ey⟩:=List.getElem_of_mem (m6 e)
   have:=(hx (j+1) y (by simpa using(List.getElem?_eq_some_iff.mpr ⟨hj,ey⟩))).1
   rw[if_neg (by omega)]
 |a::l,k+1,x,h,hx=>by
  have e:fmin f l=some x:=A9 (k:=k) (by simpa using h) λj y hy=>by
   have:=hx (j+1) y (by simpa using hy)
   exact⟨this.1,λz=>this.2 (by omega)⟩
  unfold fmin
  rw[e]
  have:=(hx 0 a rfl).2 (by omega)
  simp[this]
theorem z5{α:Type}{f:α->Int}{l:List α}(h:l≠[]):∃x,fmin f l=some x:=by
 cases l with
 |nil=>exact absurd rfl h
 |cons a l =>
  unfold fmin
  split
  ·exact⟨_,rfl⟩
  ·split<;>exact⟨_,rfl⟩
theorem wm{α:Type}{f:α->Int}:∀{l:List α} {x y:α},fmin f l=some x->y∈l->f x<=f y
 |[],x,y,h,_=>by cases h
 |a::l,x,y,h,hy=>by
  unfold fmin at h
  split at h
  ·next e =>
   cases h
   rcases List.mem_cons.mp hy with rfl|hy
   ·exact Int.le_refl _
   ·obtain⟨z,ez⟩:=z5 (f:=f) (List.ne_nil_of_mem hy)
    rw[e]at ez;cases ez
  ·next z e =>
   have k:=λhy=>wm (y:=y) e hy
   split at h
   ·cases h
    rcases List.mem_cons.mp hy with rfl|hy
    ·omega
    ·exact k hy
   ·cases h
    rcases List.mem_cons.mp hy with rfl|hy
    ·exact Int.le_refl _
    ·have:=k hy;omega
abbrev dM:=Nat×Nat×Nat
structure Gd where
 n:Nat
 m:Nat
 pc:Nat->Nat->Int
 op:Int
 mo:Int
 en:Nat->Nat->Bool
def Gd.ac(g:Gd)(v c:Nat):Int:=if v=c then g.mo else g.op+g.mo
def Gd.steps(g:Gd)(s:dM):List (dM×Int) :=
 (if s.1<g.n/\s.2.1<g.m then [((s.1+1,s.2.1+1,112),g.pc s.1 s.2.1)]else [])++((if s.1<g.n then [((s.1+1,s.2.1,97),g.ac 97 s.2.2)]else [])++(if s.2.1<g.m then [((s.1,s.2.1+1,98),g.ac 98 s.2.2)]else []))
def Gd.costs(g:Gd)(R:dM->Int)(s:dM):List Int:=(g.steps s).map (λt=>t.2+R t.1)++if g.en s.1 s.2.1 then [0]else []
def Gd.MZ(g:Gd):Nat->dM->Int
 | 0,_=>0
 |d+1,s=>tD (g.costs (g.MZ d) s)
def Gd.ht(g:Gd)(s:dM):Nat:=g.n-s.1+(g.m-s.2.1)
def Gd.rest(g:Gd)(s:dM):Int:=g.MZ (g.ht s+1) s
def Gd.In(g:Gd)(s:dM):Prop:=s.1<=g.n/\s.2.1<=g.m/\(s.2.2=112\/s.2.2=97\/s.2.2=98)
theorem Gd.kD{g:Gd}{s:dM}{t:dM×Int}:t∈g.steps s↔(s.1<g.n/\s.2.1<g.m/\t=((s.1+1,s.2.1+1,112),g.pc s.1 s.2.1))\/(s.1<g.n/\t=((s.1+1,s.2.1,97),g.ac 97 s.2.2))\/(s.2.1<g.m/\t=((s.1,s.2.1+1,98),g.ac 98 s.2.2)):=by
 unfold Gd.steps
 simp only[List.mem_append]
 by_cases h1:s.1<g.n<;>by_cases h2:s.2.1<g.m<;>simp[h1,h2]
theorem Gd.oM{g:Gd}{s:dM}{t:dM×Int}(h:t∈g.steps s)(hs:g.In s):g.In t.1:=by
 obtain⟨h1,h2,_⟩:=hs
 rcases Gd.kD.mp h with⟨a,b,rfl⟩|⟨a,rfl⟩|⟨a,rfl⟩
 ·exact⟨a,b,.inl rfl⟩
 ·exact⟨a,h2,.inr (.inl rfl)⟩
 ·exact⟨h1,a,.inr (.inr rfl)⟩
theorem Gd.lV{g:Gd}{s:dM}{t:dM×Int}(h:t∈g.steps s):g.ht t.1<g.ht s:=by
 unfold Gd.ht
 rcases Gd.kD.mp h with⟨a,b,rfl⟩|⟨a,rfl⟩|⟨a,rfl⟩<;>simp only<;>omega
theorem Gd.qu{g:Gd}{R R':dM->Int}{s:dM}(h:∀t∈g.steps s,R t.1=R' t.1):g.costs R s=g.costs R' s:=by
 unfold Gd.costs
 rw[List.map_congr_left λt ht=>by rw[h t ht]]
theorem Gd.wW{g:Gd}:∀(d:Nat) (s:dM),g.ht s<d->g.MZ d s=g.rest s
 | 0,_,h=>by omega
 |d+1,s,h=>by
  have e1:∀t∈g.steps s,g.MZ d t.1=g.rest t.1:=λt ht=>Gd.wW d t.1 (by have:=Gd.lV ht;omega)
  by_cases hd:d=g.ht s
  ·subst hd;rfl
  ·have e2:∀t∈g.steps s,g.MZ (g.ht s) t.1=g.rest t.1:=λt ht=>by
    have:=Gd.lV ht
    have hlt:g.ht s<d:=by omega
    exact Gd.wW (g.ht s) t.1 this
   show tD (g.costs (g.MZ d) s)=tD (g.costs (g.MZ (g.ht s)) s)
   rw[Gd.qu e1,Gd.qu e2]
 termination_by d=>d
theorem Gd.rest_eq(g:Gd)(s:dM):g.rest s=tD (g.costs g.rest s):=by
 show tD (g.costs (g.MZ (g.ht s)) s)=_
 rw[Gd.qu λt ht=>Gd.wW _ t.1 (Gd.lV ht)]
def Gd.Ok(g:Gd):Prop:=g.en g.n g.m=true
theorem Gd.DC{g:Gd}(ok:g.Ok){R:dM->Int}{s:dM}(hs:g.In s):g.costs R s≠[]:=by
 unfold Gd.costs Gd.steps
 obtain⟨h1,h2,_⟩:=hs
 by_cases a:s.1<g.n
 ·simp[a]
 ·by_cases b:s.2.1<g.m
  ·simp[b]
  ·have e1:s.1=g.n:=by omega
   have e2:s.2.1=g.m:=by omega
   have ok':g.en g.n g.m=true:=ok
   rw[e1,e2,ok']
   simp
def Gd.stop(g:Gd)(s:dM):Bool:=g.en s.1 s.2.1&&decide (g.rest s=0)
def Gd.key(g:Gd)(t:dM×Int):Int:=t.2+g.rest t.1
def Gd.Im(g:Gd)(s:dM):dM:=((fmin g.key (g.steps s)).map (·.1)).getD s
theorem Gd.go{g:Gd}(ok:g.Ok){s:dM}(hs:g.In s)(h:g.stop s=false):∃t,fmin g.key (g.steps s)=some t/\t∈g.steps s/\g.Im s=t.1/\g.key t=g.rest s/\∀u∈g.steps s,g.key t<=g.key u:=by
 have hm:=tw (Gd.DC ok (R:=g.rest) hs)
 rw[←g.rest_eq]at hm
 have hx:g.rest s∈(g.steps s).map g.key:=by
  rcases List.mem_append.mp hm with hm|hm
  ·exact hm
  ·exfalso
   unfold Gd.stop at h
   by_cases e:g.en s.1 s.2.1=true
   ·rw[if_pos e]at hm
    have:g.rest s=0:=by simpa using hm
    rw[e,this]at h
    simp at h
   ·rw[if_neg e]at hm
    exact nomatch hm
 obtain⟨u,hu,eu⟩:=List.mem_map.mp hx
 obtain⟨t,ht⟩:=z5 (f:=g.key) (List.ne_nil_of_mem hu)
 refine⟨t,ht,m6 ht,by unfold Gd.Im;rw[ht];rfl,?_,λv hv=>wm ht hv⟩
 have h1:=wm ht hu
 have h2:g.rest s<=g.key t:=by
  rw[g.rest_eq]
  exact wk (List.mem_append_left _ (List.mem_map.mpr ⟨t,m6 ht,rfl⟩))
 omega
def Gd.way(g:Gd):Nat->dM->List Nat
 | 0,_=>[]
 |d+1,s=>if g.stop s then []else(g.Im s).2.2::g.way d (g.Im s)
def Gd.moves(g:Gd)(s:dM):List Nat:=g.way (g.ht s) s
theorem Gd.wC{g:Gd}(ok:g.Ok):∀(d:Nat) (s:dM),g.In s->g.ht s<=d->g.way d s=g.moves s
 | 0,s,_,h=>by unfold Gd.moves;rw[Nat.le_zero.mp h]
 |d+1,s,hs,h=>by
  by_cases e:g.stop s=true
  ·unfold Gd.moves
   cases k:g.ht s with
   |zero=>simp[Gd.way,e]
   |succ k=>simp[Gd.way,e]
  ·have e':g.stop s=false:=by simpa using e
   obtain⟨t,_,ht,en,_⟩:=g.go ok hs e'
   have h1:=Gd.lV ht
   have h2:=Gd.oM ht hs
   obtain⟨k,ek⟩:∃k,g.ht s=k+1:=⟨g.ht s-1,by omega⟩
   unfold Gd.moves
   rw[ek]
   show(if g.stop s then []else(g.Im s).2.2::g.way d (g.Im s))=(if g.stop s then []else(g.Im s).2.2::g.way k (g.Im s))
   rw[en,Gd.wC ok d t.1 h2 (by omega),Gd.wC ok k t.1 h2 (by omega)]
 termination_by d=>d
theorem Gd.xC{g:Gd}{s:dM}(h:g.stop s=true):g.moves s=[]:=by
 unfold Gd.moves
 cases g.ht s with
 |zero=>rfl
 |succ k=>simp[Gd.way,h]
theorem Gd.C7{g:Gd}(ok:g.Ok){s:dM}(hs:g.In s)(h:g.stop s=false):g.moves s=(g.Im s).2.2::g.moves (g.Im s):=by
 obtain⟨t,_,ht,en,_⟩:=g.go ok hs h
 have h1:=Gd.lV ht
 have h2:=Gd.oM ht hs
 have e:g.moves s=g.way (g.ht s-1+1) s:=by unfold Gd.moves;rw[show g.ht s-1+1=g.ht s by omega]
 rw[e]
 show(if g.stop s then []else(g.Im s).2.2::g.way (g.ht s-1) (g.Im s))=_
 rw[h,en,Gd.wC ok _ t.1 h2 (by omega)]
 rfl
def Gd.walk(g:Gd):dM->List Nat->Option (Int×dM)
 |s,[]=>some (0,s)
 |s,v::vs=>match (g.steps s).find? (λt=>t.1.2.2==v)with
  |none=>none
  |some t=>(g.walk t.1 vs).map λr=>(t.2+r.1,r.2)
theorem Gd.zJ{g:Gd}{s:dM}{t:dM×Int}(h:t∈g.steps s):(g.steps s).find? (λu=>u.1.2.2==t.1.2.2)=some t:=by
 unfold Gd.steps at h ⊢
 by_cases h1:s.1<g.n<;>by_cases h2:s.2.1<g.m<;>simp[h1,h2]at h ⊢
 ·rcases h with rfl|rfl|rfl<;>simp[List.find?_cons]
 ·subst h;simp
 ·subst h;simp
theorem Gd.wD{g:Gd}(ok:g.Ok):∀(d:Nat) (s:dM),g.In s->g.ht s<=d->∃e,g.walk s (g.moves s)=some (g.rest s,e)/\g.In e/\g.en e.1 e.2.1=true
 |d,s,hs,hd=>by
  by_cases e:g.stop s=true
  ·rw[Gd.xC e]
   unfold Gd.stop at e
   rw[Bool.and_eq_true]at e
   refine⟨s,?_,hs,e.1⟩
   rw[of_decide_eq_true e.2]
   rfl
  ·have e':g.stop s=false:=by simpa using e
   obtain⟨t,_,ht,en,ek,_⟩:=g.go ok hs e'
   have h1:=Gd.lV ht
   have h2:=Gd.oM ht hs
   cases d with
   |zero=>omega
   |succ d =>
    obtain⟨f,hf,hfi,hfe⟩:=Gd.wD ok d t.1 h2 (by omega)
    refine⟨f,?_,hfi,hfe⟩
    rw[Gd.C7 ok hs e',en]
    unfold Gd.walk
    rw[Gd.zJ ht]
    show(g.walk t.1 (g.moves t.1)).map _=_
    rw[hf]
    show some (t.2+g.rest t.1,f)=_
    rw[show t.2+g.rest t.1=g.rest s from ek]
 termination_by d=>d
def placesOf(n m:Nat):List (Nat×Nat):=(List.range (n+1)).flatMap λi=>(List.range (m+1)).map λj=>(i,j)
def three(p:Nat×Nat):List dM:=[(p.1,p.2,112),(p.1,p.2,97),(p.1,p.2,98)]
def cV(ps:List (Nat×Nat)):List dM:=ps.flatMap three
theorem iJ{n m:Nat}{p:Nat×Nat}:p∈placesOf n m↔p.1<=n/\p.2<=m:=by
 unfold placesOf
 simp only[List.mem_flatMap,List.mem_range,List.mem_map]
 constructor
 ·rintro⟨i,hi,j,hj,rfl⟩
  exact⟨by show i<=n;omega,by show j<=m;omega⟩
 ·rintro⟨h1,h2⟩
  exact⟨p.1,by omega,p.2,by omega,rfl⟩
theorem jE{p:Nat×Nat}{s:dM}:s∈three p↔s.1=p.1/\s.2.1=p.2/\(s.2.2=112\/s.2.2=97\/s.2.2=98):=by
 obtain⟨a,b,c⟩:=s
 simp only[three,List.mem_cons,List.not_mem_nil,or_false,Prod.mk.injEq]
 constructor
 ·rintro(⟨h1,h2,h3⟩|⟨h1,h2,h3⟩|⟨h1,h2,h3⟩)
  ·exact⟨h1,h2,.inl h3⟩
  ·exact⟨h1,h2,.inr (.inl h3)⟩
  ·exact⟨h1,h2,.inr (.inr h3)⟩
 ·rintro⟨h1,h2,h3|h3|h3⟩
  ·exact .inl ⟨h1,h2,h3⟩
  ·exact .inr (.inl ⟨h1,h2,h3⟩)
  ·exact .inr (.inr ⟨h1,h2,h3⟩)
theorem fS{ps:List (Nat×Nat)}{s:dM}:s∈cV ps↔(s.1,s.2.1)∈ps/\(s.2.2=112\/s.2.2=97\/s.2.2=98):=by
 unfold cV
 rw[List.mem_flatMap]
 constructor
 ·rintro⟨p,hp,h⟩
  obtain⟨h1,h2,h3⟩:=jE.mp h
  rw[h1,h2]
  exact⟨hp,h3⟩
 ·rintro⟨hp,h⟩
  exact⟨_,hp,jE.mpr ⟨rfl,rfl,h⟩⟩
def Gd.states(g:Gd):List dM:=cV (placesOf g.n g.m)
theorem Gd.fS{g:Gd}{s:dM}:s∈g.states↔g.In s:=by
 unfold Gd.states Gd.In
 rw[GP.fS,iJ]
 exact⟨λ⟨⟨a,b⟩,c⟩=>⟨a,b,c⟩,λ⟨a,b,c⟩=>⟨⟨a,b⟩,c⟩⟩
theorem places_len(n m:Nat):(placesOf n m).length=(n+1)*(m+1):=by
 unfold placesOf
 have:∀l:List Nat,(l.flatMap λi=>(List.range (m+1)).map λj=>(i,j)).length=l.length*(m+1):=λl=>by
  induction l with
  |nil=>simp
  |cons a l ih=>rw[List.flatMap_cons,List.length_append,ih,List.length_map,List.length_range,List.length_cons,Nat.succ_mul,Nat.add_comm]
 rw[this,List.length_range]
theorem rP(ps:List (Nat×Nat)):(cV ps).length=3*ps.length:=by
 induction ps with
 |nil=>rfl
 |cons a l ih =>
  show(three a++cV l).length=_
  rw[List.length_append,ih,List.length_cons]
  show 3+_=_
  omega
def M3(a b:Nat×Nat):Prop:=a.1<b.1\/(a.1=b.1/\a.2<b.2)
theorem uu(n m:Nat):(placesOf n m).Pairwise M3:=by
 unfold placesOf
 refine List.pairwise_flatMap.mpr ⟨λi _=>?_,?_⟩
 ·rw[List.pairwise_map]
  exact(List.pairwise_lt_range).imp λh=>.inr ⟨rfl,h⟩
 ·refine(List.pairwise_lt_range).imp λ{a b} h=>?_
  intro x hx y hy
  obtain⟨_,_,rfl⟩:=List.mem_map.mp hx
  obtain⟨_,_,rfl⟩:=List.mem_map.mp hy
  exact .inl h
theorem AB{a:Nat×Nat}:¬M3 a a:=λh=>by rcases h with h|h<;>omega
theorem GX{ps:List (Nat×Nat)}(h:ps.Pairwise M3):(cV ps).Pairwise λa b=>¬M3 (b.1,b.2.1) (a.1,a.2.1):=by
 unfold cV
 refine List.pairwise_flatMap.mpr ⟨λp _=>?_,h.imp λ{a b} hab=>?_⟩
 ·refine List.pairwise_of_forall_mem_list λa ha b hb z=>?_
  obtain⟨a1,a2,_⟩:=jE.mp ha
  obtain⟨b1,b2,_⟩:=jE.mp hb
  rw[a1,a2,b1,b2]at z
  exact AB z
 ·intro x hx y hy z
  obtain⟨a1,a2,_⟩:=jE.mp hx
  obtain⟨b1,b2,_⟩:=jE.mp hy
  rw[a1,a2,b1,b2]at z
  unfold M3 at hab z
  simp only at z
  omega
theorem Gd.Cc{g:Gd}{s:dM}{t:dM×Int}(h:t∈g.steps s):M3 (s.1,s.2.1) (t.1.1,t.1.2.1):=by
 unfold M3
 rcases Gd.kD.mp h with⟨a,b,rfl⟩|⟨a,rfl⟩|⟨a,rfl⟩
 ·exact .inl (Nat.lt_succ_self _)
 ·exact .inl (Nat.lt_succ_self _)
 ·exact .inr ⟨rfl,Nat.lt_succ_self _⟩
theorem Gd.uY{g:Gd}{k:Nat}{s:dM}{t:dM×Int}(hk:g.states[k]? =some s)(h:t∈g.steps s):t.1∈g.states.drop (k+1):=by
 have hs:=Gd.fS.mp (List.mem_of_getElem? hk)
 have ht:=Gd.fS.mpr (Gd.oM h hs)
 have UX:=(List.getElem?_eq_some_iff.mp hk).1
 have pw:=GX (uu g.n g.m)
 have e:cV (placesOf g.n g.m)=g.states.take (k+1)++g.states.drop (k+1):=(List.take_append_drop _ _).symm
 have ht':t.1∈g.states.take (k+1)++g.states.drop (k+1):=by rw[←e];exact ht
 rcases List.mem_append.mp ht' with z|z
 ·exfalso
  rw[take_snoc hk]at z
  rcases List.mem_append.mp z with z|z
  ·have e2:cV (placesOf g.n g.m)=g.states.take k++g.states.drop k:=(List.take_append_drop _ _).symm
   rw[e2]at pw
   have hsd:s∈g.states.drop k:=by
    rw[List.drop_eq_getElem_cons UX]
    have:=(List.getElem?_eq_some_iff.mp hk).2
    rw[this]
    exact List.mem_cons_self
   exact(List.pairwise_append.mp pw).2.2 _ z _ hsd (Gd.Cc h)
  ·have z1:=Gd.Cc h
   rw[List.mem_singleton.mp z]at z1
   exact AB z1
 ·exact z
end GP
namespace L2
open PySem PySem.Spec PyProof.Rows PySem.W
theorem vq(f:Nat->Int):∀k,argBest (λi j=>decide (f i<f j)) k<=k/\∀j,j<=k->f (argBest (λi j=>decide (f i<f j)) k)<=f j
 | 0=>⟨Nat.le_refl _,λj hj=>by rw[Nat.le_zero.mp hj];exact Int.le_refl _⟩
 |k+1=>by
  obtain⟨h1,h2⟩:=vq f k
  unfold argBest
  by_cases c:f (k+1)<f (argBest (λi j=>decide (f i<f j)) k)
  ·rw[if_pos (decide_eq_true c)]
   refine⟨Nat.le_refl _,λj hj=>?_⟩
   by_cases e:j=k+1
   ·rw[e];exact Int.le_refl _
   ·have:=h2 j (by omega);omega
  ·rw[if_neg (by rw[decide_eq_false c];exact Bool.false_ne_true)]
   refine⟨by omega,λj hj=>?_⟩
   by_cases e:j=k+1
   ·rw[e];omega
   ·exact h2 j (by omega)
theorem Gn:∀{ns:List Int} {us:List Value},Vals (ns.map V.int) us->∀(i:Nat) (v:Value),us[i]? =some v->∃n t,ns[i]? =some n/\v= .int n t
 |[],_,r=>λi v e=>by cases r;simp at e
 |n::ns,_,r=>by
  cases r with
  |cons r1 r2 =>
   intro i v e
   cases i with
   |zero =>
    simp at e
    subst e
    obtain⟨t,z⟩:=r1
    exact⟨n,t,rfl,z⟩
   |succ i=>exact Gn r2 i v e
theorem Aa{X:Cx}(hc:X.calm=true):lJ X (.builtin "min") (λxs H Q=>∃(l:Addr) (ns:List Int),xs=[.ref l]/\bP X.K H l (ns.map V.int)/\ns≠[]/\Q (.int (GP.tD ns)) H):=by
 intro pins s σ H xs us Q I r h
 obtain⟨l,ns,rfl,hl,hne,q⟩:=h
 obtain⟨u,rfl,ru⟩:=vals1 r
 cases ru
 obtain⟨its,rv,p,hz⟩:=I.list hl
 have pl:s.heap.IsList l its.toArray:=p.isList
 have hlt:l<s.heap.objs.size:=by obtain⟨_,e,_⟩:=pl;exact Heap.lt_size e
 have hlen:ns.length=its.length:=by rw[←rv.length,List.length_map]
 have hpos:0<ns.length:=List.length_pos_iff.mpr hne
 refine TK.bY (Nat.le_refl s.toks) ?_
 refine call_min_walk (wpAny_pyIter_list pl ?_)
 have hval:∀(i:Nat) (v:Value),its.toArray[i]? =some v->∃t,v= .int ((ns[i]?).getD 0) t:=λi v hP=>by
  obtain⟨n,t,e,rfl⟩:=Gn rv i v (by simpa using hP)
  exact⟨t,by rw[e];rfl⟩
 refine⟨s.heap.objs.size,[s.heap.objs.size,l],[s.heap.objs.size],its.toArray.size,_,_,_,rfl,Walks.list (A:=X.A.in1) (I.ok.hd hc) _ l (Nat.ne_of_lt hlt) its.toArray,
  ⟨⟨_,Heap.get?_push_size _ rfl,rfl,rfl⟩,pl.push _⟩,λb hb=>?_,by rw[List.size_toArray];omega,CmpOf.ints_lt (λi=>(ns[i]?).getD 0) hval,λv h' tk hP hk hup=>?_⟩
 ·show b<(s.heap.push _).objs.size
  rw[Heap.size_push]
  rcases List.mem_cons.mp hb with rfl|z
  ·exact Nat.lt_succ_self _
  ·rw[List.mem_singleton.mp z]
   exact Nat.lt_succ_of_lt hlt
 ·obtain⟨t,rfl⟩:=hval _ v hP
  obtain⟨b1,b2⟩:=vq (λi=>(ns[i]?).getD 0) (its.toArray.size-1)
  have hsz:its.toArray.size=ns.length:=by rw[List.size_toArray,hlen]
  rw[hsz]at b1 b2 ⊢
  have hb:argBest (λi j=>decide ((ns[i]?).getD 0<(ns[j]?).getD 0)) (ns.length-1)<ns.length:=by omega
  have e:GP.tD ns=(ns[argBest (λi j=>decide ((ns[i]?).getD 0<(ns[j]?).getD 0)) (ns.length-1)]?).getD 0:=by
   refine GP.LZ ?_ λy hy=>?_
   ·rw[List.getElem?_eq_getElem hb]
    exact List.getElem_mem hb
   ·obtain⟨j,hj,ej⟩:=List.getElem_of_mem hy
    have z:=b2 j (by omega)
    rw[List.getElem?_eq_getElem hj,ej]at z
    exact z
  refine⟨.int (GP.tD ns),H,I.kept (t':=tk) (λb x e=>hk b x (λhm=>?_) (Heap.get?_push_of_some _ e)),⟨t,by rw[e]⟩,q⟩
  rw[List.mem_singleton.mp hm]at e
  exact Nat.lt_irrefl _ (Heap.lt_size e)
theorem kg{A:Around}{k:Nat}(hr:jT k A):A.units+2<cLine:=Nat.lt_of_le_of_lt (Nat.add_le_add_left (by decide:2<=64) _) hr.units
theorem Gr{A:Around}{k:Nat}(hr:jT k A):A.units+16<cLine:=Nat.lt_of_le_of_lt (Nat.add_le_add_left (by decide:16<=64) _) hr.units
theorem F1{k:Nat}{A:Around}(h:jT k A):A.depth<recursionLimit:=by have:=h.dp;omega
theorem xy(kvs:List NE)(k j:NK)(q:Addr)(v:V):gx (pM kvs k q v) j=if j=k then some v else gx kvs j:=by
 have ap:∀l:List NE,gx (l++[(k,q,v)]) j=(gx l j).or (if k=j then some v else none):=λl=>by
  induction l with
  |nil =>
   by_cases e:k=j
   ·rw[if_pos e];exact jo (p:=(k,q,v)) (ps:=[]) e
   ·rw[if_neg e];exact gK (p:=(k,q,v)) (ps:=[]) e
  |cons x l ih =>
   by_cases e:x.1=j
   ·rw[List.cons_append,jo e,jo e];rfl
   ·rw[List.cons_append,gK e,gK e,ih]
 have mp:∀l:List NE,gx (l.map λx=>if x.1=k then(x.1,x.2.1,v)else x) j=if j=k then(gx l k).map λ_=>v else gx l j:=λl=>by
  induction l with
  |nil=>by_cases e:j=k<;>simp[e,gx]
  |cons x l ih =>
   rw[List.map_cons]
   by_cases e:x.1=k
   ·rw[if_pos e]
    by_cases ej:x.1=j
    ·rw[jo (p:=(x.1,x.2.1,v)) ej,if_pos (ej.symm.trans e),jo e];rfl
    ·rw[gK (p:=(x.1,x.2.1,v)) ej,ih,if_neg (λz=>ej (e.trans z.symm)),if_neg (λz=>ej (e.trans z.symm)),gK ej]
   ·rw[if_neg e]
    by_cases ej:x.1=j
    ·have nj:¬j=k:=λz=>e (ej.trans z)
     rw[jo ej,if_neg nj,jo ej]
    ·rw[gK ej,ih,gK ej,gK e]
 unfold pM
 by_cases h:(gx kvs k).isSome=true
 ·rw[if_pos h,mp]
  by_cases e:j=k
  ·rw[if_pos e,if_pos e]
   obtain⟨u,hu⟩:=Option.isSome_iff_exists.mp h
   rw[hu];rfl
  ·rw[if_neg e,if_neg e]
 ·rw[if_neg h,ap]
  have hn:gx kvs k=none:=by simpa using h
  by_cases e:j=k
  ·rw[if_pos e.symm,if_pos e,e,hn];rfl
  ·rw[if_neg (Ne.symm e),if_neg e]
   cases gx kvs j<;>rfl
theorem zR{H:Hp}{kvs:List NE}{k:NK}{q:Addr}{v:V}(h:∀x∈kvs,gJ H x.2.1 x.1)(hk:gJ H q k):∀x∈pM kvs k q v,gJ H x.2.1 x.1:=by
 unfold pM
 intro x hx
 split at hx
 ·obtain⟨y,hy,e⟩:=List.mem_map.mp hx
  have z:=h y hy
  split at e
  ·rw[←e];exact z
  ·rw[←e];exact z
 ·rcases List.mem_append.mp hx with hx|hx
  ·exact h x hx
  ·rw[List.mem_singleton.mp hx];exact hk
end L2
namespace GP
open PySem L2 uc
structure Da(K:PySem.W.Frag)(mg:Str->Option Value)(x y:Str)(st:Stmt)(ps:List Str)(f:Addr)(fd:FuncData):Prop where
 fn:Le K y y st f fd
 b:Binds K fd ps []
 m:mg x=some (.ref f)
def Nt(H:Hp):Hp:=λb=>match H b with|some (.ext _)=>none|r=>r
theorem Nt.sub{H:Hp}:ai (Nt H) H:=λb u h=>by
 unfold Nt at h
 split at h
 ·cases h
 ·exact h
theorem Nt.no{H:Hp}{b:Addr}{u:HO}(h:Nt H b=some u)(φ:Heap->Prop):u≠ .ext φ:=λz=>by
 unfold Nt at h
 split at h
 ·cases h
 ·next n=>rw[z]at h;exact n φ h
theorem Nt.in{H:Hp}{b:Addr}{u:HO}(n:∀ φ,u≠ .ext φ)(h:H b=some u):Nt H b=some u:=by
 unfold Nt
 rw[h]
 split
 ·next φ e=>exact absurd (Option.some.inj e) (n φ)
 ·rfl
theorem Nt.tup{H:Hp}{b:Addr}{xs:List V}(h:H b=some (.tup xs)):Nt H b=some (.tup xs):=Nt.in (λ_ z=>by cases z) h
theorem Nt.lst{H:Hp}{b:Addr}{xs:List V}(h:H b=some (.lst xs)):Nt H b=some (.lst xs):=Nt.in (λ_ z=>by cases z) h
theorem Nt.seq{K:PySem.W.Frag}{H:Hp}{a:Addr}{xs:List V}(h:bP K H a xs):bP K (Nt H) a xs:=by
 rcases h with(h|⟨o,h⟩)|h
 ·exact .inl (.inl (Nt.lst h))
 ·exact .inl (.inr ⟨o,Nt.in (λ_ z=>by cases z) h⟩)
 ·exact .inr h
theorem Nt.RH{K:PySem.W.Frag}{H:Hp}{a:Addr}{xs:List V}(h:c7 K H a xs):c7 K (Nt H) a xs:=by
 rcases h with(h|⟨o,h⟩)|h
 ·exact .inl (.inl (Nt.tup h))
 ·exact .inl (.inr ⟨o,Nt.in (λ_ z=>by cases z) h⟩)
 ·exact .inr h
theorem Nt.row{K:PySem.W.Frag}{H:Hp}{q:Addr}{r:List cF}(h:ki K H (.tup q) r):ki K (Nt H) (.tup q) r:=by
 obtain⟨ps,a,b⟩:=h
 exact⟨ps,Nt.RH a,Paired.iS b λ_ _ z=>Nt.RH z⟩
theorem mJ.nt{K:PySem.W.Frag}{C:Addr}{H:Hp}{x:Addr}{sg:Str}{rows:List (List cF)}{fo fm:cF}(h:mJ K C H x sg rows fo fm):mJ K C (Nt H) x sg rows fo fm:=by
 obtain⟨a,b,c,d,f,g,i,dx,P,o,m,dd,kvs,h1,⟨qs,q1,q2⟩,h3,h4,h5,h6,fs,h7,h8,h9⟩:=h
 exact⟨a,b,c,d,f,g,i,dx,P,o,m,dd,kvs,Nt.in (λ_ z=>by cases z) h1,⟨qs,Nt.RH q1,Paired.iS q2 λ_ _ z=>Nt.row z⟩,Nt.RH h3,Nt.RH h4,Nt.in (λ_ z=>by cases z) h5,h6,fs,h7,h8,Nt.lst h9⟩
def rH(H:Hp):Hp:=λb=>match H b with|some (.tup xs)=>some (.tup xs)|some (.lst xs)=>some (.lst xs)|_=>none
theorem rH.tup{H:Hp}{b:Addr}{xs:List V}(h:H b=some (.tup xs)):rH H b=some (.tup xs):=by unfold rH;rw[h]
theorem rH.lst{H:Hp}{b:Addr}{xs:List V}(h:H b=some (.lst xs)):rH H b=some (.lst xs):=by unfold rH;rw[h]
theorem rH.of{H H':Hp}(h:∀b u,(∀ φ,u≠ .ext φ)->(∀C dx fs,u≠ .ins C dx fs)->H b=some u->H' b=some u):ai (rH H) H':=λb u q=>by
 unfold rH at q
 split at q
 ·next e=>cases q;exact h b _ (λ_ z=>by cases z) (λ_ _ _ z=>by cases z) e
 ·next e=>cases q;exact h b _ (λ_ z=>by cases z) (λ_ _ _ z=>by cases z) e
 ·cases q
theorem rH.dat{H H':Hp}(e:Dat H H'):ai (rH H) H':=rH.of λb u _ n q=>e b u n q
theorem gJ.da{H:Hp}{q:Addr}{k:NK}(h:gJ H q k):gJ (rH H) q k:=by
 obtain⟨p,h1,h2⟩:=h
 exact⟨p,rH.tup h1,rH.tup h2⟩
theorem gJ.same{H H':Hp}{q:Addr}{k:NK}(h:gJ H q k)(e:ai H H'):gJ H' q k:=by
 obtain⟨p,h1,h2⟩:=h
 exact⟨p,e _ _ h1,e _ _ h2⟩
theorem ND.same{P:Program}{w:World}{H H':Hp}{d:Addr}{kvs:List NE}(h:ND P w H d kvs)(e:ai H H'):ND P w H' d kvs:=⟨e _ _ h.at_,λx hx=>gJ.same (h.keys x hx) e⟩
structure Lm where
 P:Addr
 l:Pos
 q:Str
 P2:Addr
 l2:Pos
 q2:Str
structure LT(L:Lm)(H:Hp):Prop where
 a:TabOk H L.P L.l L.q
 b:TabOk H L.P2 L.l2 L.q2
 ne:L.P≠L.P2
theorem B8{H H':Hp}{P:Addr}{ln:Pos}{lq:Str}(h:TabOk H P ln lq)(e:ai H H'):TabOk H' P ln lq:=by
 rcases h with h|⟨c,h,h2⟩
 ·exact .inl (e _ _ h)
 ·exact .inr ⟨c,e _ _ h,e _ _ h2⟩
theorem LT.same{L:Lm}{H H':Hp}(h:LT L H)(e:ai H H'):LT L H':=⟨B8 h.a e,B8 h.b e,h.ne⟩
theorem wc{H:Hp}{P:Addr}{ln:Pos}{lq:Str}(h:TabOk H P ln lq):∃ φ,H P=some (.ext φ):=by
 rcases h with h|⟨_,h,_⟩<;>exact⟨_,h⟩
theorem B7{H:Hp}{P:Addr}{ln:Pos}{lq:Str}(h:TabOk H P ln lq):∃ps,H P=some (nW P ps):=by
 rcases h with h|⟨_,h,_⟩<;>exact⟨_,h⟩
theorem Ao{α:Type}{a b:α}{F:α->Prop}(h1:F a)(h2:F b):∀x∈[a,b],F x:=λx hx=>by
 rcases List.mem_cons.mp hx with rfl|hx
 ·exact h1
 ·rw[List.mem_singleton.mp hx];exact h2
structure Lo(P:Program)(w:World)(L:Lm)(H H':Hp):Prop where
 nx:ai (Nt H) H'
 nd:∀d kvs,H d=some (sF P w d kvs)->H' d=some (sF P w d kvs)
 lt:LT L H'
 dom:∀b,H' b=none->H b=none
section
variable{P:Program}{w:World}{L:Lm}{H H1 H2:Hp}
theorem Lo.of(h:LT L H)(e:ai H H1):Lo P w L H H1:=⟨λb u q=>e b u (Nt.sub b u q),λd kvs q=>e _ _ q,h.same e,λb q=>ai.free e q⟩
theorem Lo.trans(a:Lo P w L H H1)(b:Lo P w L H1 H2):Lo P w L H H2:=⟨λc u q=>b.nx c u (Nt.in (Nt.no q) (a.nx c u q)),λd kvs q=>b.nd d kvs (a.nd d kvs q),b.lt,λc q=>a.dom c (b.dom c q)⟩
theorem Lo.then(a:Lo P w L H H1)(e:ai H1 H2):Lo P w L H H2:=a.trans (.of a.lt e)
theorem ai.lo(e:ai H H1)(h:LT L H)(b:Lo P w L H1 H2):Lo P w L H H2:=(Lo.of h e).trans b
theorem Lo.one{H':Hp}(h:LT L H)(ap:Apart P w H L.P)(e:∀b u,b≠L.P->H b=some u->H' b=some u)(t:TabOk H' L.P L.l L.q):Lo P w L H H':=by
 obtain⟨φ,hφ⟩:=wc h.a
 have hne:=h.ne
 refine⟨λb u q=>e b u (λz=>?_) (Nt.sub b u q),λd kvs q=>e _ _ (ap.2 d kvs q) q,⟨t,?_,h.ne⟩,λb q=>?_⟩
 ·have q':=Nt.sub b u q
  rw[z,hφ]at q'
  exact Nt.no q φ (Option.some.inj q').symm
 ·rcases h.b with h|⟨c,h,h2⟩
  ·exact .inl (e _ _ (Ne.symm hne) h)
  ·exact .inr ⟨c,e _ _ (Ne.symm hne) h,e _ _ (ap.1 c _ h2) h2⟩
 ·cases z:H b with
  |none=>rfl
  |some u =>
   by_cases zb:b=L.P
   ·obtain⟨ψ,XE⟩:=wc t
    rw[zb,XE]at q;cases q
   ·rw[e b u zb z]at q;cases q
theorem Lo.two{H':Hp}(h:LT L H)(ap:Apart P w H L.P2)(e:∀b u,b≠L.P2->H b=some u->H' b=some u)(t:TabOk H' L.P2 L.l2 L.q2):Lo P w L H H':=by
 obtain⟨φ,hφ⟩:=wc h.b
 have hne:=h.ne
 refine⟨λb u q=>e b u (λz=>?_) (Nt.sub b u q),λd kvs q=>e _ _ (ap.2 d kvs q) q,⟨?_,t,h.ne⟩,λb q=>?_⟩
 ·have q':=Nt.sub b u q
  rw[z,hφ]at q'
  exact Nt.no q φ (Option.some.inj q').symm
 ·rcases h.a with h|⟨c,h,h2⟩
  ·exact .inl (e _ _ hne h)
  ·exact .inr ⟨c,e _ _ hne h,e _ _ (ap.1 c _ h2) h2⟩
 ·cases z:H b with
  |none=>rfl
  |some u =>
   by_cases zb:b=L.P2
   ·obtain⟨ψ,XE⟩:=wc t
    rw[zb,XE]at q;cases q
   ·rw[e b u zb z]at q;cases q
theorem Lo.da(a:Lo P w L H H1):ai (rH H) H1:=rH.of λb u n _ q=>a.nx b u (Nt.in n q)
theorem Lo.tup(a:Lo P w L H H1){b:Addr}{xs:List V}(h:H b=some (.tup xs)):H1 b=some (.tup xs):=a.nx _ _ (Nt.tup h)
theorem Lo.ZE(a:Lo P w L H H1){q:Addr}{k:NK}(h:gJ H q k):gJ H1 q k:=gJ.same (gJ.da h) a.da
theorem Lo.nk(a:Lo P w L H H1){d:Addr}{kvs:List NE}(h:ND P w H d kvs):ND P w H1 d kvs:=⟨a.nd _ _ h.at_,λx hx=>a.ZE (h.keys x hx)⟩
theorem Lo.seq{K:PySem.W.Frag}{x:Addr}{xs:List V}(a:Lo P w L H H1)(h:bP K H x xs):bP K H1 x xs:=ai.seq a.nx (Nt.seq h)
end
abbrev PT:=Str×List (List cF)×cF×cF
def uT(T:PT):Int:=cu T.2.2.1.2 T.2.2.2.2 T.2.1
def ya(K:PySem.W.Frag)(C:Addr)(H:Hp)(x:Addr)(T:PT):Prop:=mJ K C H x T.1 T.2.1 T.2.2.1 T.2.2.2
theorem ya.same{K:PySem.W.Frag}{C:Addr}{H H':Hp}{x:Addr}{T:PT}(h:ya K C H x T)(e:ai H H'):ya K C H' x T:=mJ.same e h
theorem Lo.pr{P:Program}{w:World}{L:Lm}{H H1:Hp}{K:PySem.W.Frag}{C x:Addr}{T:PT}(a:Lo P w L H H1)(h:ya K C H x T):ya K C H1 x T:=mJ.same a.nx (mJ.nt h)
def lK(T:PT)(m f s:Str):Gd:=⟨f.cps.size,s.cps.size,λi j=>Pw T.1 T.2.1 (uT T) (f.cps.toList.getD i 0) (s.cps.toList.getD j 0),jV (uT T) T.2.2.1,jV (uT T) T.2.2.2,λi j=>yJ m f s (i,j)⟩
def GK(H:Hp)(p:Addr)(q:Nat×Nat):Prop:=H p=some (.tup [.int q.1,.int q.2])
def Iq(H:Hp)(l:Addr)(qs:List (Nat×Nat)):Prop:=∃ps:List Addr,H l=some (.lst (ps.map V.ref))/\Paired (GK H) ps qs
def ee(s:dM):NK:=(s.1,s.2.1,⟨#[s.2.2]⟩)
theorem oB{s t:dM}(h:ee s=ee t):s=t:=by
 obtain⟨a,b,c⟩:=s
 obtain⟨d,e,f⟩:=t
 unfold ee at h
 simp only[Prod.mk.injEq,Str.mk.injEq]at h
 obtain⟨h1,h2,h3⟩:=h
 have h4:c=f:=by simpa using h3
 rw[show a=d by omega,show b=e by omega,h4]
def MJ(H:Hp)(p:Addr)(t:dM×Int):Prop:=∃q,H p=some (.tup [.ref q,.int t.2])/\gJ H q (ee t.1)
def Lb(H:Hp)(l:Addr)(ts:List (dM×Int)):Prop:=∃ps:List Addr,H l=some (.lst (ps.map V.ref))/\Paired (MJ H) ps ts
def GJ(H:Hp)(g:Gd)(kvs:List NE)(ss:List dM):Prop:=Paired (λe s=>e.1=ee s/\∃l,e.2.2= .ref l/\Lb H l (g.steps s)) kvs ss
theorem Iq.same{H H':Hp}{l:Addr}{qs:List (Nat×Nat)}(h:Iq H l qs)(e:ai H H'):Iq H' l qs:=by
 obtain⟨ps,a,b⟩:=h
 exact⟨ps,e _ _ a,Paired.iS b λ_ _ z=>e _ _ z⟩
theorem MJ.same{H H':Hp}{p:Addr}{t:dM×Int}(h:MJ H p t)(e:ai H H'):MJ H' p t:=by
 obtain⟨q,a,b⟩:=h
 exact⟨q,e _ _ a,gJ.same b e⟩
theorem Lb.same{H H':Hp}{l:Addr}{ts:List (dM×Int)}(h:Lb H l ts)(e:ai H H'):Lb H' l ts:=by
 obtain⟨ps,a,b⟩:=h
 exact⟨ps,e _ _ a,Paired.iS b λ_ _ z=>z.same e⟩
theorem GJ.same{H H':Hp}{g:Gd}{kvs:List NE}{ss:List dM}(h:GJ H g kvs ss)(e:ai H H'):GJ H' g kvs ss:=Paired.iS h λ_ _ ⟨a,l,b,c⟩=>⟨a,l,b,c.same e⟩
theorem Lb.da{H:Hp}{l:Addr}{ts:List (dM×Int)}(h:Lb H l ts):Lb (rH H) l ts:=by
 obtain⟨ps,a,b⟩:=h
 exact⟨ps,rH.lst a,Paired.iS b λ_ _ ⟨q,a,b⟩=>⟨q,rH.tup a,gJ.da b⟩⟩
theorem GJ.da{H:Hp}{g:Gd}{kvs:List NE}{ss:List dM}(h:GJ H g kvs ss):GJ (rH H) g kvs ss:=Paired.iS h λ_ _ ⟨a,l,b,c⟩=>⟨a,l,b,c.da⟩
theorem Iq.da{H:Hp}{l:Addr}{qs:List (Nat×Nat)}(h:Iq H l qs):Iq (rH H) l qs:=by
 obtain⟨ps,a,b⟩:=h
 exact⟨ps,rH.lst a,Paired.iS b λ_ _ z=>rH.tup z⟩
theorem ND.dat{P:Program}{w:World}{H H':Hp}{d:Addr}{kvs:List NE}(h:ND P w H d kvs)(e:Dat H H'):ND P w H' d kvs:=⟨e _ _ (λ_ _ _ z=>by cases z) h.at_,λx hx=>gJ.same (gJ.da (h.keys x hx)) (rH.dat e)⟩
theorem As{H:Hp}{g:Gd}{s:dM}:∀{kvs:List NE} {ss:List dM},GJ H g kvs ss->s∈ss->∃l,gx kvs (ee s)=some (.ref l)/\Lb H l (g.steps s)
 |_,_,.nil,h=>nomatch h
 |_,_,.cons (a:=e) (b:=t) ⟨h1,l,h2,h3⟩ r,h=>by
  by_cases z:e.1=ee s
  ·have z2:=oB (h1.symm.trans z)
   subst z2
   exact⟨l,by rw[jo z,h2],h3⟩
  ·rw[gK z]
   rcases List.mem_cons.mp h with q|q
   ·exact absurd (by rw[q];exact h1) z
   ·exact As r q
def Qv(dS lB dE:Addr):List (Str×V):=aE "ends" (.ref dE) (aE "begins" (.ref lB) (aE "steps" (.ref dS) []))
theorem oF{dS lB dE:Addr}:(Qv dS lB dE).lookup ("steps" :Str)=some (.ref dS):=by
 unfold Qv
 rw[av,if_neg (by decide +kernel),av,if_neg (by decide +kernel),av,if_pos rfl]
theorem xO{dS lB dE:Addr}:(Qv dS lB dE).lookup ("begins" :Str)=some (.ref lB):=by
 unfold Qv
 rw[av,if_neg (by decide +kernel),av,if_pos rfl]
theorem Dp{dS lB dE:Addr}:(Qv dS lB dE).lookup ("ends" :Str)=some (.ref dE):=by
 unfold Qv
 rw[av,if_pos rfl]
def Uv(kE:List (List Key×V))(g:Gd):Prop:=∀i j,i<=g.n->j<=g.m->lT kE [.inl (i:Int),.inl (j:Int)]=some (.bl (g.en i j))
def Nz(kvs:List NE)(g:Gd):Prop:=∀s,g.In s->gx kvs (ee s)=some (.int (g.rest s))
def BF(P:Program)(w:World)(C:Addr)(H:Hp)(x:Addr)(g:Gd)(bs:List (Nat×Nat)):Prop:=∃dx dS lB dE kS kE,H x=some (.ins C dx (Qv dS lB dE))/\ND P w H dS kS/\GJ H g kS g.states/\Iq H lB bs/\H dE=some (.dT kE)/\Uv kE g
theorem BF.same{P:Program}{w:World}{C:Addr}{H H':Hp}{x:Addr}{g:Gd}{bs:List (Nat×Nat)}(h:BF P w C H x g bs)(e:ai H H'):BF P w C H' x g bs:=by
 obtain⟨dx,dS,lB,dE,kS,kE,h1,h2,h3,h4,h5,h6⟩:=h
 exact⟨dx,dS,lB,dE,kS,kE,e _ _ h1,ND.same h2 e,h3.same e,h4.same e,e _ _ h5,h6⟩
theorem Lo.gr{P:Program}{w:World}{L:Lm}{C:Addr}{H H':Hp}{x:Addr}{g:Gd}{bs:List (Nat×Nat)}(e:Lo P w L H H')(h:BF P w C H x g bs):BF P w C H' x g bs:=by
 obtain⟨dx,dS,lB,dE,kS,kE,h1,h2,h3,h4,h5,h6⟩:=h
 exact⟨dx,dS,lB,dE,kS,kE,e.nx _ _ (Nt.in (λ_ z=>by cases z) h1),e.nk h2,h3.da.same e.da,h4.da.same e.da,e.nx _ _ (Nt.in (λ_ z=>by cases z) h5),h6⟩
def Bp(m:Str)(n k:Nat):List (Nat×Nat):=(placesOf n k).filter λq=>vK m (q.1,q.2)
def Gd.lF(g:Gd)(b:Nat×Nat):Int:=g.rest (b.1,b.2,112)
def MV:Sp:=λvs H Q _=>∃f s:Str,vs=[.str f,.str s]/\f.cps.size<=12/\s.cps.size<=12/\∀l H',ai H H'->H l=none->Iq H' l (placesOf f.cps.size s.cps.size)->Q (.ref l) H'
def FL(K:PySem.W.Frag)(C:Addr):Sp:=λvs H Q _=>∃(x p:Addr) (T:PT) (f s:Str) (i j c:Nat),vs=[.ref x,.str f,.str s,.ref p,.str ⟨#[c]⟩]/\ya K C H x T/\Of T.1 f/\Of T.1 s/\f.cps.size<=12/\s.cps.size<=12/\GK H p (i,j) ∧
 ∀l H',ai H H'->H l=none->(∀m,Lb H' l ((lK T m f s).steps (i,j,c)))->Q (.ref l) H'
def Jc(P:Program)(w:World)(K:PySem.W.Frag)(C:Addr):Sp:=λvs H Q _=>∃(x lp:Addr) (T:PT) (f s:Str),vs=[.ref x,.str f,.str s,.ref lp]/\ya K C H x T/\Of T.1 f/\Of T.1 s/\f.cps.size<=12/\s.cps.size<=12/\Iq H lp (placesOf f.cps.size s.cps.size) ∧
 ∀d kvs H',ai H H'->H d=none->ND P w H' d kvs->(∀m,GJ H' (lK T m f s) kvs (cV (placesOf f.cps.size s.cps.size)))->Q (.ref d) H'
def FW:Sp:=λvs H Q _=>∃(lp:Addr) (f s m:Str),vs=[.str f,.str s,.ref lp,.str m]/\f.cps.size<=12/\s.cps.size<=12/\Iq H lp (placesOf f.cps.size s.cps.size) ∧
 ∀d kvs H',ai H H'->H d=none->H' d=some (.dT kvs)->(∀T,Uv kvs (lK T m f s))->Q (.ref d) H'
def wM(P:Program)(w:World)(K:PySem.W.Frag)(C CG CS CM:Addr):Sp:=λvs H Q E=>∃(x dx pr:Addr) (T:PT) (f s m:Str),vs=[.ref x,.ref pr,.str f,.str s,.str m]/\H x=some (.ins CG dx [])/\ya K C H pr T/\f.cps.size<=20/\s.cps.size<=20 ∧
 (Of T.1 f->Of T.1 s->kc m=true->f.cps.size<=12/\s.cps.size<=12/\∀H',(∀b u,b≠x->H b=some u->H' b=some u)->BF P w CG H' x (lK T m f s) (Bp m f.cps.size s.cps.size)->Q .iP H') ∧
 (∀i j,t9 T.1 f s i j->∀dx H',ai H H'->H' dx=some (zC dx (Ba i j))->E (.ref CS) (some dx) H')/\(Of T.1 f->Of T.1 s->kc m=false->(reprText m).length<=20/\∀H',ai H H'->E (.ref CM) none H')
def IT(P:Program)(w:World)(CG:Addr):Sp:=λvs H Q _=>∃(x:Addr) (g:Gd) (bs:List (Nat×Nat)),vs=[.ref x]/\BF P w CG H x g bs/\g.Ok/\g.n<=12/\g.m<=12/\∀d kvs H',ai H H'->H d=none->ND P w H' d kvs->Nz kvs g->Q (.ref d) H'
def GR(P:Program)(w:World)(CG:Addr)(H:Hp)(x d:Addr)(g:Gd)(bs:List (Nat×Nat))(kvs:List NE):Prop:=BF P w CG H x g bs/\ND P w H d kvs/\Nz kvs g
theorem Lo.gR{P:Program}{w:World}{L:Lm}{C:Addr}{H H':Hp}{x d:Addr}{g:Gd}{bs:List (Nat×Nat)}{kvs:List NE}(e:Lo P w L H H')(h:GR P w C H x d g bs kvs):GR P w C H' x d g bs kvs:=⟨e.gr h.1,e.nk h.2.1,h.2.2⟩
theorem GR.same{P:Program}{w:World}{C:Addr}{H H':Hp}{x d:Addr}{g:Gd}{bs:List (Nat×Nat)}{kvs:List NE}(h:GR P w C H x d g bs kvs)(e:ai H H'):GR P w C H' x d g bs kvs:=⟨h.1.same e,ND.same h.2.1 e,h.2.2⟩
def FH(P:Program)(w:World)(CG:Addr):Sp:=λvs H Q _=>∃(x d q:Addr) (g:Gd) (bs:List (Nat×Nat)) (kvs:List NE) (s:dM),vs=[.ref x,.ref d,.ref q]/\GR P w CG H x d g bs kvs/\gJ H q (ee s)/\g.In s/\Q (.bl (g.stop s)) H
def Cs(P:Program)(w:World)(CG:Addr)(L:Lm):Sp:=λvs H Q _=>∃(x d:Addr) (g:Gd) (bs:List (Nat×Nat)) (kvs:List NE),vs=[.ref x,.ref d]/\GR P w CG H x d g bs kvs/\LT L H/\bs≠[]/\(∀b∈bs,b.1<=g.n/\b.2<=g.m) ∧
 ∀p b H',Lo P w L H H'->fmin g.lF bs=some b->GK H' p b->Q (.ref p) H'
def Jb(P:Program)(w:World)(CG:Addr)(L:Lm):Sp:=λvs H Q _=>∃(x d q:Addr) (g:Gd) (bs:List (Nat×Nat)) (kvs:List NE) (s:dM),vs=[.ref x,.ref d,.ref q]/\GR P w CG H x d g bs kvs/\gJ H q (ee s)/\g.In s/\g.steps s≠[]/\LT L H ∧
 ∀q' t H',Lo P w L H H'->fmin g.key (g.steps s)=some t->gJ H' q' (ee t.1)->Q (.ref q') H'
def I0(P:Program)(w:World)(CG:Addr)(L:Lm):Sp:=λvs H Q _=>∃(x d p:Addr) (g:Gd) (bs:List (Nat×Nat)) (kvs:List NE) (b:Nat×Nat),vs=[.ref x,.ref d,.ref p]/\GR P w CG H x d g bs kvs/\GK H p b/\g.In (b.1,b.2,112)/\g.Ok/\g.n<=12/\g.m<=12/\LT L H ∧
 ∀H',Lo P w L H H'->Q (.str ⟨(g.moves (b.1,b.2,112)).toArray⟩) H'
def Y3(H:Hp)(r:Addr)(T:PT)(m f s:Str):Prop:=∃b c p,fmin (lK T m f s).lF (Bp m f.cps.size s.cps.size)=some b/\H r=some (.tup [.ref c,.ref p,.str ⟨((lK T m f s).moves (b.1,b.2,112)).toArray⟩])/\TupAt H c (gH ((lK T m f s).lF b,uT T))/\GK H p b
def FZ(P:Program)(w:World)(K:PySem.W.Frag)(C CS CM:Addr)(L:Lm):Sp:=λvs H Q E=>∃(pr:Addr) (T:PT) (f s m:Str),vs=[.ref pr,.str f,.str s,.str m]/\ya K C H pr T/\LT L H/\f.cps.size<=20/\s.cps.size<=20 ∧
 (Of T.1 f->Of T.1 s->kc m=true->f.cps.size<=12/\s.cps.size<=12/\∀r H',Lo P w L H H'->H r=none->Y3 H' r T m f s->Q (.ref r) H') ∧
 (∀i j,t9 T.1 f s i j->∀dx H',ai H H'->H' dx=some (zC dx (Ba i j))->E (.ref CS) (some dx) H')/\(Of T.1 f->Of T.1 s->kc m=false->(reprText m).length<=20/\∀H',ai H H'->E (.ref CM) none H')
end GP
namespace GP
open PySem L2 uc
theorem NI{H:Hp}{l p:Addr}{o y:HO}(hp:H p=none):ai (Wo l H) (Wo l (L2.upd (L2.upd H p o) l y)):=λb u h=>by
 have n:=Wo.ne h
 have h':=Wo.sub b u h
 refine Wo.in n ?_
 rw[aq n,aq (aM h' hp)]
 exact h'
theorem sM{H H2:Hp}{l p:Addr}{o y:HO}(e:ai H H2)(hl:H l=none)(hp:H2 p=none):ai H (L2.upd (L2.upd H2 p o) l y):=ai.at (e.trans (ai.upd hp)) hl
theorem Iv{H:Hp}{l p:Addr}{o y:HO}(n:p≠l):Wo l (L2.upd (L2.upd H p o) l y) p=some o:=Wo.in n (by rw[aq n,ah])
theorem GK.same{H H':Hp}{p:Addr}{q:Nat×Nat}(h:GK H p q)(e:ai H H'):GK H' p q:=e _ _ h
theorem Pk{H:Hp}{l:Addr}{ps:List Addr}{qs:List (Nat×Nat)}(h1:H l=some (.lst (ps.map V.ref)))(h2:Paired (GK (Wo l H)) ps qs):Iq H l qs:=⟨ps,h1,Paired.iS h2 λ_ _ z=>z.same Wo.sub⟩
def rws(m i:Nat):List (Nat×Nat):=(List.range i).flatMap λi=>(List.range (m+1)).map λj=>(i,j)
theorem Cz(m i:Nat):rws m (i+1)=rws m i++(List.range (m+1)).map λj=>(i,j):=by
 unfold rws
 rw[List.range_succ (n:=i),List.flatMap_append]
 simp
theorem LC(m i:Nat):(rws m i).length=i*(m+1):=by
 induction i with
 |zero=>simp[rws]
 |succ i ih=>rw[Cz,List.length_append,ih,Nat.succ_mul,List.length_map,List.length_range]
theorem JO{a b n:Nat}(ha:a<=12)(hb:b<=12)(h:n<=3*((a+1)*(b+1))):n<sizeLine:=by
 have:(a+1)*(b+1)<=13*13:=Nat.mul_le_mul (by omega) (by omega)
 exact Nat.lt_of_le_of_lt (show n<=507 by omega) (by decide)
theorem sP:Str.ofString "p" =⟨#[112]⟩:=by kernel_rfl
theorem sA:Str.ofString "a" =⟨#[97]⟩:=by kernel_rfl
theorem sB:Str.ofString "b" =⟨#[98]⟩:=by kernel_rfl
theorem Nv{T:PT}{m f s a:Str}{v c:Nat}(h:a=⟨#[v]⟩):V.int (if a=⟨#[c]⟩then jV (cu T.2.2.1.2 T.2.2.2.2 T.2.1) T.2.2.2 else jV (cu T.2.2.1.2 T.2.2.2.2 T.2.1) T.2.2.1+jV (cu T.2.2.1.2 T.2.2.2.2 T.2.1) T.2.2.2)=V.int ((lK T m f s).ac v c):=by
 subst h
 unfold Gd.ac
 by_cases e:v=c
 ·subst e
  rw[if_pos rfl,if_pos rfl]
  rfl
 ·rw[if_neg (λz=>e (by simpa using congrArg Str.cps z)),if_neg e]
  rfl
theorem En{H3 H5:Hp}{l p q r:Addr}{xs:List V}{t:dM×Int}{a b d:V}{c:Str}{y:HO}(hl:H3 l=some (.lst xs))(hp:H3 p=none)(hq:L2.upd H3 p (.tup [a,b]) q=none)(e:ai (L2.upd (L2.upd H3 p (.tup [a,b])) q (.tup [.ref p,.str c])) H5)(hr:H5 r=none)
  (ea:a= .int (t.1.1:Int)) (eb:b= .int (t.1.2.1:Int)) (ec:c=⟨#[t.1.2.2]⟩) (ed:d= .int t.2) :
  H5 l=some (.lst xs)/\r≠l/\ai (Wo l H3) (Wo l (L2.upd (L2.upd H5 r (.tup [.ref q,d])) l y))/\MJ (Wo l (L2.upd (L2.upd H5 r (.tup [.ref q,d])) l y)) r t:=by
 subst ea eb ec ed
 have s1:=ai.upd (o:=.tup [.int (t.1.1:Int),.int (t.1.2.1:Int)]) hp
 have s2:=s1.trans (ai.upd (o:=.tup [.ref p,.str ⟨#[t.1.2.2]⟩]) hq)
 have h5:=e _ _ (s2 _ _ hl)
 have nr:r≠l:=λz=>by rw[z,h5]at hr;cases hr
 have np:p≠l:=λz=>by rw[z,hl]at hp;cases hp
 have nq:q≠l:=λz=>by rw[z,s1 _ _ hl]at hq;cases hq
 have nqp:p≠q:=λz=>by rw[←z,ah]at hq;cases hq
 have keep:∀{b o},b≠l->H5 b=some o->Wo l (L2.upd (L2.upd H5 r (.tup [.ref q,.int t.2])) l y) b=some o:=λ{b o} n h=>Wo.in n (by rw[aq n,aq (aM h hr)];exact h)
 exact⟨h5,nr,λb u h=>keep (Wo.ne h) (e _ _ (s2 _ _ (Wo.sub b u h))),q,Iv nr,p,keep nq (e _ _ ah),keep np (e _ _ (by rw[aq nqp,ah];rfl))⟩
theorem EK{α:Type}{R:α->α->Prop}{l:List α}{k:Nat}{x:α}(h:l.Pairwise R)(ir:∀a,¬R a a)(hk:l[k]? =some x):x∉l.take k:=λhm=>by
 have e:l=l.take k++l.drop k:=(List.take_append_drop k l).symm
 rw[e]at h
 have UX:=(List.getElem?_eq_some_iff.mp hk).1
 have hd:x∈l.drop k:=by
  rw[List.drop_eq_getElem_cons UX,(List.getElem?_eq_some_iff.mp hk).2]
  exact List.mem_cons_self
 exact ir x ((List.pairwise_append.mp h).2.2 x hm x hd)
def vo:List Nat:=[112,97,98]
def st3(q:Nat×Nat)(b:Nat):List dM:=(vo.take b).map λc=>(q.1,q.2,c)
theorem KA {b:Nat} {x:V} (h:[V.str (Str.ofString "p"),V.str (Str.ofString "a"),V.str (Str.ofString "b")][b]? =some x):∃c,vo[b]? =some c/\x= .str ⟨#[c]⟩:=by
 rw[sP,sA,sB]at h
 match b,h with
 | 0,h=>exact⟨112,rfl,(Option.some.inj h).symm⟩
 | 1,h=>exact⟨97,rfl,(Option.some.inj h).symm⟩
 | 2,h=>exact⟨98,rfl,(Option.some.inj h).symm⟩
 |b+3,h=>simp at h
theorem O8{ps:List (Nat×Nat)}(pw:ps.Pairwise M3){a b c:Nat}{q:Nat×Nat}(ha:ps[a]? =some q)(hb:vo[b]? =some c):(q.1,q.2,c)∉cV (ps.take a)++st3 q b:=λz=>by
 rcases List.mem_append.mp z with z|z
 ·exact EK pw (λ_=>AB) ha (fS.mp z).1
 ·obtain⟨c',hc',e⟩:=List.mem_map.mp z
  have e':c'=c:=(Prod.mk.inj (Prod.mk.inj e).2).2
  subst e'
  match b,hb with
  | 0,hb=>exact nomatch hc'
  | 1,hb=>exact absurd hc' (by rw[←Option.some.inj hb];decide)
  | 2,hb=>exact absurd hc' (by rw[←Option.some.inj hb];decide)
  |b+3,hb=>simp[vo]at hb
theorem MU{H:Hp}{g:Gd}{s:dM}:∀{kvs:List NE} {ss:List dM},GJ H g kvs ss->s∉ss->gx kvs (ee s)=none
 |_,_,.nil,_=>rfl
 |_,_,.cons ⟨h1,_⟩ r,h=>by
  rw[gK (λz=>h (by rw[oB (h1.symm.trans z)];exact List.mem_cons_self))]
  exact MU r λz=>h (List.mem_cons_of_mem _ z)
theorem IP{q:Nat×Nat}{b c:Nat}(h:vo[b]? =some c):st3 q (b+1)=st3 q b++[(q.1,q.2,c)]:=by
 unfold st3
 rw[take_snoc h,List.map_append]
 rfl
theorem Pa{ps:List (Nat×Nat)}{q:Nat×Nat}{a b:Nat}(ha:a<ps.length):(cV (ps.take a)++st3 q b).length<=3*ps.length:=by
 rw[List.length_append,rP,List.length_take]
 have:(st3 q b).length<=3:=by unfold st3;rw[List.length_map,List.length_take];exact Nat.min_le_right _ _
 omega
theorem Cd{ps:List (Nat×Nat)}{q:Nat×Nat}{a:Nat}(h:ps[a]? =some q):cV (ps.take (a+1))=cV (ps.take a)++st3 q 3:=by
 unfold cV
 rw[take_snoc h,List.flatMap_append]
 simp[three,st3,vo]
theorem Gy{α:Type}(l:List α)(d:α)(c:α->Bool):((List.range l.length).filter λi=>c (l.getD i d)).map (λi=>l.getD i d)=l.filter c:=by
 have e:(List.range l.length).map (λi=>l.getD i d)=l:=by
  refine List.ext_getElem (by simp) λi h1 h2=>?_
  simp[List.getD_eq_getElem?_getD,h2]
 rw[show l.filter c=((List.range l.length).map λi=>l.getD i d).filter c by rw[e],List.filter_map]
 rfl
theorem vd{α β γ:Type}{F:β->γ->Prop}{f:α->β}{g:α->γ}:∀{l:List α},(∀i∈l,F (f i) (g i))->Paired F (l.map f) (l.map g)
 |[],_=>.nil
 |_::_,h=>.cons (h _ List.mem_cons_self) (vd λi hi=>h i (List.mem_cons_of_mem _ hi))
theorem Kp2{r:L2.St}{a b:Option V}:Kp (none::none::r) (a::b::r):=λi v e=>by
 match i with
 | 0=>cases e
 | 1=>cases e
 |i+2=>exact e
theorem FE{H:Hp}{P l:Addr}{ln:Pos}{lq:Str}{xs:List V}{o:HO}(h:TabOk H P ln lq)(hl:H l=some (.lst xs)):TabOk (L2.upd H l o) P ln lq:=by
 have n:∀{b φ},H b=some (.ext φ)->b≠l:=λ{b φ} e z=>by rw[z,hl]at e;cases e
 rcases h with h|⟨c,h,h2⟩
 ·exact .inl (by rw[aq (n h)];exact h)
 ·exact .inr ⟨c,by rw[aq (n h)];exact h,by rw[aq (n h2)];exact h2⟩
theorem LT.put{L:Lm}{H:Hp}{l:Addr}{xs:List V}{o:HO}(h:LT L H)(hl:H l=some (.lst xs)):LT L (L2.upd H l o):=⟨FE h.a hl,FE h.b hl,h.ne⟩
theorem Lo.put{P:Program}{w:World}{L:Lm}{H H1:Hp}{l:Addr}{xs:List V}{o:HO}(a:Lo P w L H H1)(hn:H l=none)(hl:H1 l=some (.lst xs)):Lo P w L H (L2.upd H1 l o):=by
 refine⟨λb u q=>?_,λd kvs q=>?_,a.lt.put hl,λb q=>?_⟩
 ·rw[aq (aM (Nt.sub b u q) hn)];exact a.nx b u q
 ·rw[aq (aM q hn)];exact a.nd d kvs q
 ·by_cases z:b=l
  ·rw[z];exact hn
  ·rw[aq z]at q;exact a.dom b q
theorem Mh{H:Hp}{l q:Addr}{k:NK}{xs:List V}{o:HO}(h:gJ H q k)(hl:H l=some (.lst xs)):gJ (L2.upd H l o) q k:=by
 have n:∀{b ys},H b=some (.tup ys)->b≠l:=λ{b ys} e z=>by rw[z,hl]at e;cases e
 obtain⟨p,h1,h2⟩:=h
 exact⟨p,by rw[aq (n h1)];exact h1,by rw[aq (n h2)];exact h2⟩
theorem E7(T:PT)(m f s:Str):(lK T m f s).Ok:=by
 show yJ m f s ((f.cps.size:Int),(s.cps.size:Int))=true
 unfold yJ
 split
 ·simp
 ·split<;>simp
theorem MH(m:Str)(n k:Nat):Bp m n k≠[]:=by
 have h:((0:Nat),(0:Nat))∈Bp m n k:=by
  refine List.mem_filter.mpr ⟨iJ.mpr ⟨Nat.zero_le _,Nat.zero_le _⟩,?_⟩
  show vK m (((0:Nat):Int),((0:Nat):Int))=true
  unfold vK
  split
  ·simp
  ·split
   ·simp
   ·split<;>simp
 exact List.ne_nil_of_mem h
end GP
namespace GP
open PySem L2 uc
theorem RI{c:Int}(h1: -(10 ^ 39)-4<=c)(h2:c<=10 ^ 39):Sm c:=xV (by omega) (by omega)
def FT(K:PySem.W.Frag):Sp:=λvs H Q _=>∃(s t:Addr) (ns:List Int) (k:Int),vs=[.ref s,.ref t]/\wz K H s t ns k/\k<=100000/\∀c:Int,-(10 ^ 39)<=c->c<=10 ^ 39->Q (.int c) (L2.upd H t (.lst [.int (k+1)]))
def Cj(K:PySem.W.Frag):Sp:=λvs H Q _=>∃(s t:Addr) (ns:List Int) (k:Int) (n:Nat),vs=[.ref s,.ref t,.int n]/\wz K H s t ns k/\k<=100000/\1<=n/\n<=6 ∧
 ∀x H',Aj x->x.cps.size=n->ai (L2.upd H t (.lst [.int (k+1)])) H'->Q (.str x) H'
def QL(f:cF):Prop:=1<=f.2/\f.2<=999/\ -(10 ^ 39)<=f.1/\f.1<=10 ^ 39
theorem QL.l{f:cF}(h:QL f):Ld f:=⟨h.1,h.2.1,RI (by have:=h.2.2.1;omega) h.2.2.2⟩
def Ck(K:PySem.W.Frag):Sp:=λvs H Q _=>∃(s t:Addr) (ns:List Int) (k c:Int),vs=[.ref s,.ref t,.int c]/\wz K H s t ns k/\k<=90000 ∧
 ∀(f:cF) (q:Addr) (H':Hp) (k':Int),QL f->ai (Wo t H) (Wo t H')->H' t=some (.lst [.int k'])->k<=k'->k'<=k+2->H q=none->H' q=some (.tup [.int f.1,.int f.2])->Q (.ref q) H'
def FJ(K:PySem.W.Frag):Sp:=λvs H Q _=>∃(s t:Addr) (ns:List Int) (k:Int) (n:Nat),vs=[.ref s,.ref t,.int n]/\wz K H s t ns k/\k<=80000/\1<=n/\n<=6 ∧
 ∀(r l o m:Addr) (rs:List Addr) (rows:List (List cF)) (fo fm:cF) (sg:Str) (H':Hp) (k':Int),Aj sg->sg.cps.size=n->H' r=some (.tup [.str sg,.ref l,.ref o,.ref m])->tU K (Wo t H') l rs rows->Lc n rows->(∀r∈rows,∀f∈r,Ld f)->TupAt (Wo t H') o fo->Ld fo->TupAt (Wo t H') m fm->Ld fm →
  ai (Wo t H) (Wo t H')->H' t=some (.lst [.int k'])->k<=k'->k'<=k+200->Q (.ref r) H'
def zL(K:PySem.W.Frag)(C:Addr):Sp:=λvs H Q _=>∃(s t:Addr) (ns:List Int) (k:Int),vs=[.ref s,.ref t]/\wz K H s t ns k/\k<=70000 ∧
 ∀x H' k' T,ya K C (Wo t H') x T->T.1.cps.size<=4->H x=none->ai (Wo t H) (Wo t H')->H' t=some (.lst [.int k'])->k<=k'->k'<=k+300->Q (.ref x) H'
def IS(K:PySem.W.Frag):Sp:=λvs H Q _=>∃(s t:Addr) (ns:List Int) (k:Int) (n:Nat) (sg:Str),vs=[.ref s,.ref t,.str sg,.int n]/\wz K H s t ns k/\k<=80000/\n<=12/\0<sg.cps.size/\sg.cps.size<=100 ∧
 ∀f H' k',Of sg f->f.cps.size<=n->ai (Wo t H) (Wo t H')->H' t=some (.lst [.int k'])->k<=k'->k'<=k+20->Q (.str f) H'
def Cn:Sp:=λvs H Q _=>∃m:Int,vs=[.int m]/\0<=m/\∀x H',kc x=true->ai H H'->Q (.str x) H'
def KY(v u:V):Prop:=(∃s,v= .str s/\u= .str s)\/∃n,v= .int n/\u= .int n
def D0(K:PySem.W.Frag)(H:Hp):Nat->V->V->Prop
 | 0,v,u=>KY v u
 |d+1,v,u=>KY v u\/∃p q xs ys,v= .ref p/\u= .ref q/\c7 K H p xs/\c7 K H q ys/\xs.length=ys.length/\xs.length<=100/\∀(i:Nat) x y,xs[i]? =some x->ys[i]? =some y->D0 K H d x y
theorem D0.same{K:PySem.W.Frag}{H H':Hp}(e:ai H H'):∀{d:Nat} {v u:V},D0 K H d v u->D0 K H' d v u
 | 0,_,_,h=>h
 |d+1,_,_,h=>h.imp id λ⟨p,q,xs,ys,h1,h2,h3,h4,h5,h6,h7⟩=>⟨p,q,xs,ys,h1,h2,ai.tup e h3,ai.tup e h4,h5,h6,λi x y hx hy=>D0.same e (h7 i x y hx hy)⟩
theorem D0.flat{K:PySem.W.Frag}{H:Hp}{d:Nat}{v u:V}(h:KY v u):D0 K H d v u:=by
 cases d with
 |zero=>exact h
 |succ d=>exact .inl h
theorem D0.int{K:PySem.W.Frag}{H:Hp}{d:Nat}{n:Int}:D0 K H d (.int n) (.int n):=.flat (.inr ⟨_,rfl,rfl⟩)
theorem D0.str{K:PySem.W.Frag}{H:Hp}{d:Nat}{n:Str}:D0 K H d (.str n) (.str n):=.flat (.inl ⟨_,rfl,rfl⟩)
theorem D0.of{K:PySem.W.Frag}{H:Hp}{p q:Addr}{xs ys:List V}{d:Nat}(hp:c7 K H p xs)(hq:c7 K H q ys)(hl:xs.length<=100)(h:Paired (D0 K H d) xs ys):D0 K H (d+1) (.ref p) (.ref q) :=
 .inr ⟨p,q,xs,ys,rfl,rfl,hp,hq,Paired.len h,hl,λi x y hx hy=>by
  obtain⟨y',hy',z⟩:=GP.Paired.at h hx
  rw[hy]at hy'
  cases hy'
  exact z⟩
def we(K:PySem.W.Frag)(d:Nat):Sp:=λvs H Q _=>∃v u:V,vs=[v,u]/\D0 K H d v u/\∀H',ai H H'->Q (.bl true) H'
theorem nR{α:Type}{l:List α}{i:Nat}{d x:α}(h:l[i]? =some x):l.getD i d=x:=by
 rw[List.getD_eq_getElem?_getD,h];rfl
theorem Lp{a tv:Int}{i j:Nat}(ht:tv=1\/tv=3\/tv=5\/tv=7\/tv=9\/tv=11)(hij:i<j)(hj:j<6):((a+(i:Int)*tv) % 92).toNat≠((a+(j:Int)*tv) % 92).toNat:=by
 rcases ht with rfl|rfl|rfl|rfl|rfl|rfl<;>omega
theorem EM{L:List Nat}{p:Nat->Nat}(hL:L.Nodup)(n:Nat)(hp:∀i,i<n->p i<L.length)(hne:∀i j,i<j->j<n->p i≠p j):((List.range n).map λi=>L.getD (p i) 0).Nodup:=by
 rw[List.Nodup,List.pairwise_map]
 refine List.Pairwise.imp_of_mem ?_ (List.pairwise_lt_range (n:=n))
 intro i j hi hj hij z
 have h1:=hp i (List.mem_range.mp hi)
 have h2:=hp j (List.mem_range.mp hj)
 rw[nR (List.getElem?_eq_getElem h1),nR (List.getElem?_eq_getElem h2)]at z
 exact hne i j hij (List.mem_range.mp hj) ((List.getElem_inj hL).mp z)
def JS:List Nat->Bool
 |a::b::r=>decide (a<b)&&JS (b::r)
 |_=>true
theorem A4:∀{a:Nat} {l:List Nat},JS (a::l)=true->(∀c∈l,a<c)/\JS l=true
 |a,[],_=>⟨λc hc=>(nomatch hc),rfl⟩
 |a,b::r,h=>by
  have h':(decide (a<b)&&JS (b::r))=true:=h
  rw[Bool.and_eq_true]at h'
  have h1:=of_decide_eq_true h'.1
  refine⟨λc hc=>?_,h'.2⟩
  rcases List.mem_cons.mp hc with rfl|hc
  ·exact h1
  ·exact Nat.lt_trans h1 ((A4 h'.2).1 c hc)
theorem xM:∀{l:List Nat},JS l=true->l.Nodup
 |[],_=>List.nodup_nil
 |a::l,h=>List.nodup_cons.mpr ⟨λz=>Nat.lt_irrefl _ ((A4 h).1 a z),xM (A4 h).2⟩
def KZ(rows:List (List cF))(k:Nat):Prop:=∀a b f,Lf rows a b f->Ld f/\(a=b->k<=a->QL f)
theorem GG{rows:List (List cF)}{a c i j:Nat}{row:List cF}{f g:cF}(hr:rows[a]? =some row)(h:Lf (rows.set a (row.set c f)) i j g):(i=a/\j=c/\g=f)\/Lf rows i j g:=by
 obtain⟨r,h1,h2⟩:=h
 rw[List.getElem?_set]at h1
 by_cases e:a=i
 ·subst e
  rw[if_pos rfl,if_pos (List.getElem?_eq_some_iff.mp hr).1]at h1
  cases h1
  rw[List.getElem?_set]at h2
  by_cases e2:c=j
  ·subst e2
   rw[if_pos rfl]at h2
   split at h2
   ·exact .inl ⟨rfl,rfl,(Option.some.inj h2).symm⟩
   ·cases h2
  ·rw[if_neg e2]at h2
   exact .inr ⟨row,hr,h2⟩
 ·rw[if_neg e]at h1
  exact .inr ⟨r,h1,h2⟩
def yc(K:PySem.W.Frag)(H:Hp)(t l:Addr)(n j:Nat)(k:Int)(H2:Hp):Prop:=∃rs rows,tU K (Wo t H2) l rs rows/\Lc n rows/\KZ rows j/\(∀r∈rs,H r=none)/\ai (Wo t H) (Wo t H2)/\H2 t=some (.lst [.int k])
theorem Kv{rows:List (List cF)}{k:Nat}(h:KZ rows k):∀r∈rows,∀f∈r,Ld f:=λr hr f hf=>by
 obtain⟨i,hi,e⟩:=List.getElem_of_mem hr
 obtain⟨j,hj,e'⟩:=List.getElem_of_mem hf
 exact(h i j f ⟨r,List.getElem?_eq_some_iff.mpr ⟨hi,e⟩,List.getElem?_eq_some_iff.mpr ⟨hj,e'⟩⟩).1
theorem E2{xs:List V}{j:Nat}(h:j<xs.length):Ml xs.length (j:Int)=some j:=by
 unfold Ml
 rw[if_pos (by omega),if_pos (by omega)]
 simp
def MY(K:PySem.W.Frag)(C:Addr):Sp:=λvs H Q _=>∃(x:Addr) (T:PT) (b:Bool),vs=[.ref x,.bl b]/\ya K C H x T/\Q (.int (if b=true then jV (uT T) T.2.2.2 else jV (uT T) T.2.2.1+jV (uT T) T.2.2.2)) H
def FP:Sp:=λvs H Q _=>∃(m:Str) (i j:Int),vs=[.str m,.int i,.int j]/\kc m=true/\Q (.bl (vK m (i,j))) H
def FO:Sp:=λvs H Q _=>∃(m f s:Str) (i j:Int),vs=[.str m,.str f,.str s,.int i,.int j]/\kc m=true/\f.cps.size<=20/\s.cps.size<=20/\Q (.bl (yJ m f s (i,j))) H
theorem Gd.qD(g:Gd)(s:dM)(v:Nat)(vs:List Nat):g.walk s (v::vs)=((g.steps s).find? λt=>t.1.2.2==v).bind λt=>(g.walk t.1 vs).map λr=>(t.2+r.1,r.2):=by
 rw[Gd.walk]
 cases (g.steps s).find? λt=>t.1.2.2==v<;>rfl
theorem Gd.B0{g:Gd}:∀(a b:List Nat) (s:dM),g.walk s (a++b)=(g.walk s a).bind λr=>(g.walk r.2 b).map λq=>(r.1+q.1,q.2)
 |[],b,s=>by
  show g.walk s b=(g.walk s b).map _
  cases g.walk s b with
  |none=>rfl
  |some r=>simp
 |v::a,b,s=>by
  rw[List.cons_append,Gd.qD,Gd.qD]
  cases (g.steps s).find? (λt=>t.1.2.2==v)with
  |none=>rfl
  |some t =>
   show(g.walk t.1 (a++b)).map _=((g.walk t.1 a).map _).bind _
   rw[Gd.B0 a b t.1]
   cases g.walk t.1 a with
   |none=>rfl
   |some r =>
    show((g.walk r.2 b).map _).map _=(g.walk r.2 b).map _
    cases g.walk r.2 b with
    |none=>rfl
    |some q=>simp[Int.add_assoc]
theorem Gd.Iw{g:Gd}{s:dM}{t:dM×Int}(h:t∈g.steps s):g.walk s [t.1.2.2]=some (t.2,t.1):=by
 rw[Gd.qD,Gd.zJ h]
 show some (t.2+0,t.1)=_
 rw[Int.add_zero]
theorem Gd.GU{g:Gd}{s e:dM}{a:List Nat}{c:Int}{t:dM×Int}(h:g.walk s a=some (c,e))(ht:t∈g.steps e):g.walk s (a++[t.1.2.2])=some (c+t.2,t.1):=by
 rw[Gd.B0,h]
 show(g.walk e [t.1.2.2]).map _=_
 rw[Gd.Iw ht]
 rfl
theorem Qd{m:Str}(h:kc m=true):m=Str.ofString "whole" \/m=Str.ofString "within" \/m=Str.ofString "over" \/m=Str.ofString "stretch" :=by
 by_cases h1:m=Str.ofString "whole"
 ·exact .inl h1
 ·by_cases h2:m=Str.ofString "within"
  ·exact .inr (.inl h2)
  ·by_cases h3:m=Str.ofString "over"
   ·exact .inr (.inr (.inl h3))
   ·exact .inr (.inr (.inr (yL h h1 h2 h3)))
theorem Dh{a b:Str}{A B:Prop}(h1:a=b->A)(h2:¬a=b->B):if(decide (V.str a=V.str b))=true then A else B:=by
 by_cases h:a=b
 ·rw[if_pos (decide_eq_true (by rw[h]))];exact h1 h
 ·rw[if_neg (by rw[decide_eq_false (λz=>h (V.str.inj z))];exact Bool.false_ne_true)];exact h2 h
theorem DB{i j:Int}:decide (V.int i=V.int j)=decide (i=j):=by
 by_cases h:i=j
 ·rw[h,decide_eq_true rfl,decide_eq_true rfl]
 ·rw[decide_eq_false h,decide_eq_false (λz=>h (V.int.inj z))]
theorem ZF{p:Prop}[Decidable p]{A B:Prop}(h:p)(x:A):if(decide p)=true then A else B:=cE (λ_=>x) λz=>absurd h z
theorem Xx{p:Prop}[Decidable p]{A B:Prop}(h:¬p)(x:B):if(decide p)=true then A else B:=cE (λz=>absurd z h) λ_=>x
end GP
namespace L2
open PySem PySem.Spec PyProof.Rows
theorem qw{X:Cx}{K':PySem.W.Frag}(hK:X.K=K'):lJ X (.builtin "isinstance") (λxs H Q=>∃ea C od c cv b,xs=[.ref ea,c]/\((∃D,c= .ref D/\cv= .ref D)\/∃T,c= .ty T/\cv= .type T)/\H ea=some (K9 ea (.ref C) od)/\(od=none\/∃dx fs,od=some dx/\H dx=some (zC dx fs))/\Nx K' C/\PySem.W.kitOne K' (.ref C) cv=some b/\Q (.bl b) H):=by subst hK;exact yR
theorem CK{X:Cx}{K':PySem.W.Frag}{e:Expr}{f:Str}{pos:Pos}{ta:TE}(hK:X.K=K')(he:PE X e ta)(hb:attributeBase e f X.env (eval e X.env)=eval e X.env):PE X (.Attribute e f pos) (MT K' ta f):=by subst hK;exact LO he hb
theorem LN{X:Cx}{K':PySem.W.Frag}{e:Expr}{f:Str}{pos:Pos}{ta:TE}(hK:X.K=K')(he:PE X e ta)(hb:attributeBase e f X.env (eval e X.env)=eval e X.env):PE X (.Attribute e f pos) (Rz K' ta f):=by subst hK;exact cH he hb
end L2
namespace GP
open PySem L2 uc
def uB:List Nat:=[113,120,81,88,48,55,43,126,32]
theorem LS:(Str.ofString "qxQX07+~ ").cps.toList=uB:=by kernel_rfl
def ve(sg:Str):List Nat:=uB.filter λc=>!decide (c∈sg.cps.toList)
theorem LU{sg:Str}(h:sg.cps.size<=4):5<=(ve sg).length:=by
 have nd:(uB.filter λc=>decide (c∈sg.cps.toList)).Nodup:=List.Pairwise.filter _ (show uB.Nodup by decide)
 have z:=zS nd λc hc=>of_decide_eq_true (List.mem_filter.mp hc).2
 have e:=List.length_eq_countP_add_countP (λc=>decide (c∈sg.cps.toList)) (l:=uB)
 rw[List.countP_eq_length_filter,List.countP_eq_length_filter]at e
 have e9:uB.length=9:=rfl
 have z2:sg.cps.toList.length<=4:=by rw[Array.length_toList];exact h
 have e2:(ve sg).length=(uB.filter λa=>decide (¬decide (a∈sg.cps.toList)=true)).length:=by
  unfold ve
  congr 1
  refine List.filter_congr λc _=>?_
  by_cases q:c∈sg.cps.toList<;>simp[q]
 omega
theorem PC{sg:Str}{c:Nat}(h:c∈ve sg):c∉sg.cps.toList:=by
 have:=(List.mem_filter.mp h).2
 simpa using this
def Au(K:PySem.W.Frag)(L:Lm):Sp:=λvs H Q _=>∃(a:Addr) (ns:List Int),vs=[.ref a]/\bP K H a (ns.map V.int)/\ns.length<=63/\LT L H/\∀H',LT L H'->Q (.bl true) H'
theorem Lo.wo{P:Program}{w:World}{L:Lm}{H H':Hp}{t:Addr}{xs:List V}(a:Lo P w L (Wo t H) H')(ht:H' t=some (.lst xs)):Lo P w L (Wo t H) (Wo t H'):=by
 have nt:∀{b u},Wo t H b=some u->b≠t:=λ{b u} h=>Wo.ne h
 have tb:∀{Q ln lq},TabOk H' Q ln lq->TabOk (Wo t H') Q ln lq:=λ{Q ln lq} h=>by
  have n:∀{b φ},H' b=some (.ext φ)->b≠t:=λ{b φ} e z=>by rw[z,ht]at e;cases e
  rcases h with h|⟨c,h,h2⟩
  ·exact .inl (Wo.in (n h) h)
  ·exact .inr ⟨c,Wo.in (n h) h,Wo.in (n h2) h2⟩
 refine⟨λb u q=>Wo.in (nt (Nt.sub b u q)) (a.nx b u q),λd kvs q=>Wo.in (nt q) (a.nd d kvs q),⟨tb a.lt.a,tb a.lt.b,a.lt.ne⟩,λb q=>?_⟩
 by_cases z:b=t
 ·rw[z];unfold Wo;rw[if_pos rfl]
 ·refine a.dom b ?_
  unfold Wo at q
  rw[if_neg z]at q
  exact q
theorem LT.wo{L:Lm}{H:Hp}{t:Addr}{xs:List V}(h:LT L H)(ht:H t=some (.lst xs)):LT L (Wo t H):=by
 have n:∀{b φ},H b=some (.ext φ)->b≠t:=λ{b φ} e z=>by rw[z,ht]at e;cases e
 have tb:∀{Q ln lq},TabOk H Q ln lq->TabOk (Wo t H) Q ln lq:=λ{Q ln lq} h=>by
  rcases h with h|⟨c,h,h2⟩
  ·exact .inl (Wo.in (n h) h)
  ·exact .inr ⟨c,Wo.in (n h) h,Wo.in (n h2) h2⟩
 exact⟨tb h.a,tb h.b,h.ne⟩
theorem Lo.ctr{P:Program}{w:World}{L:Lm}{K:PySem.W.Frag}{H H':Hp}{s t:Addr}{ns:List Int}{k k':Int}(a:Lo P w L (Wo t H) H')(c:wz K H s t ns k)(ht:H' t=some (.lst [.int k']))(h0:0<=k'):wz K H' s t ns k':=⟨(a.wo ht).seq c.sq,c.len,ht,h0⟩
theorem Lo.cut{P:Program}{w:World}{L:Lm}{H H1:Hp}{t:Addr}{xs:List V}(a:Lo P w L H H1)(h:LT L H)(ht:H t=some (.lst xs)):Lo P w L (Wo t H) H1:=(Lo.of (h.wo ht) Wo.sub).trans a
theorem LT.step{L:Lm}{H H':Hp}{t:Addr}{xs:List V}(h:LT L H)(ht:H t=some (.lst xs))(e:ai (Wo t H) (Wo t H')):LT L H':=((h.wo ht).same e).same Wo.sub
end GP
namespace L2
open PySem PySem.Spec PyProof.Rows PySem.W
section
variable{X:Cx}{pins:List (Addr×Obj)}{σ:St}{H:Hp}{s:Shared}{a q:Addr}{k:NK}{kvs:List NE}{v:V}{r:Value}{A:Around}{E:Value->Shared->Prop}
theorem PN{Q:Value->Shared->Prop}(hu:A.units+2<cLine)(I:Inv X pins σ H s)(d:ND X.prog X.w H a kvs)(hk:gJ H q k)(h:∀w' s',Inv X pins σ H s'->RelV ((gx kvs k).getD .iP) w'->Q w' s'):
  wpAny (model X.prog X.w) A (call (.builtin "dict.get") [.ref a,.ref q]) Q E s:=by
 obtain⟨z,hd,xs,rel,dd⟩:=d.raw I.hok
 refine call_meetsIn PySem.F.slot_dict_get dd.typeIs PySem.F.entry_dict_get (PySem.F.args_dict_get_2 _ _) (meetsH_dict_get (gM X.prog X.w) a q hd) ⟨show A.in1.units+1<cLine from hu,k,xs,k_of I.hok hk,dd,h _ _ (I.tok _) ?_⟩
 exact(rel.val k).getD rfl
theorem PM{Q:Value->Shared->Prop}(hu:A.units+2<cLine)(I:Inv X pins σ H s)(d:ND X.prog X.w H a kvs)(hk:gJ H q k)(rv:RelV v r)(h:∀w' s',Inv X pins σ H s'->RelV ((gx kvs k).getD v) w'->Q w' s'):
  wpAny (model X.prog X.w) A (call (.builtin "dict.get") [.ref a,.ref q,r]) Q E s:=by
 obtain⟨z,hd,xs,rel,dd⟩:=d.raw I.hok
 refine call_meetsIn PySem.F.slot_dict_get dd.typeIs PySem.F.entry_dict_get (PySem.F.args_dict_get_3 _ _ _) (meetsH_dict_get_default (gM X.prog X.w) a q hd r) ⟨show A.in1.units+1<cLine from hu,k,xs,k_of I.hok hk,dd,h _ _ (I.tok _) ?_⟩
 exact(rel.val k).getD rv
theorem CZ(I:Inv X pins σ H s)(d:ND X.prog X.w H a kvs):∀b,Value.ref a= .ref b->∃ob,s.heap.get? b=some ob/\ob.dict=none:=λb e=>by
 cases e
 obtain⟨_,_,_,_,o,es,ep,ho,hc,_⟩:=(I.hok a _ d.at_).1
 exact⟨o,ho,hc.2.1⟩
end
def O4(P:Program)(w:World)(td ty:TE):TE:=λσ H Q=>td σ H λx H1=>∃a kvs,x= .ref a/\ND P w H1 a kvs/\ty σ H1 λy H2=>∃kvs k q,y= .ref q/\ND P w H2 a kvs/\gJ H2 q k/\Q ((gx kvs k).getD .iP) H2
def O3(P:Program)(w:World)(td ty tx:TE):TE:=λσ H Q=>td σ H λx H1=>∃a kvs,x= .ref a/\ND P w H1 a kvs/\ty σ H1 λy H2=>tx σ H2 λz H3=>∃kvs k q,y= .ref q/\ND P w H3 a kvs/\gJ H3 q k/\Q ((gx kvs k).getD z) H3
structure NR(P:Program)(w:World)(H:Hp)(a:Addr)(kvs:List NE):Prop where
 at_:Rd H a (sF P w a kvs)
 keys:∀x∈kvs,gJ H x.2.1 x.1
theorem NR.raw{P:Program}{w:World}{H:Hp}{h:Heap}{a:Addr}{kvs:List NE}(d:NR P w H a kvs)(ok:lS P w H h):kvs.length<=sizeLine/\(a==sysModules)=false/\∃xs,KN kvs xs/\h.DictOfH (gM P w) a xs:=by
 obtain⟨z,lo,xs,r,o,es,ep,ho,h2,h3,h4,h5⟩:=(d.at_.ok ok).1
 refine⟨z,lo,xs,r,o,es,ep,ho,h2,h3,h4,λx hx=>?_,h5⟩
 have all:∀{l:List NE} {m:List (NK×Addr×Value)},KN l m->(∀x∈l,gJ H x.2.1 x.1)->∀x∈m,(gM P w).is h x.1 x.2.1:=by
  intro l m q
  induction q with
  |nil=>intro _ x hx;exact nomatch hx
  | @cons p q ps qs hq t ih =>
   intro hk x hx
   rcases List.mem_cons.mp hx with e|hx
   ·subst e
    rw[←hq.1,←hq.2.1]
    exact k_of ok (hk p List.mem_cons_self)
   ·exact ih (λy hy=>hk y (List.mem_cons_of_mem _ hy)) x hx
 exact all r d.keys x hx
def O2(P:Program)(w:World)(td ty:TE):TE:=λσ H Q=>td σ H λx H1=>ty σ H1 λy H2=>∃a kvs k q v,x= .ref a/\y= .ref q/\NR P w H2 a kvs/\gJ H2 q k/\gx kvs k=some v/\Q v H2
section
variable{X:Cx}{o e f i:Expr}{apos cpos pos:Pos}{td ty tx:TE}{Pr:Program}{wo:World}
theorem Jq (hu:X.A.units+2<cLine) (ho:PE X o td) (he:PE X e ty) (m:M1 X o "get" apos e cpos) (hP:X.prog=Pr) (hw:X.w=wo):PE X (.Call (.Attribute o "get" apos) [e] [] cpos) (O4 Pr wo td ty):=by
 subst hP hw
 intro pins s σ H Q I h
 refine wpAny_Call_method m.base m.few m.line PySem.F.plainAttrs_dict PySem.F.slot_dict_get PySem.F.type_dict_get (dI (ho pins s σ H _ I h) λu s1 ⟨x,H1,I1,rx,a,kvs,ex,d,q1⟩=>?_)
 subst ex
 obtain rfl:u=Value.ref a:=rx
 refine⟨xB I1 d,CZ I1 d,?_⟩
 rw[m.trees]
 refine Calls.callWith_builtin rfl (Calls.evalArgs_plain (Calls.spliced_cons (dI (he pins s1 σ H1 _ I1 q1) λiv s2 ⟨y,H2,I2,ry,kvs,k,q,ey,d2,hk,q2⟩=>Calls.spliced_nil ?_)))
 subst ey
 obtain rfl:iv=Value.ref q:=ry
 exact PN hu I2 d2 hk λw' s3 I3 rw'=>⟨_,H2,I3,rw',q2⟩
theorem Jp (hu:X.A.units+2<cLine) (ho:PE X o td) (he:PE X e ty) (hf:PE X f tx) (m:M2 X o "get" apos e f cpos) (hP:X.prog=Pr) (hw:X.w=wo):PE X (.Call (.Attribute o "get" apos) [e,f] [] cpos) (O3 Pr wo td ty tx):=by
 subst hP hw
 intro pins s σ H Q I h
 refine wpAny_Call_method m.base m.few m.line PySem.F.plainAttrs_dict PySem.F.slot_dict_get PySem.F.type_dict_get (dI (ho pins s σ H _ I h) λu s1 ⟨x,H1,I1,rx,a,kvs,ex,d,q1⟩=>?_)
 subst ex
 obtain rfl:u=Value.ref a:=rx
 refine⟨xB I1 d,CZ I1 d,?_⟩
 rw[m.trees]
 refine Calls.callWith_builtin rfl (Calls.evalArgs_plain (Calls.spliced_cons (dI (he pins s1 σ H1 _ I1 q1) λiv s2 ⟨y,H2,I2,ry,q2⟩ =>
  Calls.spliced_cons (dI (hf pins s2 σ H2 _ I2 q2) λfv s3 ⟨z,H3,I3,rz,kvs,k,q,ey,d2,hk,q3⟩=>Calls.spliced_nil ?_))))
 subst ey
 obtain rfl:iv=Value.ref q:=ry
 exact PM hu I3 d2 hk rz λw' s4 I4 rw'=>⟨_,H3,I4,rw',q3⟩
theorem Jo(hu:X.A.units+2<cLine)(ho:PE X o td)(hi:PE X i ty)(hs:MM i)(hP:X.prog=Pr)(hw:X.w=wo):PE X (.Subscript o i pos) (O2 Pr wo td ty):=by
 subst hP hw
 intro pins s σ H Q I h
 refine sH PySem.F.slot_dict_getitem.lookup hs (dI (ho pins s σ H _ I h) λu s1 ⟨x,H1,I1,rx,q1⟩=>dI (hi pins s1 σ H1 _ I1 q1) λiv s2 ⟨y,H2,I2,ry,a,kvs,k,q,v,ex,ey,d,hk,l,q2⟩=>?_)
 subst ex ey
 obtain rfl:u=Value.ref a:=rx
 obtain rfl:iv=Value.ref q:=ry
 obtain⟨z,hd,xs,rel,dd⟩:=d.raw I2.hok
 obtain⟨w',hw,rw'⟩:=lP.some_of (v:=v) (o:=(atKey xs k).map (·.2)) (by rw[←l];exact rel.val k)
 obtain⟨p,hp,hp2⟩:=Option.map_eq_some_iff.mp hw
 refine⟨dd.typeIs,wpAny_getItem_heap (show X.A.in1.units+1<cLine from hu) (k_of I2.hok hk) dd hp ?_⟩
 rw[hp2]
 exact⟨v,H2,I2.tok _,rw',q2⟩
theorem Px(hu:X.A.units+2<cLine)(hP:X.prog=Pr)(hw:X.w=wo):tT X (compareOp .In) (λx y H Q=>∃a kvs k q,y= .ref a/\x= .ref q/\ND Pr wo H a kvs/\gJ H q k/\Q (.bl (gx kvs k).isSome) H):=by
 subst hP hw
 intro pins s σ H x y u v Q I rx ry h
 obtain⟨a,kvs,k,q,rfl,rfl,d,hk,q2⟩:=h
 cases (show v=Value.ref a from ry)
 cases (show u=Value.ref q from rx)
 exact Xm hu I d hk λs3 I3=>⟨.bl (gx kvs k).isSome,H,I3,rfl,q2⟩
end
def Uq(P:Program)(w:World)(a:Addr)(o:Obj)(kvs:List NE):It :=
 ⟨λi H=>H a=some (.su o (sF P w a kvs))/\i<kvs.length,λi H x H'=>H'=H/\∃e,kvs[i]? =some e/\x= .ref e.2.1,λi H=>H a=some (.su o (sF P w a kvs))/\kvs.length<=i⟩
theorem Gv{P:Program}{w:World}{H:Hp}{h:Heap}{a:Addr}{o:Obj}{es:Array DictEntry}{ep:Nat}{kvs:List NE}(ok:lS P w H h)(e:H a=some (.su o (sF P w a kvs)))(hd:o.data= .dict es ep):
  yV a es ep h/\es.size=kvs.length/\∀i en,kvs[i]? =some en->∃hi:i<es.size,es[i].key= .ref en.2.1:=by
 obtain⟨h1,h2⟩:=(show bI P w H h a (.su o (sF P w a kvs)) from ok a _ e)
 obtain⟨z,lo,xs,r,o',es',U8,ho,hc,hd',h4,_⟩:=h2.1
 rw[h1]at ho
 cases ho
 rw[hd]at hd'
 cases hd'
 have hes:es.size=xs.length:=size_of_entries h4
 have hlk:=Paired.length r
 refine⟨⟨o,h1,hc,hd⟩,by omega,λi en hi=>?_⟩
 obtain⟨x,hx,h5⟩:=GP.Paired.at r hi
 have hil:i<es.size:=by have:=(List.getElem?_eq_some_iff.mp hi).1;omega
 have:=entry_at h4 i
 rw[hx,Array.getElem?_eq_getElem hil]at this
 injection this with this
 refine⟨hil,?_⟩
 rw[this]
 show Value.ref x.2.1=Value.ref en.2.1
 rw[h5.2.1]
theorem Ln{P:Program}{w:World}{K:PySem.W.Frag}{tg:Expr}{kvs:List NE}{o:Obj}{es:Array DictEntry}{ep:Nat}(a it:Addr)(hd:o.data= .dict es ep):Turn P w K tg (Uq P w a o kvs) [it] it (λi h=>h.IsKeyIter it a i es.size ep) where
 mem:=by simp
 obj:=λi h st b hb=>by
  have e:b=it:=by simpa using hb
  subst e
  obtain⟨o,e,c,d⟩:=st
  exact⟨o,e,λv z=>by rw[d]at z;cases z⟩
 keep:=λi h h' st k=>st.at λo e=>k it (by simp) o e
 item:=by
  intro X hP hw hK hc i pins s σ H E I hf st hg
  subst hP hw hK
  obtain⟨hH,hi⟩:=hg
  obtain⟨hr,hsz,hke⟩:=Gv I.hok hH hd
  obtain⟨f0,f1,f2,f3,f4,f5⟩:=hf it (by simp)
  obtain⟨hi',ek⟩:=hke i _ (List.getElem?_eq_getElem hi)
  refine sO st hr (λhi2 h' st' sb=>?_) λz=>absurd hi (by omega)
  have I1:Inv X pins σ H { s with heap:=h' }:=I.turned (t':=s.toks) (λb o hb e=>(sb.2 b hb).trans e) f0 f1 f3 f4 f5
  obtain⟨o',e,c,d⟩:=id st'
  exact⟨_,rfl,zZ (s:={ s with heap:=h' }) e c d (by decide) ⟨.ref kvs[i].2.1,H,I1,ek,⟨rfl,_,List.getElem?_eq_getElem hi,rfl⟩,st',λb hb=>(hf b hb).1⟩⟩
 done:=by
  intro X hP hw hK hc i pins s σ H E I hf st hg
  subst hP hw hK
  obtain⟨hH,hi⟩:=hg
  obtain⟨hr,hsz,hke⟩:=Gv I.hok hH hd
  obtain⟨f0,f1,f2,f3,f4,f5⟩:=hf it (by simp)
  exact sO st hr (λhi2=>absurd hi2 (by omega)) λ_=>⟨I.ok.hd hc,λh' eb=>⟨rfl,I.turned (t':=s.toks) (λb o hb e=>eb b o hb e) f0 f1 f3 f4 f5⟩⟩
 self:=λ_ _ _ _ _ st h=>wpAny_pyIter_keyiter st h
def iNk(P:Program)(w:World)(tl:TE):TI:=λσ H R=>tl σ H λx H1=>∃a kvs,x= .ref a/\ND P w H1 a kvs/\∀o,R (Uq P w a o kvs) (upd H1 a (.su o (sF P w a kvs)))
theorem RX{X:Cx}{tg l:Expr}{tl:TE}{Pr:Program}{wo:World}(hP:X.prog=Pr)(hw:X.w=wo)(hl:PE X l tl):PI X tg l (iNk Pr wo tl):=by
 subst hP hw
 intro pins s σ H R I h
 refine dI (hl pins s σ H _ I h) λv s1 ⟨x,H1,I1,r1,a,kvs,ex,d,q⟩=>?_
 subst ex
 obtain rfl:v=Value.ref a:=r1
 obtain⟨z,lo,xs,r,o,es,ep,ho,hc,hd,h4,h5⟩:=(I1.hok a _ d.at_).1
 have I2:Inv X pins σ (upd H1 a (.su o (sF X.prog X.w a kvs))) s1:=wu (h':=s1.heap) (t':=s1.toks) I1 (by rw[d.at_];exact True.intro) ⟨rfl,λ_ _=>rfl⟩ ⟨o,ho⟩ ⟨ho,Jz ⟨z,lo,xs,r,o,es,ep,ho,hc,hd,h4,h5⟩⟩
 refine CC lo ⟨o,ho,hc,hd⟩ ?_
 refine⟨s1.heap.objs.size,[s1.heap.objs.size],_,_,_,rfl,I2.kept (t':=s1.toks) λb o e=>Heap.get?_push_of_some _ e,Ln a _ hd,⟨_,Heap.get?_push_size _ rfl,rfl,rfl⟩,λb hb=>?_,q o⟩
 have e:b=s1.heap.objs.size:=by simpa using hb
 subst e
 exact I2.uM (Nat.le_refl _) (I2.hok.fresh (Nat.le_refl _))
theorem Qw{P:Program}{w:World}{a:Addr}{o:Obj}{kvs:List NE}{g:TG}{tb:TS}{D:Ends}{σ:St}{H:Hp}(Pv:Nat->St->Hp->Prop)(h0:Pv 0 σ H)(hl:∀i σ H,i<=kvs.length->Pv i σ H->H a=some (.su o (sF P w a kvs)))
  (hs:∀i e σ H,kvs[i]? =some e->Pv i σ H->g (.ref e.2.1) σ H λσ2 H2=>tb { D with nx:=Pv (i+1),ct:=Pv (i+1),bk:=D.nx } σ2 H2) (hd:∀ σ H,Pv kvs.length σ H->D.nx σ H) :
  ∃W:Nat->Nat->St->Hp->Prop,(∃m,W 0 m σ H)/\∀i m σ H,W i m σ H →
   ((Uq P w a o kvs).stop i H/\D.nx σ H)\/((Uq P w a o kvs).go i H/\∃N:St->Hp->Prop,(∀ σ' H',N σ' H'->∃m',m'<m/\W (i+1) m' σ' H')/\∀x H',(Uq P w a o kvs).zA i H x H'->g x σ H' λσ2 H2=>tb { D with nx:=N,ct:=N,bk:=D.nx } σ2 H2):=by
 refine⟨λi m σ H=>m=kvs.length-i/\i<=kvs.length/\Pv i σ H,⟨kvs.length,by simp,Nat.zero_le _,h0⟩,?_⟩
 rintro i m σ H ⟨rfl,hi,p⟩
 by_cases hlt:i<kvs.length
 ·refine .inr ⟨⟨hl i σ H hi p,hlt⟩,Pv (i+1),λσ' H' p'=>⟨kvs.length-(i+1),by omega,rfl,hlt,p'⟩,λx H' y=>?_⟩
  obtain⟨rfl,e,he,rfl⟩:=y
  exact hs i e σ _ he p
 ·have e:i=kvs.length:=by omega
  subst e
  exact .inl ⟨⟨hl _ σ H hi p,Nat.le_refl _⟩,hd σ H p⟩
end L2
namespace L2
open PySem PySem.Spec PyProof.Rows PySem.W
theorem Inv.WD{X:Cx}{pins:List (Addr×Obj)}{σ:St}{H:Hp}{s:Shared}{a:Addr}{o:Obj}{u:HO}(I:Inv X pins σ H s)(h:H a=some (.su o u))(h0:∀o u,X.H₀ a≠some (.su o u)):Inv X pins σ (upd H a u) s:=by
 have nn:∀{b},H b=none->upd H a u b=none:=λ{b} e=>by rw[aq (Ne.symm (aM h e))];exact e
 have keep:∀{b v},(∀o u,v≠ .su o u)->H b=some v->upd H a u b=some v:=λ{b v} n e=>by rw[aq (λz=>by rw[z,h]at e;exact n o u (Option.some.inj e).symm)];exact e
 refine⟨I.ok,I.os,I.bare,⟨I.base.keep,I.base.slot,λb o e n hx=>nn (I.base.free b o e n hx),I.base.there,λb xs e=>keep (λ_ _ z=>by cases z) (I.base.tups b xs e),λb o' u' e=>?_,λb ps e=>?_⟩,I.loc,I.cell,nn I.free,λx c e=>nn (I.jF x c e),λp hp=>?_,λb v e=>?_,I.len,I.up⟩
 ·by_cases z:b=a
  ·rw[z]at e;exact absurd e (h0 _ _)
  ·rw[aq z];exact I.base.qV b o' u' e
 ·obtain⟨m,e2⟩:=I.base.rL b ps e
  exact⟨m,keep (λ_ _ z=>by cases z) e2⟩
 ·obtain⟨p1,p2,p3⟩:=I.pin p hp
  exact⟨p1,nn p2,p3⟩
 ·have st:∀{c v},bI X.prog X.w H s.heap c v->bI X.prog X.w (upd H a u) s.heap c v:=λ{c v} q=>q.stay (λ_ _ _ r=>r) (λb r=>keep (λ_ _ z=>by cases z) r) λb xs r=>keep (λ_ _ z=>by cases z) r
  by_cases z:b=a
  ·subst z
   rw[ah]at e
   cases e
   exact st (I.hok b _ h).2
  ·rw[aq z]at e
   exact st (I.hok b v e)
def Rp(P:Program)(w:World)(H0:Hp)(t:TS):TS:=λD σ H=>t { D with nx:=λσ' H'=>∃a o kvs,H' a=some (.su o (sF P w a kvs))/\(∀o u,H0 a≠some (.su o u))/\D.nx σ' (upd H' a (sF P w a kvs)) } σ H
theorem LJ{X:Cx}{st:Stmt}{t:TS}{Pr:Program}{wo:World}{H0:Hp}(h:PS X st t)(h0:X.H₀=H0):PS X st (Rp Pr wo H0 t):=by
 subst h0
 intro pins s σ H D I q
 refine dI (h pins s σ H _ I q) λf s' z=>?_
 cases f with
 |next =>
  obtain⟨σ',H',I',a,o,kvs,e,n,d⟩:=z
  exact⟨σ',_,I'.WD e n,d⟩
 |brk=>exact z
 |cont=>exact z
 |ret u=>exact z
end L2
namespace GP
open PySem L2 uc
theorem Gd.Jf{g:Gd}{s:dM}(h:g.en s.1 s.2.1=true):g.rest s<=0:=by
 rw[g.rest_eq]
 refine wk (List.mem_append_right _ ?_)
 rw[if_pos h]
 exact List.mem_cons_self
theorem Gd.G1{g:Gd}{s:dM}{t:dM×Int}(h:t∈g.steps s):g.rest s<=t.2+g.rest t.1:=by
 rw[g.rest_eq]
 exact wk (List.mem_append_left _ (List.mem_map.mpr ⟨t,h,rfl⟩))
theorem Gd.BZ{g:Gd}{s e:dM}{v:Nat}{vs:List Nat}{c:Int}(h:g.walk s (v::vs)=some (c,e)):∃t c',t∈g.steps s/\t.1.2.2=v/\g.walk t.1 vs=some (c',e)/\c=t.2+c':=by
 rw[Gd.qD]at h
 obtain⟨t,ht,h⟩:=Option.bind_eq_some_iff.mp h
 obtain⟨⟨c',e'⟩,hr,h⟩:=Option.map_eq_some_iff.mp h
 cases h
 exact⟨t,c',List.mem_of_find?_eq_some ht,by simpa using List.find?_some ht,hr,rfl⟩
theorem Gd.zD{g:Gd}:∀{vs:List Nat} {s e:dM} {c:Int},g.walk s vs=some (c,e)->g.en e.1 e.2.1=true->g.rest s<=c
 |[],s,e,c,h,he=>by cases h;exact Gd.Jf he
 |v::vs,s,e,c,h,he=>by
  obtain⟨t,c',ht,_,hw,rfl⟩:=Gd.BZ h
  have h1:=Gd.G1 ht
  have h2:=Gd.zD hw he
  omega
abbrev Num:=dM->Option Int
def uS(kvs:List NE)(f:Num):Prop:=∀s,gx kvs (ee s)=(f s).map V.int
structure HZ(g:Gd)(bs:List (Nat×Nat))(f:Num):Prop where
 way:∀s n,f s=some n->∃b∈bs,∃mv,g.walk (b.1,b.2,112) mv=some (n,s)
 YQ:∀b∈bs,∃n,f (b.1,b.2,112)=some n/\n<=0
def Down(f f':Num):Prop:=∀s n,f s=some n->∃n',f' s=some n'/\n'<=n
theorem Down.refl(f:Num):Down f f:=λ_ n h=>⟨n,h,Int.le_refl _⟩
theorem Down.trans{f f' Z9:Num}(h:Down f f')(h':Down f' Z9):Down f Z9:=λs n e=>by
 obtain⟨n',e',l⟩:=h s n e
 obtain⟨n'',e'',l'⟩:=h' s n' e'
 exact⟨n'',e'',by omega⟩
def Bs(g:Gd)(f:Num)(s:dM):Prop:=∀n,f s=some n->∀t∈g.steps s,∃n',f t.1=some n'/\n'<=n+t.2
def nM(f:Num)(t:dM)(n:Int):Num:=λs=>if s=t then some (min n ((f t).getD n))else f s
theorem rU(f:Num)(t:dM)(n:Int):Down f (nM f t n):=λs m h=>by
 unfold nM
 by_cases e:s=t
 ·subst e
  rw[if_pos rfl,h]
  exact⟨_,rfl,by show min n m<=m;omega⟩
 ·rw[if_neg e]
  exact⟨m,h,Int.le_refl _⟩
theorem Jg(f:Num)(t:dM)(n:Int):∃n',nM f t n t=some n'/\n'<=n:=⟨_,if_pos rfl,by omega⟩
theorem wX{f:Num}{s t:dM}{n:Int}(h:s≠t):nM f t n s=f s:=if_neg h
theorem HZ.nM{g:Gd}{bs:List (Nat×Nat)}{f:Num}{s:dM}{n:Int}{t:dM×Int}(h:HZ g bs f)(hs:f s=some n)(ht:t∈g.steps s):HZ g bs (nM f t.1 (n+t.2)):=by
 refine⟨λr m e=>?_,λb hb=>?_⟩
 ·by_cases z:r=t.1
  ·subst z
   unfold GP.nM at e
   rw[if_pos rfl]at e
   obtain⟨b,hb,mv,hw⟩:=h.way s n hs
   have hn:=Gd.GU hw ht
   cases q:f t.1 with
   |none =>
    rw[q]at e
    have e':min (n+t.2) (n+t.2)=m:=Option.some.inj e
    rw[←e',show min (n+t.2) (n+t.2)=n+t.2 by omega]
    exact⟨b,hb,_,hn⟩
   |some k =>
    rw[q]at e
    have e':min (n+t.2) k=m:=Option.some.inj e
    by_cases l:n+t.2<=k
    ·rw[←e',show min (n+t.2) k=n+t.2 by omega]
     exact⟨b,hb,_,hn⟩
    ·rw[←e',show min (n+t.2) k=k by omega]
     exact h.way _ _ q
  ·rw[wX z]at e
   exact h.way r m e
 ·obtain⟨m,e,l⟩:=h.YQ b hb
  obtain⟨m',e',l'⟩:=rU f t.1 (n+t.2) _ m e
  exact⟨m',e',by omega⟩
structure KR(g:Gd)(bs:List (Nat×Nat))(s:dM)(n:Int)(j:Nat)(f f':Num):Prop where
 b:HZ g bs f'
 dn:Down f f'
 st:∀r,r∉(g.steps s).map (·.1)->f' r=f r
 ok:∀t∈(g.steps s).take j,∃n',f' t.1=some n'/\n'<=n+t.2
theorem Gd.FG{g:Gd}{s:dM}:s∉(g.steps s).map (·.1):=λh=>by
 obtain⟨t,ht,e⟩:=List.mem_map.mp h
 have:=Gd.lV ht
 rw[e]at this
 omega
theorem KR.next{g:Gd}{bs:List (Nat×Nat)}{s:dM}{n:Int}{j:Nat}{f f':Num}{t:dM×Int}(h:KR g bs s n j f f')(hs:f s=some n)(ht:(g.steps s)[j]? =some t):KR g bs s n (j+1) f (GP.nM f' t.1 (n+t.2)):=by
 have hm:=List.mem_of_getElem? ht
 have hs':f' s=some n:=by rw[h.st s Gd.FG];exact hs
 refine⟨h.b.nM hs' hm,h.dn.trans (rU _ _ _),λr hr=>?_,λu hu=>?_⟩
 ·rw[wX (λz=>hr (List.mem_map.mpr ⟨t,hm,z.symm⟩))]
  exact h.st r hr
 ·rw[take_snoc ht]at hu
  rcases List.mem_append.mp hu with hu|hu
  ·obtain⟨m,e,l⟩:=h.ok u hu
   obtain⟨m',e',l'⟩:=rU f' t.1 (n+t.2) _ m e
   exact⟨m',e',by omega⟩
  ·rw[List.mem_singleton.mp hu]
   exact Jg _ _ _
structure zk(g:Gd)(bs:List (Nat×Nat))(k:Nat)(f:Num):Prop where
 b:HZ g bs f
 ok:∀s∈g.states.take k,Bs g f s
theorem Gd.zK(g:Gd):g.states.Nodup:=by
 unfold Gd.states cV
 refine List.pairwise_flatMap.mpr ⟨λp _=>by unfold three;simp,(uu g.n g.m).imp λ{a b} hab=>?_⟩
 intro x hx y hy z
 obtain⟨a1,a2,_⟩:=jE.mp hx
 obtain⟨b1,b2,_⟩:=jE.mp hy
 subst z
 refine AB (a:=a) ?_
 rw[show a=b from Prod.ext (a1.symm.trans b1) (a2.symm.trans b2)]at hab ⊢
 exact hab
theorem Gd.GW{g:Gd}{k:Nat}{s r:dM}(hk:g.states[k]? =some s)(hr:r∈g.states.take (k+1)):r∉(g.steps s).map (·.1):=λh=>by
 obtain⟨t,ht,e⟩:=List.mem_map.mp h
 have hb:=Gd.uY hk ht
 rw[e]at hb
 have pw:=g.zK
 have e2:g.states=g.states.take (k+1)++g.states.drop (k+1):=(List.take_append_drop _ _).symm
 rw[e2]at pw
 exact(List.pairwise_append.mp pw).2.2 r hr r hb rfl
theorem zk.next{g:Gd}{bs:List (Nat×Nat)}{k:Nat}{s:dM}{n:Int}{f f':Num}(h:zk g bs k f)(hk:g.states[k]? =some s)(hs:f s=some n)(h':KR g bs s n (g.steps s).length f f'):zk g bs (k+1) f':=by
 refine⟨h'.b,λr hr m e t ht=>?_⟩
 have e0:f r=some m:=by rw[←h'.st r (Gd.GW hk hr)];exact e
 rw[take_snoc hk]at hr
 rcases List.mem_append.mp hr with hr|hr
 ·obtain⟨m1,e1,l1⟩:=h.ok r hr m e0 t ht
  obtain⟨m2,e2,l2⟩:=h'.dn _ _ e1
  exact⟨m2,e2,by omega⟩
 ·rw[List.mem_singleton.mp hr]at e0 ht
  rw[hs]at e0
  cases e0
  exact h'.ok t (by rw[List.take_length];exact ht)
theorem zk.skip{g:Gd}{bs:List (Nat×Nat)}{k:Nat}{s:dM}{f:Num}(h:zk g bs k f)(hk:g.states[k]? =some s)(hs:f s=none):zk g bs (k+1) f:=by
 refine⟨h.b,λr hr m e t ht=>?_⟩
 rw[take_snoc hk]at hr
 rcases List.mem_append.mp hr with hr|hr
 ·exact h.ok r hr m e t ht
 ·rw[List.mem_singleton.mp hr,hs]at e
  cases e
structure rF(g:Gd)(bs:List (Nat×Nat))(f:Num):Prop where
 b:HZ g bs f
 ok:∀s,g.In s->Bs g f s
theorem zk.all{g:Gd}{bs:List (Nat×Nat)}{f:Num}{k:Nat}(h:zk g bs k f)(hk:g.states.length<=k):rF g bs f:=⟨h.b,λs hs=>h.ok s (by rw[List.take_of_length_le hk];exact Gd.fS.mpr hs)⟩
theorem rF.along{g:Gd}{bs:List (Nat×Nat)}{f:Num}(h:rF g bs f):∀{vs:List Nat} {s e:dM} {c n:Int},g.In s->g.walk s vs=some (c,e)->f s=some n->∃n',f e=some n'/\n'<=n+c
 |[],s,e,c,n,_,hw,hf=>by cases hw;exact⟨n,hf,by omega⟩
 |v::vs,s,e,c,n,hi,hw,hf=>by
  obtain⟨t,c',ht,_,XM,rfl⟩:=Gd.BZ hw
  obtain⟨m,hm,l⟩:=h.ok s hi n hf t ht
  obtain⟨m',hm',l'⟩:=h.along (Gd.oM ht hi) XM hm
  exact⟨m',hm',by omega⟩
theorem rF.least{g:Gd}{bs:List (Nat×Nat)}{f:Num}{b:Nat×Nat}(h:rF g bs f)(hb:fmin g.lF bs=some b){s:dM}{n:Int}(hf:f s=some n)(he:g.en s.1 s.2.1=true):g.lF b<=n:=by
 obtain⟨b',hb',mv,hw⟩:=h.b.way s n hf
 have h1:=wm hb hb'
 have h2:g.lF b'<=n:=Gd.zD hw he
 omega
theorem rF.met{g:Gd}{bs:List (Nat×Nat)}{f:Num}{b:Nat×Nat}(h:rF g bs f)(ok:g.Ok)(hb:fmin g.lF bs=some b)(hi:g.In (b.1,b.2,112)):∃e,g.In e/\g.en e.1 e.2.1=true/\f e=some (g.lF b):=by
 obtain⟨e,hw,he,hen⟩:=Gd.wD ok _ _ hi (Nat.le_refl _)
 obtain⟨n,hn,l⟩:=h.b.YQ b (m6 hb)
 obtain⟨n',hn',l'⟩:=h.along hi hw hn
 have h1:=h.least hb hn' hen
 refine⟨e,he,hen,?_⟩
 rw[hn']
 have:g.lF b=g.rest (b.1,b.2,112):=rfl
 rw[show n'=g.lF b by omega]
end GP
namespace GP
open PySem L2 uc
def yT(l:List (Nat×Nat)):Num:=λs=>if s.2.2=112/\(s.1,s.2.1)∈l then some 0 else none
theorem KJ:uS [] (yT ([]:List (Nat×Nat))):=λs=>by
 unfold yT
 rw[if_neg (λz=>nomatch z.2)]
 rfl
theorem HR{kvs:List NE}{l:List (Nat×Nat)}{b:Nat×Nat}{q:Addr}(h:uS kvs (yT l)):uS (pM kvs (ee (b.1,b.2,112)) q (.int 0)) (yT (l++[b])):=λs=>by
 rw[xy]
 by_cases e:ee s=ee (b.1,b.2,112)
 ·rw[if_pos e,oB e]
  unfold yT
  rw[if_pos ⟨rfl,List.mem_append_right _ List.mem_cons_self⟩]
  rfl
 ·rw[if_neg e,h s]
  congr 1
  unfold yT
  by_cases z:s.2.2=112/\(s.1,s.2.1)∈l
  ·rw[if_pos z,if_pos ⟨z.1,List.mem_append_left _ z.2⟩]
  ·rw[if_neg z,if_neg (λz2=>?_)]
   rcases List.mem_append.mp z2.2 with q|q
   ·exact z ⟨z2.1,q⟩
   ·rw[List.mem_singleton]at q
    refine e (congrArg ee ?_)
    obtain⟨s1,s2,s3⟩:=s
    rw[←q]
    exact congrArg (λz=>(s1,s2,z)) z2.1
theorem QJ{g:Gd}(bs:List (Nat×Nat)):zk g bs 0 (yT bs):=by
 refine⟨⟨λs n e=>?_,λb hb=>⟨0,if_pos ⟨rfl,hb⟩,Int.le_refl _⟩⟩,λs hs=>nomatch hs⟩
 unfold yT at e
 split at e
 ·next z =>
  cases e
  refine⟨_,z.2,[],?_⟩
  obtain⟨s1,s2,s3⟩:=s
  have z1:s3=112:=z.1
  rw[z1]
  rfl
 ·cases e
theorem uS.nM{kvs:List NE}{f:Num}{t:dM}{n:Int}{q:Addr}(h:uS kvs f):uS (pM kvs (ee t) q (.int (min n ((f t).getD n)))) (GP.nM f t n):=λs=>by
 rw[xy]
 by_cases e:ee s=ee t
 ·rw[if_pos e,oB e]
  unfold GP.nM
  rw[if_pos rfl]
  rfl
 ·rw[if_neg e,h s,wX (λz=>e (by rw[z]))]
theorem uS.get{kvs:List NE}{f:Num}(h:uS kvs f)(s:dM)(n:Int):(gx kvs (ee s)).getD (.int n)= .int ((f s).getD n):=by
 rw[h s]
 cases f s<;>rfl
end GP
namespace GP
open PySem L2 uc
theorem A2{H:Hp}{d q:Addr}{k:NK}{φ:Heap->Prop}{o:HO}(h:gJ H q k)(hd:H d=some (.ext φ)):gJ (L2.upd H d o) q k:=by
 have n:∀{b ys},H b=some (.tup ys)->b≠d:=λ{b ys} e z=>by rw[z,hd]at e;cases e
 obtain⟨p,h1,h2⟩:=h
 exact⟨p,by rw[aq (n h1)];exact h1,by rw[aq (n h2)];exact h2⟩
theorem ND.put{P:Program}{w:World}{H:Hp}{d q:Addr}{kvs:List NE}{k:NK}{v:V}(h:ND P w H d kvs)(hk:gJ H q k):ND P w (L2.upd H d (sF P w d (pM kvs k q v))) d (pM kvs k q v):=⟨ah,zR (λe he=>A2 (h.keys e he) h.at_) (A2 hk h.at_)⟩
theorem ND.off{P:Program}{w:World}{H:Hp}{d a:Addr}{kvs:List NE}{φ:Heap->Prop}{o:HO}(h:ND P w H d kvs)(ha:H a=some (.ext φ))(n:d≠a):ND P w (L2.upd H a o) d kvs:=⟨by rw[aq n];exact h.at_,λe he=>A2 (h.keys e he) ha⟩
theorem ND.neq{P:Program}{w:World}{H:Hp}{d a:Addr}{kvs:List NE}(h:ND P w H a kvs)(hd:H d=none):d≠a:=λz=>by have q:=h.at_;rw[←z,hd]at q;cases q
end GP
namespace GP
open PySem L2 uc
theorem Mi{H:Hp}{d q:Addr}{k:NK}{o:Obj}{u y:HO}(h:gJ H q k)(hd:H d=some (.su o u)):gJ (L2.upd H d y) q k:=by
 have n:∀{b ys},H b=some (.tup ys)->b≠d:=λ{b ys} e z=>by rw[z,hd]at e;cases e
 obtain⟨p,h1,h2⟩:=h
 exact⟨p,by rw[aq (n h1)];exact h1,by rw[aq (n h2)];exact h2⟩
theorem ND.W9{P:Program}{w:World}{H:Hp}{d a:Addr}{kvs:List NE}{o:Obj}{u y:HO}(h:ND P w H d kvs)(ha:H a=some (.su o u))(n:d≠a):ND P w (L2.upd H a y) d kvs:=⟨by rw[aq n];exact h.at_,λe he=>Mi (h.keys e he) ha⟩
theorem IM{H:Hp}{g:Gd}{s:dM}{e:NE}{k:Nat}:∀{kvs:List NE} {ss:List dM},GJ H g kvs ss->ss.Nodup->kvs[k]? =some e->ss[k]? =some s->gx kvs (ee s)=some e.2.2
 |_,_,.nil,_,h,_=>by simp at h
 |_,_,.cons (a:=e0) (b:=t) ⟨h1,l,h2,h3⟩ r,nd,h,h'=>by
  obtain⟨nt,nd⟩:=List.nodup_cons.mp nd
  cases k with
  |zero =>
   obtain rfl:e0=e:=by simpa using h
   obtain rfl:t=s:=by simpa using h'
   rw[jo h1]
  |succ k =>
   have h'':=List.mem_of_getElem? (show _=some s by simpa using h')
   rw[gK (λz=>nt (by rw[oB (h1.symm.trans z)];exact h''))]
   exact IM r nd (by simpa using h) (by simpa using h')
end GP
namespace GP
open PySem L2 uc
theorem ME{J:It}{g:TG}{te:TE}{σ':L2.St}{H1:Hp}{D:Hp->Prop}{l:Addr}(n:Nat)(F:Nat->HO)(hl:H1 l=none)(hn:n<sizeLine)
  (go:∀i H,ai H1 H->i<n->J.go i H) (st:∀H,ai H1 H->J.stop n H)
  (el:∀i x H H3 (R:VK),ai H1 H->i<n->J.zA i H x H3->(∀r H5,ai H H5->H r=none->H5 r=some (F i)->R (.ref r) H5)->g x σ' H3 λuW H4=>Kp σ' uW/\te uW H4 R)
  (fin:∀H' (rs:List Addr),ai H1 H'->rs.length=n->H' l=some (.lst (rs.map V.ref))->(∀i r,rs[i]? =some r->H' r=some (F i))->D H') :
  ∃W:Nat->Nat->List V->Hp->Prop,(∃m,W 0 m [] (upd H1 l (.lst [])))/\∀i m ys H2,W i m ys H2->(J.stop i H2/\D H2) ∨
   (J.go i H2/\∀x H3,J.zA i H2 x H3->g x σ' H3 λuW H4=>Kp σ' uW/\te uW H4 λy H5=>H5 l=some (.lst ys)/\ys.length<sizeLine/\∃m',m'<m/\W (i+1) m' (ys++[y]) (upd H5 l (.lst (ys++[y])))):=by
 refine⟨λi m ys H2=>m=n-i/\i<=n/\ai H1 H2/\H2 l=some (.lst ys)/\∃rs:List Addr,ys=rs.map V.ref/\rs.length=i/\∀k r,rs[k]? =some r->H2 r=some (F k)/\r≠l,⟨n,rfl,Nat.zero_le _,GP.ai.upd hl,ah,[],rfl,rfl,λk r hr=>by simp at hr⟩,?_⟩
 rintro i m ys H2 ⟨rfl,hi,s2,h2,rs,rfl,hrl,hrs⟩
 by_cases hlt:i<n
 ·refine .inr ⟨go i H2 s2 hlt,λx H3 y=>el i x H2 H3 _ s2 hlt y λr H5 s5 hr0 hr=>?_⟩
  have nr:r≠l:=λz=>by rw[z,h2]at hr0;cases hr0
  refine⟨s5 _ _ h2,by rw[List.length_map];omega,n-(i+1),by omega,rfl,hlt,GP.ai.at (s2.trans s5) hl,ah,rs++[r],by rw[List.map_append];rfl,by rw[List.length_append,hrl];rfl,λk q hq=>?_⟩
  by_cases hk:k<rs.length
  ·rw[List.getElem?_append_left hk]at hq
   obtain⟨e1,e2⟩:=hrs k q hq
   exact⟨by rw[aq e2];exact s5 _ _ e1,e2⟩
  ·rw[List.getElem?_append_right (by omega)]at hq
   have:k-rs.length<1:=(List.getElem?_eq_some_iff.mp hq).1
   have ek:k=i:=by omega
   subst ek
   rw[hrl,Nat.sub_self]at hq
   cases hq
   exact⟨by rw[aq nr];exact hr,nr⟩
 ·have e:i=n:=by omega
  subst e
  exact .inl ⟨st H2 s2,fin H2 rs s2 hrl h2 λk r hr=>(hrs k r hr).1⟩
def IZ(P:Program)(w:World)(CG:Addr):Sp:=λvs H Q _=>∃(x:Addr) (g:Gd) (bs:List (Nat×Nat)),vs=[.ref x]/\BF P w CG H x g bs/\g.n<=12/\g.m<=12/\bs.length<=1000/\∀d kvs f H',ai H H'->H d=none->ND P w H' d kvs->uS kvs f->rF g bs f->Q (.ref d) H'
def AX:Option Int->V
 |none=>.iP
 |some n=>.int n
def pQ(f:Num)(q:Nat×Nat):List V:=[AX (f (q.1,q.2,112)),AX (f (q.1,q.2,97)),AX (f (q.1,q.2,98))]
def MW(P:Program)(w:World):Sp:=λvs H Q _=>∃(d p:Addr) (kvs:List NE) (f:Num) (q:Nat×Nat),vs=[.ref d,.ref p]/\ND P w H d kvs/\uS kvs f/\GK H p q/\∀r H',ai H H'->H r=none->H' r=some (.tup (pQ f q))->Q (.ref r) H'
def Ib(H:Hp)(f:Num)(m i:Nat)(l:Addr):Prop:=∃ps:List Addr,H l=some (.lst (ps.map V.ref))/\ps.length=m+1/\∀j p,ps[j]? =some p->H p=some (.tup (pQ f (i,j)))
def GL(H:Hp)(f:Num)(m:Nat)(ls:List Addr):Prop:=∀i l,ls[i]? =some l->Ib H f m i l
def yb(H:Hp)(f:Num)(n m:Nat)(r:Addr):Prop:=∃ls:List Addr,H r=some (.lst (ls.map V.ref))/\ls.length=n+1/\GL H f m ls
theorem Ib.same{H H':Hp}{f:Num}{m i:Nat}{l:Addr}(h:Ib H f m i l)(e:ai H H'):Ib H' f m i l:=by
 obtain⟨ps,a,b,c⟩:=h
 exact⟨ps,e _ _ a,b,λj p hp=>e _ _ (c j p hp)⟩
theorem yb.same{H H':Hp}{f:Num}{n m:Nat}{r:Addr}(h:yb H f n m r)(e:ai H H'):yb H' f n m r:=by
 obtain⟨ls,a,b,c⟩:=h
 exact⟨ls,e _ _ a,b,λi l hl=>(c i l hl).same e⟩
def IX(P:Program)(w:World)(K:PySem.W.Frag)(C CS CM:Addr):Sp:=λvs H Q E=>∃(pr:Addr) (T:PT) (f s m:Str),vs=[.ref pr,.str f,.str s,.str m]/\ya K C H pr T/\f.cps.size<=20/\s.cps.size<=20 ∧
 (Of T.1 f->Of T.1 s->kc m=true->f.cps.size<=12/\s.cps.size<=12/\∀r ls F H',ai H H'->H r=none->(∀l∈ls,H l=none)->H' r=some (.lst (ls.map V.ref))->ls.length=f.cps.size+1->GL H' F s.cps.size ls->rF (lK T m f s) (Bp m f.cps.size s.cps.size) F->Q (.ref r) H') ∧
 (∀i j,t9 T.1 f s i j->∀dx H',ai H H'->H' dx=some (zC dx (Ba i j))->E (.ref CS) (some dx) H')/\(Of T.1 f->Of T.1 s->kc m=false->(reprText m).length<=20/\∀H',ai H H'->E (.ref CM) none H')
def Cr:Sp:=λvs H Q _=>∃(r:Addr) (F:Num) (f s:Str),vs=[.ref r,.str f,.str s]/\yb H F f.cps.size s.cps.size r/\f.cps.size<=12/\s.cps.size<=12/\Q (.bl true) H
def FQ(K:PySem.W.Frag)(C:Addr):Sp:=λvs H Q _=>∃(pr r:Addr) (T:PT) (F:Num) (f s m:Str) (i j:Nat),vs=[.ref pr,.str f,.str s,.ref r,.int i,.int j]/\ya K C H pr T/\Of T.1 f/\Of T.1 s/\f.cps.size<=12/\s.cps.size<=12/\yb H F f.cps.size s.cps.size r/\i<=f.cps.size/\j<=s.cps.size ∧
 (∀st,(lK T m f s).In st->Bs (lK T m f s) F st)/\∀H',ai H H'->Q (.bl true) H'
def Cf(K:PySem.W.Frag)(C:Addr):Sp:=λvs H Q _=>∃(x c:Addr) (T:PT) (n:Int),vs=[.ref x,.ref c]/\ya K C H x T/\TupAt H c (gH (n,uT T))/\Bg n/\Q (.int n) H
def IU(K:PySem.W.Frag)(C:Addr)(L:Lm):Sp:=λvs H Q _=>∃(pr:Addr) (T:PT) (f s m:Str),vs=[.ref pr,.str f,.str s,.str m]/\ya K C H pr T/\LT L H/\f.cps.size<=20/\s.cps.size<=20 ∧
 ((∃i j,t9 T.1 f s i j/\∀r H',ai H H'->H' r=some (.tup [.str (Str.ofString "no sign"),.int (i:Nat),.int (j:Nat),.int 0])->Q (.ref r) H') ∨
  (Of T.1 f/\Of T.1 s/\kc m=false/\(reprText m).length<=20/\∀r H',ai H H'->H' r=some (.tup [.str (Str.ofString "no manner"),.int 0])->Q (.ref r) H'))
def yM(f:Str)(k:Int)(c:Nat):Str:=(Txt.slice f none (some k)++(⟨#[c]⟩:Str))++Txt.slice f (some k) none
def IY(K:PySem.W.Frag)(C:Addr):Sp:=λvs H Q _=>∃(m:Int) (pr:Addr) (T:PT) (f g:Str),vs=[.int m,.ref pr,.str f,.str g]/\0<=m/\ya K C H pr T/\T.1.cps.size<=4/\Of T.1 f/\Of T.1 g/\f.cps.size<=12/\g.cps.size<=12 ∧
 ∀(r lr d:Addr) (a b:Str) (i j:Nat) (H':Hp),ai H H'->H' r=some (.tup [.ref lr,.ref d])->H' lr=some (.lst [.str a,.str b])->H' d=some (.tup [.int (i:Int),.int (j:Int)])->t9 T.1 a b i j->a.cps.size<=20->b.cps.size<=20->Q (.ref r) H'
def IV(K:PySem.W.Frag)(C:Addr)(L:Lm):Sp:=λvs H Q _=>∃(m:Int) (pr:Addr) (T:PT) (f g:Str),vs=[.int m,.ref pr,.str f,.str g]/\0<=m/\ya K C H pr T/\LT L H/\T.1.cps.size<=4/\Of T.1 f/\Of T.1 g/\f.cps.size<=12/\g.cps.size<=12/\∀H',ai H H'->Q (.bl true) H'
theorem L4{n u:Int}(hu:0<u):(gH (n,u)).1*(u / (gH (n,u)).2)=n:=by
 have hd:(gH (n,u)).2∣u:=Int.ediv_dvd_of_dvd (Int.gcd_dvd_right ..)
 have z:=Ed (f:=(n,u)) hd
 exact Int.eq_of_mul_eq_mul_right (by show u≠0;omega) z
theorem zI{F:Num}{q:Nat×Nat}{b:Nat}{x:V}(h:(pQ F q)[b]? =some x):∃c,vo[b]? =some c/\x=AX (F (q.1,q.2,c)):=by
 match b,h with
 | 0,h=>exact⟨112,rfl,(Option.some.inj h).symm⟩
 | 1,h=>exact⟨97,rfl,(Option.some.inj h).symm⟩
 | 2,h=>exact⟨98,rfl,(Option.some.inj h).symm⟩
 |b+3,h=>simp[pQ]at h
theorem yb.get{H:Hp}{F:Num}{n m r a b c k:Nat}(h:yb H F n m r)(ha:a<=n)(hb:b<=m)(hc:vo[k]? =some c):∃(ls:List Addr) (l:Addr) (ps:List Addr) (q:Addr),H r=some (.lst (ls.map V.ref))/\yU (ls.map V.ref) (a:Int)=some (.ref l)/\H l=some (.lst (ps.map V.ref))/\yU (ps.map V.ref) (b:Int)=some (.ref q)/\H q=some (.tup (pQ F (a,b)))/\yU (pQ F (a,b)) (k:Int)=some (AX (F (a,b,c))):=by
 obtain⟨ls,hr0,hls,K8⟩:=h
 have hal:a<ls.length:=by omega
 obtain⟨ps,h1,h2,h3⟩:=K8 a ls[a] (List.getElem?_eq_getElem hal)
 have Ym:b<ps.length:=by omega
 refine⟨ls,ls[a],ps,ps[b],hr0,eW (by rw[List.getElem?_map,List.getElem?_eq_getElem hal];rfl),h1,eW (by rw[List.getElem?_map,List.getElem?_eq_getElem Ym];rfl),h3 b ps[b] (List.getElem?_eq_getElem Ym),eW ?_⟩
 match k,hc with
 | 0,hc=>rw[←Option.some.inj hc];rfl
 | 1,hc=>rw[←Option.some.inj hc];rfl
 | 2,hc=>rw[←Option.some.inj hc];rfl
def pH(H:Hp)(l:Addr)(n:Int)(ps:List Addr):Prop:=H l=some (.lst (ps.map V.ref))/\∀p∈ps,∃x y:Int,H p=some (.tup [.int x,.int y])/\x<=n+y
theorem pH.put{H H5:Hp}{l q:Addr}{n x y:Int}{ps:List Addr}(h:pH H l n ps)(e:ai H H5)(hq:H5 q=none)(hx:x<=n+y):pH (L2.upd (L2.upd H5 q (.tup [.int x,.int y])) l (.lst (ps.map V.ref++[.ref q]))) l n (ps++[q]):=by
 have hl:=e _ _ h.1
 have nq:q≠l:=λz=>by rw[z,hl]at hq;cases hq
 refine⟨by rw[ah,List.map_append];rfl,λp hp=>?_⟩
 rcases List.mem_append.mp hp with hp|hp
 ·obtain⟨a,b,h1,h2⟩:=h.2 p hp
  have oq:=e _ _ h1
  have np:p≠l:=λz=>by rw[z,hl]at oq;cases oq
  exact⟨a,b,by rw[aq np,aq (aM oq hq)];exact oq,h2⟩
 ·rw[List.mem_singleton.mp hp]
  exact⟨x,y,by rw[aq nq,ah],hx⟩
theorem Fg{k c:Nat}(h:vo[k]? =some c):(k=1↔c=97)/\(k=2↔c=98)/\(c=112\/c=97\/c=98):=by
 match k,h with
 | 0,h=>rw[←Option.some.inj h];decide
 | 1,h=>rw[←Option.some.inj h];decide
 | 2,h=>rw[←Option.some.inj h];decide
theorem Nq{T:PT}{m f s:Str}{k c v:Nat}{z:Int}(hv:k=z.toNat↔c=v)(hz:0<=z):(if decide (V.int (0+(k:Int))=V.int z)=true then jV (uT T) T.2.2.2 else jV (uT T) T.2.2.1+jV (uT T) T.2.2.2)=(lK T m f s).ac v c:=by
 unfold Gd.ac
 by_cases e:v=c
 ·rw[if_pos e,if_pos (decide_eq_true (by rw[show(0+(k:Int))=z by have:=hv.mpr e.symm;omega]))]
  rfl
 ·rw[if_neg e,if_neg (by rw[decide_eq_false (λz'=>e (hv.mp (by have:=V.int.inj z';omega)).symm)];exact Bool.false_ne_true)]
  rfl
def Gd.YW(g:Gd)(B:Nat):Prop:=(∀i j,(g.pc i j).natAbs<=B)/\g.op.natAbs<=B/\g.mo.natAbs<=B
theorem Gd.IL{g:Gd}{B:Nat}(h:g.YW B){s:dM}{t:dM×Int}(ht:t∈g.steps s):t.2.natAbs<=2*B:=by
 obtain⟨h1,h2,h3⟩:=h
 have ac:∀v c,(g.ac v c).natAbs<=2*B:=λv c=>by unfold Gd.ac;split<;>omega
 rcases Gd.kD.mp ht with⟨_,_,rfl⟩|⟨_,rfl⟩|⟨_,rfl⟩
 ·have:=h1 s.1 s.2.1
  show(g.pc s.1 s.2.1).natAbs<=_
  omega
 ·exact ac _ _
 ·exact ac _ _
theorem Gd.CA{g:Gd}{B:Nat}(h:g.YW B):∀(d:Nat) (s:dM),g.ht s<=d->(g.rest s).natAbs<=2*B*d
 |d,s,hd=>by
  rw[g.rest_eq]
  by_cases e:g.costs g.rest s=[]
  ·rw[e];exact Nat.zero_le _
  ·have hm:=tw e
   generalize tD (g.costs g.rest s)=c at hm
   rcases List.mem_append.mp hm with z|z
   ·obtain⟨t,ht,ez⟩:=List.mem_map.mp z
    rw[←ez]
    have h1:=Gd.IL h ht
    have h2:=Gd.lV ht
    cases d with
    |zero=>omega
    |succ d =>
     have h3:=Gd.CA h d t.1 (by omega)
     have e4:2*B*(d+1)=2*B*d+2*B:=Nat.mul_succ _ _
     omega
   ·split at z
    ·rw[List.mem_singleton.mp z];exact Nat.zero_le _
    ·exact nomatch z
 termination_by d=>d
theorem ur{u:Int}{f:cF}(h:Rh u f):(f.1*(u / f.2)).natAbs<=2 ^ 4580:=by
 rw[Int.natAbs_mul,show 4580=200+4380 from rfl,Nat.pow_add]
 exact Nat.mul_le_mul (Nat.le_of_lt h.2.1) h.2.2
theorem ya.sml{K:PySem.W.Frag}{C:Addr}{H:Hp}{x:Addr}{T:PT}(h:ya K C H x T)(m f s:Str):(lK T m f s).YW (2 ^ 4580):=by
 refine⟨λi j=>?_,ur h.Ik,ur h.Il⟩
 show(Pw T.1 T.2.1 (uT T) _ _).natAbs<=_
 unfold Pw
 split
 ·next fr e =>
  obtain⟨r,h1,h2⟩:=Option.bind_eq_some_iff.mp e
  exact ur (h.ok r (List.mem_of_getElem? h1) fr (List.mem_of_getElem? h2))
 ·exact Nat.zero_le _
theorem ya.LD{K:PySem.W.Frag}{C:Addr}{H:Hp}{x:Addr}{T:PT}(h:ya K C H x T)(m:Str){f s:Str}(hf:f.cps.size<=12)(hs:s.cps.size<=12)(st:dM):Bg ((lK T m f s).rest st):=by
 have z:=Gd.CA (h.sml m f s) 24 st (by show f.cps.size-st.1+(s.cps.size-st.2.1)<=24;omega)
 refine Nat.lt_of_le_of_lt z ?_
 rw[show 2*2 ^ 4580*24=48*2 ^ 4580 by rw[Nat.mul_right_comm]]
 refine Nat.lt_of_le_of_lt (Nat.mul_le_mul_right _ (show 48<=2 ^ 6 by decide)) ?_
 rw[←Nat.pow_add]
 exact Nat.pow_lt_pow_right (by decide) (by decide)
end GP
namespace GP
open PySem L2 uc
theorem Lo.ln{P:Program}{w:World}{L:Lm}{H H':Hp}{f:Num}{m i:Nat}{l:Addr}(e:Lo P w L H H')(h:Ib H f m i l):Ib H' f m i l:=by
 obtain⟨ps,a,b,c⟩:=h
 exact⟨ps,e.nx _ _ (Nt.lst a),b,λj p hp=>e.tup (c j p hp)⟩
theorem Lo.pp{P:Program}{w:World}{L:Lm}{H H':Hp}{f:Num}{n m:Nat}{r:Addr}(e:Lo P w L H H')(h:yb H f n m r):yb H' f n m r:=by
 obtain⟨ls,a,b,c⟩:=h
 exact⟨ls,e.nx _ _ (Nt.lst a),b,λi l hl=>e.ln (c i l hl)⟩
def o9(F:Num)(q:Nat×Nat):List Int:=vo.filterMap λc=>F (q.1,q.2,c)
theorem MD(F:Num)(q:Nat×Nat):((List.range 3).filter λk=>(F (q.1,q.2,vo.getD k 0)).isSome).map (λk=>AX (F (q.1,q.2,vo.getD k 0)))=(o9 F q).map V.int:=by
 show(List.filter _ [0,1,2]).map _=(List.filterMap _ [112,97,98]).map V.int
 cases h0:F (q.1,q.2,112)<;>cases h1:F (q.1,q.2,97)<;>cases h2:F (q.1,q.2,98)<;>simp[List.filter_cons,vo,h0,h1,h2,AX]
theorem Dc{F:Num}{q:Nat×Nat}{n:Int}:n∈o9 F q↔∃c,(c=112\/c=97\/c=98)/\F (q.1,q.2,c)=some n:=by
 unfold o9
 rw[List.mem_filterMap]
 constructor
 ·rintro⟨c,hc,h⟩
  exact⟨c,by simpa[vo]using hc,h⟩
 ·rintro⟨c,hc,h⟩
  exact⟨c,by simpa[vo]using hc,h⟩
theorem Mm{n:Int}{l:List Int}(h:n∈l):JT (.int n) (l.map V.int)=true:=by
 unfold JT
 rw[List.any_eq_true]
 exact⟨.int n,List.mem_map.mpr ⟨n,h,rfl⟩,by simp[La]⟩
end GP
set_option Elab.async false
set_option linter.all false
set_option maxRecDepth 100000
set_option maxHeartbeats 4000000
seal PySem.wpAny
namespace Ut
open PySem L2 uc GP
def top(i:Nat):Stmt:=PySem.Challenge.pw_gapweave_k21_paper_walked.main.body.getD i (.Pass ⟨0,0,0,0⟩)
abbrev ua(K:PySem.W.Frag):Lm:=⟨eN K "first_begin",⟨189,34,189,65⟩,(("first_begin" :Str)++ ".<locals>.")++ "<lambda>",eN K "state_behind",⟨191,40,191,77⟩,(("state_behind" :Str)++ ".<locals>.")++ "<lambda>"⟩
theorem jW{N P:List Str}{sc:Scope}(a:sc.kind=.function:=by rfl)(b:sc.isCoroutine=false:=by rfl)(c:sc.isGenerator=false:=by rfl)(d:N.Nodup:=by decide +kernel)(e:N.take P.length=P:=by rfl)(f:∀x∈P,sc.names.lookup x=some .local\/sc.names.lookup x=some .cell:=by decide +kernel)(g:∀y∈sc.names,y.2≠.free:=by decide +kernel):aF N P sc:=⟨a,b,c,d,e,f,g⟩
abbrev bV:Stmt:=inClass (top 4) 0
theorem rT:aF ["self","row","place"] ["self","row","place"] (ay bV):=jW
abbrev cX:Stmt:=top 6
theorem fU:aF ["one","other","rest"] ["one","other"] (ay cX):=jW
abbrev sN:Stmt:=top 7
theorem zO:aF ["fraction","divisor"] ["fraction"] (ay sN):=jW
abbrev qK:Stmt:=top 12
theorem wR:aF ["sign","number"] ["sign"] (ay qK):=jW
abbrev nK:Stmt:=top 13
theorem AA:aF ["text"] ["text"] (ay nK):=jW
abbrev lu:Stmt:=top 14
theorem wV:aF ["signs"] ["signs"] (ay lu):=jW
abbrev jx:Stmt:=top 15
theorem ow:aF ["signs","pairs","row"] ["signs","pairs"] (ay jx):=jW
abbrev iI:Stmt:=top 16
theorem vC:aF ["price"] ["price"] (ay iI):=jW
abbrev ju:Stmt:=top 17
theorem uh:aF ["row"] ["row"] (ay ju):=jW
abbrev mF:Stmt:=top 18
theorem nX:aF ["pairs","opening","more","unders","row"] ["pairs","opening","more"] (ay mF):=jW
abbrev j4:Stmt:=top 19
theorem eZ:aF ["unders","factors","unit","under","factor"] ["unders"] (ay j4):=jW
abbrev lZ:Stmt:=top 20
theorem kT:aF ["factors","product","factor"] ["factors"] (ay lZ):=jW
abbrev oA:Stmt:=top 21
theorem Ew:aF ["price","unit"] ["price","unit"] (ay oA):=jW
abbrev iR:Stmt:=top 22
theorem dm:aF ["signs","pairs","unit","costs","one","row","other","price"] ["signs","pairs","unit"] (ay iR):=jW
abbrev bU:Stmt:=inClass (top 23) 0
theorem rS:aF ["self","signs","pairs","opening","more"] ["self","signs","pairs","opening","more"] (ay bU):=jW
abbrev qG:Stmt:=top 24
theorem Es:aF ["prices"] ["prices"] (ay qG):=jW
abbrev lC:Stmt:=top 25
theorem Aw:aF ["prices","one","other"] ["prices","one","other"] (ay lC):=jW
abbrev iH:Stmt:=top 26
theorem vB:aF ["prices"] ["prices"] (ay iH):=jW
abbrev lD:Stmt:=top 27
theorem Ax:aF ["prices"] ["prices"] (ay lD):=jW
abbrev oQ:Stmt:=top 28
theorem iF:aF ["prices","number","over","under","factor","divisor"] ["prices","number"] (ay oQ):=jW
abbrev ly:Stmt:=top 31
theorem iG:aF ["known","rows","number","row","place","sign"] ["known","rows"] (ay ly):=jW
abbrev mD:Stmt:=top 32
theorem yt:aF ["prices","rows"] ["prices","rows"] (ay mD):=jW
abbrev j7:Stmt:=top 33
theorem vD:aF ["manner"] ["manner"] (ay j7):=jW
abbrev mE:Stmt:=top 34
theorem yu:aF ["prices","move","came"] ["prices","move","came"] (ay mE):=jW
abbrev nD:Stmt:=top 35
theorem Ay:aF ["manner","place"] ["manner","place"] (ay nD):=jW
abbrev qH:Stmt:=top 36
theorem Et:aF ["manner","first","second","place"] ["manner","first","second","place"] (ay qH):=jW
abbrev mG:Stmt:=top 39
theorem kW:aF ["first","second","places","i","j"] ["first","second"] (ay mG):=jW
abbrev lY:Stmt:=top 40
theorem kR:aF ["prices","first","second","place","came","i","j","steps"] ["prices","first","second","place","came"] (ay lY):=jW
abbrev nL:Stmt:=top 41
theorem lX:aF ["prices","first","second","places","steps","place","came"] ["prices","first","second","places"] (ay nL):=jW
abbrev oS:Stmt:=top 42
theorem pX:aF ["first","second","places","manner","ends","place"] ["first","second","places","manner"] (ay oS):=jW
abbrev bK:Stmt:=inClass (top 43) 0
theorem mS:aF ["self","prices","first","second","manner","places"] ["self","prices","first","second","manner"] (ay bK):=jW
abbrev kX:Stmt:=top 44
theorem jX:aF ["ground","rests","state","costs"] ["ground"] (ay kX):=jW
abbrev mz:Stmt:=top 45
theorem yr:aF ["ground","rests","state"] ["ground","rests","state"] (ay mz):=jW
abbrev k9:Stmt:=top 46
theorem wU:aF ["ground","rests"] ["ground","rests"] (ay k9):=jW
abbrev j5:Stmt:=top 47
theorem vA:aF ["ground","rests","state"] ["ground","rests","state"] (ay j5):=jW
abbrev k8:Stmt:=top 48
theorem j3:aF ["ground","rests","begin","state","moves"] ["ground","rests","begin"] (ay k8):=jW
abbrev oR:Stmt:=top 49
theorem nB:aF ["prices","first","second","manner","ground","rests","begin"] ["prices","first","second","manner"] (ay oR):=jW
abbrev jv:Stmt:=top 50
theorem cW:aF ["ground","numbers","begin","state","behind","cost","number"] ["ground"] (ay jv):=jW
abbrev mh:Stmt:=top 51
theorem yp:aF ["numbers","place"] ["numbers","place"] (ay mh):=jW
abbrev mT:Stmt:=top 52
theorem ny:aF ["prices","first","second","manner","numbers","paper","i"] ["prices","first","second","manner"] (ay mT):=jW
abbrev fR:Stmt:=top 54
theorem pW:aF ["_law_script","_law_at","_law_cell","_law_m"] ["_law_script","_law_at"] (ay fR):=jW
abbrev nJ:Stmt:=top 55
theorem oO:aF ["_law_script","_law_at","_law_m","_law_cell"] ["_law_script","_law_at"] (ay nJ):=jW
abbrev nG:Stmt:=top 56
theorem jY:aF ["_law_script","_law_at","_law_many","_law_every","_law_m","_law_step"] ["_law_script","_law_at","_law_many"] (ay nG):=jW
abbrev nH:Stmt:=top 57
theorem sL:aF ["_law_script","_law_at","_law_sort","_law_m"] ["_law_script","_law_at","_law_sort"] (ay nH):=jW
abbrev nF:Stmt:=top 58
theorem dN:aF ["_law_script","_law_at","_law_many","_law_m","_law_sort","_law_signs_here","_law_pairs","_law_k","_law_j","_law_opening","_law_more"] ["_law_script","_law_at","_law_many"] (ay nF):=jW
abbrev mj:Stmt:=top 59
theorem jn:aF ["_law_script","_law_at","_law_signs_here","_law_pairs","_law_opening","_law_more"] ["_law_script","_law_at"] (ay mj):=jW
abbrev qI:Stmt:=top 60
theorem jz:aF ["_law_script","_law_at","_law_signs_here","_law_most","_law_m","_law_sort","_law_row_here","_law_k"] ["_law_script","_law_at","_law_signs_here","_law_most"] (ay qI):=jW
abbrev mq:Stmt:=top 61
theorem yq:aF ["_law_m"] ["_law_m"] (ay mq):=jW
abbrev mU:Stmt:=top 62
theorem vc:aF ["_law_found","_law_due"] ["_law_found","_law_due"] (ay mU):=jW
abbrev qJ:Stmt:=top 63
theorem Eu:aF ["_law_prices_here","_law_goes_on"] ["_law_prices_here","_law_goes_on"] (ay qJ):=jW
abbrev jw:Stmt:=top 64
theorem um:aF ["_law_manner_here","_law_i","_law_j"] ["_law_manner_here","_law_i","_law_j"] (ay jw):=jW
abbrev k6:Stmt:=top 65
theorem wQ:aF ["_law_manner_here","_law_first","_law_second","_law_i","_law_j"] ["_law_manner_here","_law_first","_law_second","_law_i","_law_j"] (ay k6):=jW
abbrev mw:Stmt:=top 66
theorem kU:aF ["_law_paper","_law_first","_law_second","_law_line","_law_three","_law_number"] ["_law_paper","_law_first","_law_second"] (ay mw):=jW
abbrev iQ:Stmt:=top 67
theorem dj:aF ["_law_prices_here","_law_first","_law_second","_law_paper","_law_i","_law_j","_law_came","_law_number","_law_comes","_law_other","_law_cost"] ["_law_prices_here","_law_first","_law_second","_law_paper","_law_i","_law_j"] (ay iQ):=jW
abbrev nE:Stmt:=top 68
theorem Az:aF ["_law_prices_here","_law_cost"] ["_law_prices_here","_law_cost"] (ay nE):=jW
abbrev kZ:Stmt:=top 69
theorem fW:aF ["_law_prices_here","_law_first","_law_second","_law_manner_here","_law_told","e"] ["_law_prices_here","_law_first","_law_second","_law_manner_here"] (ay kZ):=jW
abbrev j6:Stmt:=top 70
theorem cP:aF ["_law_m","_law_prices_here","_law_first","_law_second","_law_other","_law_rows","_law_due","_law_k","_law_row_here","_law_spot"] ["_law_m","_law_prices_here","_law_first","_law_second"] (ay j6):=jW
abbrev kY:Stmt:=top 71
theorem jZ:aF ["_law_m","_law_prices_here","_law_first","_law_second","_law_rows","_law_due","_law_told"] ["_law_m","_law_prices_here","_law_first","_law_second"] (ay kY):=jW
abbrev qW:Stmt:=top 72
theorem j0:aF ["_law_script","_law_at","_law_prices_here","_law_first","_law_second","_law_manner_here","_law_paper","_law_least","_law_met","_law_i","_law_j","_law_three","_law_ends"] ["_law_script"] (ay qW):=jW
abbrev l4:List Str:=["_law_script","_law_at"]
abbrev l5:List Str:=["prices"]
abbrev l6:List Str:=["prices","first","second","manner"]
abbrev l7:List Str:=["price"]
abbrev l9:List Str:=["ground"]
abbrev K5:List Str:=["ground","rests","state"]
abbrev K4:List Str:=["_law_script","_law_at","_law_many"]
abbrev K3:List Str:=["_law_m","_law_prices_here","_law_first","_law_second"]
abbrev Me:List Str:=["one","other"]
abbrev Nb:List Str:=["self","prices","first","second","manner"]
abbrev Na:List Str:=["_law_found","_law_due"]
abbrev P1:List Str:=["price","unit"]
abbrev P0:List Str:=["prices","one","other"]
abbrev QZ:List Str:=["self","signs","pairs","opening","more"]
abbrev QY:List Str:=["self","row","place"]
abbrev QX:List Str:=["_law_script"]
abbrev SN:List Str:=["fraction"]
abbrev SM:List Str:=["pairs","opening","more"]
abbrev SK:List Str:=["signs","pairs"]
abbrev SJ:List Str:=["signs","pairs","unit"]
abbrev SI:List Str:=["prices","number"]
abbrev SH:List Str:=["known","rows"]
abbrev SG:List Str:=["prices","rows"]
abbrev SE:List Str:=["prices","move","came"]
abbrev SD:List Str:=["manner","place"]
abbrev SA:List Str:=["manner","first","second","place"]
abbrev Sz:List Str:=["first","second"]
abbrev Sy:List Str:=["prices","first","second","place","came"]
abbrev Sx:List Str:=["prices","first","second","places"]
abbrev Sw:List Str:=["first","second","places","manner"]
abbrev Sv:List Str:=["ground","rests"]
abbrev Su:List Str:=["ground","rests","begin"]
abbrev Ss:List Str:=["numbers","place"]
abbrev Sq:List Str:=["_law_script","_law_at","_law_sort"]
abbrev So:List Str:=["_law_script","_law_at","_law_signs_here","_law_most"]
abbrev Sn:List Str:=["_law_prices_here","_law_goes_on"]
abbrev Sl:List Str:=["_law_manner_here","_law_i","_law_j"]
abbrev Sk:List Str:=["_law_manner_here","_law_first","_law_second","_law_i","_law_j"]
abbrev Sj:List Str:=["_law_paper","_law_first","_law_second"]
abbrev Si:List Str:=["_law_prices_here","_law_first","_law_second","_law_paper","_law_i","_law_j"]
abbrev Sh:List Str:=["_law_prices_here","_law_cost"]
abbrev Sg:List Str:=["_law_prices_here","_law_first","_law_second","_law_manner_here"]
abbrev Xr:List Str:=["behind","cost","rests"]
abbrev ZA:List Str:=["_law_k","_law_every","_law_m","_law_step"]
abbrev Zz:List Str:=["_law_j","_law_script","_law_at","_law_many","_law_sort"]
abbrev Zy:List Str:=["_law_k","_law_script","_law_at","_law_sort"]
structure Pm where
 lU:Tok
 nu:Tok
 jB:Addr
 kO:Addr
 m8:Addr
 au:Addr
 aR:Addr
 fQ:Addr
 aG:Addr
 aC:Addr
structure Txt(K:PySem.W.Frag)(mg:Str->Option Value)(p:Pm)(base:Heap):Prop where
 Rl:mg "abs" =none
 ck:mg "len" =none
 z_ord:mg "ord" =none
 Rk:mg "set" =none
 ni:mg "tuple" =none
 Iu:mg "zip" =none
 uX:mg "enumerate" =none
 iB:mg "range" =none
 aV:mg "isinstance" =none
 BU:mg "int" =none
 Ea:mg "bool" =none
 MP:mg "all" =none
 rJ:mg "list" =none
 FD:mg "str" =none
 BS:mg "min" =none
 D9:mg "reversed" =none
 A8:mg "FIRST_SIGN" =some (.int 32 p.lU)
 Dq:mg "LAST_SIGN" =some (.int 126 p.nu)
 E6:mg "NO_SIGNS" =some (.ref p.jB)
 EA:∀H:Hp,c7 K H p.jB [.int 34,.int 37,.int 45]
 HD:mg "MANNERS" =some (.ref p.kO)
 G3:∀H:Hp,c7 K H p.kO [.str (Str.ofString "whole"),.str (Str.ofString "within"),.str (Str.ofString "over"),.str (Str.ofString "stretch")]
 Kg:mg "CAME" =some (.ref p.m8)
 uo:∀H:Hp,c7 K H p.m8 [.str (Str.ofString "p"),.str (Str.ofString "a"),.str (Str.ofString "b")]
 Ho:mg "Prices" =some (.ref p.au)
 bq:MO K p.au
 fX:bM K p.au "signs"
 mW:bM K p.au "pairs"
 kB:bM K p.au "opening"
 n8:bM K p.au "more"
 kC:bM K p.au "factors"
 jq:bM K p.au "unit"
 qc:bM K p.au "costs"
 j8:bM K p.au "opening_units"
 lR:bM K p.au "more_units"
 zT:mg "Ground" =some (.ref p.aR)
 fB:MO K p.aR
 fY:bM K p.aR "steps"
 lO:bM K p.aR "begins"
 n9:bM K p.aR "ends"
 yI:mg "WeaveError" =some (.ref p.fQ)
 qg:mg "NoManner" =some (.ref p.aG)
 BX:KP K p.aG
 BY:XB K p.aG
 BV:Nx K p.aG
 uD:mg "NoSign" =some (.ref p.aC)
 GQ:XB K p.aC
 ud:Nx K p.aC
 zB:Ub K p.aC
 GO:∃f,GI K p.aC f
 tu:bM K p.aC "row"
 qe:bM K p.aC "place"
 ym:XBase K p.fQ
 uG:PySem.W.subIn K (.ref p.aC) (.ref p.aC)=some true
 r9:PySem.W.subIn K (.ref p.aG) (.ref p.aC)=some false
 qm:PySem.W.subIn K (.ref p.aG) (.ref p.aG)=some true
 se:PySem.W.kitOne K (.ref p.aC) (.ref p.aG)=some false
 sj:PySem.W.kitOne K (.ref p.aG) (.ref p.aC)=some false
 bm:NH base mg
 xH:pK K "first_begin" =true
 xG:∀f,mg "first_begin" =some (.ref f)->PySem.W.nsIn K mainGlobals "first_begin" =some (some (.ref f))
 vM:pK K "state_behind" =true
 vL:∀f,mg "state_behind" =some (.ref f)->PySem.W.nsIn K mainGlobals "state_behind" =some (some (.ref f))
theorem QH:bootBuiltins "abs" =some (.builtin "abs"):=by decide +kernel
theorem bC:bootBuiltins "len" =some (.builtin "len"):=by decide +kernel
theorem QG:bootBuiltins "ord" =some (.builtin "ord"):=by decide +kernel
theorem QF:bootBuiltins "set" =some (.type "set"):=by decide +kernel
theorem lE:bootBuiltins "tuple" =some (.type "tuple"):=by decide +kernel
theorem aQ:bootBuiltins "isinstance" =some (.builtin "isinstance"):=by decide +kernel
theorem xU:bootBuiltins "int" =some (.type "int"):=by decide +kernel
theorem Bo:bootBuiltins "bool" =some (.type "bool"):=by decide +kernel
theorem KI:bootBuiltins "all" =some (.builtin "all"):=by decide +kernel
theorem pD:bootBuiltins "list" =some (.type "list"):=by decide +kernel
theorem Bm:bootBuiltins "str" =some (.type "str"):=by decide +kernel
theorem xT:bootBuiltins "min" =some (.builtin "min"):=by decide +kernel
section
variable{P:Program}{w:World}{K:PySem.W.Frag}{mg:Str->Option Value}{base:Heap}
theorem qR {br:Addr} {aZ:FuncData} {p:Pm} (T:Txt K mg p base) (aJ:Dn K mg "greatest_divisor" cX Me br aZ)  :aI P w K mg base cj 1 br aZ Me FU:=by
 refine aJ.fn.ok fU (λvs H Q E h=>?_) (λcdv A outer s H vs Q E hr h=>?_)
 ·obtain⟨a,b,rfl,_⟩:=h
  rfl
 ·obtain⟨a,b,rfl,hb,k⟩:=h
  refine⟨_,(aj (CF PassesOwn.never (aL qY (pv 1) ak (aO _)) (aj (aH (i:=2) fU.nd rfl (Or.inl rfl) (aD cy (pv 0) (pv 1)))
   (aj (aH (i:=0) fU.nd rfl (Or.inl rfl) (pv 1))
   (ao (aH (i:=1) fU.nd rfl (Or.inl rfl) (pv 2))))))
   (ao (aN (az (KD) rfl T.Rl QH (aa (pv 0) af))))),?_⟩
  refine⟨λm σ H'=>H'=H/\∃(x y:Int) (r:Option V),σ=[some (.int x),some (.int y),r]/\0<=y/\Int.gcd x y=Int.gcd a b/\m=y.toNat,⟨b.toNat,rfl,a,b,none,rfl,hb,rfl,rfl⟩,?_⟩
  rintro m σ H' ⟨rfl,x,y,r,rfl,hy,hg,rfl⟩
  refine⟨_,rfl,rfl,_,rfl,?_⟩
  refine qo (λh0=>?_) (λh0=>?_)
  ·have l1:=Int.emod_nonneg x h0
   have l2:=Int.emod_lt_of_pos x (show 0<y by omega)
   refine⟨λσ' NG=>NG=H'/\∃r,σ'=[some (.int y),some (.int (x % y)),r],?_,?_⟩
   ·rintro σ' NG ⟨rfl,r,rfl⟩
    exact⟨(x % y).toNat,by omega,rfl,y,x % y,r,rfl,l1,(Kf x y).trans hg,rfl⟩
   ·exact⟨_,rfl,_,rfl,_,_,rfl,rfl,(by show 0<y;omega),_,rfl,_,rfl,rfl,_,rfl⟩
  ·subst h0
   refine⟨_,rfl,_,rfl,?_⟩
   rw[My,hg]
   exact k
theorem G7 {oH br:Addr} {mK aZ:FuncData} {p:Pm} (T:Txt K mg p base) (lH:Dn K mg "lowest" sN SN oH mK) (aJ:Dn K mg "greatest_divisor" cX Me br aZ) (eV:aI P w K mg base cj 1 br aZ Me FU):aI P w K mg base cj 2 oH mK SN (MX K):=by
 refine lH.fn.ok zO (λvs H Q E h=>?_) (λcdv A outer s H vs Q E hr h=>?_)
 ·obtain⟨p,f,rfl,_⟩:=h
  rfl
 ·obtain⟨p,⟨a,b⟩,rfl,hS,hb,hb2,k⟩:=h
  have hb0:0<b:=hb
  have g1:=o6 a hb0
  have g2:=E5 a hb0
  have hb':b<1073741824:=hb2
  refine⟨_,(aj (aH (i:=1) zO.nd rfl (Or.inl rfl) (aA eV (hr.mono (by decide)) rfl aJ.m aJ.fn.kp aJ.b .nil aT (aa (aW bR (pv 0) ak (λ_ _=>rfl)) (aa (aW bR (pv 0) ak (λ_ _=>rfl)) af))))
   (ao (aN (bH (aa (aD dB (aW bR (pv 0) ak (λ_ _=>rfl)) (pv 1)) (aa (aD dB (aW bR (pv 0) ak (λ_ _=>rfl)) (pv 1)) af)))))),?_⟩
  refine⟨_,rfl,_,_,_,_,rfl,rfl,hS,rfl,_,rfl,_,_,_,_,rfl,rfl,hS,rfl,a,b,rfl,Int.le_of_lt hb,?_⟩
  refine⟨_,rfl,_,_,_,_,rfl,rfl,hS,rfl,_,rfl,_,_,rfl,rfl,⟨g1,by omega⟩,_,rfl,_,_,_,_,rfl,rfl,hS,rfl,_,rfl,_,_,rfl,rfl,⟨g1,by omega⟩,?_⟩
  exact⟨by show 2<=sizeLine;decide,λq hq=>k q hq⟩
theorem vH {cJ oH:Addr} {cg mK:FuncData} {p:Pm} (T:Txt K mg p base) (bu:Dn K mg "lowest_price" iI l7 cJ cg) (lH:Dn K mg "lowest" sN SN oH mK) (KW:aI P w K mg base cj 2 oH mK SN (MX K)):aI P w K mg base cj 3 cJ cg l7 (rR K):=by
 refine bu.fn.ok vC (λvs H Q E h=>?_) (λcdv A outer s H vs Q E hr h=>?_)
 ·obtain⟨p,f,rfl,_⟩:=h
  rfl
 ·obtain⟨p,f,rfl,hS,⟨h1,h2⟩,k⟩:=h
  refine⟨_,(aj (bE (aL qZ (aW bR (pv 0) ak (λ_ _=>rfl)) ak (aO _)) bN aP)
   (ao (aN (aA KW (hr.mono (by decide)) rfl lH.m lH.fn.kp lH.b .nil aT (aa (pv 0) af))))),?_⟩
  refine⟨_,rfl,_,_,_,_,rfl,rfl,hS,rfl,_,_,rfl,rfl,_,rfl,?_⟩
  refine cE (λz=>absurd z (by omega)) λ_=>?_
  exact⟨_,rfl,p,f,rfl,hS,by omega,h2,k⟩
theorem uw {fk cJ:Addr} {eB cg:FuncData} {p:Pm} (T:Txt K mg p base) (cR:Dn K mg "lowest_prices" ju ["row"] fk eB) (bu:Dn K mg "lowest_price" iI l7 cJ cg) (kj:aI P w K mg base cj 3 cJ cg l7 (rR K)):aI P w K mg base cj 4 fk eB ["row"] (uZ K):=by
 refine cR.fn.ok uh (λvs H Q E h=>?_) (λcdv A outer s H vs Q E hr h=>?_)
 ·obtain⟨c,fs,rfl,_⟩:=h
  rfl
 ·obtain⟨c,fs,rfl,⟨ps,hc,hp⟩,ho,hz,k⟩:=h
  have hl:=Paired.len hp
  refine⟨_,(ao (aN (ku (oj) rfl T.ni lE (aa (mH (N:=l7) rfl (λ_=>⟨[],cN.plain (by decide +kernel) rfl (by decide +kernel) (by decide +kernel)⟩) (CI (pv 0)) (λ_ _ _ _ _ _ _=>(aK (i:=0) (show(l7:List Str).Nodup by decide +kernel) rfl (Or.inl rfl))) (λ_ _ _ _ _ _ _=>(aA kj (hr.mono (by decide)) rfl bu.m bu.fn.kp bu.b .nil aT (aa (pv 0) af)))) af)))),?_⟩
  refine⟨_,rfl,c,_,rfl,hc,λl Mw=>?_⟩
  refine⟨λi m ys H2=>m=fs.length-i/\i<=fs.length/\ai H H2/\H2 l=some (.lst ys)/\∃qs:List Addr,ys=qs.map V.ref/\qs.length=i/\Paired (λq f=>H2 q=some (.tup [.int f.1,.int f.2])) qs ((fs.map gH).take i),⟨fs.length,rfl,Nat.zero_le _,ai.upd Mw,ah,[],rfl,rfl,.nil⟩,?_⟩
  rintro i m ys H2 ⟨rfl,hi,s2,hl2,qs,rfl,hq,hP⟩
  have zc:c.at K H2 (ps.map V.ref):=ai.cp s2 hc
  by_cases hlt:i<fs.length
  ·have ZQ:i<ps.length:=by omega
   have e1:(ps.map V.ref)[i]? =some (.ref ps[i]):=by rw[List.getElem?_map,List.getElem?_eq_getElem ZQ];rfl
   refine .inr ⟨⟨_,_,zc,e1⟩,?_⟩
   rintro x H3 ⟨rfl,hx⟩
   have ex:=hx _ zc
   rw[e1]at ex
   cases ex
   obtain⟨f,ef,hf⟩:=Paired.at hp (List.getElem?_eq_getElem ZQ)
   refine⟨Kp.rep _ _,?_⟩
   refine⟨_,rfl,ps[i],f,rfl,hf.same s2,ho f (List.mem_of_getElem? ef),λq hqn=>?_⟩
   have UJ:q≠l:=λz=>by rw[z,hl2]at hqn;cases hqn
   refine⟨by rw[aq (Ne.symm UJ)];exact hl2,?_,fs.length-(i+1),by omega,rfl,hlt,ai.at (s2.trans (ai.upd hqn)) Mw,ah,qs++[q],by rw[List.map_append];rfl,by rw[List.length_append,hq];rfl,?_⟩
   ·rw[List.length_map,hq]
    exact Nat.lt_of_lt_of_le hlt (Nat.le_trans hz (by decide))
   ·rw[rq ef]
    refine GP.Paired.snoc (Paired.iS hP λa b z=>?_) ?_
    ·have n1:a≠q:=aM z hqn
     have n2:a≠l:=qb z hl2 (by intro z;cases z)
     rw[aq n2,aq n1]
     exact z
    ·rw[aq UJ]
     exact ah
  ·have ei:i=fs.length:=by omega
   subst ei
   refine .inl ⟨⟨_,zc,by rw[List.length_map];omega⟩,?_⟩
   refine⟨l,_,rfl,.inl ⟨bP.of hl2,λq hqn=>?_⟩⟩
   refine k q _ (s2.trans (ai.upd hqn)) (ai.free s2 hqn) ⟨qs,c7.of ah,?_⟩
   rw[List.take_of_length_le (by rw[List.length_map];exact Nat.le_refl _)]at hP
   exact Paired.iS hP λa b z=>c7.of (by rw[aq (aM z hqn)];exact z)
theorem yG {jg:Addr} {g7:FuncData} {p:Pm} (T:Txt K mg p base) (fO:Dn K mg "all_unders" mF SM jg g7)  :aI P w K mg base cj 1 jg g7 SM (Ci K):=by
 refine fO.fn.ok nX (λvs H Q E h=>?_) (λcdv A outer s H vs Q E hr h=>?_)
 ·obtain⟨Pp,o,m,rows,fo,fm,rfl,_⟩:=h
  rfl
 ·obtain⟨Pp,o,m,rows,fo,fm,rfl,⟨cs,hc,hp⟩,hfo,hfm,abr,Ql,k⟩:=h
  refine⟨_,(aj (aH (i:=3) nX.nd rfl (Or.inl rfl) (jk (aa (aW bR (pv 1) ak (λ_ _=>rfl)) (aa (aW bR (pv 2) ak (λ_ _=>rfl)) af))))
   (aj (cG PassesOwn.never rfl (CI (pv 0)) (aK (i:=4) nX.nd rfl (Or.inl rfl)) (ao (cZ (lQ PySem.F.plainAttrs_list PySem.F.slot_list_extend PySem.F.type_list_extend Hj (pv 3) (aa (mH (N:=l7) rfl (λ_=>⟨[],cN.plain (by decide +kernel) rfl (by decide +kernel) (by decide +kernel)⟩) (CI (pv 4)) (λ_ _ _ _ _ _ _=>(aK (i:=0) (show(l7:List Str).Nodup by decide +kernel) rfl (Or.inl rfl))) (λ_ _ _ _ _ _ _=>(aW (Mj (K':=K) rfl) (pv 0) ak (λ_ _=>rfl)))) af)))))
   (ao (aN (pv 3))))),?_⟩
  refine⟨_,rfl,_,_,_,_,rfl,rfl,hfo,rfl,_,rfl,_,_,_,_,rfl,rfl,hfm,rfl,(by show 2<=sizeLine;decide),λl hl=>?_⟩
  have YG:∀i,((rows.take i).flatten.map (·.2)).length<=12*12:=λi=>by
   have:∀(q:List (List cF)),(∀r∈q,r.length<=12)->q.flatten.length<=12*q.length:=λq=>by
    induction q with
    |nil=>intro _;simp
    |cons r q ih =>
     intro h
     have a:=h r List.mem_cons_self
     have b:=ih λr' hr=>h r' (List.mem_cons_of_mem _ hr)
     rw[List.flatten_cons,List.length_append,List.length_cons]
     omega
   have a:=this (rows.take i) λr hr=>Ql r (List.mem_of_mem_take hr)
   have b:(rows.take i).length<=12:=by rw[List.length_take];omega
   rw[List.length_map]
   omega
  refine⟨_,rfl,.tup Pp,_,rfl,ai.cp (ai.upd hl) (c:=.tup Pp) hc,Kh (K:=K) (c:=.tup Pp) (xs:=cs.map Cp.val) (λi σ H2=>∃v4,σ=[some (.ref Pp),some (.ref o),some (.ref m),some (.ref l),v4]/\ai H H2/\H2 l=some (.lst ((fo.2::fm.2::(rows.take i).flatten.map (·.2)).map V.int)))
   ⟨_,rfl,ai.upd hl,ah⟩ (λi σ H2 _ ⟨_,_,s2,_⟩=>ai.cp s2 hc) ?_ ?_⟩
  ·rintro i x σ H2 hx ⟨v4,rfl,s2,hl2⟩
   obtain⟨c,ec,rfl⟩:=jl hx
   obtain⟨row,er,⟨ps,hc2,hp2⟩⟩:=Paired.at hp ec
   have Tv:=ai.cp s2 hc2
   refine⟨_,rfl,.inl ⟨rfl,_,bP.of hl2⟩,?_⟩
   refine⟨_,rfl,c,_,rfl,Tv,λlx hlx=>?_⟩
   refine⟨λj m' ys H3=>m'=row.length-j/\j<=row.length/\ai H2 H3/\H3 lx=some (.lst ys)/\ys=((row.take j).map (·.2)).map V.int,⟨row.length,rfl,Nat.zero_le _,ai.upd hlx,ah,rfl⟩,?_⟩
   rintro j m' ys H3 ⟨rfl,hj,s3,Qo,rfl⟩
   have zr:=ai.cp s3 Tv
   by_cases UZ:j<row.length
   ·have ZP:j<ps.length:=by rw[Paired.len hp2];exact UZ
    have e1:(ps.map V.ref)[j]? =some (.ref ps[j]):=by rw[List.getElem?_map,List.getElem?_eq_getElem ZP];rfl
    refine .inr ⟨⟨_,_,zr,e1⟩,?_⟩
    rintro y H4 ⟨rfl,S0⟩
    have ey:=S0 _ zr
    rw[e1]at ey
    cases ey
    refine⟨Kp.rep _ _,?_⟩
    obtain⟨f,ef,hf⟩:=Paired.at hp2 (List.getElem?_eq_getElem ZP)
    have hf':=hf.same (s2.trans s3)
    refine⟨_,rfl,_,_,_,_,rfl,rfl,hf',rfl,?_⟩
    refine⟨Qo,?_,row.length-(j+1),by omega,rfl,UZ,ai.at s3 hlx,ah,?_⟩
    ·rw[List.length_map,List.length_map,List.length_take]
     have:=Ql row (List.mem_of_getElem? er)
     exact Nat.lt_of_lt_of_le (show min j row.length<100 by omega) (by decide)
    ·rw[take_snoc ef,List.map_append,List.map_append]
     rfl
   ·have ej:j=row.length:=by omega
    subst ej
    rw[List.take_of_length_le (Nat.le_refl _)]at Qo
    refine .inl ⟨⟨_,zr,by rw[List.length_map,Paired.len hp2];exact Nat.le_refl _⟩,?_⟩
    have hl3:=s3 _ _ hl2
    refine⟨l,lx,_,_,rfl,rfl,hl3,Qo,?_,?_⟩
    ·have a:=YG i
     have a2:=Ql row (List.mem_of_getElem? er)
     have a3:((fo.2::fm.2::(rows.take i).flatten.map (·.2)).map V.int).length+((row.map (·.2)).map V.int).length<=200:=by
      rw[List.length_map,List.length_cons,List.length_cons,List.length_map,List.length_map,List.length_map]
      rw[List.length_map]at a
      omega
     exact Nat.le_trans a3 (by decide)
    refine⟨_,rfl,ai.at (s2.trans s3) hl,?_⟩
    rw[ah,take_snoc er,List.flatten_append,List.map_append]
    simp
  ·rintro σ H2 ⟨v4,rfl,s2,hl2⟩
   refine⟨_,rfl,?_⟩
   rw[List.length_map,Paired.len hp,List.take_of_length_le (Nat.le_refl _)]at hl2
   exact k l H2 s2 hl hl2
theorem vE {gm br:Addr} {e7 aZ:FuncData} {p:Pm} (T:Txt K mg p base) (c8:Dn K mg "unit_factors" j4 ["unders"] gm e7) (aJ:Dn K mg "greatest_divisor" cX Me br aZ) (eV:aI P w K mg base cj 1 br aZ Me FU):aI P w K mg base cj 2 gm e7 ["unders"] (zN K):=by
 refine c8.fn.ok eZ (λvs H Q E h=>?_) (λcdv A outer s H vs Q E hr h=>?_)
 ·obtain⟨l,ns,rfl,_⟩:=h
  rfl
 ·obtain⟨l,ns,rfl,hl,hn,hs,k⟩:=h
  refine⟨_,(aj (aH (i:=1) eZ.nd rfl (Or.inl rfl) (jk af))
   (aj (aH (i:=2) eZ.nd rfl (Or.inl rfl) ak)
   (aj (cG PassesOwn.never rfl (jy (pv 0)) (aK (i:=3) eZ.nd rfl (Or.inl rfl)) (aj (aH (i:=4) eZ.nd rfl (Or.inl rfl) (aD dB (pv 3) (aA eV (hr.mono (by decide)) rfl aJ.m aJ.fn.kp aJ.b .nil aT (aa (pv 2) (aa (pv 3) af)))))
   (ao (bE (aL q9 (pv 4) ak (aO _)) (aj (cZ (lQ PySem.F.plainAttrs_list PySem.F.slot_list_append PySem.F.type_list_append cY (pv 1) (aa (pv 4) af)))
   (ao (aH (i:=2) eZ.nd rfl (Or.inl rfl) (aD mV (pv 2) (pv 4))))) aP))))
   (ao (aN (pv 1)))))),?_⟩
  refine⟨by show 0<=sizeLine;decide,λq hq=>?_⟩
  refine⟨_,rfl,l,rfl,⟨_,ai.seq (ai.upd hq) hl⟩,jr (K:=K) (a:=l) (xs:=ns.map V.int) (λi σ H2=>∃v3 v4,σ=[some (.ref l),some (.ref q),some (.int (oG (ns.take i)).2),v3,v4]/\ai H H2/\H2 q=some (.lst ((oG (ns.take i)).1.map V.int)))
   ⟨_,_,rfl,ai.upd hq,ah⟩ (λi σ H2 _ ⟨_,_,_,s2,_⟩=>ai.seq s2 hl) ?_ ?_⟩
  ·rintro i x σ H2 hx ⟨v3,v4,rfl,s2,hq2⟩
   obtain⟨b,eb,rfl⟩:=jl hx
   have hi:i<ns.length:=(List.getElem?_eq_some_iff.mp eb).1
   have hb:=hs b (List.mem_of_getElem? eb)
   have F:=uO hs i (Nat.le_of_lt hi)
   have es:oG (ns.take (i+1))=qP (oG (ns.take i)) b:=by rw[take_snoc eb,xR]
   have fl:=F.len
   rw[List.length_take]at fl
   rw[es]
   unfold qP
   generalize hp:oG (ns.take i)=pr at *
   obtain⟨fs,u⟩:=pr
   obtain⟨b1,b2⟩:=hb
   have g1:=o6 u b1
   have g2:=E5 u b1
   obtain⟨d1,d2⟩:=Gz (u:=u) ⟨b1,b2⟩
   refine⟨_,rfl,_,rfl,_,rfl,u,b,rfl,Int.le_of_lt b1,_,_,rfl,rfl,⟨g1,by omega⟩,_,rfl,_,_,rfl,rfl,_,rfl,?_⟩
   refine cE (λh1=>?_) (λh1=>?_)
   ·rw[if_pos h1]
    refine⟨_,rfl,.inl ⟨rfl,_,bP.of hq2⟩,_,rfl,q,_,_,rfl,rfl,hq2,?_,?_⟩
    ·rw[List.length_map]
     exact Nat.lt_of_le_of_lt (show fs.length<=1000 by dsimp only at fl;omega) (by decide)
    refine⟨_,rfl,_,rfl,_,_,rfl,rfl,.inr ⟨by omega,by omega⟩,?_⟩
    exact⟨_,_,rfl,ai.at s2 hq,by rw[ah,List.map_append];rfl⟩
   ·rw[if_neg h1]
    exact⟨_,_,rfl,s2,hq2⟩
  ·rintro σ H2 ⟨v3,v4,rfl,s2,hq2⟩
   refine⟨_,rfl,?_⟩
   rw[List.length_map,List.take_of_length_le (Nat.le_refl _)]at hq2
   exact k q H2 s2 hq hq2
theorem yx {i7:Addr} {gQ:FuncData} {p:Pm} (T:Txt K mg p base) (fH:Dn K mg "product_of" lZ ["factors"] i7 gQ)  :aI P w K mg base cj 1 i7 gQ ["factors"] (IW K):=by
 refine fH.fn.ok kT (λvs H Q E h=>?_) (λcdv A outer s H vs Q E hr h=>?_)
 ·obtain⟨l,fs,rfl,_⟩:=h
  rfl
 ·obtain⟨l,fs,rfl,hl,hs,k⟩:=h
  refine⟨_,(aj (aH (i:=1) kT.nd rfl (Or.inl rfl) ak)
   (aj (cG PassesOwn.never rfl (jy (pv 0)) (aK (i:=2) kT.nd rfl (Or.inl rfl)) (ao (aH (i:=1) kT.nd rfl (Or.inl rfl) (aD mV (pv 1) (pv 2)))))
   (ao (aN (pv 1))))),?_⟩
  refine⟨_,rfl,l,rfl,⟨_,hl⟩,jr (K:=K) (a:=l) (xs:=fs.map V.int) (λi σ H2=>H2=H/\∃v2,σ=[some (.ref l),some (.int (qX (fs.take i))),v2])
   ⟨rfl,_,rfl⟩ (λi σ H2 _ ⟨e,_⟩=>by subst e;exact hl) ?_ ?_⟩
  ·rintro i x σ H2 hx ⟨rfl,v2,rfl⟩
   obtain⟨b,eb,rfl⟩:=jl hx
   obtain⟨b1,b2⟩:=hs b (List.mem_of_getElem? eb)
   refine⟨_,rfl,_,rfl,_,_,rfl,rfl,.inr ⟨by omega,by omega⟩,rfl,some (.int b),?_⟩
   rw[take_snoc eb,rV]
   rfl
  ·rintro σ H2 ⟨rfl,v2,rfl⟩
   refine⟨_,rfl,?_⟩
   rw[List.length_map,List.take_of_length_le (Nat.le_refl _)]
   exact k
theorem EH {je:Addr} {gF:FuncData} {p:Pm} (T:Txt K mg p base) (cO:Dn K mg "by_unit" oA P1 je gF)  :aI P w K mg base cj 1 je gF P1 (wN K):=by
 refine cO.fn.ok Ew (λvs H Q E h=>?_) (λcdv A outer s H vs Q E hr h=>?_)
 ·obtain⟨p,f,u,rfl,_⟩:=h
  rfl
 ·obtain⟨p,f,u,rfl,hS,⟨h1,h2⟩,b1,b2,k⟩:=h
  refine⟨_,(ao (aN (aD Ge (aW bR (pv 0) ak (λ_ _=>rfl)) (aD dB (pv 1) (aW bR (pv 0) ak (λ_ _=>rfl)))))),?_⟩
  exact⟨_,rfl,_,_,_,_,rfl,rfl,hS,rfl,_,rfl,_,rfl,_,_,_,_,rfl,rfl,hS,rfl,_,_,rfl,rfl,⟨by omega,h2⟩,_,_,rfl,rfl,⟨b1,b2⟩,k⟩
end
section
variable{P:Program}{w:World}{K:PySem.W.Frag}{mg:Str->Option Value}{base:Heap}
theorem EG {mR:Addr} {kJ:FuncData} {p:Pm} (T:Txt K mg p base) (jS:Dn K mg "is_sign" qK ["sign"] mR kJ)  :aI P w K mg base cj 1 mR kJ ["sign"] Cq:=by
 refine jS.fn.ok wR (λvs H Q E h=>?_) (λcdv A outer s H vs Q E hr h=>?_)
 ·obtain⟨c,rfl,_⟩:=h
  rfl
 ·obtain⟨c,rfl,k⟩:=h
  refine⟨_,(aj (aH (i:=1) wR.nd rfl (Or.inl rfl) (az (KC) rfl T.z_ord QG (aa (pv 0) af)))
   (ao (aN (jA (Js M6 M6 (nN (v:=.int 32) rfl T.A8 ⟨_,rfl⟩) (pv 1) (nN (v:=.int 126) rfl T.Dq ⟨_,rfl⟩)) (jj (bQ sU (pv 1) (nN (v:=.ref p.jB) rfl T.E6 rfl) (by with_unfolding_all rfl))))))),?_⟩
  refine⟨_,rfl,_,rfl,rfl,?_⟩
  have k':Q (.bl ((decide ((32:Int)<=(c:Int))&&decide ((c:Int)<=126))&& !JT (.int c) [.int 34,.int 37,.int 45])) H:=k
  refine⟨_,rfl,_,_,rfl,rfl,_,rfl,?_⟩
  refine cE (λh1=>?_) (λh1=>?_)
  ·refine⟨_,_,rfl,rfl,_,rfl,?_⟩
   have oq:(32:Int)<=(c:Int):=h1
   rw[decide_eq_true oq,Bool.true_and]at k'
   refine cE (λh2=>?_) (λh2=>?_)
   ·have h2':(c:Int)<=126:=h2
    rw[decide_eq_true h2',Bool.true_and]at k'
    exact⟨_,rfl,_,_,rfl,.inr (T.EA _),rfl,rfl,k'⟩
   ·have h2':¬(c:Int)<=126:=h2
    rw[decide_eq_false h2',Bool.false_and]at k'
    exact k'
  ·have oq:¬(32:Int)<=(c:Int):=h1
   rw[decide_eq_false oq,Bool.false_and,Bool.false_and]at k'
   exact⟨_,rfl,iC k'⟩
theorem AV {jO mR:Addr} {iZ kJ:FuncData} {p:Pm} (T:Txt K mg p base) (gD:Dn K mg "are_signs" nK ["text"] jO iZ) (jS:Dn K mg "is_sign" qK ["sign"] mR kJ) (Ig:aI P w K mg base cj 1 mR kJ ["sign"] Cq):aI P w K mg base cj 2 jO iZ ["text"] wO:=by
 refine gD.fn.ok AA (λvs H Q E h=>?_) (λcdv A outer s H vs Q E hr h=>?_)
 ·obtain⟨x,rfl,_⟩:=h
  rfl
 ·obtain⟨x,rfl,hx,k⟩:=h
  refine⟨_,(ao (aN (az (vp rfl) rfl T.MP KI (aa (mH (N:=["sign"]) rfl (λ_=>⟨[],cN.plain (by decide +kernel) rfl (by decide +kernel) (by decide +kernel)⟩) (Jk (pv 0)) (λ_ _ _ _ _ _ _=>(aK (i:=0) (show(["sign"]:List Str).Nodup by decide +kernel) rfl (Or.inl rfl))) (λ_ _ _ _ _ _ _=>(aA Ig (hr.mono (by decide)) rfl jS.m jS.fn.kp jS.b .nil aT (aa (pv 0) af)))) af)))),?_⟩
  refine⟨_,rfl,x,rfl,λl hl=>?_⟩
  refine⟨λi m ys H2=>m=x.cps.size-i/\i<=x.cps.size/\ai H H2/\H2 l=some (.lst ys)/\ys=((x.cps.toList.take i).map o5).map V.bl,⟨x.cps.size,rfl,Nat.zero_le _,ai.upd hl,ah,rfl⟩,?_⟩
  rintro i m ys H2 ⟨rfl,hi,s2,hl2,rfl⟩
  by_cases hlt:i<x.cps.size
  ·refine .inr ⟨hlt,?_⟩
   rintro y H3 ⟨rfl,c,ec,rfl⟩
   refine⟨Kp.rep _ _,?_⟩
   refine⟨_,rfl,c,rfl,?_⟩
   refine⟨hl2,?_,x.cps.size-(i+1),by omega,rfl,hlt,ai.at s2 hl,ah,?_⟩
   ·rw[List.length_map,List.length_map,List.length_take]
    exact Nat.lt_of_le_of_lt (show min i x.cps.toList.length<=1000 by omega) (by decide)
   ·rw[take_snoc (x:=c) (by rw[Array.getElem?_toList];exact ec),List.map_append,List.map_append]
    rfl
  ·have ei:i=x.cps.size:=by omega
   subst ei
   refine .inl ⟨Nat.le_refl _,?_⟩
   rw[List.take_of_length_le (by rw[Array.length_toList];exact Nat.le_refl _)]at hl2
   refine⟨l,_,rfl,bP.of hl2,?_⟩
   have e:(x.cps.toList.map o5).all id=x.cps.toList.all o5:=by rw[List.all_map];rfl
   rw[e]
   exact k H2 s2
theorem xx {iw jO:Addr} {gj iZ:FuncData} {p:Pm} (T:Txt K mg p base) (dZ:Dn K mg "check_signs" lu ["signs"] iw gj) (gD:Dn K mg "are_signs" nK ["text"] jO iZ) (DX:aI P w K mg base cj 2 jO iZ ["text"] wO):aI P w K mg base cj 3 iw gj ["signs"] sJ:=by
 refine dZ.fn.ok wV (λvs H Q E h=>?_) (λcdv A outer s H vs Q E hr h=>?_)
 ·obtain⟨x,rfl,_⟩:=h
  rfl
 ·obtain⟨x,rfl,⟨h1,h2,h3,h4⟩,k⟩:=h
  refine⟨_,(aj (bE (aL cQ (az (aU) rfl T.ck bC (aa (pv 0) af)) ak (aO _)) bN aP)
   (aj (bE (nY (eY (aA DX (hr.mono (by decide)) rfl gD.m gD.fn.kp gD.b .nil aT (aa (pv 0) af)))) bN aP)
   (ao (bE (aL qY (az (yQ) rfl T.ck bC (aa (ku (HM rfl) rfl T.Rk QF (aa (pv 0) af)) af)) (az (aU) rfl T.ck bC (aa (pv 0) af)) (aO _)) bN aP)))),?_⟩
  have hz:x.length<=sizeLine:=Nat.le_trans h2 (by decide)
  refine⟨_,rfl,_,_,rfl,⟨hz,rfl⟩,rfl,_,rfl,?_⟩
  refine oh (λz=>absurd z (by show ¬((x.cps.size:Nat):Int)=0;omega)) λ_=>?_
  refine⟨_,rfl,x,rfl,Nat.le_trans h2 (by decide),λH2 s2=>?_⟩
  refine⟨_,rfl,?_⟩
  rw[List.all_eq_true.mpr h3]
  refine m5 ?_
  refine⟨_,rfl,x,rfl,Nat.lt_of_le_of_lt (Nat.succ_le_succ h2) (by decide),λp hp=>?_⟩
  refine⟨p,_,rfl,ah,_,rfl,_,_,rfl,⟨hz,rfl⟩,rfl,_,rfl,?_⟩
  refine qo (λz=>absurd (by rw[Hq h4];rfl) z) λ_=>?_
  exact k _ (s2.trans (ai.upd hp))
theorem uz {fz:Addr} {eG:FuncData} {p:Pm} (T:Txt K mg p base) (cU:Dn K mg "check_lengths" jx SK fz eG)  :aI P w K mg base cj 1 fz eG SK (pU K):=by
 refine cU.fn.ok ow (λvs H Q E h=>?_) (λcdv A outer s H vs Q E hr h=>?_)
 ·obtain⟨x,c,rows,rfl,_⟩:=h
  rfl
 ·obtain⟨x,c,rows,rfl,⟨nc,cs,Zr,hc,hp⟩,hx,⟨hq1,hq2⟩,k⟩:=h
  refine⟨_,(aj (bE (aL qY (az (aU) rfl T.ck bC (aa (pv 1) af)) (az (aU) rfl T.ck bC (aa (pv 0) af)) (aO _)) bN aP)
   (ao (cG PassesOwn.never rfl (CI (pv 1)) (aK (i:=2) ow.nd rfl (Or.inl rfl)) (ao (bE (aL qY (az (aU) rfl T.ck bC (aa (pv 2) af)) (az (aU) rfl T.ck bC (aa (pv 0) af)) (aO _)) bN aP))))),?_⟩
  have hz:x.length<=sizeLine:=Nat.le_trans hx (by decide)
  have hl:(cs.map Cp.val).length=x.cps.size:=by rw[List.length_map,Paired.len hp,hq1]
  refine⟨_,rfl,_,_,rfl,Ky hc nc,_,rfl,_,_,rfl,⟨hz,rfl⟩,rfl,_,rfl,?_⟩
  refine qo (λz=>absurd (by rw[hl];rfl) z) λ_=>?_
  refine⟨_,rfl,c,_,rfl,hc,Kh (K:=K) (c:=c) (xs:=cs.map Cp.val) (λi σ H2=>H2=H/\∃v,σ=[some (.str x),some c.val,v]) ⟨rfl,_,rfl⟩ (λi σ H2 _ ⟨e,_⟩=>by subst e;exact hc) ?_ ?_⟩
  ·rintro i y σ H2 hy ⟨rfl,v,rfl⟩
   obtain⟨d,ed,rfl⟩:∃d,cs[i]? =some d/\y=d.val:=by
    rw[List.getElem?_map]at hy
    cases e:cs[i]? with
    |none=>rw[e]at hy;cases hy
    |some d=>rw[e]at hy;exact⟨d,rfl,(Option.some.inj hy).symm⟩
   obtain⟨row,er,hr2⟩:=Paired.at hp ed
   refine⟨_,rfl,_,_,rfl,hr2.len (Zr d (List.mem_of_getElem? ed)),_,rfl,_,_,rfl,⟨hz,rfl⟩,rfl,_,rfl,?_⟩
   refine qo (λz=>absurd (by rw[hq2 row (List.mem_of_getElem? er)];rfl) z) λ_=>?_
   exact⟨rfl,_,rfl⟩
  ·rintro σ H2 ⟨rfl,v,rfl⟩
   exact k
end
section
variable{P:Program}{w:World}{K:PySem.W.Frag}{mg:Str->Option Value}{base:Heap}
theorem sW {eL je:Addr} {dF gF:FuncData} {p:Pm} (T:Txt K mg p base) (cD:Dn K mg "costs_by_signs" iR SJ eL dF) (cO:Dn K mg "by_unit" oA P1 je gF) (qQ:aI P w K mg base cj 1 je gF P1 (wN K)):aI P w K mg base cj 2 eL dF SJ (FY K):=by
 refine cD.fn.ok dm (λvs H Q E h=>?_) (λcdv A outer s H vs Q E hr h=>?_)
 ·obtain⟨x,Pp,u,rows,rfl,_⟩:=h
  rfl
 ·obtain⟨x,Pp,u,rows,rfl,hM,hx,nd,⟨hq1,hq2⟩,ho,k⟩:=h
  refine⟨_,(aj (aH (i:=3) dm.nd rfl (Or.inl rfl) CL)
   (aj (cG PassesOwn.never rfl (EB rfl rfl T.Iu (aa (pv 0) (aa (pv 1) af))) (oW (n:=2) rfl (bS (aK (i:=4) dm.nd rfl (Or.inl rfl)) (bS (aK (i:=5) dm.nd rfl (Or.inl rfl)) lz))) (ao (cG PassesOwn.never rfl (EB rfl rfl T.Iu (aa (pv 0) (aa (pv 5) af))) (oW (n:=2) rfl (bS (aK (i:=6) dm.nd rfl (Or.inl rfl)) (bS (aK (i:=7) dm.nd rfl (Or.inl rfl)) lz))) (ao (F4 (Dk hr) (pv 3) (bH (aa (pv 4) (aa (pv 6) af))) (aA qQ (hr.mono (by decide)) rfl cO.m cO.fn.kp cO.b .nil aT (aa (pv 7) (aa (pv 2) af))) rfl)))))
   (ao (aN (pv 3))))),?_⟩
  intro d hd
  obtain⟨qs,S6,hp⟩:=hM
  have hlen:qs.length=x.cps.size:=by rw[Paired.len hp,hq1]
  have hmin:min (eX x).length (qs.map V.ref).length=x.cps.size:=by rw[signs_length,List.length_map,hlen,Nat.min_self]
  refine⟨_,rfl,_,rfl,.txt x,.tup Pp,_,_,rfl,rfl,Dat.tup (Dat.of (ai.upd hd)) S6,Gw (K:=K) (c:=.txt x) (d:=.tup Pp) (xs:=eX x) (ys:=qs.map V.ref) (λi σ H2=>∃kvs v4 v5 v6 v7,σ=[some (.str x),some (.ref Pp),some (.int u),some (.ref d),v4,v5,v6,v7]/\ai H H2/\H2 d=some (.dT kvs)/\kvs.length<=i*x.cps.size/\kP kvs x rows u i 0)
   ⟨[],_,_,_,_,rfl,ai.upd hd,ah,Nat.zero_le _,kP.nil x rows u⟩ (λi σ H2 _ ⟨kvs,v4,v5,v6,v7,_,s2,_⟩=>⟨rfl,Dat.tup (Dat.of s2) S6⟩) ?_ ?_⟩
  ·rintro i y z p1 σ H2 hy hz hp1 ⟨kvs,v4,v5,v6,v7,rfl,s2,hd2,hk,hc⟩
   obtain⟨a,ha,rfl⟩:=signs_get hy
   obtain⟨q,hq,rfl⟩:=jl hz
   obtain⟨row,er,Qh⟩:=Paired.at hp hq
   have hi:i<x.cps.size:=by rw[←hlen];exact(List.getElem?_eq_some_iff.mp hq).1
   obtain⟨ps,hps,hpp⟩:=Qh
   have hpl:ps.length=x.cps.size:=by rw[Paired.len hpp,hq2 row (List.mem_of_getElem? er)]
   have Tg:min (eX x).length (ps.map V.ref).length=x.cps.size:=by rw[signs_length,List.length_map,hpl,Nat.min_self]
   refine⟨p1,_,rfl,c7.of ah,rfl,_,_,rfl,_,_,rfl,rfl,?_⟩
   have UM:d≠p1:=aM hd2 hp1
   refine⟨_,rfl,_,rfl,.txt x,.tup q,_,_,rfl,rfl,Dat.tup (Dat.of (s2.trans (ai.upd hp1))) hps,Gw (K:=K) (c:=.txt x) (d:=.tup q) (xs:=eX x) (ys:=ps.map V.ref)
    (λj σ H3=>∃kvs v6 v7,σ=[some (.str x),some (.ref Pp),some (.int u),some (.ref d),some (.str ⟨#[a]⟩),some (.ref q),v6,v7]/\ai H H3/\H3 d=some (.dT kvs)/\kvs.length<=i*x.cps.size+j/\kP kvs x rows u i j)
    ⟨kvs,v6,v7,rfl,s2.trans (ai.upd hp1),by rw[aq UM];exact hd2,hk,hc⟩ (λj σ H3 _ ⟨kvs,v6,v7,_,s3,_⟩=>⟨rfl,Dat.tup (Dat.of s3) hps⟩) ?_ ?_⟩
   ·rintro j y z p2 σ H3 hy hz hp2 ⟨kvs,v6,v7,rfl,s3,BR,hk,hc⟩
    obtain⟨b,hb,rfl⟩:=signs_get hy
    obtain⟨pr,ZO,rfl⟩:=jl hz
    obtain⟨f,ef,hf⟩:=Paired.at hpp ZO
    have hj:j<x.cps.size:=by rw[←hpl];exact(List.getElem?_eq_some_iff.mp ZO).1
    obtain⟨o1,o2,o3⟩:=ho row (List.mem_of_getElem? er) f (List.mem_of_getElem? ef)
    refine⟨p2,_,rfl,c7.of ah,rfl,_,_,rfl,_,_,rfl,rfl,?_⟩
    have s4:=s3.trans (ai.upd (o:=.tup [.str ⟨#[b]⟩,.ref pr]) hp2)
    have Dl:upd H3 p2 (.tup [.str ⟨#[b]⟩,.ref pr]) d=some (.dT kvs):=by rw[aq (aM BR hp2)];exact BR
    refine⟨_,rfl,_,rfl,pr,f,u,rfl,hf.same s4,o1,o2.bg,o3.bg,?_⟩
    refine⟨_,rfl,_,rfl,_,rfl,by show 2<=sizeLine;decide,λt ht=>?_⟩
    have Yj:upd (upd H3 p2 (.tup [.str ⟨#[b]⟩,.ref pr])) t (.tup [.str ⟨#[a]⟩,.str ⟨#[b]⟩]) d=some (.dT kvs):=by rw[aq (aM Dl ht)];exact Dl
    have hsz:kvs.length<sizeLine:=by
     have:i*x.cps.size<=100*100:=Nat.mul_le_mul (by omega) hx
     have:kvs.length<20000:=by omega
     exact Nat.lt_of_lt_of_le this (by decide)
    refine⟨d,_,rfl,Ih.t (k:=keyOf a b) Yj ah hsz,?_⟩
    refine⟨putK kvs (keyOf a b) (.int (f.1*(u / f.2))),_,_,rfl,ai.at (s4.trans (ai.upd ht)) hd,ah,?_,hc.put nd ha hb ⟨row,er,ef⟩⟩
    have:=nO kvs (keyOf a b) (.int (f.1*(u / f.2)))
    omega
   ·rintro σ H3 ⟨kvs,v6,v7,rfl,s3,BR,hk,hc⟩
    rw[Tg]at hk hc
    refine⟨kvs,_,_,_,_,rfl,s3,BR,?_,hc.row (Nat.le_refl _)⟩
    rw[Nat.succ_mul]
    exact hk
  ·rintro σ H2 ⟨kvs,v4,v5,v6,v7,rfl,s2,hd2,hk,hc⟩
   rw[hmin]at hc
   exact⟨_,rfl,k d H2 kvs s2 hd hd2 (hc.all (Nat.le_refl _))⟩
theorem EC {mL:Addr} {kF:FuncData} {p:Pm} (T:Txt K mg p base) (jQ:Dn K mg "unit_of" qG l5 mL kF)  :aI P w K mg base cj 1 mL kF l5 (Cg K p.au):=by
 refine jQ.fn.ok Es (λvs H Q E h=>?_) (λcdv A outer s H vs Q E hr h=>?_)
 ·obtain⟨x,sg,rows,fo,fm,rfl,_⟩:=h
  rfl
 ·obtain⟨x,sg,rows,fo,fm,rfl,⟨_,_,_,_,_,_,_,dx,Pp,o,m,d,kvs,h1,h2,h3,h4,h5,h6⟩,k⟩:=h
  refine⟨_,(ao (aN (cH (pv 0) rfl))),?_⟩
  exact⟨_,rfl,x,_,_,_,_,rfl,h1,T.bq,T.jq,HE,k⟩
theorem AL {fE:Addr} {dO:FuncData} {p:Pm} (T:Txt K mg p base) (cB:Dn K mg "pair_cost" lC P0 fE dO)  :aI P w K mg base cj 1 fE dO P0 (rQ K p.au):=by
 refine cB.fn.ok Aw (λvs H Q E h=>?_) (λcdv A outer s H vs Q E hr h=>?_)
 ·obtain⟨x,sg,rows,fo,fm,i,j,a,b,f,rfl,_⟩:=h
  rfl
 ·obtain⟨x,sg,rows,fo,fm,i,j,a,b,f,rfl,⟨_,_,_,_,_,_,_,dx,Pp,o,m,d,kvs,h1,h2,h3,h4,h5,h6⟩,ha,hb,hf,k⟩:=h
  refine⟨_,(ao (aN (AJ (Dk hr) (cH (pv 0) rfl) (bH (aa (pv 1) (aa (pv 2) af))) (λ_ _=>rfl)))),?_⟩
  refine⟨_,rfl,x,_,_,_,_,rfl,h1,T.bq,T.qc,E8,?_⟩
  refine⟨_,rfl,_,rfl,by show 2<=sizeLine;decide,λt ht=>?_⟩
  have Yj:upd H t (.tup [.str ⟨#[a]⟩,.str ⟨#[b]⟩]) d.1=some (.dT kvs):=by rw[aq (aM h5 ht)];exact h5
  have z:=D3.t (k:=keyOf a b) Yj ah
  rw[h6.1 i j a b f ha hb hf]at z
  exact⟨d.1,_,rfl,z,k _ (ai.upd ht)⟩
theorem vG {cI:Addr} {b9:FuncData} {p:Pm} (T:Txt K mg p base) (bD:Dn K mg "opening_cost" iH l5 cI b9)  :aI P w K mg base cj 2 cI b9 l5 (ug K p.au):=by
 refine bD.fn.ok vB (λvs H Q E h=>?_) (λcdv A outer s H vs Q E hr h=>?_)
 ·obtain⟨x,sg,rows,fo,fm,rfl,_⟩:=h
  rfl
 ·obtain⟨x,sg,rows,fo,fm,rfl,⟨_,_,_,_,_,_,_,dx,Pp,o,m,d,kvs,h1,h2,h3,h4,h5,h6⟩,k⟩:=h
  refine⟨_,(ao (aN (cH (pv 0) rfl))),?_⟩
  exact⟨_,rfl,x,_,_,_,_,rfl,h1,T.bq,T.j8,sD,k⟩
theorem AM {fF:Addr} {dP:FuncData} {p:Pm} (T:Txt K mg p base) (bA:Dn K mg "more_cost" lD l5 fF dP)  :aI P w K mg base cj 2 fF dP l5 (Eo K p.au):=by
 refine bA.fn.ok Ax (λvs H Q E h=>?_) (λcdv A outer s H vs Q E hr h=>?_)
 ·obtain⟨x,sg,rows,fo,fm,rfl,_⟩:=h
  rfl
 ·obtain⟨x,sg,rows,fo,fm,rfl,⟨_,_,_,_,_,_,_,dx,Pp,o,m,d,kvs,h1,h2,h3,h4,h5,h6⟩,k⟩:=h
  refine⟨_,(ao (aN (cH (pv 0) rfl))),?_⟩
  exact⟨_,rfl,x,_,_,_,_,rfl,h1,T.bq,T.lR,vO,k⟩
theorem CT {kK br:Addr} {jG aZ:FuncData} {p:Pm} (T:Txt K mg p base) (iM:Dn K mg "in_units" oQ SI kK jG) (aJ:Dn K mg "greatest_divisor" cX Me br aZ) (eV:aI P w K mg base cj 1 br aZ Me FU):aI P w K mg base cj 2 kK jG SI (zM K p.au):=by
 refine iM.fn.ok iF (λvs H Q E h=>?_) (λcdv A outer s H vs Q E hr h=>?_)
 ·obtain⟨x,n,sg,rows,fo,fm,rfl,_⟩:=h
  rfl
 ·obtain⟨x,n,sg,rows,fo,fm,rfl,⟨_,_,_,_,_,u1,u2,dx,Pp,o,m,d,kvs,h1,h2,h3,h4,h5,h6,fs,h7,h8,h9⟩,k⟩:=h
  refine⟨_,(aj (aH (i:=2) iF.nd rfl (Or.inl rfl) (pv 1))
   (aj (aH (i:=3) iF.nd rfl (Or.inl rfl) ak)
   (aj (cG PassesOwn.never rfl (jy (cH (pv 0) rfl)) (aK (i:=4) iF.nd rfl (Or.inl rfl)) (aj (aH (i:=5) iF.nd rfl (Or.inl rfl) (aA eV (hr.mono (by decide)) rfl aJ.m aJ.fn.kp aJ.b .nil aT (aa (pv 2) (aa (pv 4) af))))
   (aj (aH (i:=2) iF.nd rfl (Or.inl rfl) (aD dB (pv 2) (pv 5)))
   (ao (aH (i:=3) iF.nd rfl (Or.inl rfl) (aD mV (pv 3) (aD dB (pv 4) (pv 5))))))))
   (ao (aN (bH (aa (pv 2) (aa (pv 3) af)))))))),?_⟩
  refine⟨_,rfl,_,rfl,x,_,_,_,_,rfl,h1,T.bq,T.kC,o8,d.2,rfl,⟨_,bP.of h9⟩,jr (K:=K) (a:=d.2) (xs:=fs.map V.int) (λi σ H2=>H2=H/\∃(ov un:Int) (v4 v5:Option V),σ=[some (.ref x),some (.int n),some (.int ov),some (.int un),v4,v5]/\0<un/\Int.gcd ov un=1/\ov*qX (fs.take i)=n*un)
   ⟨rfl,n,1,_,_,rfl,by decide,Int.gcd_one_right n,by show n*qX []=n*1;rfl⟩ (λi σ H2 _ ⟨e,_⟩=>by subst e;exact bP.of h9) ?_ ?_⟩
  ·rintro i y σ H2 hy ⟨rfl,ov,un,v4,v5,rfl,hun,hg,he⟩
   obtain⟨b,eb,rfl⟩:=jl hy
   obtain⟨b1,b2⟩:=h7 b (List.mem_of_getElem? eb)
   have g1:=o6 ov b1
   have g2:=E5 ov b1
   have d1:0<b / (Int.gcd ov b:Int):=Int.ediv_pos_of_pos_of_dvd b1 (Int.le_of_lt g1) (Int.gcd_dvd_right ov b)
   have d2:b / (Int.gcd ov b:Int)<=b:=Int.ediv_le_self _ (Int.le_of_lt b1)
   refine⟨_,rfl,_,rfl,ov,b,rfl,Int.le_of_lt b1,_,rfl,_,rfl,_,_,rfl,rfl,⟨g1,by omega⟩,_,rfl,_,rfl,_,rfl,_,_,rfl,rfl,⟨g1,by omega⟩,_,_,rfl,rfl,.inr ⟨by omega,by omega⟩,?_⟩
   refine⟨rfl,_,_,_,_,rfl,Int.mul_pos hun d1,Kz b1 hg,?_⟩
   rw[take_snoc eb,rV]
   exact Fe he
  ·rintro σ H2 ⟨rfl,ov,un,v4,v5,rfl,hun,hg,he⟩
   rw[List.length_map,List.take_of_length_le (Nat.le_refl _),h8]at he
   have el:=R8 u1 hun hg he
   refine⟨_,rfl,_,rfl,by show 2<=sizeLine;decide,λq hq=>k q _ (ai.upd hq) hq ?_⟩
   rw[ah,el]
end
section
variable{P:Program}{w:World}{K:PySem.W.Frag}{mg:Str->Option Value}{base:Heap}
theorem rX {bx iw fz fk cJ jg gm i7 eL je:Addr} {eO gj eG eB cg g7 e7 gQ dF gF:FuncData} {p:Pm} (T:Txt K mg p base) (dG:Dm K "__init__" "Prices.__init__" bU QZ bx eO) (dZ:Dn K mg "check_signs" lu ["signs"] iw gj) (zu:aI P w K mg base cj 3 iw gj ["signs"] sJ) (cU:Dn K mg "check_lengths" jx SK fz eG) (vZ:aI P w K mg base cj 1 fz eG SK (pU K)) (cR:Dn K mg "lowest_prices" ju ["row"] fk eB) (vW:aI P w K mg base cj 4 fk eB ["row"] (uZ K)) (bu:Dn K mg "lowest_price" iI l7 cJ cg) (kj:aI P w K mg base cj 3 cJ cg l7 (rR K)) (fO:Dn K mg "all_unders" mF SM jg g7) (BO:aI P w K mg base cj 1 jg g7 SM (Ci K)) (c8:Dn K mg "unit_factors" j4 ["unders"] gm e7) (yg:aI P w K mg base cj 2 gm e7 ["unders"] (zN K)) (fH:Dn K mg "product_of" lZ ["factors"] i7 gQ) (BH:aI P w K mg base cj 1 i7 gQ ["factors"] (IW K)) (cD:Dn K mg "costs_by_signs" iR SJ eL dF) (uV:aI P w K mg base cj 2 eL dF SJ (FY K)) (cO:Dn K mg "by_unit" oA P1 je gF) (qQ:aI P w K mg base cj 1 je gF P1 (wN K)):aI P w K mg base cj 5 bx eO QZ (Ja K p.au):=by
 refine dG.fn.ok rS (λvs H Q E h=>?_) (λcdv A outer s H vs Q E hr h=>?_)
 ·obtain⟨x,dx,o,m,sg,c,rows,fo,fm,rfl,_⟩:=h
  rfl
 ·obtain⟨x,dx,o,m,sg,c,rows,fo,fm,rfl,hx,hS,h12,hM,UP,hok,hfo,Ik,hfm,Il,k⟩:=h
  have S:=hS
  obtain⟨q1,q2,q3,q4⟩:=S
  refine⟨_,(aj (cZ (aA zu (hr.mono (by decide)) rfl dZ.m dZ.fn.kp dZ.b .nil aT (aa (pv 1) af)))
   (aj (cZ (aA vZ (hr.mono (by decide)) rfl cU.m cU.fn.kp cU.b .nil aT (aa (pv 1) (aa (pv 2) af))))
   (aj (lM (pv 0) (pv 1) rfl)
   (aj (lM (pv 0) (ku (oj) rfl T.ni lE (aa (mH (N:=["row"]) rfl (λ_=>⟨[],cN.plain (by decide +kernel) rfl (by decide +kernel) (by decide +kernel)⟩) (CI (pv 2)) (λ_ _ _ _ _ _ _=>(aK (i:=0) (show(["row"]:List Str).Nodup by decide +kernel) rfl (Or.inl rfl))) (λ_ _ _ _ _ _ _=>(aA vW (hr.mono (by decide)) rfl cR.m cR.fn.kp cR.b .nil aT (aa (pv 0) af)))) af)) rfl)
   (aj (lM (pv 0) (aA kj (hr.mono (by decide)) rfl bu.m bu.fn.kp bu.b .nil aT (aa (pv 3) af)) rfl)
   (aj (lM (pv 0) (aA kj (hr.mono (by decide)) rfl bu.m bu.fn.kp bu.b .nil aT (aa (pv 4) af)) rfl)
   (aj (lM (pv 0) (aA yg (hr.mono (by decide)) rfl c8.m c8.fn.kp c8.b .nil aT (aa (aA BO (hr.mono (by decide)) rfl fO.m fO.fn.kp fO.b .nil aT (aa (cH (pv 0) rfl) (aa (cH (pv 0) rfl) (aa (cH (pv 0) rfl) af)))) af)) rfl)
   (aj (lM (pv 0) (aA BH (hr.mono (by decide)) rfl fH.m fH.fn.kp fH.b .nil aT (aa (cH (pv 0) rfl) af)) rfl)
   (aj (lM (pv 0) (aA uV (hr.mono (by decide)) rfl cD.m cD.fn.kp cD.b .nil aT (aa (cH (pv 0) rfl) (aa (cH (pv 0) rfl) (aa (cH (pv 0) rfl) af)))) rfl)
   (aj (lM (pv 0) (aA qQ (hr.mono (by decide)) rfl cO.m cO.fn.kp cO.b .nil aT (aa (cH (pv 0) rfl) (aa (cH (pv 0) rfl) af))) rfl)
   (ao (lM (pv 0) (aA qQ (hr.mono (by decide)) rfl cO.m cO.fn.kp cO.b .nil aT (aa (cH (pv 0) rfl) (aa (cH (pv 0) rfl) af))) rfl)))))))))))),?_⟩
  refine⟨_,rfl,sg,rfl,hS,λH1 s1=>?_⟩
  refine⟨_,rfl,_,rfl,sg,c,rows,rfl,hM.dat (Dat.of s1),by omega,UP,?_⟩
  have Q4:H1 x=some (.ins p.au dx []):=s1 _ _ hx
  refine⟨_,rfl,_,rfl,x,_,dx,_,rfl,Q4,T.bq,T.fX,by decide,?_⟩
  generalize U5:upd H1 x (.ins p.au dx (aE "signs" (.str sg) []))=H2
  have hx2:H2 x=some (.ins p.au dx (aE "signs" (.str sg) [])):=by rw[←U5];exact ah
  have f2:Off x H H2:=by rw[←U5];exact(Off.of s1).trans Off.set
  obtain⟨nc,cs,Zr,hcs,hp⟩:=hM.dat (f2.dat hx)
  refine⟨_,rfl,c,_,rfl,hcs,λl Mw=>?_⟩
  refine⟨λi n ys H3=>n=rows.length-i/\i<=rows.length/\ai H2 H3/\H3 l=some (.lst ys)/\∃qs:List Addr,ys=qs.map V.ref/\qs.length=i/\Paired (λq r=>ki K H3 (.tup q) r) qs ((yK rows).take i),⟨rows.length,rfl,Nat.zero_le _,ai.upd Mw,ah,[],rfl,rfl,.nil⟩,?_⟩
  rintro i n ys H3 ⟨rfl,hi,s3,hl3,qs,rfl,hq,hP⟩
  have zc:c.at K H3 (cs.map Cp.val):=ai.cp s3 hcs
  have hcl:=Paired.len hp
  by_cases hlt:i<rows.length
  ·have ZV:i<cs.length:=by omega
   have e1:(cs.map Cp.val)[i]? =some cs[i].val:=by rw[List.getElem?_map,List.getElem?_eq_getElem ZV];rfl
   refine .inr ⟨⟨_,_,zc,e1⟩,?_⟩
   rintro y H4 ⟨rfl,hy⟩
   have ey:=hy _ zc
   rw[e1]at ey
   cases ey
   obtain⟨r,er,hr2⟩:=Paired.at hp (List.getElem?_eq_getElem ZV)
   have hrm:=List.mem_of_getElem? er
   refine⟨Kp.rep _ _,?_⟩
   refine⟨_,rfl,cs[i],r,rfl,hr2.same s3,λf hf=>(hok r hrm f hf).1,by rw[UP.2 r hrm];omega,λq H5 s5 hqn hR=>?_⟩
   have UW:H5 l=some (.lst (qs.map V.ref)):=s5 _ _ hl3
   refine⟨UW,?_,rows.length-(i+1),by omega,rfl,hlt,ai.at (s3.trans s5) Mw,ah,qs++[q],by rw[List.map_append];rfl,by rw[List.length_append,hq];rfl,?_⟩
   ·rw[List.length_map,hq]
    have:i<100:=by rw[UP.1]at hlt;omega
    exact Nat.lt_of_lt_of_le this (by decide)
   ·rw[show(yK rows).take (i+1)=(yK rows).take i++[r.map gH] from rq er]
    refine GP.Paired.snoc (Paired.iS hP λa b z=>?_) ?_
    ·exact(z.same s5).off UW
    ·exact hR.off UW
  ·have ei:i=rows.length:=by omega
   subst ei
   refine .inl ⟨⟨_,zc,by rw[List.length_map];omega⟩,?_⟩
   refine⟨l,_,rfl,.inl ⟨bP.of hl3,λPp Z0=>?_⟩⟩
   generalize Z5:upd H3 Pp (.tup (qs.map V.ref))=H4
   have s4:ai H2 H4:=by rw[←Z5];exact s3.trans (ai.upd Z0)
   have m4:Br K H4 Pp (yK rows):=by
    rw[←Z5]
    refine⟨qs,c7.of ah,?_⟩
    rw[List.take_of_length_le (by unfold yK;rw[List.length_map];exact Nat.le_refl _)]at hP
    exact Paired.iS hP λa b z=>z.same (ai.upd Z0)
   have S3:=s4 _ _ hx2
   refine⟨_,rfl,x,_,dx,_,rfl,S3,T.bq,T.mW,Zg,?_⟩
   generalize YA:upd H4 x (.ins p.au dx (aE "pairs" (.ref Pp) (aE "signs" (.str sg) [])))=H5
   have hx5:H5 x=some (.ins p.au dx (aE "pairs" (.ref Pp) (aE "signs" (.str sg) []))):=by rw[←YA];exact ah
   have f5:Off x H H5:=by rw[←YA];exact(f2.trans (Off.of s4)).trans Off.set
   have d5:Dat H4 H5:=by rw[←YA];exact Dat.set S3
   refine⟨_,rfl,o,fo,rfl,hfo.dat (f5.dat hx),Ik.1,λo' ho'=>?_⟩
   generalize Z4:upd H5 o' (.tup [.int (gH fo).1,.int (gH fo).2])=H6
   have s6:ai H5 H6:=by rw[←Z4];exact ai.upd ho'
   have ho6:kr K H6 o' (gH fo):=by rw[←Z4];exact c7.of ah
   have Nh:=s6 _ _ hx5
   refine⟨_,rfl,x,_,dx,_,rfl,Nh,T.bq,T.kB,pl2,?_⟩
   generalize Yz:upd H6 x (.ins p.au dx (aE "opening" (.ref o') (aE "pairs" (.ref Pp) (aE "signs" (.str sg) []))))=H7
   have hx7:H7 x=some (.ins p.au dx (aE "opening" (.ref o') (aE "pairs" (.ref Pp) (aE "signs" (.str sg) [])))):=by rw[←Yz];exact ah
   have f7:Off x H H7:=by rw[←Yz];exact(f5.trans (Off.of s6)).trans Off.set
   have d7:Dat H6 H7:=by rw[←Yz];exact Dat.set Nh
   refine⟨_,rfl,m,fm,rfl,hfm.dat (f7.dat hx),Il.1,λm' hm'=>?_⟩
   generalize Z3:upd H7 m' (.tup [.int (gH fm).1,.int (gH fm).2])=H8
   have s8:ai H7 H8:=by rw[←Z3];exact ai.upd hm'
   have hm8:kr K H8 m' (gH fm):=by rw[←Z3];exact c7.of ah
   have ZG:=s8 _ _ hx7
   refine⟨_,rfl,x,_,dx,_,rfl,ZG,T.bq,T.n8,pl3,?_⟩
   generalize Yy:upd H8 x (.ins p.au dx (aE "more" (.ref m') (aE "opening" (.ref o') (aE "pairs" (.ref Pp) (aE "signs" (.str sg) [])))))=H9
   have S2:H9 x=some (.ins p.au dx (aE "more" (.ref m') (aE "opening" (.ref o') (aE "pairs" (.ref Pp) (aE "signs" (.str sg) []))))):=by rw[←Yy];exact ah
   have f9:Off x H H9:=by rw[←Yy];exact(f7.trans (Off.of s8)).trans Off.set
   have d9:Dat H8 H9:=by rw[←Yy];exact Dat.set ZG
   have e69:Dat H6 H9:=d7.trans ((Dat.of s8).trans d9)
   have e49:Dat H4 H9:=d5.trans ((Dat.of s6).trans e69)
   have M9:Br K H9 Pp (yK rows):=m4.dat e49
   have O9:kr K H9 o' (gH fo):=ho6.dat e69
   have m9:kr K H9 m' (gH fm):=hm8.dat d9
   have RZ:∀r∈yK rows,∀f∈r,DR f:=A0 λr hr f hf=>qj (hok r hr f hf).1
   have Pc:=L5 UP
   refine⟨_,rfl,x,_,_,_,_,rfl,S2,T.bq,T.mW,JD,_,rfl,x,_,_,_,_,rfl,S2,T.bq,T.kB,ET,_,rfl,x,_,_,_,_,rfl,S2,T.bq,T.n8,LY,?_⟩
   refine⟨Pp,o',m',yK rows,gH fo,gH fm,rfl,M9.mat,O9,m9,by rw[Pc.1];exact h12,λr hr=>by rw[Pc.2 r hr];exact h12,λl1 Ha sa hl1 hla=>?_⟩
   have Zi:∀n∈lA (gH fo) (gH fm) (yK rows),om n:=λn hn=>by
    have z:∀{f:cF},DR f->om f.2:=λq=>⟨by have:=q.1;omega,q.2⟩
    rcases List.mem_cons.mp hn with e|hn
    ·rw[e];exact z (qj Ik.1)
    rcases List.mem_cons.mp hn with e|hn
    ·rw[e];exact z (qj Il.1)
    obtain⟨f,hf,rfl⟩:=List.mem_map.mp hn
    obtain⟨r,hr,hfr⟩:=List.mem_flatten.mp hf
    exact z (RZ r hr f hfr)
   have Xq:(lA (gH fo) (gH fm) (yK rows)).length<=1000:=by
    unfold lA
    rw[List.length_cons,List.length_cons,List.length_map,xP Pc.2,Pc.1]
    have:sg.cps.size*sg.cps.size<=12*12:=Nat.mul_le_mul h12 h12
    omega
   refine⟨l1,_,rfl,bP.of hla,Xq,Zi,λfl Hb sb hfl hlb=>?_⟩
   have FI:=MB Zi
   have eU:qX (oG (lA (gH fo) (gH fm) (yK rows))).1=cu (gH fo).2 (gH fm).2 (yK rows):=by rw[FI.prod,FI.unit,B5]
   have hsm:=FI.small
   generalize (oG (lA (gH fo) (gH fm) (yK rows))).1=U6 at hlb eU hsm
   clear FI
   have hxb:=sb _ _ (sa _ _ S2)
   refine⟨_,rfl,x,_,dx,_,rfl,hxb,T.bq,T.kC,pl4,?_⟩
   generalize U4:upd Hb x (.ins p.au dx (aE "factors" (.ref fl) (aE "more" (.ref m') (aE "opening" (.ref o') (aE "pairs" (.ref Pp) (aE "signs" (.str sg) []))))))=Hc
   have hxc:Hc x=some (.ins p.au dx (aE "factors" (.ref fl) (aE "more" (.ref m') (aE "opening" (.ref o') (aE "pairs" (.ref Pp) (aE "signs" (.str sg) [])))))):=by rw[←U4];exact ah
   have fc:Off x H Hc:=by rw[←U4];exact((f9.trans (Off.of sa)).trans (Off.of sb)).trans Off.set
   have dc:Dat H9 Hc:=by rw[←U4];exact((Dat.of sa).trans (Dat.of sb)).trans (Dat.set hxb)
   have To:Hc fl=some (.lst (U6.map V.int)):=by rw[←U4];exact Dat.set hxb fl _ (λ_ _ _ z=>by cases z) hlb
   refine⟨_,rfl,x,_,_,_,_,rfl,hxc,T.bq,T.kC,EU,fl,U6,rfl,bP.of To,hsm,?_⟩
   have up:=ID (qj Ik.1) (qj Il.1) RZ
   have ub:=IE h12 Pc (qj Ik.1) (qj Il.1) RZ
   have QV:∀{f:cF},Ug f->Rh (cu (gH fo).2 (gH fm).2 (yK rows)) (gH f):=λz=>⟨qj z.1,L6 z.2,Bu.div ub _⟩
   rw[eU]
   generalize hu:cu (gH fo).2 (gH fm).2 (yK rows)=u at *
   refine⟨_,rfl,x,_,dx,_,rfl,hxc,T.bq,T.jq,pl5,?_⟩
   generalize Qu:upd Hc x (.ins p.au dx (aE "unit" (.int u) (aE "factors" (.ref fl) (aE "more" (.ref m') (aE "opening" (.ref o') (aE "pairs" (.ref Pp) (aE "signs" (.str sg) [])))))))=vV
   have Mq:vV x=some (.ins p.au dx (aE "unit" (.int u) (aE "factors" (.ref fl) (aE "more" (.ref m') (aE "opening" (.ref o') (aE "pairs" (.ref Pp) (aE "signs" (.str sg) []))))))):=by rw[←Qu];exact ah
   have f10:Off x H vV:=by rw[←Qu];exact fc.trans Off.set
   have T4:Dat Hc vV:=by rw[←Qu];exact Dat.set hxc
   have Rf:Dat H9 vV:=dc.trans T4
   have Tp:vV fl=some (.lst (U6.map V.int)):=T4 fl _ (λ_ _ _ z=>by cases z) To
   refine⟨_,rfl,x,_,_,_,_,rfl,Mq,T.bq,T.fX,JC,_,rfl,x,_,_,_,_,rfl,Mq,T.bq,T.mW,Hl,_,rfl,x,_,_,_,_,rfl,Mq,T.bq,T.jq,LW,?_⟩
   refine⟨sg,Pp,u,yK rows,rfl,M9.dat Rf,q2,q4,Pc,A0 λr hr f hf=>QV (hok r hr f hf),λd Us kvs RS hdn Yl hc=>?_⟩
   have Qe:=RS _ _ Mq
   refine⟨_,rfl,x,_,dx,_,rfl,Qe,T.bq,T.qc,pl6,?_⟩
   generalize Mx:upd Us x (.ins p.au dx (aE "costs" (.ref d) (aE "unit" (.int u) (aE "factors" (.ref fl) (aE "more" (.ref m') (aE "opening" (.ref o') (aE "pairs" (.ref Pp) (aE "signs" (.str sg) []))))))))=Rj
   have Mp:Rj x=some (.ins p.au dx (jt sg Pp o' m' u (d,fl))):=by rw[←Mx];exact ah
   have YM:Dat vV Rj:=by rw[←Mx];exact(Dat.of RS).trans (Dat.set Qe)
   have f12:Off x H Rj:=by rw[←Mx];exact(f10.trans (Off.of RS)).trans Off.set
   have Yk:Rj d=some (.dT kvs):=by rw[←Mx];exact Dat.set Qe d _ (λ_ _ _ z=>by cases z) Yl
   obtain⟨w1,w2,w3⟩:=QV Ik
   obtain⟨y1,y2,y3⟩:=QV Il
   refine⟨_,rfl,x,_,_,_,_,rfl,Mp,T.bq,T.kB,yO,_,rfl,x,_,_,_,_,rfl,Mp,T.bq,T.jq,sE,o',gH fo,u,rfl,(O9.dat Rf).dat YM,w1,w2.bg,w3.bg,?_⟩
   refine⟨_,rfl,x,_,dx,_,rfl,Mp,T.bq,T.j8,pl7,?_⟩
   generalize Qt:upd Rj x (.ins p.au dx (aE "opening_units" (.int ((gH fo).1*(u / (gH fo).2))) (jt sg Pp o' m' u (d,fl))))=Ur
   have JV:Ur x=some (.ins p.au dx (aE "opening_units" (.int ((gH fo).1*(u / (gH fo).2))) (jt sg Pp o' m' u (d,fl)))):=by rw[←Qt];exact ah
   have YL:Dat Rj Ur:=by rw[←Qt];exact Dat.set Mp
   have f13:Off x H Ur:=by rw[←Qt];exact f12.trans Off.set
   refine⟨_,rfl,x,_,_,_,_,rfl,JV,T.bq,T.n8,(rE (by decide +kernel)).trans E9,_,rfl,x,_,_,_,_,rfl,JV,T.bq,T.jq,(rE (by decide +kernel)).trans sE,m',gH fm,u,rfl,((m9.dat Rf).dat YM).dat YL,y1,y2.bg,y3.bg,?_⟩
   refine⟨_,rfl,x,_,dx,_,rfl,JV,T.bq,T.lR,pl8,?_⟩
   have Va:Dat vV (upd Ur x (.ins p.au dx (uN sg Pp o' m' u (d,fl) ((gH fo).1*(u / (gH fo).2)) ((gH fm).1*(u / (gH fm).2))))):=YM.trans (YL.trans (Dat.set JV))
   have f14:Off x H (upd Ur x (.ins p.au dx (uN sg Pp o' m' u (d,fl) ((gH fo).1*(u / (gH fo).2)) ((gH fm).1*(u / (gH fm).2))))):=f13.trans Off.set
   refine k _ ⟨hS,Pc,?_,?_,?_,?_,?_,dx,Pp,o',m',(d,fl),kvs,?_,(M9.dat Rf).dat Va,(O9.dat Rf).dat Va,(m9.dat Rf).dat Va,?_,?_,U6,hsm,?_,?_⟩ f14 (λc0 hc0 C' dx' fs' hx' hl'=>?_)
   ·rw[hu];exact A0 λr hr f hf=>QV (hok r hr f hf)
   ·rw[hu];exact QV Ik
   ·rw[hu];exact QV Il
   ·rw[hu];exact up
   ·rw[hu];exact ub
   ·rw[hu];exact ah
   ·exact(YL.trans (Dat.set JV)) d _ (λ_ _ _ z=>by cases z) Yk
   ·rw[hu];exact hc
   ·rw[hu];exact eU
   ·exact Va fl _ (λ_ _ _ z=>by cases z) Tp
   ·rw[ah]at hx'
    cases hx'
    have e:fl=c0:=V.ref.inj (Option.some.inj ((o8 (x:=sg) (P:=Pp) (o:=o') (m:=m') (u:=u) (d:=(d,fl))).symm.trans hl'))
    subst e
    cases q:H fl with
    |none=>exact hc0 q
    |some u0 =>
     by_cases ex:fl=x
     ·rw[ex,sa _ _ S2]at hfl
      cases hfl
     ·rw[(f9.trans (Off.of sa)) fl u0 q ex]at hfl
      cases hfl
end
section
variable{P:Program}{w:World}{K:PySem.W.Frag}{mg:Str->Option Value}{base:Heap}
end
section
variable{P:Program}{w:World}{K:PySem.W.Frag}{mg:Str->Option Value}{base:Heap}
end
section
variable{P:Program}{w:World}{K:PySem.W.Frag}{mg:Str->Option Value}{base:Heap}
end
section
variable{P:Program}{w:World}{K:PySem.W.Frag}{mg:Str->Option Value}{base:Heap}
theorem rY {bh:Addr} {eT:FuncData} {p:Pm} (T:Txt K mg p base) (dH:Dm K "__init__" "NoSign.__init__" bV QY bh eT)  :aI P w K mg base (vz P w) 1 bh eT QY (Cm p.aC):=by
 refine dH.fn.PB rT (λvs H Q E h=>?_) (λcdv A outer s H vs Q E hr h=>?_)
 ·obtain⟨e,i,j,rfl,_⟩:=h
  rfl
 ·obtain⟨e,i,j,rfl,he,hi,hj,k⟩:=h
  obtain⟨fI,xc⟩:=T.GO
  refine⟨_,(aj (cZ (LP T.ym rfl T.yI (aa (pv 0) (aa (Ga (qN bG (qN (Jr (pv 1)) (qN bG (qN (Jr (pv 2)) Jj))))) af))))
   (aj (F3 (pv 0) (pv 1) rfl)
   (ao (F3 (pv 0) (pv 2) rfl)))),?_⟩
  have li:=zU hi
  have lj:=zU hj
  have ti:=PyProof.Rows.int_text_len_1921 li
  have tj:=PyProof.Rows.int_text_len_1921 lj
  have l0:(Str.empty++Str.ofString "no sign that may stand there: row ").length<=50:=by decide
  have l1:=Bb l0 ti
  have l2:=Bb l1 (show(Str.ofString ", place ").length<=20 by decide)
  have l3:=Bb l2 tj
  refine⟨_,rfl,_,rfl,Nat.le_trans l0 (by decide),_,rfl,_,rfl,li,_,rfl,Nat.le_trans l1 (by decide),_,rfl,Nat.le_trans l2 (by decide),_,rfl,_,rfl,lj,_,rfl,Nat.le_trans l3 (by decide),Nat.le_trans l3 (by decide),?_⟩
  refine⟨e,p.aC,fI,none,_,rfl,he,xc,?_⟩
  refine⟨_,rfl,_,rfl,e,p.aC,rfl,T.zB,T.tu,.inl ⟨he,λdx hdx=>?_⟩⟩
  have ne:dx≠e:=λz=>by rw[z,he]at hdx;cases hdx
  refine⟨_,rfl,_,rfl,e,p.aC,rfl,T.zB,T.qe,.inr ⟨dx,_,by rw[aq (Ne.symm ne),ah],ah,Zg,?_⟩⟩
  refine k dx _ (λb u hb Kd=>?_) hdx (by rw[aq (Ne.symm ne),aq (Ne.symm ne),ah]) ah
  have nb:b≠dx:=λz=>by rw[z,hdx]at hb;cases hb
  rw[aq nb,aq nb,aq Kd,aq nb]
  exact hb
theorem uA {iy bh:Addr} {gk eT:FuncData} {p:Pm} (T:Txt K mg p base) (d8:Dn K mg "check_known" ly SH iy gk) (dH:Dm K "__init__" "NoSign.__init__" bV QY bh eT) (ye:YU K p.aC bh) (tY:aI P w K mg base (vz P w) 1 bh eT QY (Cm p.aC)):aI P w K mg base (vz P w) 3 iy gk SH (Co p.aC):=by
 refine d8.fn.PB iG (λvs H Q E h=>?_) (λcdv A outer s H vs Q E hr h=>?_)
 ·obtain⟨sg,l,a,b,rfl,_⟩:=h
  rfl
 ·obtain⟨sg,l,a,b,rfl,hl,la,lb,kq,k⟩:=h
  refine⟨_,(ao (cG oX rfl (F7 rfl T.uX (aa (pv 1) af)) (oW (n:=2) rfl (bS (aK (i:=2) iG.nd rfl (Or.inl rfl)) (bS (aK (i:=3) iG.nd rfl (Or.inl rfl)) lz))) (ao (cG oX rfl (F7 rfl T.uX (aa (pv 3) af)) (oW (n:=2) rfl (bS (aK (i:=4) iG.nd rfl (Or.inl rfl)) (bS (aK (i:=5) iG.nd rfl (Or.inl rfl)) lz))) (ao (bE (aL sS (pv 5) (pv 0) (by with_unfolding_all rfl)) (ao (G4 oZ ye tY (hr.mono (by decide)) dH.b rfl rfl T.uD (aa (pv 2) (aa (pv 4) af)))) aP)))))),?_⟩
  refine⟨_,rfl,.lst l,_,rfl,bP.of hl,Ds (K:=K) (c:=.lst l) (xs:=[.str a,.str b]) (λi σ H2=>∃v2 v3 v4 v5,σ=[some (.str sg),some (.ref l),v2,v3,v4,v5]/\ai H H2/\(0<i->Of sg a)/\(1<i->Of sg b)) ⟨_,_,_,_,rfl,ai.refl _,λz=>absurd z (Nat.lt_irrefl _),λz=>absurd z (Nat.not_lt_zero _)⟩ (λi σ H2 _ ⟨_,_,_,_,_,s2,_⟩=>bP.of (s2 _ _ hl)) ?_ ?_⟩
  ·rintro i y p1 σ H2 hy hp1 ⟨v2,v3,v4,v5,rfl,s2,oa,ob⟩
   obtain⟨z,rfl,hz,hi,hgo,hbad⟩:∃z:Str,y= .str z/\z.cps.size<=1000/\i<=1/\(Of sg z->(0<i+1->Of sg a)/\(1<i+1->Of sg b))/\(∀j,(∃c,z.cps[j]? =some c/\c∉sg.cps.toList)->(∀k c,k<j->z.cps[k]? =some c->c∈sg.cps.toList)->t9 sg a b i j):=by
    match i,hy,oa with
    | 0,hy,oa=>exact⟨a,(Option.some.inj hy).symm,la,Nat.zero_le _,λq=>⟨λ_=>q,λz=>absurd z (Nat.lt_irrefl _)⟩,λj h1 h2=>.inl ⟨rfl,h1,h2⟩⟩
    | 1,hy,oa=>exact⟨b,(Option.some.inj hy).symm,lb,Nat.le_refl _,λq=>⟨λ_=>oa (Nat.zero_lt_succ _),λ_=>q⟩,λj h1 h2=>.inr ⟨rfl,oa (Nat.zero_lt_succ _),h1,h2⟩⟩
    |i+2,hy,oa=>simp at hy
   refine⟨p1,_,rfl,c7.of ah,rfl,_,_,rfl,_,_,rfl,rfl,?_⟩
   refine⟨_,rfl,.txt z,_,rfl,rfl,Ds (K:=K) (c:=.txt z) (xs:=eX z) (λj σ H3=>∃v4 v5,σ=[some (.str sg),some (.ref l),some (.int (i:Int)),some (.str z),v4,v5]/\ai H H3/\∀k c,k<j->z.cps[k]? =some c->c∈sg.cps.toList) ⟨_,_,rfl,s2.trans (ai.upd hp1),λk c z=>absurd z (Nat.not_lt_zero _)⟩ (λj σ H3 _ _=>rfl) ?_ ?_⟩
   ·rintro j y p2 σ H3 hy hp2 ⟨v4,v5,rfl,s3,hp⟩
    obtain⟨c,hc,rfl⟩:=signs_get hy
    have hj:=QC hc
    have s4:=s3.trans (ai.upd (o:=.tup [.int (j:Int),.str ⟨#[c]⟩]) hp2)
    refine⟨p2,_,rfl,c7.of ah,rfl,_,_,rfl,_,_,rfl,rfl,?_⟩
    refine⟨_,rfl,_,rfl,_,_,rfl,rfl,_,rfl,?_⟩
    rw[StrLaws.found_one]
    by_cases hm:c∈sg.cps.toList
    ·rw[decide_eq_true hm]
     refine m5 ⟨_,_,rfl,s4,λk d hk hd=>?_⟩
     by_cases z:k=j
     ·subst z
      rw[hc]at hd
      cases hd
      exact hm
     ·exact hp k d (by omega) hd
    ·rw[decide_eq_false hm]
     refine zY ⟨_,rfl,_,rfl,by show 2<=sizeLine;decide,λe hn=>?_⟩
     have hne:H e=none:=ai.free s4 hn
     refine⟨e,i,j,rfl,ah,by omega,by omega,λdx H' hk hdx hx hd=>⟨rfl,some dx,hx,k i j (hbad j ⟨c,hc,hm⟩ hp) dx _ (λb u hb=>?_) ?_⟩⟩
     ·have nb:b≠e:=λz=>by rw[z,hne]at hb;cases hb
      rw[qp nb]
      exact hk b u (by rw[aq nb];exact s4 b u hb) nb
     ·have ne:dx≠e:=λz=>by rw[z,ah]at hdx;cases hdx
      rw[qp ne]
      exact hd
   ·rintro σ H3 ⟨v4,v5,rfl,s3,hp⟩
    have oz:Of sg z:=λc hc=>by
     obtain⟨k,hk,e⟩:=List.getElem_of_mem hc
     have hk':k<z.cps.size:=by simpa using hk
     exact hp k c (by rw[signs_length];exact hk') (by rw[←Array.getElem?_toList,List.getElem?_eq_getElem hk,e])
    exact⟨_,_,_,_,rfl,s3,(hgo oz).1,(hgo oz).2⟩
  ·rintro σ H2 ⟨v2,v3,v4,v5,rfl,s2,oa,ob⟩
   exact kq (oa (show 0<2 by decide)) (ob (show 1<2 by decide)) H2 s2
theorem vJ {jd iy:Addr} {gZ gk:FuncData} {p:Pm} (T:Txt K mg p base) (fN:Dn K mg "check_rows" mD SG jd gZ) (d8:Dn K mg "check_known" ly SH iy gk) (zv:aI P w K mg base (vz P w) 3 iy gk SH (Co p.aC)):aI P w K mg base (vz P w) 4 jd gZ SG (FN K p.au p.aC):=by
 refine fN.fn.PB yt (λvs H Q E h=>?_) (λcdv A outer s H vs Q E hr h=>?_)
 ·obtain⟨x,l,sg,rows,fo,fm,a,b,rfl,_⟩:=h
  rfl
 ·obtain⟨x,l,sg,rows,fo,fm,a,b,rfl,⟨_,_,_,_,_,_,_,dx,Pp,o,m,d,kvs,h1,h2,h3,h4,h5,h6⟩,hl,la,lb,kq,k⟩:=h
  refine⟨_,(ao (cZ (aA zv (hr.mono (by decide)) rfl d8.m d8.fn.kp d8.b .nil (Lets.passes oZ) (aa (cH (pv 0) rfl) (aa (pv 1) af))))),?_⟩
  exact⟨_,rfl,x,_,_,_,_,rfl,h1,T.bq,T.fX,o7,_,rfl,sg,l,a,b,rfl,hl,la,lb,kq,k⟩
theorem yF {jf fF cI:Addr} {g6 dP b9:FuncData} {p:Pm} (T:Txt K mg p base) (cM:Dn K mg "alone_cost" mE SE jf g6) (bA:Dn K mg "more_cost" lD l5 fF dP) (lG:aI P w K mg base cj 2 fF dP l5 (Eo K p.au)) (bD:Dn K mg "opening_cost" iH l5 cI b9) (ng:aI P w K mg base cj 2 cI b9 l5 (ug K p.au)):aI P w K mg base cj 3 jf g6 SE (F0 K p.au):=by
 refine cM.fn.ok yu (λvs H Q E h=>?_) (λcdv A outer s H vs Q E hr h=>?_)
 ·obtain⟨x,sg,rows,fo,fm,a,b,rfl,_⟩:=h
  rfl
 ·obtain⟨x,sg,rows,fo,fm,a,b,rfl,hP,k⟩:=h
  refine⟨_,(aj (bE (aL cQ (pv 1) (pv 2) (aO _)) (ao (aN (aA lG (hr.mono (by decide)) rfl bA.m bA.fn.kp bA.b .nil aT (aa (pv 0) af)))) aP)
   (ao (aN (aD bZ (aA ng (hr.mono (by decide)) rfl bD.m bD.fn.kp bD.b .nil aT (aa (pv 0) af)) (aA lG (hr.mono (by decide)) rfl bA.m bA.fn.kp bA.b .nil aT (aa (pv 0) af)))))),?_⟩
  refine⟨_,rfl,_,rfl,rfl,_,rfl,?_⟩
  by_cases e:a=b
  ·rw[if_pos e]at k
   rw[decide_eq_true (show V.str a=V.str b by rw[e])]
   refine mZ ?_
   exact⟨_,rfl,x,sg,rows,fo,fm,rfl,hP,k⟩
  ·rw[if_neg e]at k
   rw[decide_eq_false (show ¬V.str a=V.str b from λz=>e (V.str.inj z))]
   refine iC ?_
   exact⟨_,rfl,x,sg,rows,fo,fm,rfl,hP,_,rfl,x,sg,rows,fo,fm,rfl,hP,_,_,rfl,rfl,k⟩
theorem AN {jI:Addr} {iT:FuncData} {p:Pm} (T:Txt K mg p base) (gy:Dn K mg "may_begin" nD SD jI iT)  :aI P w K mg base cj 1 jI iT SD (I9 K):=by
 refine gy.fn.ok Ay (λvs H Q E h=>?_) (λcdv A outer s H vs Q E hr h=>?_)
 ·obtain⟨m,a,q,rfl,_⟩:=h
  rfl
 ·obtain⟨m,a,q,rfl,hq,k⟩:=h
  refine⟨_,(aj (bE (aL cQ (pv 0) bG (aO _)) (ao (aN (jA (bQ cQ (aW bR (pv 1) ak (λ_ _=>rfl)) ak (aO _)) (jj (bQ cQ (aW bR (pv 1) ak (λ_ _=>rfl)) ak (aO _)))))) aP)
   (aj (bE (aL cQ (pv 0) bG (aO _)) (ao (aN (bQ cQ (aW bR (pv 1) ak (λ_ _=>rfl)) ak (aO _)))) aP)
   (aj (bE (aL cQ (pv 0) bG (aO _)) (ao (aN (bQ cQ (aW bR (pv 1) ak (λ_ _=>rfl)) ak (aO _)))) aP)
   (ao (aN zQ))))),?_⟩
  unfold vK at k
  refine⟨_,rfl,rfl,_,rfl,?_⟩
  refine ite_str (λh1=>?_) λh1=>?_
  ·rw[if_pos h1]at k
   refine⟨_,rfl,_,_,_,_,rfl,rfl,hq,rfl,rfl,_,rfl,?_⟩
   refine oh (λz=>?_) λz=>?_
   ·refine⟨_,rfl,_,_,_,_,rfl,rfl,hq,rfl,rfl,?_⟩
    rw[decide_eq_true z,Bool.true_and]at k
    rw[qt]
    exact k
   ·rw[decide_eq_false z,Bool.false_and]at k
    exact k
  rw[if_neg h1]at k
  refine⟨_,rfl,rfl,_,rfl,?_⟩
  refine ite_str (λh2=>?_) λh2=>?_
  ·rw[if_pos h2]at k
   refine⟨_,rfl,_,_,_,_,rfl,rfl,hq,rfl,rfl,?_⟩
   rw[qt]
   exact k
  rw[if_neg h2]at k
  refine⟨_,rfl,rfl,_,rfl,?_⟩
  refine ite_str (λh3=>?_) λh3=>?_
  ·rw[if_pos h3]at k
   refine⟨_,rfl,_,_,_,_,rfl,rfl,hq,rfl,rfl,?_⟩
   rw[qt]
   exact k
  rw[if_neg h3]at k
  exact k
theorem ED {mO:Addr} {kG:FuncData} {p:Pm} (T:Txt K mg p base) (jR:Dn K mg "may_end" qH SA mO kG)  :aI P w K mg base cj 1 mO kG SA (I8 K):=by
 refine jR.fn.ok Et (λvs H Q E h=>?_) (λcdv A outer s H vs Q E hr h=>?_)
 ·obtain⟨m,f,s,a,q,rfl,_⟩:=h
  rfl
 ·obtain⟨m,f,s,a,q,rfl,hq,hf,hs,k⟩:=h
  have zf:f.length<=sizeLine:=Nat.le_trans hf (by decide)
  have zs:s.length<=sizeLine:=Nat.le_trans hs (by decide)
  refine⟨_,(aj (bE (aL cQ (pv 0) bG (aO _)) (ao (aN (jA (bQ cQ (aW bR (pv 3) ak (λ_ _=>rfl)) (az (aU) rfl T.ck bC (aa (pv 1) af)) (aO _)) (jj (bQ cQ (aW bR (pv 3) ak (λ_ _=>rfl)) (az (aU) rfl T.ck bC (aa (pv 2) af)) (aO _)))))) aP)
   (aj (bE (aL cQ (pv 0) bG (aO _)) (ao (aN zQ)) aP)
   (ao (aN (bQ cQ (aW bR (pv 3) ak (λ_ _=>rfl)) (az (aU) rfl T.ck bC (aa (pv 1) af)) (aO _)))))),?_⟩
  unfold yJ at k
  refine⟨_,rfl,rfl,_,rfl,?_⟩
  refine ite_str (λh1=>?_) λh1=>?_
  ·rw[if_pos h1]at k
   refine⟨_,rfl,_,_,_,_,rfl,rfl,hq,rfl,_,rfl,_,_,rfl,⟨zf,rfl⟩,rfl,_,rfl,?_⟩
   refine oh (λz=>?_) λz=>?_
   ·refine⟨_,rfl,_,_,_,_,rfl,rfl,hq,rfl,_,rfl,_,_,rfl,⟨zs,rfl⟩,rfl,?_⟩
    rw[decide_eq_true (show q.1=(f.cps.size:Int) from z),Bool.true_and]at k
    rw[qt]
    exact k
   ·rw[decide_eq_false (show ¬q.1=(f.cps.size:Int) from z),Bool.false_and]at k
    exact k
  rw[if_neg h1]at k
  refine⟨_,rfl,rfl,_,rfl,?_⟩
  refine ite_str (λh2=>?_) λh2=>?_
  ·rw[if_pos h2]at k
   exact k
  rw[if_neg h2]at k
  refine⟨_,rfl,_,_,_,_,rfl,rfl,hq,rfl,_,rfl,_,_,rfl,⟨zf,rfl⟩,rfl,?_⟩
  rw[qt]
  exact k
end
section
variable{P:Program}{w:World}{K:PySem.W.Frag}{mg:Str->Option Value}{base:Heap}
theorem sX {gu:Addr} {fj:FuncData} {p:Pm} (T:Txt K mg p base) (dh:Dn K mg "check_manner" j7 ["manner"] gu fj)  :aI P w K mg base (vz P w) 1 gu fj ["manner"] (pS p.aG):=by
 refine dh.fn.PB vD (λvs H Q E h=>?_) (λcdv A outer s H vs Q E hr h=>?_)
 ·obtain⟨m,rfl,_⟩:=h
  rfl
 ·obtain⟨m,rfl,kq,ke⟩:=h
  refine⟨_,(ao (bE (aL sU (pv 0) (nN (v:=.ref p.kO) rfl T.HD rfl) (by with_unfolding_all rfl)) (ao (Ji oZ T.BX rfl rfl T.qg (aa (Ga (qN (LL (pv 0)) (qN bG Jj))) af))) aP)),?_⟩
  refine⟨_,rfl,_,_,rfl,.inr (T.G3 _),rfl,rfl,_,rfl,?_⟩
  show if(if true=true then !JT (.str m) [.str (Str.ofString "whole"),.str (Str.ofString "within"),.str (Str.ofString "over"),.str (Str.ofString "stretch")]else _)=true then _ else _
  rw[if_pos rfl]
  cases hm:kc m with
  |true =>
   have e:JT (.str m) [.str (Str.ofString "whole"),.str (Str.ofString "within"),.str (Str.ofString "over"),.str (Str.ofString "stretch")]=true:=hm
   rw[e]
   exact m5 (kq hm)
  |false =>
   obtain⟨hl,k⟩:=ke hm
   have e:JT (.str m) [.str (Str.ofString "whole"),.str (Str.ofString "within"),.str (Str.ofString "over"),.str (Str.ofString "stretch")]=false:=hm
   rw[e]
   refine zY ⟨_,rfl,_,rfl,Nat.le_trans hl (by decide),_,rfl,?_,_,rfl,?_,?_,by show 1<=sizeLine;decide,k⟩
   ·exact KL hl (by decide)
   ·exact Ai hl (by decide)
   ·exact Ai hl (by decide)
end
section
variable{P:Program}{w:World}{K:PySem.W.Frag}{mg:Str->Option Value}{base:Heap}
theorem yH {jh:Addr} {g8:FuncData} {p:Pm} (T:Txt K mg p base) (fP:Dn K mg "all_places" mG Sz jh g8)  :aI P w K mg base cj 1 jh g8 Sz MV:=by
 refine fP.fn.ok kW (λvs H Q E h=>?_) (λcdv A outer s H vs Q E hr h=>?_)
 ·obtain⟨f,s,rfl,_⟩:=h
  rfl
 ·obtain⟨f,s,rfl,hf,hs,kk⟩:=h
  have lf:f.length<=sizeLine:=Nat.le_trans hf (by decide)
  have ls:s.length<=sizeLine:=Nat.le_trans hs (by decide)
  have hf':f.length<=12:=hf
  have hs':s.length<=12:=hs
  refine⟨_,(aj (aH (i:=2) kW.nd rfl (Or.inl rfl) (jk af))
   (aj (cG PassesOwn.never rfl (dw rfl T.iB (aa (aD bZ (az (aU) rfl T.ck bC (aa (pv 0) af)) ak) af)) (aK (i:=3) kW.nd rfl (Or.inl rfl)) (ao (cG PassesOwn.never rfl (dw rfl T.iB (aa (aD bZ (az (aU) rfl T.ck bC (aa (pv 1) af)) ak) af)) (aK (i:=4) kW.nd rfl (Or.inl rfl)) (ao (cZ (lQ PySem.F.plainAttrs_list PySem.F.slot_list_append PySem.F.type_list_append cY (pv 2) (aa (bH (aa (pv 3) (aa (pv 4) af))) af)))))))
   (ao (aN (pv 2))))),?_⟩
  refine⟨by show 0<=sizeLine;decide,λl hl=>?_⟩
  refine⟨_,rfl,_,_,rfl,⟨lf,rfl⟩,_,_,rfl,rfl,_,rfl,by omega,by omega,?_⟩
  rw[show((f.length:Int)+1).toNat=f.cps.size+1 from by show((f.cps.size:Int)+1).toNat=_;omega]
  refine gO (lo:=0) (n:=f.cps.size+1) (λi σ H2=>∃v3 v4,∃ps:List Addr,σ=[some (.str f),some (.str s),some (.ref l),v3,v4]/\ai H H2/\H2 l=some (.lst (ps.map V.ref))/\Paired (GK (Wo l H2)) ps (rws s.cps.size i))
   ⟨_,_,[],rfl,ai.upd hl,ah,.nil⟩ ?_ ?_
  ·rintro i σ H2 hi ⟨v3,v4,ps,rfl,s2,h2,pp⟩
   refine⟨_,rfl,_,_,rfl,⟨ls,rfl⟩,_,_,rfl,rfl,_,rfl,by omega,by omega,?_⟩
   rw[show((s.length:Int)+1).toNat=s.cps.size+1 from by show((s.cps.size:Int)+1).toNat=_;omega]
   refine gO (lo:=0) (n:=s.cps.size+1) (λj σ H3=>∃v4,∃ps:List Addr,σ=[some (.str f),some (.str s),some (.ref l),some (.int (0+(i:Int))),v4]/\ai H H3/\H3 l=some (.lst (ps.map V.ref))/\Paired (GK (Wo l H3)) ps ((rws s.cps.size i)++(List.range j).map λj=>(i,j)))
    ⟨_,ps,rfl,s2,h2,by simpa using pp⟩ ?_ ?_
   ·rintro j σ H3 hj ⟨v4,ps,rfl,s3,h3,pp⟩
    refine⟨_,rfl,.inl ⟨rfl,_,bP.of h3⟩,_,rfl,_,rfl,by show 2<=sizeLine;decide,λp hp=>?_⟩
    have np:p≠l:=λz=>by rw[z,h3]at hp;cases hp
    have hlen:=Paired.len pp
    rw[List.length_append,LC,List.length_map,List.length_range]at hlen
    refine⟨l,_,_,rfl,rfl,by rw[aq (Ne.symm np)];exact h3,?_,?_⟩
    ·rw[List.length_map,hlen]
     have:i*(s.cps.size+1)<=f.cps.size*(s.cps.size+1):=Nat.mul_le_mul_right _ (by omega)
     have e:(f.cps.size+1)*(s.cps.size+1)=f.cps.size*(s.cps.size+1)+(s.cps.size+1):=Nat.succ_mul _ _
     exact JO hf hs (by omega)
    ·refine⟨_,ps++[p],rfl,sM s3 hl hp,by rw[ah,List.map_append];rfl,?_⟩
     rw[List.range_succ,List.map_append,←List.append_assoc]
     refine GP.Paired.snoc (Paired.iS pp λ_ _ z=>z.same (NI hp)) ?_
     show Wo l _ p=some (.tup [.int (i:Int),.int (j:Int)])
     rw[Iv np,Int.zero_add,Int.zero_add]
   ·rintro σ H3 ⟨v4,ps,rfl,s3,h3,pp⟩
    exact⟨_,_,ps,rfl,s3,h3,by rw[Cz];exact pp⟩
  ·rintro σ H2 ⟨v3,v4,ps,rfl,s2,h2,pp⟩
   exact⟨_,rfl,kk l H2 s2 hl (Pk h2 pp)⟩
theorem yw {i6 fE jf:Addr} {gP dO g6:FuncData} {p:Pm} (T:Txt K mg p base) (fG:Dn K mg "steps_from" lY Sy i6 gP) (cB:Dn K mg "pair_cost" lC P0 fE dO) (qB:aI P w K mg base cj 1 fE dO P0 (rQ K p.au)) (cM:Dn K mg "alone_cost" mE SE jf g6) (tW:aI P w K mg base cj 3 jf g6 SE (F0 K p.au)):aI P w K mg base cj 4 i6 gP Sy (FL K p.au):=by
 refine fG.fn.ok kR (λvs H Q E h=>?_) (λcdv A outer s H vs Q E hr h=>?_)
 ·obtain⟨x,pl,T1,f,s,i,j,c,rfl,_⟩:=h
  rfl
 ·obtain⟨x,pl,T1,f,s,i,j,c,rfl,hP,of,os,hf,hs,hp,kk⟩:=h
  have lf:f.length<=sizeLine:=Nat.le_trans hf (by decide)
  have ls:s.length<=sizeLine:=Nat.le_trans hs (by decide)
  refine⟨_,(aj (aH (i:=5) kR.nd rfl (Or.inl rfl) (aW bR (pv 3) ak (λ_ _=>rfl)))
   (aj (aH (i:=6) kR.nd rfl (Or.inl rfl) (aW bR (pv 3) ak (λ_ _=>rfl)))
   (aj (aH (i:=7) kR.nd rfl (Or.inl rfl) (jk af))
   (bB (bE (PW.pt (wY (aL qZ (pv 5) (az (aU) rfl T.ck bC (aa (pv 1) af)) (aO _)) (sR (aL qZ (pv 6) (az (aU) rfl T.ck bC (aa (pv 2) af)) (aO _))))) (ao (cZ (lQ PySem.F.plainAttrs_list PySem.F.slot_list_append PySem.F.type_list_append cY (pv 7) (aa (bH (aa (bH (aa (bH (aa (aD bZ (pv 5) ak) (aa (aD bZ (pv 6) ak) af))) (aa bG af))) (aa (aA qB (hr.mono (by decide)) rfl cB.m cB.fn.kp cB.b .nil aT (aa (pv 0) (aa (aW uH (pv 1) (pv 5) (λ_ _=>rfl)) (aa (aW uH (pv 2) (pv 6) (λ_ _=>rfl)) af)))) af))) af)))) aP)
   (bB (bE (aL qZ (pv 5) (az (aU) rfl T.ck bC (aa (pv 1) af)) (aO _)) (ao (cZ (lQ PySem.F.plainAttrs_list PySem.F.slot_list_append PySem.F.type_list_append cY (pv 7) (aa (bH (aa (bH (aa (bH (aa (aD bZ (pv 5) ak) (aa (pv 6) af))) (aa bG af))) (aa (aA tW (hr.mono (by decide)) rfl cM.m cM.fn.kp cM.b .nil aT (aa (pv 0) (aa bG (aa (pv 4) af)))) af))) af)))) aP)
   (bB (bE (aL qZ (pv 6) (az (aU) rfl T.ck bC (aa (pv 2) af)) (aO _)) (ao (cZ (lQ PySem.F.plainAttrs_list PySem.F.slot_list_append PySem.F.type_list_append cY (pv 7) (aa (bH (aa (bH (aa (bH (aa (pv 5) (aa (aD bZ (pv 6) ak) af))) (aa bG af))) (aa (aA tW (hr.mono (by decide)) rfl cM.m cM.fn.kp cM.b .nil aT (aa (pv 0) (aa bG (aa (pv 4) af)))) af))) af)))) aP)
   (ao (aN (pv 7))))))))),?_⟩
  refine⟨_,rfl,pl,_,_,_,rfl,rfl,c7.of hp,rfl,?_⟩
  refine⟨_,rfl,pl,_,_,_,rfl,rfl,c7.of hp,rfl,?_⟩
  refine⟨by show 0<=sizeLine;decide,λl hl=>?_⟩
  have Yu:∀{H2},ai H H2->mJ K p.au H2 x T1.1 T1.2.1 T1.2.2.1 T1.2.2.2:=λe=>mJ.same e hP
  refine⟨λσ H'=>∃ps:List Addr,σ=[some (.ref x),some (.str f),some (.str s),some (.ref pl),some (.str ⟨#[c]⟩),some (.int (i:Int)),some (.int (j:Int)),some (.ref l)]/\ai H H'/\H' l=some (.lst (ps.map V.ref))/\ps.length<=1 ∧
   Paired (MJ (Wo l H')) ps (if i<f.cps.size/\j<s.cps.size then [((i+1,j+1,112),(lK T1 f f s).pc i j)]else []),?_,?_⟩
  ·refine⟨_,rfl,_,rfl,_,_,rfl,⟨lf,rfl⟩,_,_,rfl,rfl,_,rfl,?_⟩
   refine cE (λh1=>?_) (λh1=>?_)
   ·refine⟨_,rfl,_,rfl,_,_,rfl,⟨ls,rfl⟩,_,_,rfl,rfl,_,rfl,?_⟩
    have oq:i<f.cps.size:=by have z:(i:Int)<(f.cps.size:Int):=h1;omega
    refine cE (λh2=>?_) (λh2=>?_)
    ·have h2':j<s.cps.size:=by have z:(j:Int)<(s.cps.size:Int):=h2;omega
     obtain⟨a,ha⟩:=Bc oq
     obtain⟨b,hb⟩:=Bc h2'
     obtain⟨i',j',fr,hi',hj',hat,YI⟩:=Ju (u:=uT T1) hP.Zb (of a (nT ha)) (os b (nT hb))
     refine⟨_,rfl,.inl ⟨rfl,_,bP.of ah⟩,_,rfl,_,_,rfl,rfl,_,rfl,_,_,rfl,rfl,by show 2<=sizeLine;decide,λp1 hp1=>⟨by show 2<=sizeLine;decide,λq1 hq1=>?_⟩⟩
     have s0:=(ai.upd (o:=.lst []) hl).trans ((ai.upd hp1).trans (ai.upd (o:=.tup [.ref p1,.str (Str.ofString "p")]) hq1))
     refine⟨_,rfl,_,rfl,_,rfl,f,_,a,rfl,rfl,lf,eW (kh ha),_,rfl,_,rfl,s,_,b,rfl,rfl,ls,eW (kh hb),x,T1.1,T1.2.1,T1.2.2.1,T1.2.2.2,i',j',a,b,fr,rfl,Yu s0,hi',hj',hat,λH5 s5=>⟨by show 2<=sizeLine;decide,λr1 hr1=>?_⟩⟩
     obtain⟨h5,nr,sw,st⟩:=En (t:=((i+1,j+1,112),(lK T1 f f s).pc i j)) (y:=.lst ([]++[.ref r1])) ah hp1 hq1 s5 hr1 rfl rfl sP (by
      show V.int (fr.1*(uT T1 / fr.2))=V.int (Pw T1.1 T1.2.1 (uT T1) (f.cps.toList.getD i 0) (s.cps.toList.getD j 0))
      rw[List.getD_eq_getElem?_getD,List.getD_eq_getElem?_getD,kh ha,kh hb]
      exact congrArg V.int YI.symm)
     refine⟨l,_,_,rfl,rfl,by rw[aq (Ne.symm nr)];exact h5,by show 0<sizeLine;decide,[r1],rfl,sM (s0.trans s5) hl hr1,ah,Nat.le_refl _,?_⟩
     rw[if_pos ⟨oq,h2'⟩]
     exact .cons st .nil
    ·have h2':¬j<s.cps.size:=λz=>h2 (by show(j:Int)<(s.cps.size:Int);omega)
     exact⟨[],rfl,ai.upd hl,ah,Nat.zero_le _,by rw[if_neg (λz=>h2' z.2)];exact .nil⟩
   ·have oq:¬i<f.cps.size:=λz=>h1 (by show(i:Int)<(f.cps.size:Int);omega)
    refine iC ?_
    exact⟨[],rfl,ai.upd hl,ah,Nat.zero_le _,by rw[if_neg (λz=>oq z.1)];exact .nil⟩
  rintro σ H2 ⟨ps,rfl,s2,h2,l2,pp⟩
  refine⟨λσ H'=>∃ps:List Addr,σ=[some (.ref x),some (.str f),some (.str s),some (.ref pl),some (.str ⟨#[c]⟩),some (.int (i:Int)),some (.int (j:Int)),some (.ref l)]/\ai H H'/\H' l=some (.lst (ps.map V.ref))/\ps.length<=2 ∧
   Paired (MJ (Wo l H')) ps ((if i<f.cps.size/\j<s.cps.size then [((i+1,j+1,112),(lK T1 f f s).pc i j)]else [])++(if i<f.cps.size then [((i+1,j,97),(lK T1 f f s).ac 97 c)]else [])),?_,?_⟩
  ·refine⟨_,rfl,_,rfl,_,_,rfl,⟨lf,rfl⟩,_,_,rfl,rfl,_,rfl,?_⟩
   refine cE (λh1=>?_) (λh1=>?_)
   ·have oq:i<f.cps.size:=by have z:(i:Int)<(f.cps.size:Int):=h1;omega
    refine⟨_,rfl,.inl ⟨rfl,_,bP.of h2⟩,_,rfl,_,_,rfl,rfl,_,rfl,by show 2<=sizeLine;decide,λp1 hp1=>⟨by show 2<=sizeLine;decide,λq1 hq1=>?_⟩⟩
    have s0:=s2.trans ((ai.upd hp1).trans (ai.upd (o:=.tup [.ref p1,.str (Str.ofString "a")]) hq1))
    refine⟨_,rfl,_,rfl,x,T1.1,T1.2.1,T1.2.2.1,T1.2.2.2,_,_,rfl,Yu s0,by show 2<=sizeLine;decide,λr1 hr1=>?_⟩
    obtain⟨h5,nr,sw,st⟩:=En (t:=((i+1,j,97),(lK T1 f f s).ac 97 c)) (y:=.lst (ps.map V.ref++[.ref r1])) h2 hp1 hq1 (ai.refl _) hr1 rfl rfl sA (Nv sA)
    refine⟨l,_,_,rfl,rfl,by rw[aq (Ne.symm nr)];exact h5,by rw[List.length_map];exact Nat.lt_of_le_of_lt l2 (by decide),ps++[r1],rfl,sM s0 hl hr1,by rw[ah,List.map_append];rfl,by rw[List.length_append];exact Nat.succ_le_succ l2,?_⟩
    rw[if_pos oq]
    exact GP.Paired.snoc (Paired.iS pp λ_ _ z=>z.same sw) st
   ·have oq:¬i<f.cps.size:=λz=>h1 (by show(i:Int)<(f.cps.size:Int);omega)
    exact⟨ps,rfl,s2,h2,by omega,by rw[if_neg oq,List.append_nil];exact pp⟩
  rintro σ H3 ⟨ps,rfl,s3,h3,l3,pp⟩
  refine⟨λσ H'=>∃ps:List Addr,σ=[some (.ref x),some (.str f),some (.str s),some (.ref pl),some (.str ⟨#[c]⟩),some (.int (i:Int)),some (.int (j:Int)),some (.ref l)]/\ai H H'/\H' l=some (.lst (ps.map V.ref)) ∧
   Paired (MJ (Wo l H')) ps (((if i<f.cps.size/\j<s.cps.size then [((i+1,j+1,112),(lK T1 f f s).pc i j)]else [])++(if i<f.cps.size then [((i+1,j,97),(lK T1 f f s).ac 97 c)]else []))++(if j<s.cps.size then [((i,j+1,98),(lK T1 f f s).ac 98 c)]else [])),?_,?_⟩
  ·refine⟨_,rfl,_,rfl,_,_,rfl,⟨ls,rfl⟩,_,_,rfl,rfl,_,rfl,?_⟩
   refine cE (λh1=>?_) (λh1=>?_)
   ·have oq:j<s.cps.size:=by have z:(j:Int)<(s.cps.size:Int):=h1;omega
    refine⟨_,rfl,.inl ⟨rfl,_,bP.of h3⟩,_,rfl,_,rfl,_,_,rfl,rfl,by show 2<=sizeLine;decide,λp1 hp1=>⟨by show 2<=sizeLine;decide,λq1 hq1=>?_⟩⟩
    have s0:=s3.trans ((ai.upd hp1).trans (ai.upd (o:=.tup [.ref p1,.str (Str.ofString "b")]) hq1))
    refine⟨_,rfl,_,rfl,x,T1.1,T1.2.1,T1.2.2.1,T1.2.2.2,_,_,rfl,Yu s0,by show 2<=sizeLine;decide,λr1 hr1=>?_⟩
    obtain⟨h5,nr,sw,st⟩:=En (t:=((i,j+1,98),(lK T1 f f s).ac 98 c)) (y:=.lst (ps.map V.ref++[.ref r1])) h3 hp1 hq1 (ai.refl _) hr1 rfl rfl sB (Nv sB)
    refine⟨l,_,_,rfl,rfl,by rw[aq (Ne.symm nr)];exact h5,by rw[List.length_map];exact Nat.lt_of_le_of_lt l3 (by decide),ps++[r1],rfl,sM s0 hl hr1,by rw[ah,List.map_append];rfl,?_⟩
    rw[if_pos oq]
    exact GP.Paired.snoc (Paired.iS pp λ_ _ z=>z.same sw) st
   ·have oq:¬j<s.cps.size:=λz=>h1 (by show(j:Int)<(s.cps.size:Int);omega)
    exact⟨ps,rfl,s3,h3,by rw[if_neg oq,List.append_nil];exact pp⟩
  rintro σ H4 ⟨ps,rfl,s4,h4,pp⟩
  refine⟨_,rfl,kk l H4 s4 hl λm=>⟨ps,h4,?_⟩⟩
  rw[List.append_assoc]at pp
  exact Paired.iS pp λ_ _ z=>z.same Wo.sub
end
section
variable{P:Program}{w:World}{K:PySem.W.Frag}{mg:Str->Option Value}{base:Heap}
theorem AW {jP i6:Addr} {i0 gP:FuncData} {p:Pm} (T:Txt K mg p base) (gE:Dn K mg "all_steps" nL Sx jP i0) (fG:Dn K mg "steps_from" lY Sy i6 gP) (BG:aI P w K mg base cj 4 i6 gP Sy (FL K p.au)):aI P w K mg base cj 5 jP i0 Sx (Jc P w K p.au):=by
 refine gE.fn.ok lX (λvs H Q E h=>?_) (λcdv A outer s H vs Q E hr h=>?_)
 ·obtain⟨x,lp,T1,f,s,rfl,_⟩:=h
  rfl
 ·obtain⟨x,lp,T1,f,s,rfl,hP,of,os,hf,hs,⟨ps,Q6,pp⟩,kk⟩:=h
  have pw:=uu f.cps.size s.cps.size
  refine⟨_,(aj (aH (i:=4) lX.nd rfl (Or.inl rfl) (AH (Pr:=P) (wo:=w) rfl rfl))
   (aj (cG PassesOwn.never rfl (jy (pv 3)) (aK (i:=5) lX.nd rfl (Or.inl rfl)) (ao (cG PassesOwn.never rfl (AF (nN (v:=.ref p.m8) rfl T.Kg rfl)) (aK (i:=6) lX.nd rfl (Or.inl rfl)) (ao (wg (Pr:=P) (wo:=w) (kg hr) (pv 4) (bH (aa (pv 5) (aa (pv 6) af))) (aA BG (hr.mono (by decide)) rfl fG.m fG.fn.kp fG.b .nil aT (aa (pv 0) (aa (pv 1) (aa (pv 2) (aa (pv 5) (aa (pv 6) af)))))) rfl rfl rfl)))))
   (ao (aN (pv 4))))),?_⟩
  refine λd hd=>?_
  have s1:ai H (L2.upd H d (sF P w d [])):=ai.upd hd
  refine⟨_,rfl,lp,rfl,⟨_,bP.of (s1 _ _ Q6)⟩,?_⟩
  refine jr (K:=K) (a:=lp) (xs:=ps.map V.ref) (λa σ H2=>∃v5 v6 kvs,σ=[some (.ref x),some (.str f),some (.str s),some (.ref lp),some (.ref d),v5,v6]/\ai H H2/\H2 d=some (sF P w d kvs)/\(∀e∈kvs,gJ (Wo d H2) e.2.1 e.1)/\∀m,GJ (Wo d H2) (lK T1 m f s) kvs (cV ((placesOf f.cps.size s.cps.size).take a)))
   ⟨_,_,[],rfl,s1,ah,(λe he=>nomatch he),λm=>by rw[List.take_zero];exact .nil⟩ (λa σ H2 _ ⟨_,_,_,_,s2,_⟩=>bP.of (s2 _ _ Q6)) ?_ ?_
  ·rintro a y σ H2 hy ⟨v5,v6,kvs,rfl,s2,hd2,hk2,hst⟩
   obtain⟨pl,hpl,rfl⟩:=jl hy
   obtain⟨q,hq,hpq⟩:=GP.Paired.at pp hpl
   have hqn:=iJ.mp (List.mem_of_getElem? hq)
   refine⟨p.m8,rfl,⟨_,T.uo _⟩,?_⟩
   refine Gx (K:=K) (a:=p.m8) (xs:=[V.str (Str.ofString "p"),V.str (Str.ofString "a"),V.str (Str.ofString "b")]) (λb σ H3=>∃v6 kvs,σ=[some (.ref x),some (.str f),some (.str s),some (.ref lp),some (.ref d),some (.ref pl),v6]/\ai H H3/\H3 d=some (sF P w d kvs)/\(∀e∈kvs,gJ (Wo d H3) e.2.1 e.1)/\∀m,GJ (Wo d H3) (lK T1 m f s) kvs (cV ((placesOf f.cps.size s.cps.size).take a)++st3 q b))
    ⟨_,kvs,rfl,s2,hd2,hk2,λm=>by show GJ _ _ _ (_++[]);rw[List.append_nil];exact hst m⟩ (λb σ H3 _ _=>T.uo _) ?_ ?_
   ·rintro b y σ H3 hy ⟨v6,kvs,rfl,s3,BR,UY,hst⟩
    obtain⟨c,hc,rfl⟩:=KA hy
    refine⟨_,rfl,_,rfl,_,rfl,_,rfl,_,rfl,x,pl,T1,f,s,q.1,q.2,c,rfl,hP.same s3,of,os,hf,hs,s3 _ _ hpq,λl H4 s4 hl hsl=>?_⟩
    refine⟨_,rfl,_,rfl,_,rfl,by show 2<=sizeLine;decide,λq1 hq1=>?_⟩
    have Dl:=s4 _ _ BR
    have nq:q1≠d:=λz=>by rw[z,Dl]at hq1;cases hq1
    have nl:l≠d:=λz=>by rw[z,BR]at hl;cases hl
    have kq:gJ (L2.upd H4 q1 (.tup [.ref pl,.str ⟨#[c]⟩])) q1 (ee (q.1,q.2,c)):=⟨pl,ah,by rw[aq (aM (s4 _ _ (s3 _ _ hpq)) hq1)];exact s4 _ _ (s3 _ _ hpq)⟩
    have sw:ai (Wo d H3) (L2.upd H4 q1 (.tup [.ref pl,.str ⟨#[c]⟩])):=λb u h=>ai.upd hq1 b u (s4 b u (Wo.sub b u h))
    have hno:=MU (hst f) (O8 pw hq hc)
    have hal:a<(placesOf f.cps.size s.cps.size).length:=(List.getElem?_eq_some_iff.mp hq).1
    have hlen:kvs.length<sizeLine:=by
     have z:=Pa (q:=q) (b:=b) hal
     rw[←Paired.len (hst f),places_len]at z
     exact JO hf hs z
    refine⟨d,kvs,_,q1,rfl,rfl,⟨by rw[aq (Ne.symm nq)];exact Dl,λe he=>gJ.same (UY e he) sw⟩,kq,hlen,?_⟩
    rw[Jw hno]
    have Za:ai (Wo d H3) (Wo d (L2.upd (L2.upd H4 q1 (.tup [.ref pl,.str ⟨#[c]⟩])) d (sF P w d (kvs++[(ee (q.1,q.2,c),q1,.ref l)])))):=λb u h=>Wo.in (Wo.ne h) (by rw[aq (Wo.ne h)];exact sw b u h)
    refine⟨_,_,rfl,?_,ah,λe he=>?_,λm=>?_⟩
    ·exact ai.at ((s3.trans s4).trans (ai.upd hq1)) hd
    ·rcases List.mem_append.mp he with he|he
     ·exact gJ.same (UY e he) Za
     ·rw[List.mem_singleton.mp he]
      obtain⟨pl',k1,k2⟩:=kq
      exact⟨pl',Wo.in nq (by rw[aq nq];exact k1),Wo.in (λz=>by rw[z,aq (Ne.symm nq),Dl]at k2;cases k2) (by rw[aq (λz=>by rw[z,aq (Ne.symm nq),Dl]at k2;cases k2)];exact k2)⟩
    ·rw[IP hc,←List.append_assoc]
     refine GP.Paired.snoc ((hst m).same Za) ⟨rfl,l,rfl,(hsl m).da.same λb u h=>?_⟩
     have h':H4 b=some u:=by
      unfold rH at h
      split at h
      ·next e=>cases h;exact e
      ·next e=>cases h;exact e
      ·cases h
     have nb:b≠d:=λz=>by
      rw[z,Dl]at h'
      unfold rH at h
      rw[z,Dl]at h
      cases h
     exact Wo.in nb (by rw[aq nb];exact ai.upd hq1 _ _ h')
   ·rintro σ H3 ⟨v6,kvs,rfl,s3,BR,UY,hst⟩
    exact⟨_,_,kvs,rfl,s3,BR,UY,λm=>by rw[Cd hq];exact hst m⟩
  ·rintro σ H2 ⟨v5,v6,kvs,rfl,s2,hd2,hk2,hst⟩
   refine⟨_,rfl,kk d kvs H2 s2 hd ⟨hd2,λe he=>gJ.same (hk2 e he) Wo.sub⟩ λm=>?_⟩
   have z:=(hst m).same Wo.sub
   rw[List.length_map,Paired.len pp,List.take_length]at z
   exact z
theorem CV {kN mO:Addr} {jH kG:FuncData} {p:Pm} (T:Txt K mg p base) (iO:Dn K mg "all_ends" oS Sw kN jH) (jR:Dn K mg "may_end" qH SA mO kG) (Ie:aI P w K mg base cj 1 mO kG SA (I8 K)):aI P w K mg base cj 2 kN jH Sw FW:=by
 refine iO.fn.ok pX (λvs H Q E h=>?_) (λcdv A outer s H vs Q E hr h=>?_)
 ·obtain⟨lp,f,s,m,rfl,_⟩:=h
  rfl
 ·obtain⟨lp,f,s,m,rfl,hf,hs,⟨ps,Q6,pp⟩,kk⟩:=h
  refine⟨_,(aj (aH (i:=4) pX.nd rfl (Or.inl rfl) CL)
   (aj (cG PassesOwn.never rfl (jy (pv 2)) (aK (i:=5) pX.nd rfl (Or.inl rfl)) (ao (F4 (Dk hr) (pv 4) (pv 5) (aA Ie (hr.mono (by decide)) rfl jR.m jR.fn.kp jR.b .nil aT (aa (pv 3) (aa (pv 0) (aa (pv 1) (aa (pv 5) af))))) rfl)))
   (ao (aN (pv 4))))),?_⟩
  refine λd hd=>?_
  have s1:ai H (L2.upd H d (.dT [])):=ai.upd hd
  refine⟨_,rfl,lp,rfl,⟨_,bP.of (s1 _ _ Q6)⟩,?_⟩
  refine jr (K:=K) (a:=lp) (xs:=ps.map V.ref) (λa σ H2=>∃v5 kvs,σ=[some (.str f),some (.str s),some (.ref lp),some (.str m),some (.ref d),v5]/\ai H H2/\H2 d=some (.dT kvs)/\kvs.length<=a/\∀q∈(placesOf f.cps.size s.cps.size).take a,lT kvs [.inl (q.1:Int),.inl (q.2:Int)]=some (.bl (yJ m f s (q.1,q.2))))
   ⟨_,[],rfl,s1,ah,Nat.le_refl _,λq hq=>by rw[List.take_zero]at hq;exact nomatch hq⟩ (λa σ H2 _ ⟨_,_,_,s2,_⟩=>bP.of (s2 _ _ Q6)) ?_ ?_
  ·rintro a y σ H2 hy ⟨v5,kvs,rfl,s2,hd2,hk2,hst⟩
   obtain⟨pl,hpl,rfl⟩:=jl hy
   obtain⟨q,hq,hpq⟩:=GP.Paired.at pp hpl
   have hal:=(List.getElem?_eq_some_iff.mp hq).1
   rw[places_len]at hal
   refine⟨_,rfl,_,rfl,_,rfl,_,rfl,m,f,s,pl,((q.1:Int),(q.2:Int)),rfl,c7.of (s2 _ _ hpq),by omega,by omega,?_⟩
   refine⟨_,rfl,_,rfl,d,_,rfl,Ih.t (k:=[.inl (q.1:Int),.inl (q.2:Int)]) hd2 (s2 _ _ hpq) (JO hf hs (by omega)),?_⟩
   refine⟨_,_,rfl,ai.at s2 hd,ah,Nat.le_trans (nO _ _ _) (Nat.succ_le_succ hk2),λr hr=>?_⟩
   rw[take_snoc hq]at hr
   rw[B3]
   by_cases e:r=q
   ·rw[if_pos (by rw[e]),e]
   ·rw[if_neg (λz=>e ?_)]
    ·rcases List.mem_append.mp hr with hr|hr
     ·exact hst r hr
     ·exact absurd (List.mem_singleton.mp hr) e
    ·have z1:=(List.cons.inj z).1
     have z2:=(List.cons.inj (List.cons.inj z).2).1
     have e1:(r.1:Int)=q.1:=Sum.inl.inj z1
     have e2:(r.2:Int)=q.2:=Sum.inl.inj z2
     exact Prod.ext (by omega) (by omega)
  ·rintro σ H2 ⟨v5,kvs,rfl,s2,hd2,hk2,hst⟩
   refine⟨_,rfl,kk d kvs H2 s2 hd hd2 λT1 i j hi hj=>?_⟩
   rw[List.length_map,Paired.len pp,List.take_length]at hst
   exact hst (i,j) (iJ.mpr ⟨hi,hj⟩)
theorem rZ {aS jd gu jh jP jI kN:Addr} {bO gZ fj g8 i0 iT jH:FuncData} {p:Pm} (T:Txt K mg p base) (bL:Dm K "__init__" "Ground.__init__" bK Nb aS bO) (fN:Dn K mg "check_rows" mD SG jd gZ) (BN:aI P w K mg base (vz P w) 4 jd gZ SG (FN K p.au p.aC)) (dh:Dn K mg "check_manner" j7 ["manner"] gu fj) (yj:aI P w K mg base (vz P w) 1 gu fj ["manner"] (pS p.aG)) (fP:Dn K mg "all_places" mG Sz jh g8) (BP:aI P w K mg base cj 1 jh g8 Sz MV) (gE:Dn K mg "all_steps" nL Sx jP i0) (DY:aI P w K mg base cj 5 jP i0 Sx (Jc P w K p.au)) (gy:Dn K mg "may_begin" nD SD jI iT) (DS:aI P w K mg base cj 1 jI iT SD (I9 K)) (iO:Dn K mg "all_ends" oS Sw kN jH) (Fx:aI P w K mg base cj 2 kN jH Sw FW):aI P w K mg base (vz P w) 6 aS bO Nb (wM P w K p.au p.aR p.aC p.aG):=by
 refine bL.fn.PB mS (λvs H Q E h=>?_) (λcdv A outer s H vs Q E hr h=>?_)
 ·obtain⟨x,dx,pr,T1,f,s,m,rfl,_⟩:=h
  rfl
 ·obtain⟨x,dx,pr,T1,f,s,m,rfl,hx,hP,hf,hs,kk,kS,kM⟩:=h
  refine⟨_,(aj (cZ (aA BN (hr.mono (by decide)) rfl fN.m fN.fn.kp fN.b .nil (Lets.passes oZ) (aa (pv 1) (aa (jk (aa (pv 2) (aa (pv 3) af))) af))))
   (aj (cZ (aA yj (hr.mono (by decide)) rfl dh.m dh.fn.kp dh.b .nil (Lets.passes oZ) (aa (pv 4) af)))
   (aj (aH (i:=5) mS.nd rfl (Or.inl rfl) (aA BP (hr.mono (by decide)) rfl fP.m fP.fn.kp fP.b .nil aT (aa (pv 2) (aa (pv 3) af))))
   (aj (lM (pv 0) (aA DY (hr.mono (by decide)) rfl gE.m gE.fn.kp gE.b .nil aT (aa (pv 1) (aa (pv 2) (aa (pv 3) (aa (pv 5) af))))) rfl)
   (aj (lM (pv 0) (CN (N:=["place","manner"]) rfl (cN.rD (nt:=1) (ix:=[4]) rfl (by decide +kernel) (by decide +kernel) (by kernel_rfl) rfl (by kernel_rfl)) (jy (pv 5)) (λ_ _ _ _ _ _ _=>(aK (i:=0) (show(["place","manner"]:List Str).Nodup by decide +kernel) rfl (Or.inl rfl))) (λ_ _ _ _ _ _ _=>(pv 0)) (λ_ _ _ _ _ _ _=>(eY (aA DS (hr.mono (by decide)) rfl gy.m gy.fn.kp gy.b .nil aT (aa (pv 1) (aa (pv 0) af)))))) rfl)
   (ao (lM (pv 0) (aA Fx (hr.mono (by decide)) rfl iO.m iO.fn.kp iO.b .nil aT (aa (pv 2) (aa (pv 3) (aa (pv 5) (aa (pv 4) af))))) rfl))))))),?_⟩
  refine⟨_,rfl,_,rfl,_,rfl,by show 2<=sizeLine;decide,λl hl=>?_⟩
  refine⟨pr,l,T1.1,T1.2.1,T1.2.2.1,T1.2.2.2,f,s,rfl,hP.same (ai.upd hl),ah,by omega,by omega,λof os H1 s1=>?_,λi j bad dx H1 s1 hd=>kS i j bad dx H1 ((ai.upd hl).trans s1) hd⟩
  have QT:=(ai.upd (o:=.lst [.str f,.str s]) hl).trans s1
  refine⟨_,rfl,m,rfl,λhm=>?_,λhm=>⟨(kM of os hm).1,(kM of os hm).2 H1 QT⟩⟩
  obtain⟨uK,uJ,kk⟩:=kk of os hm
  refine⟨_,rfl,_,rfl,f,s,rfl,uK,uJ,λlp H2 s2 Q6 hpl=>?_⟩
  have G0:=QT.trans s2
  refine⟨_,rfl,_,rfl,_,rfl,_,rfl,pr,lp,T1,f,s,rfl,hP.same G0,of,os,uK,uJ,hpl,λd kvs H3 s3 hd hnd hst=>?_⟩
  have Pe:=G0.trans s3
  have ZH:=Pe _ _ hx
  refine⟨_,rfl,x,_,dx,[],rfl,ZH,T.fB,T.fY,by show 0<1000;decide,?_⟩
  have d3:=Dat.set (fs':=aE "steps" (.ref d) []) ZH
  have S7:=(hpl.same s3).da.same (rH.dat d3)
  obtain⟨ps,hps,pp⟩:=id S7
  have hlen:=Paired.len pp
  rw[places_len]at hlen
  refine⟨_,rfl,lp,rfl,⟨_,bP.of hps⟩,λlB hlB=>?_⟩
  have at_:∀i,i<ps.length->ps[i]? =some (ps.getD i 0)/\GK (L2.upd H3 x (.ins p.aR dx (aE "steps" (.ref d) []))) (ps.getD i 0) ((placesOf f.cps.size s.cps.size).getD i (0,0)):=λi hi=>by
   have e:ps[i]? =some (ps.getD i 0):=by rw[List.getD_eq_getElem?_getD,List.getElem?_eq_getElem hi];rfl
   obtain⟨q,hq,hpq⟩:=GP.Paired.at pp e
   refine⟨e,?_⟩
   rw[List.getD_eq_getElem?_getD (l:=placesOf _ _),hq]
   exact hpq
  refine Be ps.length (λi=>vK m (((placesOf f.cps.size s.cps.size).getD i (0,0)).1,((placesOf f.cps.size s.cps.size).getD i (0,0)).2)) (λi=>.ref (ps.getD i 0)) hlB (JO uK uJ (by omega)) (λi H4 s4 hi=>?_) (λH4 s4=>?_) (λi y H4 H5 R S s4 hi hy hR hS=>?_) λH4 s4 K6=>?_
  ·exact⟨_,_,bP.of (s4 _ _ hps),by rw[List.getElem?_map,(at_ i hi).1];rfl⟩
  ·exact⟨_,bP.of (s4 _ _ hps),by rw[List.length_map];exact Nat.le_refl _⟩
  ·obtain⟨rfl,hy⟩:=hy
   have ey:=hy _ (bP.of (s4 _ _ hps))
   rw[List.getElem?_map,(at_ i hi).1]at ey
   cases ey
   refine⟨Kp.Cy,_,rfl,_,rfl,m,_,((((placesOf f.cps.size s.cps.size).getD i (0,0)).1:Int),(((placesOf f.cps.size s.cps.size).getD i (0,0)).2:Int)),rfl,c7.of (s4 _ _ (at_ i hi).2),_,rfl,?_⟩
   cases z:vK m (((placesOf f.cps.size s.cps.size).getD i (0,0)).1,((placesOf f.cps.size s.cps.size).getD i (0,0)).2)with
   |true=>exact mZ ⟨_,rfl,hR z _ (ai.refl _)⟩
   |false=>exact iC (hS z _ (ai.refl _))
  have S3:=s4 _ _ (ah (H:=H3) (a:=x) (o:=.ins p.aR dx (aE "steps" (.ref d) [])))
  refine⟨_,rfl,x,_,dx,_,rfl,S3,T.fB,T.lO,by show 1<1000;decide,?_⟩
  have d4:=Dat.set (fs':=aE "begins" (.ref lB) (aE "steps" (.ref d) [])) S3
  have XX:Iq H4 lp (placesOf f.cps.size s.cps.size):=S7.same s4
  have XW:=XX.da.same (rH.dat d4)
  refine⟨_,rfl,_,rfl,_,rfl,_,rfl,lp,f,s,m,rfl,uK,uJ,XW,λdE kE H6 s6 hdE hE6 hE=>?_⟩
  have Nh:=s6 _ _ (ah (H:=H4) (a:=x) (o:=.ins p.aR dx (aE "begins" (.ref lB) (aE "steps" (.ref d) []))))
  refine⟨_,rfl,x,_,dx,_,rfl,Nh,T.fB,T.n9,by show 2<1000;decide,?_⟩
  have d6:=Dat.set (fs':=aE "ends" (.ref dE) (aE "begins" (.ref lB) (aE "steps" (.ref d) []))) Nh
  have dd:Dat H3 (L2.upd H6 x (.ins p.aR dx (aE "ends" (.ref dE) (aE "begins" (.ref lB) (aE "steps" (.ref d) []))))):=(((d3.trans (Dat.of s4)).trans d4).trans (Dat.of s6)).trans d6
  have de:Dat H4 (L2.upd H6 x (.ins p.aR dx (aE "ends" (.ref dE) (aE "begins" (.ref lB) (aE "steps" (.ref d) []))))):=(d4.trans (Dat.of s6)).trans d6
  refine kk _ (λb u nb hb=>?_) ⟨dx,d,lB,dE,kvs,kE,ah,ND.dat hnd dd,(hst m).da.same (rH.dat dd),?_,d6 _ _ (λ_ _ _ z=>by cases z) hE6,hE T1⟩
  ·rw[aq nb]
   refine s6 _ _ ?_
   rw[aq nb]
   refine s4 _ _ ?_
   rw[aq nb]
   exact Pe _ _ hb
  ·refine⟨((List.range ps.length).filter λi=>vK m (((placesOf f.cps.size s.cps.size).getD i (0,0)).1,((placesOf f.cps.size s.cps.size).getD i (0,0)).2)).map λi=>ps.getD i 0,?_,?_⟩
   ·rw[List.map_map]
    exact de _ _ (λ_ _ _ z=>by cases z) K6
   ·unfold Bp
    rw[←Gy (placesOf f.cps.size s.cps.size) (0,0),places_len,←hlen]
    refine vd λi hi=>?_
    have hi':=List.mem_range.mp (List.mem_filter.mp hi).1
    exact de _ _ (λ_ _ _ z=>by cases z) (s4 _ _ (at_ i hi').2)
end
section
variable{P:Program}{w:World}{K:PySem.W.Frag}{mg:Str->Option Value}{base:Heap}
theorem xh {g9:Addr} {f6:FuncData} {p:Pm} (T:Txt K mg p base) (dU:Dn K mg "least_rests" kX l9 g9 f6)  :aI P w K mg base cj 1 g9 f6 l9 (IT P w p.aR):=by
 refine dU.fn.ok jX (λvs H Q E h=>?_) (λcdv A outer s H vs Q E hr h=>?_)
 ·obtain⟨x,g,bs,rfl,_⟩:=h
  rfl
 ·obtain⟨x,g,bs,rfl,hG,ok,hn,hm,kk⟩:=h
  obtain⟨dx,dS,lB,dE,kS,kE,hx,hS,hst,hB,hE,Ra⟩:=id hG
  have hN:kS.length=g.states.length:=Paired.len hst
  have hN3:g.states.length=3*((g.n+1)*(g.m+1)):=by unfold Gd.states;rw[rP,places_len]
  refine⟨_,(aj (aH (i:=1) jX.nd rfl (Or.inr rfl) (AH (Pr:=P) (wo:=w) rfl rfl))
   (aj (cG PassesOwn.never rfl (Pn rfl T.D9 (aa (ku (Bk (Pr:=P) (wo:=w) rfl rfl rfl) rfl T.rJ pD (aa (cH (pv 0) rfl) af)) af)) (aK (i:=2) jX.nd rfl (Or.inl rfl)) (aj (wZ (i:=3) (N:=Xr) jX.nd rfl (Or.inl rfl) rfl (cN.rD (nt:=2) (ix:=[1]) rfl (by decide +kernel) (by decide +kernel) (by kernel_rfl) rfl (by kernel_rfl)) (jy (qO (Pr:=P) (wo:=w) (kg hr) (cH (pv 0) rfl) (pv 2) (λ_ _=>rfl) rfl rfl)) (λ_ _ _ _ _ _ _=>(F8 (K':=K) (n:=2) rfl rfl (bS (aK (i:=0) (show(Xr:List Str).Nodup by decide +kernel) rfl (Or.inl rfl)) (bS (aK (i:=1) (show(Xr:List Str).Nodup by decide +kernel) rfl (Or.inl rfl)) lz)))) (λ_ _ _ _ _ _ _=>(aD bZ (pv 1) (qO (Pr:=P) (wo:=w) (kg hr) (pv 2) (pv 0) (λ_ _=>rfl) rfl rfl))))
   (bB (bE (eY (AJ (Dk hr) (cH (pv 0) rfl) (aW bR (pv 2) ak (λ_ _=>rfl)) (λ_ _=>rfl))) (ao (cZ (lQ PySem.F.plainAttrs_list PySem.F.slot_list_append PySem.F.type_list_append cY (pv 3) (aa ak af)))) aP)
   (ao (wg (Pr:=P) (wo:=w) (kg hr) (pv 1) (pv 2) (az (Aa rfl) rfl T.BS xT (aa (pv 3) af)) rfl rfl rfl)))))
   (ao (aN (pv 1))))),?_⟩
  refine λd hd=>?_
  have s1:ai H (L2.upd H d (sF P w d [])):=ai.upd hd
  refine⟨_,rfl,x,_,dx,_,_,rfl,s1 _ _ hx,T.fB,T.fY,oF,dS,kS,rfl,ND.same hS s1,λl hl=>?_⟩
  have s2:=s1.trans (ai.upd (o:=.lst (kS.map λe=>.ref e.2.1)) hl)
  have Zp:l≠d:=λz=>by rw[z,ah]at hl;cases hl
  refine⟨l,_,rfl,bP.of ah,?_⟩
  refine MA (K:=K) (a:=l) (xs:=kS.map λe=>V.ref e.2.1) (λk σ H2=>∃v2 v3 kvs,σ=[some (.ref x),some (.ref d),v2,v3]/\ai H H2/\H2 l=some (.lst (kS.map λe=>V.ref e.2.1))/\H2 d=some (sF P w d kvs)/\kvs.length<=k/\(∀e∈kvs,gJ (Wo d H2) e.2.1 e.1)/\∀s∈g.states.drop (g.states.length-k),gx kvs (ee s)=some (.int (g.rest s)))
   ⟨_,_,[],rfl,s2,ah,by rw[aq (Ne.symm Zp),ah],Nat.le_refl _,(λe he=>nomatch he),λs hs=>by rw[Nat.sub_zero,List.drop_length]at hs;exact nomatch hs⟩ (λk σ H2 _ ⟨_,_,_,_,_,h2,_⟩=>bP.of h2) ?_ ?_
  ·rintro k y σ H2 hk hy ⟨v2,v3,kvs,rfl,s2,hl2,hd2,hlen,hkey,hval⟩
   rw[List.length_map,hN]at hk
   rw[List.length_map,hN]at hy
   obtain⟨e,he,rfl⟩:=jl hy
   obtain⟨s,hs,hek,l',hel,hsl⟩:=GP.Paired.at hst he
   have hin:=Gd.fS.mp (List.mem_of_getElem? hs)
   have hke:gJ H e.2.1 (ee s):=by rw[←hek];exact hS.keys e (List.mem_of_getElem? he)
   obtain⟨l'',XZ,S4⟩:=As hst (Gd.fS.mpr hin)
   obtain⟨ps,hps,pp⟩:=S4
   have hpl:=Paired.len pp
   refine⟨_,rfl,x,_,dx,_,_,rfl,s2 _ _ hx,T.fB,T.fY,oF,_,rfl,dS,kS,ee s,e.2.1,.ref l'',rfl,rfl,ND.same hS s2,gJ.same hke s2,XZ,l'',rfl,⟨_,bP.of (s2 _ _ hps)⟩,λlc Gs=>?_⟩
   have Qg:(g.steps s).length<=3:=by unfold Gd.steps;split<;>split<;>split<;>simp
   refine Bd ps.length (λi=>.int (g.key ((g.steps s).getD i (s,0)))) Gs (Nat.lt_of_le_of_lt (show ps.length<=3 by omega) (by decide)) (λi H3 s3 hi=>?_) (λH3 s3=>?_) (λi y H3 H4 R s3 hi hy hR=>?_) λH3 s3 hl3=>?_
   ·exact⟨_,_,bP.of (s3 _ _ (s2 _ _ hps)),by rw[List.getElem?_map,List.getElem?_eq_getElem hi];rfl⟩
   ·exact⟨_,bP.of (s3 _ _ (s2 _ _ hps)),by rw[List.length_map];exact Nat.le_refl _⟩
   ·obtain⟨rfl,hy⟩:=hy
    have ey:=hy _ (bP.of (s3 _ _ (s2 _ _ hps)))
    rw[List.getElem?_map,List.getElem?_eq_getElem hi]at ey
    cases ey
    obtain⟨t,ht,q,hq1,hq2⟩:=GP.Paired.at pp (List.getElem?_eq_getElem hi)
    have et:(g.steps s).getD i (s,0)=t:=by rw[List.getD_eq_getElem?_getD,ht];rfl
    rw[et]at hR
    have hb:=Gd.uY hs (List.mem_of_getElem? ht)
    rw[show g.states.length-1-k+1=g.states.length-k by omega]at hb
    refine⟨_,_,rfl,c7.of (s3 _ _ (s2 _ _ hq1)),rfl,_,_,rfl,_,_,rfl,rfl,Kp2,?_⟩
    exact⟨_,rfl,_,rfl,_,rfl,d,kvs,ee t.1,q,_,rfl,rfl,⟨s3 _ _ hd2,λe he=>gJ.same (gJ.same (hkey e he) Wo.sub) s3⟩,gJ.same (gJ.same hq2 s2) s3,hval t.1 hb,_,_,rfl,rfl,hR _ (ai.refl _)⟩
   have hls:(List.range ps.length).map (λi=>V.int (g.key ((g.steps s).getD i (s,0))))=((g.steps s).map g.key).map V.int:=by
    rw[List.map_map,hpl]
    refine List.ext_getElem (by simp) λi h1 h2=>?_
    simp only[List.getElem_map,List.getElem_range,Function.comp_apply]
    rw[List.getD_eq_getElem?_getD,List.getElem?_eq_getElem (by simpa using h2)]
    rfl
   rw[hls]at hl3
   have Pe:=s2.trans s3
   have hcn:H2 lc=none:=Gs
   have ncd:lc≠d:=λz=>by rw[z,hd2]at hcn;cases hcn
   have ncl:lc≠l:=λz=>by rw[z,hl2]at hcn;cases hcn
   obtain⟨pk,hk1,hk2⟩:=hke
   refine⟨λσ H'=>σ=[some (.ref x),some (.ref d),some (.ref e.2.1),some (.ref lc)]/\ai H2 H'/\H' lc=some (.lst ((g.costs g.rest s).map V.int)),?_,?_⟩
   ·refine⟨_,rfl,x,_,dx,_,_,rfl,Pe _ _ hx,T.fB,T.n9,Dp,_,rfl,e.2.1,_,_,_,rfl,rfl,c7.of (Pe _ _ hk1),rfl,dE,.bl (g.en s.1 s.2.1),rfl,?_,_,rfl,?_⟩
    ·rw[←Ra s.1 s.2.1 hin.1 hin.2.1]
     exact D3.t (Pe _ _ hE) (Pe _ _ hk2)
    ·unfold Gd.costs
     cases z:g.en s.1 s.2.1 with
     |true =>
      refine mZ ⟨_,rfl,.inl ⟨rfl,_,bP.of hl3⟩,lc,_,_,rfl,rfl,hl3,by rw[List.length_map,List.length_map];exact Nat.lt_of_le_of_lt Qg (by decide),rfl,ai.at s3 hcn,?_⟩
      rw[ah,if_pos rfl,List.map_append]
      rfl
     |false=>exact iC ⟨rfl,s3,by rw[if_neg Bool.false_ne_true,List.append_nil];exact hl3⟩
   rintro σ H4 ⟨rfl,s4,K6⟩
   refine⟨_,rfl,lc,_,rfl,bP.of K6,Gd.DC ok hin,_,rfl,_,rfl,d,kvs,ee s,e.2.1,rfl,rfl,⟨s4 _ _ hd2,λe he=>gJ.same (gJ.same (hkey e he) Wo.sub) s4⟩,⟨pk,s4 _ _ (s2 _ _ hk1),s4 _ _ (s2 _ _ hk2)⟩,JO hn hm (by omega),?_⟩
   rw[←g.rest_eq]
   have sw:ai (Wo d H2) (Wo d (L2.upd H4 d (sF P w d (pM kvs (ee s) e.2.1 (.int (g.rest s)))))):=λb u h=>Wo.in (Wo.ne h) (by rw[aq (Wo.ne h)];exact s4 _ _ (Wo.sub b u h))
   have UM:∀{b:Addr} {xs:List V},H2 b=some (.tup xs)->b≠d:=λ{b xs} h z=>by rw[z,hd2]at h;cases h
   refine⟨_,_,_,rfl,ai.at (s2.trans s4) hd,by rw[aq Zp];exact s4 _ _ hl2,ah,Nat.le_trans (sY _ _ _ _) (Nat.succ_le_succ hlen),zR (λe he=>gJ.same (hkey e he) sw) (gJ.same ⟨pk,Wo.in (UM (s2 _ _ hk1)) (s2 _ _ hk1),Wo.in (UM (s2 _ _ hk2)) (s2 _ _ hk2)⟩ sw),λr hr=>?_⟩
   rw[xy]
   rw[show g.states.length-(k+1)=g.states.length-1-k by omega,List.drop_eq_getElem_cons (by omega)]at hr
   rw[(List.getElem?_eq_some_iff.mp hs).2]at hr
   by_cases er:ee r=ee s
   ·rw[if_pos er,oB er]
   ·rw[if_neg er]
    rcases List.mem_cons.mp hr with hr|hr
    ·exact absurd (by rw[hr]) er
    ·exact hval r (by rw[show g.states.length-k=g.states.length-1-k+1 by omega];exact hr)
  ·rintro σ H2 ⟨v2,v3,kvs,rfl,s2,hl2,hd2,hlen,hkey,hval⟩
   rw[List.length_map,hN,Nat.sub_self,List.drop_zero]at hval
   exact⟨_,rfl,kk d kvs H2 s2 hd ⟨hd2,λe he=>gJ.same (hkey e he) Wo.sub⟩ λs hs=>hval s (Gd.fS.mpr hs)⟩
theorem yE {jc:Addr} {gY:FuncData} {p:Pm} (T:Txt K mg p base) (fM:Dn K mg "ends_there" mz K5 jc gY)  :aI P w K mg base cj 1 jc gY K5 (FH P w p.aR):=by
 refine fM.fn.ok yr (λvs H Q E h=>?_) (λcdv A outer s H vs Q E hr h=>?_)
 ·obtain⟨x,d,q,g,bs,kvs,s,rfl,_⟩:=h
  rfl
 ·obtain⟨x,d,q,g,bs,kvs,s,rfl,⟨hG,hd,hR⟩,hq,hin,kk⟩:=h
  obtain⟨dx,dS,lB,dE,kS,kE,hx,hS,hst,hB,hE,Ra⟩:=id hG
  obtain⟨pk,hk1,hk2⟩:=id hq
  refine⟨_,(ao (aN (jA (AJ (Dk hr) (cH (pv 0) rfl) (aW bR (pv 2) ak (λ_ _=>rfl)) (λ_ _=>rfl)) (jj (bQ cQ (qO (Pr:=P) (wo:=w) (kg hr) (pv 1) (pv 2) (λ_ _=>rfl) rfl rfl) ak (aO _)))))),?_⟩
  refine⟨_,rfl,x,_,dx,_,_,rfl,hx,T.fB,T.n9,Dp,_,rfl,q,_,_,_,rfl,rfl,c7.of hk1,rfl,dE,.bl (g.en s.1 s.2.1),rfl,?_,_,rfl,?_⟩
  ·rw[←Ra s.1 s.2.1 hin.1 hin.2.1]
   exact D3.t hE hk2
  ·unfold Gd.stop at kk
   cases z:g.en s.1 s.2.1 with
   |true =>
    rw[z,Bool.true_and]at kk
    refine mZ ⟨_,rfl,_,rfl,d,kvs,ee s,q,_,rfl,rfl,hd,hq,hR s hin,rfl,?_⟩
    rw[pA]
    exact kk
   |false =>
    rw[z,Bool.false_and]at kk
    exact iC kk
theorem xw {iu:Addr} {gi:FuncData} {p:Pm} (T:Txt K mg p base) (c6:Dn K mg "first_begin" k9 Sv iu gi)  :aI P w K mg base cj 1 iu gi Sv (Cs P w p.aR (ua K)):=by
 refine c6.fn.Zk T.xH (T.xG _ c6.m) wU (λvs H Q E h=>?_) (λcdv A outer s H vs Q E hC hr h=>?_)
 ·obtain⟨x,d,g,bs,kvs,rfl,_⟩:=h
  rfl
 ·obtain⟨x,d,g,bs,kvs,rfl,⟨hG,hd,hR⟩,hT,hne,hbs,kk⟩:=h
  obtain⟨dx,dS,lB,dE,kS,kE,hx,hS,hst,⟨ps,hps,pp⟩,hE,Ra⟩:=id hG
  have hlen:=Paired.len pp
  have at_:∀(i:Nat) (v:V),(ps.map V.ref)[i]? =some v->∃pl b,v= .ref pl/\bs[i]? =some b/\GK H pl b:=λi v hv=>by
   obtain⟨pl,hpl,rfl⟩:=jl hv
   obtain⟨b,hb,Hz⟩:=GP.Paired.at pp hpl
   exact⟨pl,b,rfl,hb,Hz⟩
  refine⟨_,(ao (aN (F9 (Pr:=P) (wo:=w) (P:=eN K "first_begin") (ir:=1) (Mc ⟨λ_ _ _ _ _ _=>rfl,rfl,rfl,by decide +kernel,rfl,rfl,rfl,by decide,by decide,by decide⟩) Mg rfl rfl hC T.bm rfl (F1 hr) (Gr hr) rfl T.BS xT rfl rfl (aa (cH (pv 0) rfl) af) rfl rfl rfl))),?_⟩
  refine⟨_,rfl,x,_,dx,_,_,rfl,hx,T.fB,T.lO,xO,lB,_,.ref d,λi=>g.lF (bs.getD i (0,0)),rfl,rfl,bP.of hps,?_,λi v hv=>?_,hT.a,λH2 ap e t i v hv hL=>?_⟩
  ·rw[List.length_map,hlen]
   exact List.length_pos_iff.mpr hne
  ·obtain⟨pl,b,rfl,hb,Hz⟩:=at_ i v hv
   have hb':=hbs b (List.mem_of_getElem? hb)
   refine⟨pl,d,kvs,b.1,b.2,rfl,Hz,rfl,hd,?_⟩
   have z:=hR (b.1,b.2,112) ⟨hb'.1,hb'.2,.inl rfl⟩
   have e:bs.getD i (0,0)=b:=by rw[List.getD_eq_getElem?_getD,hb];rfl
   dsimp only
   rw[e,sP]
   exact z
  ·obtain⟨pl,b,rfl,hb,Hz⟩:=at_ i v hv
   have lo:=Lo.one (P:=P) (w:=w) (L:=ua K) hT ap e t
   refine kk pl b H2 lo (A9 hb λj y hy=>?_) (lo.tup Hz)
   have z:=hL j (by rw[List.length_map,hlen];exact(List.getElem?_eq_some_iff.mp hy).1)
   dsimp only at z
   rw[List.getD_eq_getElem?_getD,List.getD_eq_getElem?_getD,hb,hy]at z
   exact z
theorem vF {gp:Addr} {ff:FuncData} {p:Pm} (T:Txt K mg p base) (cK:Dn K mg "state_behind" j5 K5 gp ff)  :aI P w K mg base cj 1 gp ff K5 (Jb P w p.aR (ua K)):=by
 refine cK.fn.Zk T.vM (T.vL _ cK.m) vA (λvs H Q E h=>?_) (λcdv A outer s H vs Q E hC hr h=>?_)
 ·obtain⟨x,d,q,g,bs,kvs,s,rfl,_⟩:=h
  rfl
 ·obtain⟨x,d,q,g,bs,kvs,s,rfl,⟨hG,hd,hR⟩,hq,hin,hne,hT,kk⟩:=h
  obtain⟨dx,dS,lB,dE,kS,kE,hx,hS,hst,hB,hE,Ra⟩:=id hG
  obtain⟨l,XZ,ps,hps,pp⟩:=As hst (Gd.fS.mpr hin)
  have hlen:=Paired.len pp
  have at_:∀(i:Nat) (v:V),(ps.map V.ref)[i]? =some v->∃pl t,v= .ref pl/\(g.steps s)[i]? =some t/\MJ H pl t:=λi v hv=>by
   obtain⟨pl,hpl,rfl⟩:=jl hv
   obtain⟨b,hb,Hz⟩:=GP.Paired.at pp hpl
   exact⟨pl,b,rfl,hb,Hz⟩
  refine⟨_,(ao (aN (aW bR (F9 (Pr:=P) (wo:=w) (P:=eN K "state_behind") (ir:=1) (Mb ⟨λ_ _ _ _ _ _=>rfl,rfl,rfl,by decide +kernel,rfl,rfl,rfl,by decide,by decide,by decide⟩) Mf rfl rfl hC T.bm rfl (F1 hr) (Gr hr) rfl T.BS xT rfl rfl (aa (qO (Pr:=P) (wo:=w) (kg hr) (cH (pv 0) rfl) (pv 2) (λ_ _=>rfl) rfl rfl) af) rfl rfl rfl) ak (λ_ _=>rfl)))),?_⟩
  refine⟨_,rfl,x,_,dx,_,_,rfl,hx,T.fB,T.fY,oF,_,rfl,dS,kS,ee s,q,.ref l,rfl,rfl,hS,hq,XZ,l,_,.ref d,λi=>g.key ((g.steps s).getD i (s,0)),rfl,rfl,bP.of hps,?_,λi v hv=>?_,hT.b,λH2 ap e t i v hv hL=>?_⟩
  ·rw[List.length_map,hlen]
   exact List.length_pos_iff.mpr hne
  ·obtain⟨pl,t,rfl,ht,q',h1,h2⟩:=at_ i v hv
   refine⟨pl,d,q',kvs,ee t.1,t.2,g.rest t.1,rfl,h1,h2,rfl,hd,hR t.1 (Gd.oM (List.mem_of_getElem? ht) hin),?_⟩
   show g.key _=_
   rw[List.getD_eq_getElem?_getD,ht]
   rfl
  ·obtain⟨pl,u,rfl,hu,q',h1,h2⟩:=at_ i v hv
   have lo:=Lo.two (P:=P) (w:=w) (L:=ua K) hT ap e t
   refine⟨pl,_,_,_,rfl,rfl,c7.of (lo.tup h1),rfl,kk q' u H2 lo (A9 hu λj y hy=>?_) (lo.ZE h2)⟩
   have z:=hL j (by rw[List.length_map,hlen];exact(List.getElem?_eq_some_iff.mp hy).1)
   dsimp only at z
   rw[List.getD_eq_getElem?_getD,List.getD_eq_getElem?_getD,hu,hy]at z
   exact z
theorem xu {ig jc gp:Addr} {gh gY ff:FuncData} {p:Pm} (T:Txt K mg p base) (dY:Dn K mg "first_moves" k8 Su ig gh) (fM:Dn K mg "ends_there" mz K5 jc gY) (BL:aI P w K mg base cj 1 jc gY K5 (FH P w p.aR)) (cK:Dn K mg "state_behind" j5 K5 gp ff) (yh:aI P w K mg base cj 1 gp ff K5 (Jb P w p.aR (ua K))):aI P w K mg base cj 2 ig gh Su (I0 P w p.aR (ua K)):=by
 refine dY.fn.ok j3 (λvs H Q E h=>?_) (λcdv A outer s H vs Q E hr h=>?_)
 ·obtain⟨x,d,pl,g,bs,kvs,b,rfl,_⟩:=h
  rfl
 ·obtain⟨x,d,pl,g,bs,kvs,b,rfl,hG,hb,hin,ok,hn,hm,hT,kk⟩:=h
  refine⟨_,(aj (aH (i:=3) j3.nd rfl (Or.inl rfl) (bH (aa (pv 2) (aa bG af))))
   (aj (aH (i:=4) j3.nd rfl (Or.inl rfl) (jk af))
   (aj (CF PassesOwn.never (nY (eY (aA BL (hr.mono (by decide)) rfl fM.m fM.fn.kp fM.b .nil aT (aa (pv 0) (aa (pv 1) (aa (pv 3) af)))))) (aj (aH (i:=3) j3.nd rfl (Or.inl rfl) (aA yh (hr.mono (by decide)) rfl cK.m cK.fn.kp cK.b .nil aT (aa (pv 0) (aa (pv 1) (aa (pv 3) af)))))
   (ao (cZ (lQ PySem.F.plainAttrs_list PySem.F.slot_list_append PySem.F.type_list_append cY (pv 4) (aa (aW bR (pv 3) ak (λ_ _=>rfl)) af))))))
   (ao (aN (lQ PySem.F.plainAttrs_str PySem.F.slot_str_join PySem.F.type_str_join Gh bG (aa (pv 4) af))))))),?_⟩
  refine⟨_,rfl,by show 2<=sizeLine;decide,λq hq=>⟨by show 0<=sizeLine;decide,λl hl=>?_⟩⟩
  have s1:ai H (L2.upd H q (.tup [.ref pl,.str (Str.ofString "p")])):=ai.upd hq
  have X6:H l=none:=ai.free s1 hl
  have UJ:q≠l:=λz=>by rw[z,ah]at hl;cases hl
  have k0:gJ (L2.upd (L2.upd H q (.tup [.ref pl,.str (Str.ofString "p")])) l (.lst [])) q (ee (b.1,b.2,112)):=by
   refine⟨pl,by rw[aq UJ,ah,sP];rfl,?_⟩
   exact ai.upd hl _ _ (s1 _ _ hb)
  refine⟨λn σ H'=>∃(q:Addr) (s:dM) (mv:List Nat),n=g.ht s/\σ=[some (.ref x),some (.ref d),some (.ref pl),some (.ref q),some (.ref l)]/\Lo P w (ua K) H H'/\gJ H' q (ee s)/\g.In s/\H' l=some (.lst (mv.map sg))/\g.moves (b.1,b.2,112)=mv++g.moves s/\mv.length+g.ht s<=g.n+g.m,
   ⟨_,q,(b.1,b.2,112),[],rfl,rfl,.of hT (s1.trans (ai.upd hl)),k0,hin,ah,rfl,by show 0+(g.n-b.1+(g.m-b.2))<=_;omega⟩,?_⟩
  rintro n σ H1 ⟨q,s,mv,rfl,rfl,lo,hk,hs,hl1,X3,hle⟩
  refine⟨_,rfl,_,rfl,_,rfl,x,d,q,g,bs,kvs,s,rfl,lo.gR hG,hk,hs,_,rfl,?_⟩
  cases z:g.stop s with
  |true =>
   refine m5 ⟨rfl,_,rfl,l,mv,rfl,rfl,bP.of hl1,by omega,?_⟩
   rw[Gd.xC z,List.append_nil]at X3
   rw[←X3]
   exact kk H1 lo
  |false =>
   obtain⟨t,hf,ht,hnx,_⟩:=g.go ok hs z
   refine zY ⟨λσ' H'=>∃m',m'<g.ht s/\∃(q:Addr) (s:dM) (mv:List Nat),m'=g.ht s/\σ'=[some (.ref x),some (.ref d),some (.ref pl),some (.ref q),some (.ref l)]/\Lo P w (ua K) H H'/\gJ H' q (ee s)/\g.In s/\H' l=some (.lst (mv.map sg))/\g.moves (b.1,b.2,112)=mv++g.moves s/\mv.length+g.ht s<=g.n+g.m,λσ' H' h=>h,?_⟩
   refine⟨_,rfl,_,rfl,_,rfl,x,d,q,g,bs,kvs,s,rfl,lo.gR hG,hk,hs,List.ne_nil_of_mem ht,lo.lt,λq' t' H2 lo2 hf' hk'=>?_⟩
   obtain rfl:t=t':=Option.some.inj (hf.symm.trans hf')
   have hl2:=lo2.nx _ _ (Nt.lst hl1)
   obtain⟨pk,hk1,hk2⟩:=id hk'
   have hht:=Gd.lV ht
   refine⟨_,rfl,.inl ⟨rfl,_,bP.of hl2⟩,_,rfl,q',_,_,_,rfl,rfl,c7.of hk1,rfl,l,_,_,rfl,rfl,hl2,by rw[List.length_map];exact Nat.lt_of_le_of_lt (show mv.length<=24 by omega) (by decide),g.ht t.1,hht,q',t.1,mv++[t.1.2.2],rfl,rfl,(lo.trans lo2).put X6 hl2,Mh hk' hl2,Gd.oM ht hs,by rw[ah,List.map_append];rfl,?_,?_⟩
   ·rw[X3,Gd.C7 ok hs z,hnx,List.append_assoc]
    rfl
   ·rw[List.length_append]
    show mv.length+1+_<=_
    omega
theorem CU {kL aS g9 iu kK ig:Addr} {iL bO f6 gi jG gh:FuncData} {p:Pm} (T:Txt K mg p base) (iN:Dn K mg "cheapest" oR l6 kL iL) (bL:Dm K "__init__" "Ground.__init__" bK Nb aS bO) (oK:Mk K p.aR aS) (ko:aI P w K mg base (vz P w) 6 aS bO Nb (wM P w K p.au p.aR p.aC p.aG)) (dU:Dn K mg "least_rests" kX l9 g9 f6) (zl:aI P w K mg base cj 1 g9 f6 l9 (IT P w p.aR)) (c6:Dn K mg "first_begin" k9 Sv iu gi) (zq:aI P w K mg base cj 1 iu gi Sv (Cs P w p.aR (ua K))) (iM:Dn K mg "in_units" oQ SI kK jG) (Fv:aI P w K mg base cj 2 kK jG SI (zM K p.au)) (dY:Dn K mg "first_moves" k8 Su ig gh) (zp:aI P w K mg base cj 2 ig gh Su (I0 P w p.aR (ua K))):aI P w K mg base (vz P w) 8 kL iL l6 (FZ P w K p.au p.aC p.aG (ua K)):=by
 refine iN.fn.PB nB (λvs H Q E h=>?_) (λcdv A outer s H vs Q E hr h=>?_)
 ·obtain⟨pr,T1,f,s,m,rfl,_⟩:=h
  rfl
 ·obtain⟨pr,T1,f,s,m,rfl,hP,hT,hf,hs,kk,kS,kM⟩:=h
  refine⟨_,(aj (aH (i:=4) nB.nd rfl (Or.inl rfl) (AI oK ko (hr.mono (by decide)) rfl T.zT bL.b .nil (Lets.passes oZ) (aa (pv 0) (aa (pv 1) (aa (pv 2) (aa (pv 3) af))))))
   (aj (aH (i:=5) nB.nd rfl (Or.inl rfl) (aA zl (hr.mono (by decide)) rfl dU.m dU.fn.kp dU.b .nil aT (aa (pv 4) af)))
   (aj (aH (i:=6) nB.nd rfl (Or.inl rfl) (aA zq (hr.mono (by decide)) rfl c6.m c6.fn.kp c6.b .nil aT (aa (pv 4) (aa (pv 5) af))))
   (ao (aN (bH (aa (aA Fv (hr.mono (by decide)) rfl iM.m iM.fn.kp iM.b .nil aT (aa (pv 0) (aa (qO (Pr:=P) (wo:=w) (kg hr) (pv 5) (bH (aa (pv 6) (aa bG af))) (λ_ _=>rfl) rfl rfl) af))) (aa (pv 6) (aa (aA zp (hr.mono (by decide)) rfl dY.m dY.fn.kp dY.b .nil aT (aa (pv 4) (aa (pv 5) (aa (pv 6) af)))) af))))))))),?_⟩
  refine⟨_,rfl,_,rfl,_,rfl,_,rfl,λx dx hx hdx Zo=>?_⟩
  have s1:ai H (L2.upd (L2.upd H dx (.own x)) x (.ins p.aR dx [])):=ai.at (ai.upd hdx) hx
  refine⟨x,dx,pr,T1,f,s,m,rfl,ah,hP.same s1,hf,hs,λof os hm=>?_,λi j bad dx H1 s2 hd=>kS i j bad dx H1 (s1.trans s2) hd,λof os hm=>⟨(kM of os hm).1,λH1 s2=>(kM of os hm).2 H1 (s1.trans s2)⟩⟩
  obtain⟨uK,uJ,kk⟩:=kk of os hm
  refine⟨uK,uJ,λH1 e1 hG=>⟨rfl,?_⟩⟩
  have QT:ai H H1:=λb u q=>e1 b u (aM q hx) (s1 b u q)
  have ok:=E7 T1 m f s
  refine⟨_,rfl,x,_,_,rfl,hG,ok,uK,uJ,λd kvs H2 s2 hd hnd hR=>?_⟩
  have G0:=QT.trans s2
  refine⟨_,rfl,_,rfl,x,d,_,_,kvs,rfl,⟨hG.same s2,hnd,hR⟩,hT.same G0,MH _ _ _,λb hb=>iJ.mp (List.mem_filter.mp hb).1,λpb b H3 Xo hb Hz=>?_⟩
  have Sb:=ai.lo G0 hT Xo
  have Z6:=Xo.gR ⟨hG.same s2,hnd,hR⟩
  have hbi:(lK T1 m f s).In (b.1,b.2,112):=by
   have:=iJ.mp (List.mem_filter.mp (m6 hb)).1
   exact⟨this.1,this.2,.inl rfl⟩
  refine⟨_,rfl,_,rfl,_,rfl,by show 2<=sizeLine;decide,λq hq=>?_⟩
  have s4:ai H3 (L2.upd H3 q (.tup [.ref pb,.str (Str.ofString "p")])):=ai.upd hq
  refine⟨d,kvs,ee (b.1,b.2,112),q,_,rfl,rfl,ND.same Z6.2.1 s4,⟨pb,by rw[ah,sP];rfl,s4 _ _ Hz⟩,hR _ hbi,pr,_,T1.1,T1.2.1,T1.2.2.1,T1.2.2.2,rfl,(Sb.pr hP).same s4,λc H5 s5 hc hc5=>?_⟩
  have RQ:=s4.trans s5
  refine⟨_,rfl,_,rfl,_,rfl,_,rfl,x,d,pb,_,_,kvs,b,rfl,Z6.same RQ,RQ _ _ Hz,hbi,ok,uK,uJ,Xo.lt.same RQ,λH6 L7=>⟨by show 3<=sizeLine;decide,λr hr=>?_⟩⟩
  have Sa:=(Sb.then RQ).trans L7
  have s7:ai H6 (L2.upd H6 r _):=ai.upd (o:=.tup [.ref c,.ref pb,.str ⟨((lK T1 m f s).moves (b.1,b.2,112)).toArray⟩]) hr
  exact kk r _ (Sa.then s7) (Sa.dom r hr) ⟨b,c,pb,hb,ah,s7 _ _ (L7.tup hc5),s7 _ _ (L7.tup (RQ _ _ Hz))⟩
end
section
variable{P:Program}{w:World}{K:PySem.W.Frag}{mg:Str->Option Value}{base:Heap}
theorem ux {fq:Addr} {eE:FuncData} {p:Pm} (T:Txt K mg p base) (cS:Dn K mg "least_numbers" jv l9 fq eE)  :aI P w K mg base cj 1 fq eE l9 (IZ P w p.aR):=by
 refine cS.fn.ok cW (λvs H Q E h=>?_) (λcdv A outer s H vs Q E hr h=>?_)
 ·obtain⟨x,g,bs,rfl,_⟩:=h
  rfl
 ·obtain⟨x,g,bs,rfl,hG,hn,hm,Ym,kk⟩:=h
  obtain⟨dx,dS,lB,dE,kS,kE,hx,hS,hst,⟨ps,hps,pp⟩,hE,Ra⟩:=id hG
  have hlen:=Paired.len pp
  refine⟨_,(aj (aH (i:=1) cW.nd rfl (Or.inl rfl) (AH (Pr:=P) (wo:=w) rfl rfl))
   (aj (cG PassesOwn.never rfl (jy (cH (pv 0) rfl)) (aK (i:=2) cW.nd rfl (Or.inl rfl)) (ao (wg (Pr:=P) (wo:=w) (kg hr) (pv 1) (bH (aa (pv 2) (aa bG af))) ak rfl rfl rfl)))
   (aj (LJ (Pr:=P) (wo:=w) (H0:=H) (cG PassesOwn.never rfl (RX (Pr:=P) (wo:=w) rfl rfl (cH (pv 0) rfl)) (aK (i:=3) cW.nd rfl (Or.inl rfl)) (ao (bE (aL (Px (Pr:=P) (wo:=w) (kg hr) rfl rfl) (pv 3) (pv 1) (by with_unfolding_all rfl)) (ao (cG PassesOwn.never rfl (jy (Jo (Pr:=P) (wo:=w) (kg hr) (cH (pv 0) rfl) (pv 3) (λ_ _=>rfl) rfl rfl)) (oW (n:=2) rfl (bS (aK (i:=4) cW.nd rfl (Or.inl rfl)) (bS (aK (i:=5) cW.nd rfl (Or.inl rfl)) lz))) (aj (aH (i:=6) cW.nd rfl (Or.inl rfl) (aD bZ (qO (Pr:=P) (wo:=w) (kg hr) (pv 1) (pv 3) (λ_ _=>rfl) rfl rfl) (pv 5)))
   (ao (wg (Pr:=P) (wo:=w) (kg hr) (pv 1) (pv 4) (az (HP rfl) rfl T.BS xT (aa (pv 6) (aa (Jp (Pr:=P) (wo:=w) (kg hr) (pv 1) (pv 4) (pv 6) ⟨rfl,rfl,rfl,rfl⟩ rfl rfl) af))) rfl rfl rfl))))) aP))) rfl)
   (ao (aN (pv 1)))))),?_⟩
  refine λd hd=>?_
  have s1:ai H (L2.upd H d (sF P w d [])):=ai.upd hd
  refine⟨_,rfl,x,_,dx,_,_,rfl,s1 _ _ hx,T.fB,T.lO,xO,lB,rfl,⟨_,bP.of (s1 _ _ hps)⟩,?_⟩
  refine jr (K:=K) (a:=lB) (xs:=ps.map V.ref) (λa σ H2=>∃v2 kvs,σ=[some (.ref x),some (.ref d),v2,none,none,none,none]/\ai H H2/\ND P w H2 d kvs/\kvs.length<=a/\uS kvs (yT (bs.take a)))
   ⟨_,[],rfl,s1,⟨ah,(λe he=>nomatch he)⟩,Nat.zero_le _,KJ⟩ (λa σ H2 _ ⟨_,_,_,s2,_⟩=>bP.of (s2 _ _ hps)) ?_ ?_
  ·rintro a y σ H2 hy ⟨v2,kvs,rfl,s2,hd2,hl2,hN⟩
   obtain⟨pl,hpl,rfl⟩:=jl hy
   obtain⟨b,hb,Hz⟩:=GP.Paired.at pp hpl
   have ha:a<bs.length:=(List.getElem?_eq_some_iff.mp hb).1
   refine⟨_,rfl,_,rfl,by show 2<=sizeLine;decide,λq1 hq1=>?_⟩
   have s3:ai H2 (L2.upd H2 q1 (.tup [.ref pl,.str (Str.ofString "p")])):=ai.upd hq1
   have BR:=ND.same hd2 s3
   have kq:gJ (L2.upd H2 q1 (.tup [.ref pl,.str (Str.ofString "p")])) q1 (ee (b.1,b.2,112)):=⟨pl,by rw[ah,sP];rfl,s3 _ _ (s2 _ _ Hz)⟩
   refine⟨d,kvs,_,q1,rfl,rfl,BR,kq,Nat.lt_of_le_of_lt (show kvs.length<=1000 by omega) (by decide),?_⟩
   exact⟨_,_,rfl,ai.at (s2.trans s3) hd,ND.put BR kq,Nat.le_trans (sY _ _ _ _) (Nat.succ_le_succ hl2),by rw[take_snoc hb];exact HR hN⟩
  ·rintro σ H2 ⟨v2,kvs,rfl,s2,hd2,hl2,hN⟩
   rw[List.length_map,hlen]at hl2
   rw[List.length_map,hlen,List.take_length]at hN
   have Xl:d≠dS:=ND.neq hS hd
   have UX:kS.length=g.states.length:=Paired.len hst
   have hsl:g.states.length<=507:=by
    unfold Gd.states
    rw[rP,places_len]
    have:(g.n+1)*(g.m+1)<=13*13:=Nat.mul_le_mul (by omega) (by omega)
    omega
   refine⟨_,rfl,x,_,dx,_,_,rfl,s2 _ _ hx,T.fB,T.fY,oF,dS,kS,rfl,ND.same hS s2,λo=>?_⟩
   refine Qw (P:=P) (w:=w) (a:=dS) (o:=o) (kvs:=kS) (λk σ H3=>∃v2 v3 v4 v5 v6 kvs f,σ=[some (.ref x),some (.ref d),v2,v3,v4,v5,v6]/\(∀b u,b≠dS->H b=some u->H3 b=some u)/\H3 dS=some (.su o (sF P w dS kS))/\ND P w H3 d kvs/\kvs.length<=bs.length+3*k/\uS kvs f/\zk g bs k f)
    ⟨_,_,_,_,_,kvs,yT bs,rfl,λb u n q=>by rw[aq n];exact s2 b u q,ah,ND.off hd2 (s2 _ _ hS.at_) Xl,hl2,hN,QJ bs⟩ (λk σ H3 _ ⟨_,_,_,_,_,_,_,_,_,q,_⟩=>q) ?_ ?_
   ·rintro k e σ H3 he ⟨v2,v3,v4,v5,v6,kvs,f,rfl,s3,hz,BR,hl3,hN,hK⟩
    obtain⟨s,hs,hse,l,hel,hsl⟩:=GP.Paired.at hst he
    have hk:=(List.getElem?_eq_some_iff.mp he).1
    have da:∀{H4:Hp},(∀b u,b≠dS->H b=some u->H4 b=some u)->ai (rH H) H4:=λe4=>rH.of λb u n _ q=>e4 b u (λz=>by rw[z,hS.at_]at q;exact n _ (Option.some.inj q).symm) q
    have hke:gJ H e.2.1 (ee s):=by rw[←hse];exact hS.keys e (List.mem_of_getElem? he)
    have hv:gx kS (ee s)=some (.ref l):=by rw[←hel];exact IM hst g.zK he hs
    refine⟨_,rfl,_,rfl,d,kvs,ee s,e.2.1,rfl,rfl,BR,gJ.same (gJ.da hke) (da s3),_,rfl,?_⟩
    rw[hN s]
    cases hf:f s with
    |none=>exact iC ⟨_,_,_,_,_,kvs,f,rfl,s3,hz,BR,by omega,hN,hK.skip hs hf⟩
    |some n =>
     obtain⟨qs,S6,pq⟩:=Lb.da hsl
     have Q5:=Paired.len pq
     have nx:x≠dS:=λz=>by rw[z,hS.at_]at hx;cases hx
     refine mZ ⟨_,rfl,x,_,dx,_,_,rfl,s3 _ _ nx hx,T.fB,T.fY,oF,_,rfl,dS,kS,ee s,e.2.1,.ref l,rfl,rfl,⟨.inr ⟨o,hz⟩,λe he=>gJ.same (gJ.da (hS.keys e he)) (da s3)⟩,gJ.same (gJ.da hke) (da s3),hv,l,rfl,⟨_,bP.of (da s3 _ _ S6)⟩,?_⟩
     refine jr (K:=K) (a:=l) (xs:=qs.map V.ref) (λj σ H4=>∃v2 v4 v5 v6 kvs f',σ=[some (.ref x),some (.ref d),v2,some (.ref e.2.1),v4,v5,v6]/\(∀b u,b≠dS->H b=some u->H4 b=some u)/\H4 dS=some (.su o (sF P w dS kS))/\ND P w H4 d kvs/\kvs.length<=bs.length+3*k+j/\uS kvs f'/\KR g bs s n j f f')
      ⟨_,_,_,_,kvs,f,rfl,s3,hz,BR,hl3,hN,⟨hK.b,.refl _,λ_ _=>rfl,λt ht=>nomatch ht⟩⟩ (λj σ H4 _ ⟨_,_,_,_,_,_,_,e4,_⟩=>bP.of (da e4 _ _ S6)) ?_ ?_
     ·rintro j y σ H4 hy ⟨v2,v4,v5,v6,kvs,f',rfl,s4,XF,Dl,K6,TF,Tw⟩
      obtain⟨pt,hpt,rfl⟩:=jl hy
      obtain⟨t,ht,q,hq1,hq2⟩:=GP.Paired.at pq hpt
      have hfs:f' s=some n:=by rw[Tw.st s Gd.FG];exact hf
      have hj:j<(g.steps s).length:=(List.getElem?_eq_some_iff.mp ht).1
      have Qg:(g.steps s).length<=3:=by unfold Gd.steps;split<;>split<;>split<;>simp
      have kq:=gJ.same hq2 (da s4)
      refine⟨_,_,rfl,c7.of (da s4 _ _ hq1),rfl,_,_,rfl,_,_,rfl,rfl,?_⟩
      refine⟨_,rfl,_,rfl,d,kvs,ee s,e.2.1,.int n,rfl,rfl,Dl,gJ.same (gJ.da hke) (da s4),by rw[TF s,hfs];rfl,_,rfl,_,_,rfl,rfl,?_⟩
      refine⟨_,rfl,_,rfl,d,kvs,rfl,Dl,_,rfl,_,rfl,kvs,ee t.1,q,rfl,Dl,kq,_,_,by rw[TF.get],_,rfl,_,rfl,d,kvs,ee t.1,q,rfl,rfl,Dl,kq,Nat.lt_of_le_of_lt (show kvs.length<=3000 by omega) (by decide),?_⟩
      have z:(if(f' t.1).getD (n+t.2)<n+t.2 then(f' t.1).getD (n+t.2)else n+t.2)=min (n+t.2) ((f' t.1).getD (n+t.2)):=by split<;>omega
      have ndd:dS≠d:=Ne.symm Xl
      refine⟨_,_,_,_,_,GP.nM f' t.1 (n+t.2),rfl,λb u nb q=>?_,by rw[aq ndd];exact XF,ND.put Dl kq,Nat.le_trans (sY _ _ _ _) (by omega),by rw[z];exact TF.nM,Tw.next hf ht⟩
      rw[aq (aM q hd)]
      exact s4 b u nb q
     ·rintro σ H4 ⟨v2,v4,v5,v6,kvs,f',rfl,s4,XF,Dl,K6,TF,Tw⟩
      rw[List.length_map,Q5]at K6 Tw
      have Qg:(g.steps s).length<=3:=by unfold Gd.steps;split<;>split<;>split<;>simp
      exact⟨_,_,_,_,_,kvs,f',rfl,s4,XF,Dl,by omega,TF,hK.next hs hf Tw⟩
   ·rintro σ H3 ⟨v2,v3,v4,v5,v6,kvs,f,rfl,s3,hz,BR,hl3,hN,hK⟩
    refine⟨dS,o,kS,hz,(λo u z=>by rw[hS.at_]at z;cases z),_,rfl,kk d kvs f _ (λb u q=>?_) hd (ND.W9 BR hz Xl) hN (hK.all (by omega))⟩
    by_cases z:b=dS
    ·rw[z,hS.at_]at q
     cases q
     rw[z,ah]
    ·rw[aq z]
     exact s3 b u z q
theorem yy {i8:Addr} {gT:FuncData} {p:Pm} (T:Txt K mg p base) (fJ:Dn K mg "numbers_at" mh Ss i8 gT)  :aI P w K mg base cj 1 i8 gT Ss (MW P w):=by
 refine fJ.fn.ok yp (λvs H Q E h=>?_) (λcdv A outer s H vs Q E hr h=>?_)
 ·obtain⟨d,pl,kvs,f,q,rfl,_⟩:=h
  rfl
 ·obtain⟨d,pl,kvs,f,q,rfl,hd,hN,hp,kk⟩:=h
  refine⟨_,(ao (aN (ku (oj) rfl T.ni lE (aa (mH (N:=["came","numbers","place"]) rfl (cN.rD (nt:=1) (ix:=[0,1]) rfl (by decide +kernel) (by decide +kernel) (by kernel_rfl) rfl (by kernel_rfl)) (AF (nN (v:=.ref p.m8) rfl T.Kg rfl)) (λ_ _ _ _ _ _ _=>(aK (i:=0) (show(["came","numbers","place"]:List Str).Nodup by decide +kernel) rfl (Or.inl rfl))) (λ_ _ _ _ _ _ _=>(Jq (Pr:=P) (wo:=w) (kg hr) (pv 1) (bH (aa (pv 2) (aa (pv 0) af))) ⟨rfl,rfl,rfl,rfl⟩ rfl rfl))) af)))),?_⟩
  refine⟨p.m8,rfl,⟨_,T.uo _⟩,λlc Gs=>?_⟩
  refine Bd 3 (λi=>AX (f (q.1,q.2,vo.getD i 0))) Gs (by decide) (λi H3 s3 hi=>?_) (λH3 s3=>?_) (λi y H3 H4 R s3 hi hy hR=>?_) λH3 s3 hl3=>?_
  ·exact⟨_,_,T.uo _,List.getElem?_eq_getElem hi⟩
  ·exact⟨_,T.uo _,Nat.le_refl _⟩
  ·obtain⟨rfl,hy⟩:=hy
   obtain⟨c,hc,rfl⟩:=KA (hy _ (T.uo _))
   refine⟨Kp.Cy,_,rfl,d,kvs,rfl,ND.same hd s3,_,rfl,_,rfl,by show 2<=sizeLine;decide,λq1 hq1=>?_⟩
   have s4:=ai.upd (o:=.tup [.ref pl,.str ⟨#[c]⟩]) hq1
   refine⟨kvs,ee (q.1,q.2,c),q1,rfl,ND.same hd (s3.trans s4),⟨pl,ah,s4 _ _ (s3 _ _ hp)⟩,?_⟩
   have ec:vo.getD i 0=c:=nR hc
   rw[hN,←ec]
   have z:=hR _ s4
   rw[ec]at z ⊢
   cases e:f (q.1,q.2,c)<;>rw[e]at z<;>exact z
  ·refine⟨lc,_,rfl,.inl ⟨bP.of hl3,λr hr=>?_⟩⟩
   exact kk r _ (s3.trans (ai.upd hr)) (ai.free s3 hr) ah
theorem CP {gG aS fq i8:Addr} {fD bO eE gT:FuncData} {p:Pm} (T:Txt K mg p base) (bT:Dn K mg "paper_of" mT l6 gG fD) (bL:Dm K "__init__" "Ground.__init__" bK Nb aS bO) (oK:Mk K p.aR aS) (ko:aI P w K mg base (vz P w) 6 aS bO Nb (wM P w K p.au p.aR p.aC p.aG)) (cS:Dn K mg "least_numbers" jv l9 fq eE) (vX:aI P w K mg base cj 1 fq eE l9 (IZ P w p.aR)) (fJ:Dn K mg "numbers_at" mh Ss i8 gT) (BI:aI P w K mg base cj 1 i8 gT Ss (MW P w)):aI P w K mg base (vz P w) 8 gG fD l6 (IX P w K p.au p.aC p.aG):=by
 refine bT.fn.PB ny (λvs H Q E h=>?_) (λcdv A outer s H vs Q E hr h=>?_)
 ·obtain⟨pr,T1,f,s,m,rfl,_⟩:=h
  rfl
 ·obtain⟨pr,T1,f,s,m,rfl,hP,hf,hs,kk,kS,kM⟩:=h
  refine⟨_,(aj (aH (i:=4) ny.nd rfl (Or.inr rfl) (aA vX (hr.mono (by decide)) rfl cS.m cS.fn.kp cS.b .nil aT (aa (AI oK ko (hr.mono (by decide)) rfl T.zT bL.b .nil (Lets.passes oZ) (aa (pv 0) (aa (pv 1) (aa (pv 2) (aa (pv 3) af))))) af)))
   (aj (aH (i:=5) ny.nd rfl (Or.inl rfl) (jk af))
   (aj (cG oX rfl (dw rfl T.iB (aa (aD bZ (az (aU) rfl T.ck bC (aa (pv 1) af)) ak) af)) (aK (i:=6) ny.nd rfl (Or.inr rfl)) (ao (cZ (lQ PySem.F.plainAttrs_list PySem.F.slot_list_append PySem.F.type_list_append cY (pv 5) (aa (mH (N:=["j","numbers","i"]) rfl (cN.rD (nt:=1) (ix:=[4,6]) rfl (by decide +kernel) (by decide +kernel) (by kernel_rfl) rfl (by kernel_rfl)) (dw rfl T.iB (aa (aD bZ (az (aU) rfl T.ck bC (aa (pv 2) af)) ak) af)) (λ_ _ _ _ _ _ _=>(aK (i:=0) (show(["j","numbers","i"]:List Str).Nodup by decide +kernel) rfl (Or.inl rfl))) (λ_ _ _ _ _ _ _=>(aA BI (hr.mono (by decide)) rfl fJ.m fJ.fn.kp fJ.b .nil aT (aa (pv 1) (aa (bH (aa (pv 2) (aa (pv 0) af))) af))))) af)))))
   (ao (aN (pv 5)))))),?_⟩
  refine⟨_,rfl,_,rfl,_,rfl,_,rfl,λx dx hx hdx Zo=>?_⟩
  have s1:ai H (L2.upd (L2.upd H dx (.own x)) x (.ins p.aR dx [])):=ai.at (ai.upd hdx) hx
  refine⟨x,dx,pr,T1,f,s,m,rfl,ah,hP.same s1,hf,hs,λof os hm=>?_,λi j bad dx H1 s2 hd=>kS i j bad dx H1 (s1.trans s2) hd,λof os hm=>⟨(kM of os hm).1,λH1 s2=>(kM of os hm).2 H1 (s1.trans s2)⟩⟩
  obtain⟨uK,uJ,kk⟩:=kk of os hm
  refine⟨uK,uJ,λH1 e1 hG=>⟨rfl,?_⟩⟩
  have QT:ai H H1:=λb u q=>e1 b u (aM q hx) (s1 b u q)
  have ok:=E7 T1 m f s
  refine⟨x,_,_,rfl,hG,uK,uJ,?_,λd kvs F H2 s2 hd hnd hN hPa=>?_⟩
  ·unfold Bp
   have z:=List.length_filter_le (λq:Nat×Nat=>vK m (q.1,q.2)) (placesOf f.cps.size s.cps.size)
   rw[places_len]at z
   have:(f.cps.size+1)*(s.cps.size+1)<=13*13:=Nat.mul_le_mul (by omega) (by omega)
   omega
  have G0:=QT.trans s2
  refine⟨by show 0<=sizeLine;decide,λr hr0=>?_⟩
  have lf:f.length<=sizeLine:=Nat.le_trans uK (by decide)
  have ls:s.length<=sizeLine:=Nat.le_trans uJ (by decide)
  have hf':f.length<=12:=uK
  have hs':s.length<=12:=uJ
  refine⟨_,rfl,_,_,rfl,⟨lf,rfl⟩,_,_,rfl,rfl,_,rfl,by omega,by omega,?_⟩
  rw[show((f.length:Int)+1).toNat=f.cps.size+1 from by show((f.cps.size:Int)+1).toNat=_;omega]
  refine gO (lo:=0) (n:=f.cps.size+1) (λi σ H3=>∃v6,∃ls:List Addr,σ=[some (.ref pr),some (.str f),some (.str s),some (.str m),some (.ref d),some (.ref r),v6]/\ai H2 H3/\H3 r=some (.lst (ls.map V.ref))/\ls.length=i/\GL (Wo r H3) F s.cps.size ls/\∀l∈ls,H l=none)
   ⟨_,[],rfl,ai.upd hr0,ah,rfl,(λi l hl=>by simp at hl),λl hl=>nomatch hl⟩ ?_ ?_
  ·rintro i σ H3 hi ⟨v6,qs,rfl,s3,Qk,Q5,K8,hfr⟩
   refine⟨_,rfl,.inl ⟨rfl,_,bP.of Qk⟩,_,rfl,_,_,rfl,⟨ls,rfl⟩,_,_,rfl,rfl,_,rfl,by omega,by omega,λlc Gs=>?_⟩
   rw[show((s.length:Int)+1).toNat=s.cps.size+1 from by show((s.cps.size:Int)+1).toNat=_;omega]
   refine ME (s.cps.size+1) (λj=>.tup (pQ F (i,j))) Gs (Nat.lt_of_le_of_lt (show s.cps.size+1<=100 by omega) (by decide)) (λj H4 s4 hj=>?_) (λH4 s4=>?_) (λj y H4 H5 R s4 hj hy hR=>?_) λH4 rs s4 hrl K6 hrs=>?_
   ·exact hj
   ·exact Nat.le_refl _
   ·obtain⟨rfl,rfl⟩:=hy
    refine⟨Kp.Cy,_,rfl,_,rfl,_,rfl,by show 2<=sizeLine;decide,λp1 hp1=>?_⟩
    have s5:=ai.upd (o:=.tup [.int (0+(i:Int)),.int (0+(j:Int))]) hp1
    refine⟨d,p1,kvs,F,(i,j),rfl,ND.same hnd ((s3.trans s4).trans s5),hN,?_,λq H6 s6 hq UR=>hR q H6 (s5.trans s6) (ai.free s5 hq) UR⟩
    show _=some (HO.tup [.int (i:Int),.int (j:Int)])
    rw[ah,Int.zero_add,Int.zero_add]
   ·have UQ:=s4 _ _ Qk
    have Zs:lc≠r:=λz=>by rw[z,Qk]at Gs;cases Gs
    refine⟨r,_,_,rfl,rfl,UQ,by rw[List.length_map];exact Nat.lt_of_le_of_lt (show qs.length<=100 by omega) (by decide),_,qs++[lc],rfl,ai.at (s3.trans s4) hr0,by rw[ah,List.map_append];rfl,by rw[List.length_append,Q5];rfl,λa l hl=>?_,λl hl=>?_⟩
    rotate_left
    ·rcases List.mem_append.mp hl with hl|hl
     ·exact hfr l hl
     ·rw[List.mem_singleton.mp hl];exact ai.free (G0.trans s3) Gs
    have sw:ai (Wo r H3) (Wo r (L2.upd H4 r (.lst (qs.map V.ref++[.ref lc])))):=λb u h=>Wo.in (Wo.ne h) (by rw[aq (Wo.ne h)];exact s4 _ _ (Wo.sub b u h))
    by_cases ha:a<qs.length
    ·rw[List.getElem?_append_left ha]at hl
     exact(K8 a l hl).same sw
    ·rw[List.getElem?_append_right (by omega)]at hl
     have:a-qs.length<1:=(List.getElem?_eq_some_iff.mp hl).1
     have ea:a=i:=by omega
     subst ea
     rw[Q5,Nat.sub_self]at hl
     cases hl
     refine⟨rs,Wo.in Zs (by rw[aq Zs];exact K6),hrl,λb q hq=>?_⟩
     have XU:=hrs b q hq
     have nq:q≠r:=λz=>by rw[z,UQ]at XU;cases XU
     exact Wo.in nq (by rw[aq nq];exact XU)
  ·rintro σ H3 ⟨v6,qs,rfl,s3,Qk,Q5,K8,hfr⟩
   exact⟨_,rfl,kk r qs F H3 (G0.trans s3) (ai.free G0 hr0) hfr Qk Q5 (λi l hl=>(K8 i l hl).same Wo.sub) hPa⟩
end
section
variable{P:Program}{w:World}{K:PySem.W.Frag}{mg:Str->Option Value}{base:Heap}
theorem CQ {bw:Addr} {aX:FuncData} {p:Pm} (T:Txt K mg p base) (aB:Dn K mg "_law_next" fR l4 bw aX)  :aI P w K mg base cj 1 bw aX l4 (pR K):=by
 refine aB.fn.ok pW (λvs H Q E h=>?_) (λcdv A outer s H vs Q E hr h=>?_)
 ·obtain⟨s,t,ns,k,rfl,_⟩:=h
  rfl
 ·obtain⟨s,t,ns,k,rfl,hC,hk2,kk⟩:=h
  have ht:=hC.at_
  have hk:=hC.k0
  refine⟨_,(aj (uq (aD bZ (aW bz (pv 1) ak (λ_ _=>rfl)) ak) (AG (pv 1) ak set_list))
   (bB (aH (i:=2) pW.nd rfl (Or.inl rfl) (qa (aL q9 (az (aU) rfl T.ck bC (aa (pv 0) af)) ak (aO _)) (aW bz (pv 0) (aD cy (aW bz (pv 1) ak (λ_ _=>rfl)) (az (aU) rfl T.ck bC (aa (pv 0) af))) (λ_ _=>rfl)) ak))
   (aj (aH (i:=3) pW.nd rfl (Or.inl rfl) (aD cy (aD mV (aD bZ (aD bZ (aD cy (pv 2) ak) (aD mV (aD mV (aW bz (pv 1) ak (λ_ _=>rfl)) (aW bz (pv 1) ak (λ_ _=>rfl))) ak)) ak) ak) ak))
   (ao (aN (aD cy (aD mV (pv 3) (pv 3)) ak)))))),?_⟩
  refine⟨_,rfl,t,_,_,_,rfl,rfl,bP.of ht,rfl,_,_,rfl,rfl,_,rfl,t,_,_,0,rfl,rfl,ht,rfl,?_⟩
  have hq:bP K (upd H t (.lst [.int (k+1)])) s (ns.map V.int):=hC.RL _
  have TL:bP K (upd H t (.lst [.int (k+1)])) t [.int (k+1)]:=bP.of ah
  have rest:∀c:Int,∀m1:Int,m1=(c % 2147483647+(k+1)*(k+1)*7919+11)*48271 % 2147483647->Q (.int (m1*m1 % 1999999973)) (upd H t (.lst [.int (k+1)])):=λc m1 _ =>
   kk _ (Int.emod_nonneg _ (by decide)) (Int.emod_lt_of_pos _ (by decide))
  refine⟨λσ H2=>H2=upd H t (.lst [.int (k+1)])/\∃c:Int,σ=[some (.ref s),some (.ref t),some (.int c),none],?_,?_⟩
  ·refine⟨_,rfl,_,_,rfl,.inl ⟨_,hq,rfl⟩,_,_,rfl,rfl,_,rfl,?_⟩
   refine cE (λh0=>?_) (λh0=>?_)
   ·have hn:0<ns.length:=by rw[List.length_map]at h0;omega
    have i1:=Int.emod_nonneg (k+1) (show((ns.length:Nat):Int)≠0 by omega)
    have i2:=Int.emod_lt_of_pos (k+1) (show(0:Int)<((ns.length:Nat):Int) by omega)
    obtain⟨j,hj⟩:∃j:Nat,(k+1) % ((ns.length:Nat):Int)=(j:Int):=⟨_,(Int.toNat_of_nonneg i1).symm⟩
    have hjl:j<ns.length:=by omega
    refine⟨_,rfl,_,rfl,t,_,_,_,rfl,rfl,TL,rfl,_,rfl,_,_,rfl,.inl ⟨_,hq,rfl⟩,_,_,rfl,rfl,(by show(0:Int)<(((ns.map V.int).length:Nat):Int);rw[List.length_map];omega),?_⟩
    refine⟨s,_,_,.int ns[j],rfl,rfl,hq,?_,rfl,_,rfl⟩
    rw[List.length_map,hj]
    exact eW (by rw[List.getElem?_map,List.getElem?_eq_getElem hjl];rfl)
   ·exact⟨rfl,_,rfl⟩
  ·rintro σ H2 ⟨rfl,c,rfl⟩
   refine⟨_,rfl,_,_,rfl,rfl,(by show(0:Int)<_;decide),?_⟩
   refine⟨_,rfl,t,_,_,_,rfl,rfl,TL,rfl,_,rfl,t,_,_,_,rfl,rfl,TL,rfl,_,_,rfl,rfl,.inl ⟨by omega,by omega⟩,_,_,rfl,rfl,.inr ⟨by decide,by decide⟩,_,_,rfl,rfl,_,_,rfl,rfl,_,_,rfl,rfl,.inr ⟨by decide,by decide⟩,_,_,rfl,rfl,(by show(0:Int)<_;decide),?_⟩
   have m0:=Int.emod_nonneg ((c % 2147483647+(k+1)*(k+1)*7919+11)*48271) (show(2147483647:Int)≠0 by decide)
   have m1:=Int.emod_lt_of_pos ((c % 2147483647+(k+1)*(k+1)*7919+11)*48271) (show(0:Int)<2147483647 by decide)
   exact⟨_,rfl,_,rfl,_,_,rfl,rfl,.inl ⟨by omega,by omega⟩,_,_,rfl,rfl,(by show(0:Int)<_;decide),rest c _ rfl⟩
theorem AU {jN bw:Addr} {iY aX:FuncData} {p:Pm} (T:Txt K mg p base) (gC:Dn K mg "_law_great" nJ l4 jN iY) (aB:Dn K mg "_law_next" fR l4 bw aX) (cA:aI P w K mg base cj 1 bw aX l4 (pR K)):aI P w K mg base cj 2 jN iY l4 (FT K):=by
 refine gC.fn.ok oO (λvs H Q E h=>?_) (λcdv A outer s H vs Q E hr h=>?_)
 ·obtain⟨s,t,ns,k,rfl,_⟩:=h
  rfl
 ·obtain⟨s,t,ns,k,rfl,hC,hk2,kk⟩:=h
  have hk:=hC.k0
  refine⟨_,(aj (aH (i:=2) oO.nd rfl (Or.inl rfl) (aA cA (hr.mono (by decide)) rfl aB.m aB.fn.kp aB.b .nil aT (aa (pv 0) (aa (pv 1) af))))
   (bB (aH (i:=3) oO.nd rfl (Or.inl rfl) (qa (aL q9 (az (aU) rfl T.ck bC (aa (pv 0) af)) ak (aO _)) (aW bz (pv 0) (aD cy (aW bz (pv 1) ak (λ_ _=>rfl)) (az (aU) rfl T.ck bC (aa (pv 0) af))) (λ_ _=>rfl)) ak))
   (ao (aN (aD w9 (aD cy (aD bZ (aD cy (pv 3) (aD AK ak ak)) (aD mV (pv 2) (aD AK ak ak))) (aD mV ak (aD AK ak ak))) (aD AK ak ak)))))),?_⟩
  refine⟨_,rfl,_,rfl,s,t,ns,k,rfl,hC,hk2,λm hm hm2=>?_⟩
  have hq:bP K (upd H t (.lst [.int (k+1)])) s (ns.map V.int):=hC.RL _
  have TL:bP K (upd H t (.lst [.int (k+1)])) t [.int (k+1)]:=bP.of ah
  refine⟨λσ H2=>H2=upd H t (.lst [.int (k+1)])/\∃c:Int,σ=[some (.ref s),some (.ref t),some (.int m),some (.int c)],?_,?_⟩
  ·refine⟨_,rfl,_,_,rfl,.inl ⟨_,hq,rfl⟩,_,_,rfl,rfl,_,rfl,?_⟩
   refine cE (λh0=>?_) (λh0=>?_)
   ·have hn:0<ns.length:=by rw[List.length_map]at h0;omega
    have i1:=Int.emod_nonneg (k+1) (show((ns.length:Nat):Int)≠0 by omega)
    have i2:=Int.emod_lt_of_pos (k+1) (show(0:Int)<((ns.length:Nat):Int) by omega)
    obtain⟨j,hj⟩:∃j:Nat,(k+1) % ((ns.length:Nat):Int)=(j:Int):=⟨_,(Int.toNat_of_nonneg i1).symm⟩
    have hjl:j<ns.length:=by omega
    refine⟨_,rfl,_,rfl,t,_,_,_,rfl,rfl,TL,rfl,_,rfl,_,_,rfl,.inl ⟨_,hq,rfl⟩,_,_,rfl,rfl,(by show(0:Int)<(((ns.map V.int).length:Nat):Int);rw[List.length_map];omega),?_⟩
    refine⟨s,_,_,.int ns[j],rfl,rfl,hq,?_,rfl,_,rfl⟩
    rw[List.length_map,hj]
    exact eW (by rw[List.getElem?_map,List.getElem?_eq_getElem hjl];rfl)
   ·exact⟨rfl,_,rfl⟩
  ·rintro σ H2 ⟨rfl,c,rfl⟩
   have p39:(0:Int)<(10:Int) ^ (39:Int).toNat:=by decide +kernel
   refine⟨_,rfl,_,_,rfl,rfl,⟨by decide,by decide,by decide⟩,_,_,rfl,rfl,p39,_,rfl,_,_,rfl,rfl,⟨by decide,by decide,by decide⟩,_,_,rfl,rfl,.inl ⟨by omega,by omega⟩,_,_,rfl,rfl,?_⟩
   have p2:(0:Int)<2*(10:Int) ^ (39:Int).toNat:=by omega
   refine⟨_,_,rfl,rfl,⟨by decide,by decide,by decide⟩,_,_,rfl,rfl,.inl ⟨by decide,by decide⟩,_,_,rfl,rfl,p2,_,_,rfl,rfl,⟨by decide,by decide,by decide⟩,_,_,rfl,rfl,?_⟩
   have m0:=Int.emod_nonneg (c % (10:Int) ^ (39:Int).toNat+m*(10:Int) ^ (28:Int).toNat) (Int.ne_of_gt p2)
   have m1:=Int.emod_lt_of_pos (c % (10:Int) ^ (39:Int).toNat+m*(10:Int) ^ (28:Int).toNat) p2
   have e39:(10:Int) ^ (39:Int).toNat=10 ^ 39:=rfl
   refine kk _ ?_ ?_
   ·rw[←e39];omega
   ·rw[←e39];omega
theorem AR {jL bw:Addr} {iW aX:FuncData} {p:Pm} (T:Txt K mg p base) (gB:Dn K mg "_law_signs" nG K4 jL iW) (aB:Dn K mg "_law_next" fR l4 bw aX) (cA:aI P w K mg base cj 1 bw aX l4 (pR K)):aI P w K mg base cj 2 jL iW K4 (Cj K):=by
 refine gB.fn.ok jY (λvs H Q E h=>?_) (λcdv A outer s H vs Q E hr h=>?_)
 ·obtain⟨s,t,ns,k,n,rfl,_⟩:=h
  rfl
 ·obtain⟨s,t,ns,k,n,rfl,hC,hk,hn1,hn,kk⟩:=h
  refine⟨_,(aj (aH (i:=3) jY.nd rfl (Or.inr rfl) bG)
   (aj (aH (i:=3) jY.nd rfl (Or.inr rfl) (aD oY (pv 3) bG))
   (aj (aH (i:=4) jY.nd rfl (Or.inr rfl) (aA cA (hr.mono (by decide)) rfl aB.m aB.fn.kp aB.b .nil aT (aa (pv 0) (aa (pv 1) af))))
   (aj (aH (i:=5) jY.nd rfl (Or.inr rfl) (aW bz (jk (aa ak (aa ak (aa ak (aa ak (aa ak (aa ak af))))))) (aD cy (pv 4) ak) (λ_ _=>rfl)))
   (ao (aN (lQ PySem.F.plainAttrs_str PySem.F.slot_str_join PySem.F.type_str_join Gh bG (aa (mH (N:=ZA) rfl (cN.rD (nt:=1) (ix:=[3,4,5]) rfl (by decide +kernel) (by decide +kernel) (by kernel_rfl) rfl (by kernel_rfl)) (dw rfl T.iB (aa (pv 2) af)) (λ_ _ _ _ _ _ _=>(aK (i:=0) (show(ZA:List Str).Nodup by decide +kernel) rfl (Or.inl rfl))) (λ_ _ _ _ _ _ _=>(aW uH (pv 1) (aD cy (aD bZ (aD dB (pv 2) ak) (aD mV (pv 0) (pv 3))) (az (Bl) rfl T.ck bC (aa (pv 1) af))) (λ_ _=>rfl)))) af)))))))),?_⟩
  refine⟨_,rfl,_,_,rfl,rfl,(by decide +kernel),?_⟩
  obtain⟨S,hS⟩:∃S:Str,S=Str.ofString " !#$&'()*+,./0123456789:;<=>?@ABCDEFGHIJKLMNOPQRSTUVWXYZ" ++Str.ofString "[\\]^_`abcdefghijklmnopqrstuvwxyz{|}~" :=⟨_,rfl⟩
  have ZZ:S.cps.size=92:=by rw[hS];kernel_rfl
  have Yp:S.cps.all o5=true:=by rw[hS];kernel_rfl
  have hS3:S.cps.toList.Nodup:=xM (by rw[hS];kernel_rfl)
  rw[←hS]
  refine⟨_,rfl,_,rfl,s,t,ns,k,rfl,hC,hk,λm hm hm2=>?_⟩
  refine⟨by show 6<=sizeLine;decide,λq hq=>?_⟩
  have s1:ai (upd H t (.lst [.int (k+1)])) (upd (upd H t (.lst [.int (k+1)])) q (.lst [.int 1,.int 3,.int 5,.int 7,.int 9,.int 11])):=ai.upd hq
  have hq1:upd (upd H t (.lst [.int (k+1)])) q (.lst [.int 1,.int 3,.int 5,.int 7,.int 9,.int 11]) q=some (.lst [.int 1,.int 3,.int 5,.int 7,.int 9,.int 11]):=ah
  generalize upd (upd H t (.lst [.int (k+1)])) q (.lst [.int 1,.int 3,.int 5,.int 7,.int 9,.int 11])=H1 at s1 hq1 ⊢
  obtain⟨tv,htv,⟨ht1,D6⟩,hat⟩:∃tv:Int,(tv=1\/tv=3\/tv=5\/tv=7\/tv=9\/tv=11)/\(0<=tv/\tv<=11)/\yU [V.int 1,.int 3,.int 5,.int 7,.int 9,.int 11] (m % 6)=some (.int tv):=by
   have h1:=Int.emod_nonneg m (show(6:Int)≠0 by decide)
   have h2:=Int.emod_lt_of_pos m (show(0:Int)<6 by decide)
   have e:m % 6=0\/m % 6=1\/m % 6=2\/m % 6=3\/m % 6=4\/m % 6=5:=by omega
   rcases e with e|e|e|e|e|e<;>rw[e]
   ·exact⟨1,by decide,by decide,rfl⟩
   ·exact⟨3,by decide,by decide,rfl⟩
   ·exact⟨5,by decide,by decide,rfl⟩
   ·exact⟨7,by decide,by decide,rfl⟩
   ·exact⟨9,by decide,by decide,rfl⟩
   ·exact⟨11,by decide,by decide,rfl⟩
  refine⟨_,rfl,_,_,rfl,rfl,(by show(0:Int)<6;decide),?_⟩
  refine⟨q,_,_,.int tv,rfl,rfl,bP.of hq1,hat,?_⟩
  refine⟨rfl,_,rfl,n,rfl,by omega,by omega,λl hl=>?_⟩
  refine Bd n (λi=>sg (S.cps.toList.getD ((m / 6+(i:Int)*tv) % 92).toNat 0)) hl (Nat.lt_of_le_of_lt hn (by decide)) (λi H2 s2 hi=>?_) (λH2 s2=>?_) (λi x H2 H3 R s2 hi y hR=>?_) λH2 s2 hl2=>?_
  ·show i<((n:Nat):Int).toNat
   omega
  ·show((n:Nat):Int).toNat<=n
   omega
  ·obtain⟨rfl,rfl⟩:=y
   refine⟨Kp.Cy,?_⟩
   have i1:=Int.emod_nonneg (m / 6+(i:Int)*tv) (show(92:Int)≠0 by decide)
   have i2:=Int.emod_lt_of_pos (m / 6+(i:Int)*tv) (show(0:Int)<92 by decide)
   obtain⟨j,hj⟩:∃j:Nat,(m / 6+(i:Int)*tv) % 92=(j:Int):=⟨_,(Int.toNat_of_nonneg i1).symm⟩
   have hjl:j<S.cps.toList.length:=by rw[Array.length_toList];omega
   refine⟨_,rfl,_,rfl,_,_,rfl,rfl,⟨by decide,by decide⟩,_,rfl,_,rfl,_,_,rfl,rfl,.inl ⟨by omega,by omega⟩,_,_,rfl,rfl,_,rfl,S,rfl,(by show S.cps.size<=_;rw[ZZ];decide),_,_,rfl,rfl,(by show(0:Int)<(S.cps.size:Int);omega),?_⟩
   have eS:((S.length:Nat):Int)=92:=by show((S.cps.size:Nat):Int)=92;omega
   refine⟨S,_,S.cps.toList[j],rfl,rfl,(by show S.cps.size<=_;rw[ZZ];decide),(by rw[Int.zero_add,eS,hj];exact eW (List.getElem?_eq_getElem hjl)),?_⟩
   have e:S.cps.toList[j]=S.cps.toList.getD ((m / 6+(i:Int)*tv) % 92).toNat 0:=by
    rw[hj,Int.toNat_natCast,nR (List.getElem?_eq_getElem hjl)]
   rw[e]
   exact hR _ (ai.refl _)
  ·refine⟨l,(List.range n).map (λi:Nat=>S.cps.toList.getD ((m / 6+(i:Int)*tv) % 92).toNat 0),rfl,rfl,?_,?_,kk _ H2 ⟨?_,?_,λc hc=>?_,EM hS3 n (λi _=>?_) λi j hij hj=>Lp htv hij (by omega)⟩ ?_ (s1.trans s2)⟩
   ·rw[List.map_map]
    exact bP.of hl2
   ·rw[List.length_map,List.length_range];omega
   ·show 0<((List.range n).map _).length
    rw[List.length_map,List.length_range];omega
   ·show((List.range n).map _).length<=100
    rw[List.length_map,List.length_range];omega
   ·obtain⟨i,hi,rfl⟩:=List.mem_map.mp (show c∈(List.range n).map _ from hc)
    have i1:=Int.emod_nonneg (m / 6+(i:Int)*tv) (show(92:Int)≠0 by decide)
    have i2:=Int.emod_lt_of_pos (m / 6+(i:Int)*tv) (show(0:Int)<92 by decide)
    obtain⟨j,hj⟩:∃j:Nat,(m / 6+(i:Int)*tv) % 92=(j:Int):=⟨_,(Int.toNat_of_nonneg i1).symm⟩
    have hjl:j<S.cps.toList.length:=by rw[Array.length_toList];omega
    rw[hj,Int.toNat_natCast,nR (List.getElem?_eq_getElem hjl)]
    exact Array.all_eq_true_iff_forall_mem.mp Yp _ (Array.mem_toList_iff.mp (List.getElem_mem hjl))
   ·have i1:=Int.emod_nonneg (m / 6+(i:Int)*tv) (show(92:Int)≠0 by decide)
    have i2:=Int.emod_lt_of_pos (m / 6+(i:Int)*tv) (show(0:Int)<92 by decide)
    rw[Array.length_toList]
    omega
   ·show((List.range n).map _).length=n
    rw[List.length_map,List.length_range]
theorem AS {jM bw jN:Addr} {iX aX iY:FuncData} {p:Pm} (T:Txt K mg p base) (bX:Dn K mg "_law_price" nH Sq jM iX) (aB:Dn K mg "_law_next" fR l4 bw aX) (cA:aI P w K mg base cj 1 bw aX l4 (pR K)) (gC:Dn K mg "_law_great" nJ l4 jN iY) (DW:aI P w K mg base cj 2 jN iY l4 (FT K)):aI P w K mg base cj 3 jM iX Sq (Ck K):=by
 refine bX.fn.ok sL (λvs H Q E h=>?_) (λcdv A outer s H vs Q E hr h=>?_)
 ·obtain⟨s,t,ns,k,c,rfl,_⟩:=h
  rfl
 ·obtain⟨s,t,ns,k,c,rfl,hC,hk2,kk⟩:=h
  have hk:=hC.k0
  refine⟨_,(aj (aH (i:=3) sL.nd rfl (Or.inl rfl) (aA cA (hr.mono (by decide)) rfl aB.m aB.fn.kp aB.b .nil aT (aa (pv 0) (aa (pv 1) af))))
   (aj (bE (aL cQ (pv 2) ak (aO _)) (ao (aN (bH (aa (aD w9 (aD cy (pv 3) ak) ak) (aa ak af))))) aP)
   (aj (bE (aL cQ (pv 2) ak (aO _)) (ao (aN (bH (aa (aD w9 (aD cy (pv 3) ak) ak) (aa (aD bZ ak (aD cy (aD dB (pv 3) ak) ak)) af))))) aP)
   (aj (bE (aL cQ (pv 2) ak (aO _)) (ao (aN (bH (aa (aD w9 (aD cy (pv 3) ak) ak) (aa ak af))))) aP)
   (ao (aN (bH (aa (aA DW (hr.mono (by decide)) rfl gC.m gC.fn.kp gC.b .nil aT (aa (pv 0) (aa (pv 1) af))) (aa (aD bZ ak (aD cy (aD dB (pv 3) ak) ak)) af))))))))),?_⟩
  refine⟨_,rfl,_,rfl,s,t,ns,k,rfl,hC,by omega,λm hm hm2=>?_⟩
  have ht:upd H t (.lst [.int (k+1)]) t=some (.lst [.int (k+1)]):=ah
  have last:∀(f:cF) (r:Addr),QL f->upd H t (.lst [.int (k+1)]) r=none->Q (.ref r) (upd (upd H t (.lst [.int (k+1)])) r (.tup [.int f.1,.int f.2])):=λf r hf hr=>by
   have nr:r≠t:=λz=>by rw[z,ht]at hr;cases hr
   exact kk f r _ (k+1) hf (Wo.step (ai.upd hr)) (by rw[aq (Ne.symm nr)];exact ht) (by omega) (by omega) (wG hr) ah
  refine⟨_,rfl,rfl,_,rfl,oh (λh0=>?_) λh0=>?_⟩
  ·exact⟨_,rfl,_,_,rfl,rfl,(by show(0:Int)<_;decide),_,_,rfl,rfl,by show 2<=sizeLine;decide,λr hr=>last (m % 7-1,1) r ⟨by show(1:Int)<=1;omega,by show(1:Int)<=999;omega,by show _<=m % 7-1;omega,by show m % 7-1<=_;omega⟩ hr⟩
  refine⟨_,rfl,rfl,_,rfl,oh (λh1=>?_) λh1=>?_⟩
  ·exact⟨_,rfl,_,_,rfl,rfl,(by show(0:Int)<_;decide),_,_,rfl,rfl,_,rfl,_,_,rfl,rfl,⟨by decide,by decide⟩,_,_,rfl,rfl,(by show(0:Int)<_;decide),_,_,rfl,rfl,by show 2<=sizeLine;decide,λr hr=>last (m % 13-4,1+m / 13 % 4) r ⟨by show 1<=1+m / 13 % 4;omega,by show 1+m / 13 % 4<=999;omega,by show _<=m % 13-4;omega,by show m % 13-4<=_;omega⟩ hr⟩
  refine⟨_,rfl,rfl,_,rfl,oh (λh2=>?_) λh2=>?_⟩
  ·exact⟨_,rfl,_,_,rfl,rfl,(by show(0:Int)<_;decide),_,_,rfl,rfl,by show 2<=sizeLine;decide,λr hr=>last (m % 9-6,1) r ⟨by show(1:Int)<=1;omega,by show(1:Int)<=999;omega,by show _<=m % 9-6;omega,by show m % 9-6<=_;omega⟩ hr⟩
  refine⟨_,rfl,_,rfl,s,t,ns,k+1,rfl,hC.step (by omega),by omega,λg g1 g2=>?_⟩
  refine⟨_,rfl,_,_,rfl,rfl,⟨by decide,by decide⟩,_,_,rfl,rfl,(by show(0:Int)<_;decide),_,_,rfl,rfl,by show 2<=sizeLine;decide,λr hr=>?_⟩
  have D6:upd (upd H t (.lst [.int (k+1)])) t (.lst [.int (k+1+1)]) t=some (.lst [.int (k+1+1)]):=ah
  have nr:r≠t:=λz=>by rw[z,D6]at hr;cases hr
  refine kk (g,1+m / 13 % 999) r _ (k+1+1) ⟨by show 1<=1+m / 13 % 999;omega,by show 1+m / 13 % 999<=999;omega,g1,g2⟩ ?_ (by rw[aq (Ne.symm nr)];exact D6) (by omega) (by omega) (wG (wG hr)) ah
  have e:=Wo.step (H:=upd H t (.lst [.int (k+1)])) (ai.upd (o:=.tup [.int g,.int (1+m / 13 % 999)]) hr)
  rw[Wo.set]at e
  exact e
end
section
variable{P:Program}{w:World}{K:PySem.W.Frag}{mg:Str->Option Value}{base:Heap}
theorem AQ {jK bw jL jM:Addr} {iV aX iW iX:FuncData} {p:Pm} (T:Txt K mg p base) (gA:Dn K mg "_law_table" nF K4 jK iV) (aB:Dn K mg "_law_next" fR l4 bw aX) (cA:aI P w K mg base cj 1 bw aX l4 (pR K)) (gB:Dn K mg "_law_signs" nG K4 jL iW) (DV:aI P w K mg base cj 2 jL iW K4 (Cj K)) (bX:Dn K mg "_law_price" nH Sq jM iX) (qC:aI P w K mg base cj 3 jM iX Sq (Ck K)):aI P w K mg base cj 4 jK iV K4 (FJ K):=by
 refine gA.fn.ok dN (λvs H Q E h=>?_) (λcdv A outer s H vs Q E hr h=>?_)
 ·obtain⟨s,t,ns,k,n,rfl,_⟩:=h
  rfl
 ·obtain⟨s,t,ns,k,n,rfl,hC,hk,hn1,hn6,kk⟩:=h
  have hk0:=hC.k0
  refine⟨_,(aj (aH (i:=3) dN.nd rfl (Or.inl rfl) (aA cA (hr.mono (by decide)) rfl aB.m aB.fn.kp aB.b .nil aT (aa (pv 0) (aa (pv 1) af))))
   (bB (aH (i:=4) dN.nd rfl (Or.inr rfl) (aW bz (jk (aa ak (aa ak (aa ak (aa ak (aa ak (aa ak (aa ak (aa ak af))))))))) (aD cy (pv 3) ak) (λ_ _=>rfl)))
   (bB (aH (i:=5) dN.nd rfl (Or.inl rfl) (aA DV (hr.mono (by decide)) rfl gB.m gB.fn.kp gB.b .nil aT (aa (pv 0) (aa (pv 1) (aa (pv 2) af)))))
   (bB (wZ (i:=6) (N:=Zz) dN.nd rfl (Or.inl rfl) rfl (cN.rD (nt:=1) (ix:=[0,1,2,4]) rfl (by decide +kernel) (by decide +kernel) (by kernel_rfl) rfl (by kernel_rfl)) (dw rfl T.iB (aa (pv 2) af)) (λ_ _ _ _ _ _ _=>(aK (i:=0) (show(Zz:List Str).Nodup by decide +kernel) rfl (Or.inl rfl))) (λ_ _ _ _ _ _ _=>(mH (N:=Zy) rfl (cN.rD (nt:=1) (ix:=[1,2,4]) rfl (by decide +kernel) (by decide +kernel) (by kernel_rfl) rfl (by kernel_rfl)) (dw rfl T.iB (aa (pv 3) af)) (λ_ _ _ _ _ _ _=>(aK (i:=0) (show(Zy:List Str).Nodup by decide +kernel) rfl (Or.inl rfl))) (λ_ _ _ _ _ _ _=>(aA qC (hr.mono (by decide)) rfl bX.m bX.fn.kp bX.b .nil aT (aa (pv 1) (aa (pv 2) (aa (pv 3) af))))))))
   (bB (cG PassesOwn.never rfl (dw rfl T.iB (aa (pv 2) af)) (aK (i:=7) dN.nd rfl (Or.inl rfl)) (bB (bE (aL q9 (aD cy (aD dB (pv 3) ak) ak) ak (aO _)) (ao (uq (bH (aa (aD w9 (aW bR (aW bz (aW bz (pv 6) (pv 7) (λ_ _=>rfl)) (pv 7) (λ_ _=>rfl)) ak (λ_ _=>rfl)) ak) (aa (aW bR (aW bz (aW bz (pv 6) (pv 7) (λ_ _=>rfl)) (pv 7) (λ_ _=>rfl)) ak (λ_ _=>rfl)) af))) (AG (aW bz (pv 6) (pv 7) (λ_ _=>rfl)) (pv 7) set_list))) aP)
   (ao (cG PassesOwn.never rfl (dw rfl T.iB (aa (pv 7) af)) (aK (i:=8) dN.nd rfl (Or.inl rfl)) (ao (bE (aL cQ (aD cy (aD dB (pv 3) ak) ak) ak (aO _)) (ao (uq (aW bz (aW bz (pv 6) (pv 8) (λ_ _=>rfl)) (pv 7) (λ_ _=>rfl)) (AG (aW bz (pv 6) (pv 7) (λ_ _=>rfl)) (pv 8) set_list))) aP))))))
   (bB (aH (i:=9) dN.nd rfl (Or.inl rfl) (qa (aL q9 (aD cy (aD dB (pv 3) ak) ak) ak (aO _)) (bH (aa (aD cy (aD dB (pv 3) ak) ak) (aa ak af))) (aA qC (hr.mono (by decide)) rfl bX.m bX.fn.kp bX.b .nil aT (aa (pv 0) (aa (pv 1) (aa (pv 4) af))))))
   (bB (aH (i:=10) dN.nd rfl (Or.inl rfl) (qa (aL q9 (aD cy (aD dB (pv 3) ak) ak) ak (aO _)) (bH (aa (aD cy (aD dB (pv 3) ak) ak) (aa ak af))) (aA qC (hr.mono (by decide)) rfl bX.m bX.fn.kp bX.b .nil aT (aa (pv 0) (aa (pv 1) (aa (pv 4) af))))))
   (ao (aN (bH (aa (pv 5) (aa (pv 6) (aa (pv 9) (aa (pv 10) af)))))))))))))),?_⟩
  refine⟨_,rfl,_,rfl,s,t,ns,k,rfl,hC,by omega,λm hm hm2=>?_⟩
  have w1:ai (Wo t H) (Wo t (upd H t (.lst [.int (k+1)]))):=by rw[Wo.set];exact ai.refl _
  have ht1:upd H t (.lst [.int (k+1)]) t=some (.lst [.int (k+1)]):=ah
  have C1:=hC.step (k':=k+1) (by omega)
  generalize upd H t (.lst [.int (k+1)])=H1 at w1 ht1 C1 ⊢
  refine⟨λσ H2=>∃c:Int,σ=[some (.ref s),some (.ref t),some (.int n),some (.int m),some (.int c),none,none,none,none,none,none]/\ai H1 H2,?_,?_⟩
  ·refine⟨by show 8<=sizeLine;decide,λq hq=>⟨_,rfl,_,_,rfl,rfl,(by show(0:Int)<8;decide),?_⟩⟩
   obtain⟨c,hc⟩:∃c:Int,yU [V.int 0,.int 1,.int 2,.int 0,.int 3,.int 2,.int 0,.int 1] (m % 8)=some (.int c):=by
    have e:m % 8=0\/m % 8=1\/m % 8=2\/m % 8=3\/m % 8=4\/m % 8=5\/m % 8=6\/m % 8=7:=by omega
    rcases e with e|e|e|e|e|e|e|e<;>rw[e]<;>exact⟨_,rfl⟩
   exact⟨q,_,_,.int c,rfl,rfl,bP.of ah,hc,c,rfl,ai.upd hq⟩
  rintro σ H2 ⟨c,rfl,s2⟩
  refine⟨λσ H3=>∃sg,Aj sg/\sg.cps.size=n/\σ=[some (.ref s),some (.ref t),some (.int n),some (.int m),some (.int c),some (.str sg),none,none,none,none,none]/\ai (Wo t H) (Wo t H3)/\H3 t=some (.lst [.int (k+1+1)]),?_,?_⟩
  ·refine⟨_,rfl,_,rfl,_,rfl,s,t,ns,k+1,n,rfl,C1.same s2,by omega,hn1,hn6,λsg H3 hsg hz s3=>⟨sg,hsg,hz,rfl,w1.trans ((Wo.same s2).trans (Wo.step s3)),s3 _ _ ah⟩⟩
  rintro σ H3 ⟨sg,hsg,hz,rfl,w3,Mt⟩
  refine⟨λσ H4=>∃l k1,σ=[some (.ref s),some (.ref t),some (.int n),some (.int m),some (.int c),some (.str sg),some (.ref l),none,none,none,none]/\yc K H t l n 0 k1 H4/\H l=none/\k<=k1/\k1<=k+100,?_,?_⟩
  ·refine⟨_,rfl,n,rfl,by omega,by omega,λl hl=>?_⟩
   have QW:l≠t:=λz=>by rw[z,Mt]at hl;cases hl
   have ZR:H l=none:=Wo.back w3 Mt hl
   refine⟨λi m' ys H4=>m'=n-i/\i<=n/\∃rs rows k1,ys=rs.map V.ref/\rs.length=i/\tU K (Wo t H4) l rs rows/\(∀r∈rows,r.length=n)/\(∀r∈rows,∀f∈r,QL f)/\(∀r∈rs,H r=none)/\ai (Wo t H3) (Wo t H4)/\H4 t=some (.lst [.int k1])/\k+2<=k1/\k1<=k+2+12*(i:Int),
    ⟨n,rfl,Nat.zero_le _,[],[],_,rfl,rfl,?_,(λr hr=>by cases hr),(λr hr=>by cases hr),(λr hr=>by cases hr),?_,(by rw[aq QW.symm];exact Mt),by omega,by omega⟩,?_⟩
   ·rw[Wo.aq QW]
    exact⟨rfl,ah,List.nodup_nil,(by simp),λi r row h1=>by simp at h1⟩
   ·rw[Wo.aq QW];exact ai.upd (Wo.free hl)
   rintro i m' ys H4 ⟨rfl,hi,rs,rows,k1,rfl,hrs,LM,r1,r2,r3,s4,Ms,Q3,UO⟩
   have w4:=w3.trans s4
   by_cases hlt:i<n
   ·refine .inr ⟨(by show i<((n:Nat):Int).toNat;omega),?_⟩
    rintro x H5 ⟨rfl,rfl⟩
    refine⟨Kp.Cy,?_⟩
    refine⟨_,rfl,n,rfl,by omega,by omega,λl2 hl2=>?_⟩
    have EN:l2≠t:=λz=>by rw[z,Ms]at hl2;cases hl2
    have Yb:H l2=none:=Wo.back w4 Ms hl2
    refine⟨λj m' ys H6=>m'=n-j/\j<=n/\H6 l2=some (.lst ys)/\∃ps row k2,ys=ps.map V.ref/\ps.length=j/\Paired (kr K (Wo t H6)) ps row/\(∀f∈row,QL f)/\ai (Wo t H5) (Wo t H6)/\H6 t=some (.lst [.int k2])/\k1<=k2/\k2<=k1+2*(j:Int),
     ⟨n,rfl,Nat.zero_le _,ah,[],[],k1,rfl,rfl,.nil,(λf hf=>by cases hf),?_,(by rw[aq EN.symm];exact Ms),by omega,by omega⟩,?_⟩
    ·rw[Wo.aq EN];exact ai.upd (Wo.free hl2)
    rintro j m' ys H6 ⟨rfl,hj,ZS,ps,row,k2,rfl,hps,hP,ok,s6,Mr,UN,Xw⟩
    by_cases UZ:j<n
    ·refine .inr ⟨(by show j<((n:Nat):Int).toNat;omega),?_⟩
     rintro x H7 ⟨rfl,rfl⟩
     refine⟨Kp.Cy,?_⟩
     refine⟨_,rfl,_,rfl,_,rfl,s,t,ns,k2,c,rfl,hC.off (w4.trans s6) Mr (by omega),by omega,λf q H8 k3 K2 w8 ZJ Q2 Q0 hqn ZM=>?_⟩
     have nq:q≠t:=qb ZM ZJ (by intro z;cases z)
     have X8:Wo t H8 l2=some (.lst (ps.map V.ref)):=w8 _ _ (Wo.in EN ZS)
     refine⟨Wo.sub _ _ X8,?_,n-(j+1),by omega,rfl,UZ,ah,ps++[q],row++[f],k3,by rw[List.map_append];rfl,by rw[List.length_append,hps];rfl,?_,?_,?_,by rw[aq EN.symm];exact ZJ,by omega,by omega⟩
     ·rw[List.length_map,hps]
      exact Nat.lt_of_lt_of_le (show j<100 by omega) (by decide)
     ·rw[Wo.aq EN]
      refine GP.Paired.snoc (Paired.iS hP λa b z=>c7.off X8 (z.same w8)) ?_
      exact c7.off X8 (c7.of (Wo.in nq ZM))
     ·intro g hg
      rcases List.mem_append.mp hg with hg|hg
      ·exact ok g hg
      ·rw[List.mem_singleton.mp hg];exact K2
     ·rw[Wo.aq EN]
      exact ai.at (s6.trans w8) (Wo.free hl2)
    ·have ej:j=n:=by omega
     refine .inl ⟨(by show((n:Nat):Int).toNat<=j;omega),?_⟩
     have hlo:Wo t H6 l=some (.lst (rs.map V.ref)):=s6 _ _ LM.at_
     refine⟨Wo.sub _ _ hlo,?_,n-(i+1),by omega,rfl,hlt,rs++[l2],rows++[row],k2,by rw[List.map_append];rfl,by rw[List.length_append,hrs];rfl,?_,?_,?_,?_,?_,by rw[aq QW.symm];exact Mr,by omega,by omega⟩
     ·rw[List.length_map,hrs]
      exact Nat.lt_of_lt_of_le (show i<100 by omega) (by decide)
     ·rw[Wo.aq QW]
      exact LM.snoc s6 (Wo.free hl2) (Wo.in EN ZS) hP
     ·intro r hr
      rcases List.mem_append.mp hr with hr|hr
      ·exact r1 r hr
      ·rw[List.mem_singleton.mp hr,←Paired.len hP,hps,ej]
     ·intro r hr
      rcases List.mem_append.mp hr with hr|hr
      ·exact r2 r hr
      ·rw[List.mem_singleton.mp hr];exact ok
     ·intro r hr
      rcases List.mem_append.mp hr with hr|hr
      ·exact r3 r hr
      ·rw[List.mem_singleton.mp hr];exact Yb
     ·rw[Wo.aq QW]
      exact ai.at (s4.trans s6) (Wo.free hl)
   ·have ei:i=n:=by omega
    subst ei
    refine .inl ⟨(by show((i:Nat):Int).toNat<=i;omega),?_⟩
    refine⟨l,k1,rfl,⟨rs,rows,LM,⟨by rw[←LM.len,hrs],r1⟩,λa b f hf=>?_,r3,w4,Ms⟩,ZR,by omega,by omega⟩
    obtain⟨r,hr,hfr⟩:=hf.mem
    exact⟨(r2 r hr f hfr).l,λ_ _=>r2 r hr f hfr⟩
  rintro σ H4 ⟨l,k1,rfl,P4,ZR,Q3,UO⟩
  refine⟨λσ H5=>∃v7 v8,σ=[some (.ref s),some (.ref t),some (.int n),some (.int m),some (.int c),some (.str sg),some (.ref l),v7,v8,none,none]/\yc K H t l n n k1 H5,?_,?_⟩
  ·refine⟨_,rfl,n,rfl,by omega,by omega,?_⟩
   rw[show((n:Nat):Int).toNat=n by omega]
   refine gO (lo:=0) (n:=n) (λa σ H5=>∃v7 v8,σ=[some (.ref s),some (.ref t),some (.int n),some (.int m),some (.int c),some (.str sg),some (.ref l),v7,v8,none,none]/\yc K H t l n a k1 H5) ⟨_,_,rfl,P4⟩ ?_ (λσ H5 h=>h)
   rintro a σ H5 ha ⟨v7,v8,rfl,P5⟩
   refine⟨λσ H6=>σ=[some (.ref s),some (.ref t),some (.int n),some (.int m),some (.int c),some (.str sg),some (.ref l),some (.int (0+(a:Int))),v8,none,none]/\yc K H t l n (a+1) k1 H6,?_,?_⟩
   ·refine⟨_,rfl,_,_,rfl,rfl,⟨by decide,by decide⟩,_,_,rfl,rfl,(by show(0:Int)<3;decide),_,_,rfl,rfl,_,rfl,?_⟩
    obtain⟨rs,rows,LM,sq,dg,nw,s5,Io⟩:=P5
    refine cE (λ_=>?_) λ_=>⟨rfl,rs,rows,LM,sq,λi j f hf=>⟨(dg i j f hf).1,λe h=>(dg i j f hf).2 e (by omega)⟩,nw,s5,Io⟩
    have ha':a<rows.length:=by rw[sq.1];exact ha
    have ha2:a<rs.length:=by rw[LM.len];exact ha'
    obtain⟨ps,Qj,hPa⟩:=LM.row a _ _ (List.getElem?_eq_getElem ha2) (List.getElem?_eq_getElem ha')
    have la:=sq.2 rows[a] (List.getElem_mem ha')
    have hap:a<ps.length:=by rw[Paired.len hPa,la];exact ha
    obtain⟨f,ef,hf⟩:=Paired.at hPa (List.getElem?_eq_getElem hap)
    have K2:=(dg a a f ⟨_,List.getElem?_eq_getElem ha',ef⟩).2 rfl (Nat.le_refl _)
    have Q7:=Wo.sub _ _ LM.at_
    have Qi:=Wo.sub _ _ Qj
    have hf':c7 K H5 ps[a] [.int f.1,.int f.2]:=kr.same Wo.sub hf
    have ea:yU (rs.map V.ref) (0+(a:Int))=some (.ref rs[a]):=by rw[Int.zero_add];exact eW (by rw[List.getElem?_map,List.getElem?_eq_getElem ha2];rfl)
    have eb:yU (ps.map V.ref) (0+(a:Int))=some (.ref ps[a]):=by rw[Int.zero_add];exact eW (by rw[List.getElem?_map,List.getElem?_eq_getElem hap];rfl)
    refine⟨_,rfl,_,rfl,l,_,_,_,rfl,rfl,bP.of Q7,ea,_,rfl,rs[a],_,_,_,rfl,rfl,bP.of Qi,eb,ps[a],_,_,_,rfl,rfl,hf',rfl,_,_,rfl,rfl,_,rfl,_,rfl,l,_,_,_,rfl,rfl,bP.of Q7,ea,_,rfl,rs[a],_,_,_,rfl,rfl,bP.of Qi,eb,ps[a],_,_,_,rfl,rfl,hf',rfl,by show 2<=sizeLine;decide,λq hq=>?_⟩
    have nq:q≠t:=λz=>by rw[z,Io]at hq;cases hq
    have Pd:ai H5 (upd H5 q (.tup [.int (f.1-4),.int f.2])):=ai.upd hq
    have LM1:=LM.same (Wo.same (t:=t) Pd)
    have XS:=Wo.same (t:=t) Pd _ _ Qj
    have PD:rs[a]≠t:=Wo.ne Qj
    refine⟨_,rfl,_,rfl,l,_,_,.ref rs[a],rfl,rfl,bP.of (Pd _ _ Q7),ea,_,rfl,rs[a],_,_,a,rfl,rfl,Pd _ _ Qi,by rw[Int.zero_add];exact E2 (by rw[List.length_map];exact hap),rfl,rs,rows.set a (rows[a].set a (f.1-4,f.2)),?_,⟨by rw[List.length_set];exact sq.1,λr hr=>?_⟩,λi j g hg=>?_,nw,?_,?_⟩
    ·rw[Wo.aq PD]
     exact LM1.put (List.getElem?_eq_getElem ha2) (List.getElem?_eq_getElem ha') XS (Paired.iS hPa λ_ _ z=>z.same (Wo.same Pd)) (c7.of (Wo.in nq ah))
    ·rcases List.mem_or_eq_of_mem_set hr with hr|hr
     ·exact sq.2 r hr
     ·rw[hr,List.length_set];exact la
    ·rcases GG (List.getElem?_eq_getElem ha') hg with⟨rfl,rfl,rfl⟩|hg
     ·exact⟨⟨K2.1,K2.2.1,RI (by have:=K2.2.2.1;show _<=f.1-4;omega) (by have:=K2.2.2.2;show f.1-4<=_;omega)⟩,λ_ z=>by omega⟩
     ·exact⟨(dg i j g hg).1,λe h=>(dg i j g hg).2 e (by omega)⟩
    ·rw[Wo.aq PD]
     exact ai.at (s5.trans (Wo.same Pd)) (Wo.free (nw _ (List.getElem_mem ha2)))
    ·rw[aq PD.symm];exact Pd _ _ Io
   rintro σ H6 ⟨rfl,P6⟩
   refine⟨_,rfl,_,rfl,by omega,by omega,?_⟩
   rw[show(0+(a:Int)).toNat=a by omega]
   refine gO (lo:=0) (n:=a) (λb σ H7=>∃v8,σ=[some (.ref s),some (.ref t),some (.int n),some (.int m),some (.int c),some (.str sg),some (.ref l),some (.int (0+(a:Int))),v8,none,none]/\yc K H t l n (a+1) k1 H7) ⟨_,rfl,P6⟩ ?_ (λσ H7 ⟨v8,h1,h2⟩=>⟨_,v8,h1,h2⟩)
   rintro b σ H7 hb ⟨v8,rfl,P7⟩
   obtain⟨rs,rows,LM,sq,dg,nw,s7,Qf⟩:=P7
   refine⟨_,rfl,_,_,rfl,rfl,⟨by decide,by decide⟩,_,_,rfl,rfl,(by show(0:Int)<2;decide),rfl,_,rfl,?_⟩
   refine oh (λ_=>?_) λ_=>⟨_,rfl,rs,rows,LM,sq,dg,nw,s7,Qf⟩
   have ha':a<rows.length:=by rw[sq.1];exact ha
   have hb':b<rows.length:=by rw[sq.1];omega
   have ha2:a<rs.length:=by rw[LM.len];exact ha'
   have hb2:b<rs.length:=by rw[LM.len];exact hb'
   obtain⟨psa,Qj,hPa⟩:=LM.row a _ _ (List.getElem?_eq_getElem ha2) (List.getElem?_eq_getElem ha')
   obtain⟨Zf,hrb,Z1⟩:=LM.row b _ _ (List.getElem?_eq_getElem hb2) (List.getElem?_eq_getElem hb')
   have la:=sq.2 rows[a] (List.getElem_mem ha')
   have lb:=sq.2 rows[b] (List.getElem_mem hb')
   have hab:a<Zf.length:=by rw[Paired.len Z1,lb];exact ha
   have hba:b<psa.length:=by rw[Paired.len hPa,la];omega
   obtain⟨f,ef,hf⟩:=Paired.at Z1 (List.getElem?_eq_getElem hab)
   have Q7:=Wo.sub _ _ LM.at_
   have PD:rs[a]≠t:=Wo.ne Qj
   refine⟨_,rfl,_,rfl,l,_,_,.ref rs[b],rfl,rfl,bP.of Q7,(by rw[Int.zero_add];exact eW (by rw[List.getElem?_map,List.getElem?_eq_getElem hb2];rfl)),?_⟩
   refine⟨_,rfl,rs[b],_,_,.ref Zf[a],rfl,rfl,bP.of (Wo.sub _ _ hrb),(by rw[Int.zero_add];exact eW (by rw[List.getElem?_map,List.getElem?_eq_getElem hab];rfl)),?_⟩
   refine⟨_,rfl,_,rfl,l,_,_,.ref rs[a],rfl,rfl,bP.of Q7,(by rw[Int.zero_add];exact eW (by rw[List.getElem?_map,List.getElem?_eq_getElem ha2];rfl)),?_⟩
   refine⟨_,rfl,rs[a],_,_,b,rfl,rfl,Wo.sub _ _ Qj,by rw[Int.zero_add];exact E2 (by rw[List.length_map];exact hba),_,rfl,rs,rows.set a (rows[a].set b f),?_,⟨by rw[List.length_set];exact sq.1,λr hr=>?_⟩,λi j g hg=>?_,nw,?_,?_⟩
   ·rw[Wo.aq PD]
    exact LM.put (List.getElem?_eq_getElem ha2) (List.getElem?_eq_getElem ha') Qj hPa hf
   ·rcases List.mem_or_eq_of_mem_set hr with hr|hr
    ·exact sq.2 r hr
    ·rw[hr,List.length_set];exact la
   ·rcases GG (List.getElem?_eq_getElem ha') hg with⟨rfl,rfl,rfl⟩|hg
    ·exact⟨(dg _ _ _ ⟨_,List.getElem?_eq_getElem hb',ef⟩).1,λz=>by omega⟩
    ·exact dg i j g hg
   ·rw[Wo.aq PD]
    exact ai.at s7 (Wo.free (nw _ (List.getElem_mem ha2)))
   ·rw[aq PD.symm];exact Qf
  rintro σ H5 ⟨v7,v8,rfl,rs,rows,LM,sq,dg,nw,w5,Io⟩
  have C5:wz K H5 s t ns k1:=hC.off w5 Io (by omega)
  refine⟨λσ H6=>∃o fo k2,σ=[some (.ref s),some (.ref t),some (.int n),some (.int m),some (.int c),some (.str sg),some (.ref l),v7,v8,some (.ref o),none]/\Ld fo/\TupAt (Wo t H6) o fo/\ai (Wo t H5) (Wo t H6)/\H6 t=some (.lst [.int k2])/\k1<=k2/\k2<=k1+2,?_,?_⟩
  ·refine⟨_,rfl,_,_,rfl,rfl,⟨by decide,by decide⟩,_,_,rfl,rfl,(by show(0:Int)<3;decide),_,_,rfl,rfl,_,rfl,?_⟩
   refine cE (λ_=>?_) λ_=>?_
   ·refine⟨_,rfl,_,_,rfl,rfl,⟨by decide,by decide⟩,_,_,rfl,rfl,(by show(0:Int)<4;decide),by show 2<=sizeLine;decide,λq hq=>?_⟩
    have nq:q≠t:=λz=>by rw[z,Io]at hq;cases hq
    exact⟨q,(m / 48 % 4,1),k1,rfl,⟨by show(1:Int)<=1;omega,by show(1:Int)<=999;omega,xV (by show _<=m / 48 % 4;omega) (by show m / 48 % 4<=_;omega)⟩,Wo.in nq ah,Wo.same (ai.upd hq),ai.upd hq _ _ Io,by omega,by omega⟩
   ·exact⟨_,rfl,_,rfl,_,rfl,s,t,ns,k1,c,rfl,C5,by omega,λf q H6 k3 K2 w6 Mr Q2 Q0 hqn UR=>⟨q,f,k3,rfl,K2.l,Wo.in (qb UR Mr (by intro z;cases z)) UR,w6,Mr,Q2,Q0⟩⟩
  rintro σ H6 ⟨o,fo,k2,rfl,Ik,ho,w6,Mr,UN,Xw⟩
  have C6:wz K H6 s t ns k2:=C5.off w6 Mr (by omega)
  refine⟨λσ H7=>∃mo fm k3,σ=[some (.ref s),some (.ref t),some (.int n),some (.int m),some (.int c),some (.str sg),some (.ref l),v7,v8,some (.ref o),some (.ref mo)]/\Ld fm/\TupAt (Wo t H7) mo fm/\ai (Wo t H6) (Wo t H7)/\H7 t=some (.lst [.int k3])/\k2<=k3/\k3<=k2+2,?_,?_⟩
  ·refine⟨_,rfl,_,_,rfl,rfl,⟨by decide,by decide⟩,_,_,rfl,rfl,(by show(0:Int)<3;decide),_,_,rfl,rfl,_,rfl,?_⟩
   refine cE (λ_=>?_) λ_=>?_
   ·refine⟨_,rfl,_,_,rfl,rfl,⟨by decide,by decide⟩,_,_,rfl,rfl,(by show(0:Int)<4;decide),by show 2<=sizeLine;decide,λq hq=>?_⟩
    have nq:q≠t:=λz=>by rw[z,Mr]at hq;cases hq
    exact⟨q,(m / 768 % 4,1),k2,rfl,⟨by show(1:Int)<=1;omega,by show(1:Int)<=999;omega,xV (by show _<=m / 768 % 4;omega) (by show m / 768 % 4<=_;omega)⟩,Wo.in nq ah,Wo.same (ai.upd hq),ai.upd hq _ _ Mr,by omega,by omega⟩
   ·exact⟨_,rfl,_,rfl,_,rfl,s,t,ns,k2,c,rfl,C6,by omega,λf q H7 k3 K2 w7 Qf Q2 Q0 hqn ZN=>⟨q,f,k3,rfl,K2.l,Wo.in (qb ZN Qf (by intro z;cases z)) ZN,w7,Qf,Q2,Q0⟩⟩
  rintro σ H7 ⟨mo,fm,k3,rfl,Il,hm7,w7,Qf,Q2,Q0⟩
  refine⟨_,rfl,_,rfl,_,rfl,_,rfl,by show 4<=sizeLine;decide,λr hr=>?_⟩
  have s8:ai H7 (upd H7 r (.tup [.str sg,.ref l,.ref o,.ref mo])):=ai.upd hr
  have w8:=Wo.same (t:=t) s8
  exact kk r l o mo rs rows fo fm sg _ k3 hsg hz ah (LM.same ((w6.trans w7).trans w8)) sq (Kv dg) ((ho.same w7).same w8) Ik (hm7.same w8) Il (((w5.trans w6).trans w7).trans w8) (s8 _ _ Qf) (by omega) (by omega)
end
section
variable{P:Program}{w:World}{K:PySem.W.Frag}{mg:Str->Option Value}{base:Heap}
theorem yz {i9 bw jK bx:Addr} {gU aX iV eO:FuncData} {p:Pm} (T:Txt K mg p base) (fK:Dn K mg "_law_prices" mj l4 i9 gU) (aB:Dn K mg "_law_next" fR l4 bw aX) (cA:aI P w K mg base cj 1 bw aX l4 (pR K)) (gA:Dn K mg "_law_table" nF K4 jK iV) (DU:aI P w K mg base cj 4 jK iV K4 (FJ K)) (dG:Dm K "__init__" "Prices.__init__" bU QZ bx eO) (yd:Mk K p.au bx) (tX:aI P w K mg base cj 5 bx eO QZ (Ja K p.au)):aI P w K mg base cj 7 i9 gU l4 (zL K p.au):=by
 refine fK.fn.ok jn (λvs H Q E h=>?_) (λcdv A outer s H vs Q E hr h=>?_)
 ·obtain⟨s,t,ns,k,rfl,_⟩:=h
  rfl
 ·obtain⟨s,t,ns,k,rfl,hC,hk,kk⟩:=h
  have hk0:=hC.k0
  refine⟨_,(aj (uq (aA DU (hr.mono (by decide)) rfl gA.m gA.fn.kp gA.b .nil aT (aa (pv 0) (aa (pv 1) (aa (aD bZ ak (aD cy (aA cA (hr.mono (by decide)) rfl aB.m aB.fn.kp aB.b .nil aT (aa (pv 0) (aa (pv 1) af))) ak)) af)))) (oW (n:=4) rfl (bS (aK (i:=2) jn.nd rfl (Or.inl rfl)) (bS (aK (i:=3) jn.nd rfl (Or.inl rfl)) (bS (aK (i:=4) jn.nd rfl (Or.inl rfl)) (bS (aK (i:=5) jn.nd rfl (Or.inl rfl)) lz))))))
   (ao (aN (AI yd tX (hr.mono (by decide)) rfl T.Ho dG.b .nil aT (aa (pv 2) (aa (pv 3) (aa (pv 4) (aa (pv 5) af)))))))),?_⟩
  refine⟨_,rfl,_,rfl,_,rfl,_,rfl,s,t,ns,k,rfl,hC,by omega,λm hm hm2=>?_⟩
  refine⟨_,_,rfl,rfl,(by show(0:Int)<4;decide),_,_,rfl,rfl,?_⟩
  obtain⟨n,hn⟩:∃n:Nat,1+m % 4=(n:Int):=⟨(1+m % 4).toNat,by omega⟩
  refine⟨s,t,ns,k+1,n,(by show [V.ref s,V.ref t,V.int (1+m % 4)]=_;rw[hn]),hC.step (by omega),by omega,by omega,by omega,λr l o mo rs rows fo fm sg H5 k5 hsg hz hr LM sq RZ ho Ik hmo Il w5 Io k51 k52=>?_⟩
  rw[Wo.set]at w5
  refine⟨r,_,rfl,c7.of hr,rfl,_,_,rfl,_,_,rfl,_,_,rfl,_,_,rfl,rfl,?_⟩
  refine⟨_,rfl,_,rfl,_,rfl,_,rfl,λx dx hx hdx Zo=>?_⟩
  have s6:ai H5 (upd (upd H5 dx (.own x)) x (.ins p.au dx [])):=ai.at (ai.upd hdx) hx
  have Nh:upd (upd H5 dx (.own x)) x (.ins p.au dx []) x=some (.ins p.au dx []):=ah
  generalize upd (upd H5 dx (.own x)) x (.ins p.au dx [])=H6 at s6 Nh ⊢
  refine⟨x,dx,o,mo,sg,.lst l,rows,fo,fm,rfl,Nh,hsg,by omega,((LM.same Wo.sub).same s6).Xn,(by rw[hz];exact sq),λr hr f hf=>(RZ r hr f hf).h,TupAt.fr ((ho.same Wo.sub).same s6),Ik.h,TupAt.fr ((hmo.same Wo.sub).same s6),Il.h,λH7 P7 f7 nf7=>⟨rfl,?_⟩⟩
  have s7:ai H5 H7:=λb u e=>f7 b u (s6 b u e) λz=>by rw[z,hx]at e;cases e
  exact kk x H7 k5 (sg,yK rows,gH fo,gH fm) (P7.wo (s7 _ _ Io) (nf7 t (by rw[s6 _ _ Io];exact λz=>nomatch z))) (by show sg.cps.size<=4;omega) (Wo.back w5 Io hx) (w5.trans (Wo.same s7)) (s7 _ _ Io) (by omega) (by omega)
theorem EE {mP bw:Addr} {kH aX:FuncData} {p:Pm} (T:Txt K mg p base) (gv:Dn K mg "_law_row" qI So mP kH) (aB:Dn K mg "_law_next" fR l4 bw aX) (cA:aI P w K mg base cj 1 bw aX l4 (pR K)):aI P w K mg base cj 2 mP kH So (IS K):=by
 refine gv.fn.ok jz (λvs H Q E h=>?_) (λcdv A outer s H vs Q E hr h=>?_)
 ·obtain⟨s,t,ns,k,n,sg,rfl,_⟩:=h
  rfl
 ·obtain⟨s,t,ns,k,n,sg,rfl,hC,hk,hn,hs0,hs1,kk⟩:=h
  have hk0:=hC.k0
  have Zw:sg.length<=sizeLine:=Nat.le_trans hs1 (by decide)
  refine⟨_,(aj (aH (i:=4) jz.nd rfl (Or.inl rfl) (aA cA (hr.mono (by decide)) rfl aB.m aB.fn.kp aB.b .nil aT (aa (pv 0) (aa (pv 1) af))))
   (aj (aH (i:=5) jz.nd rfl (Or.inl rfl) (aD cy (aD dB (pv 4) ak) ak))
   (aj (aH (i:=6) jz.nd rfl (Or.inl rfl) bG)
   (aj (cG PassesOwn.never rfl (dw rfl T.iB (aa (aD cy (pv 4) (aD bZ (pv 3) ak)) af)) (aK (i:=7) jz.nd rfl (Or.inl rfl)) (bB (bE (aL q9 (pv 5) ak (aO _)) (ao (aH (i:=4) jz.nd rfl (Or.inl rfl) (aA cA (hr.mono (by decide)) rfl aB.m aB.fn.kp aB.b .nil aT (aa (pv 0) (aa (pv 1) af))))) aP)
   (ao (aH (i:=6) jz.nd rfl (Or.inl rfl) (aD oY (pv 6) (aW uH (pv 2) (aD cy (aD dB (pv 4) ak) (az (aU) rfl T.ck bC (aa (pv 2) af))) (λ_ _=>rfl)))))))
   (ao (aN (pv 6))))))),?_⟩
  refine⟨_,rfl,_,rfl,s,t,ns,k,rfl,hC,by omega,λm hm hm2=>?_⟩
  refine⟨_,rfl,_,_,rfl,rfl,⟨by decide,by decide⟩,_,_,rfl,rfl,(by show(0:Int)<4;decide),?_⟩
  have hm0:=Int.emod_nonneg m (show((n:Int)+1)≠0 by omega)
  have hm1:=Int.emod_lt_of_pos m (show(0:Int)<(n:Int)+1 by omega)
  refine⟨_,rfl,_,rfl,_,_,rfl,rfl,_,_,rfl,rfl,(by show(0:Int)<(n:Int)+1;omega),_,rfl,by omega,by omega,?_⟩
  have w1:ai (Wo t H) (Wo t (upd H t (.lst [.int (k+1)]))):=by rw[Wo.set];exact ai.refl _
  refine gO (lo:=0) (n:=(m % ((n:Int)+1)).toNat) (λi σ H2=>∃(m1 k1:Int) (f:Str) (v7:Option V),σ=[some (.ref s),some (.ref t),some (.str sg),some (.int n),some (.int m1),some (.int (m / 97 % 4)),some (.str f),v7]/\0<=m1/\Of sg f/\f.cps.size=i/\ai (Wo t H) (Wo t H2)/\H2 t=some (.lst [.int k1])/\k<=k1/\k1<=k+1+(i:Int))
   ⟨m,k+1,_,_,rfl,hm,(λc hc=>by cases hc),rfl,w1,ah,by omega,by omega⟩ ?_ ?_
  ·rintro i σ H2 hi ⟨m1,k1,f,v7,rfl,Th,of,hf,w2,D6,Q3,UO⟩
   refine⟨λσ H3=>∃(m2 k2:Int),σ=[some (.ref s),some (.ref t),some (.str sg),some (.int n),some (.int m2),some (.int (m / 97 % 4)),some (.str f),some (.int (0+(i:Int)))]/\0<=m2/\ai (Wo t H) (Wo t H3)/\H3 t=some (.lst [.int k2])/\k<=k2/\k2<=k1+1,?_,?_⟩
   ·refine⟨_,rfl,_,_,rfl,rfl,_,rfl,?_⟩
    refine cE (λ_=>?_) λ_=>⟨m1,k1,rfl,Th,w2,D6,Q3,by omega⟩
    refine⟨_,rfl,_,rfl,s,t,ns,k1,rfl,hC.off w2 D6 (by omega),by omega,λm3 h3 _=>⟨m3,k1+1,rfl,h3,by rw[Wo.set];exact w2,ah,by omega,by omega⟩⟩
   rintro σ H3 ⟨m2,k2,rfl,X4,w3,Mt,UN,Xw⟩
   have i1:=Int.emod_nonneg (m2 / 5) (show((sg.cps.size:Nat):Int)≠0 by omega)
   have i2:=Int.emod_lt_of_pos (m2 / 5) (show(0:Int)<((sg.cps.size:Nat):Int) by omega)
   obtain⟨j,hj⟩:∃j:Nat,(m2 / 5) % ((sg.cps.size:Nat):Int)=(j:Int):=⟨_,(Int.toNat_of_nonneg i1).symm⟩
   have hjl:j<sg.cps.toList.length:=by rw[Array.length_toList];omega
   refine⟨_,rfl,_,rfl,_,rfl,_,_,rfl,rfl,⟨by decide,by decide⟩,_,rfl,_,_,rfl,⟨Zw,rfl⟩,_,_,rfl,rfl,(by show(0:Int)<(sg.cps.size:Int);omega),sg,_,sg.cps.toList[j],rfl,rfl,Zw,?_,_,_,rfl,rfl,?_,?_⟩
   ·show yU sg.cps.toList ((m2 / 5) % ((sg.cps.size:Nat):Int))=_
    rw[hj]
    exact eW (List.getElem?_eq_getElem hjl)
   ·show f.cps.size+1<=sizeLine
    exact Nat.le_trans (show _<=100 by omega) (by decide)
   ·refine⟨m2,k2,_,_,rfl,X4,λc hc=>?_,?_,w3,Mt,UN,by omega⟩
    ·have e:(f.cps++ #[sg.cps.toList[j]]).toList=f.cps.toList++[sg.cps.toList[j]]:=by simp
     have hc':c∈f.cps.toList++[sg.cps.toList[j]]:=by rw[←e];exact hc
     rcases List.mem_append.mp hc' with hc|hc
     ·exact of c hc
     ·rw[List.mem_singleton.mp hc];exact List.getElem_mem hjl
    ·show(f.cps++ #[sg.cps.toList[j]]).size=i+1
     rw[Array.size_append,hf]
     rfl
  ·rintro σ H2 ⟨m1,k1,f,v7,rfl,Th,of,hf,w2,D6,Q3,UO⟩
   exact⟨_,rfl,kk f H2 k1 of (by omega) w2 D6 Q3 (by omega)⟩
theorem yC {ja:Addr} {gW:FuncData} {p:Pm} (T:Txt K mg p base) (fL:Dn K mg "_law_manner" mq ["_law_m"] ja gW)  :aI P w K mg base cj 1 ja gW ["_law_m"] Cn:=by
 refine fL.fn.ok yq (λvs H Q E h=>?_) (λcdv A outer s H vs Q E hr h=>?_)
 ·obtain⟨m,rfl,_⟩:=h
  rfl
 ·obtain⟨m,rfl,hm,kk⟩:=h
  refine⟨_,(ao (aN (aW bz (jk (aa bG (aa bG (aa bG (aa bG af))))) (aD cy (pv 0) ak) (λ_ _=>rfl)))),?_⟩
  refine⟨by show 4<=sizeLine;decide,λq hq=>⟨_,rfl,_,_,rfl,rfl,(by show(0:Int)<4;decide),?_⟩⟩
  obtain⟨x,hx,hi⟩:∃x:Str,yU [V.str (Str.ofString "whole"),.str (Str.ofString "within"),.str (Str.ofString "over"),.str (Str.ofString "stretch")] (m % 4)=some (.str x)/\kc x=true:=by
   have e:m % 4=0\/m % 4=1\/m % 4=2\/m % 4=3:=by omega
   rcases e with e|e|e|e<;>rw[e]
   ·exact⟨_,rfl,by decide +kernel⟩
   ·exact⟨_,rfl,by decide +kernel⟩
   ·exact⟨_,rfl,by decide +kernel⟩
   ·exact⟨_,rfl,by decide +kernel⟩
  exact⟨q,_,_,_,rfl,rfl,bP.of ah,hx,kk x _ hi (ai.upd hq)⟩
end
section
variable{P:Program}{w:World}{K:PySem.W.Frag}{mg:Str->Option Value}{base:Heap}
theorem xj {fT:Addr} {dR:FuncData} {p:Pm} (T:Txt K mg p base) (bJ:Dn K mg "_law_same" mU Na fT dR)  :aI P w K mg base cj 1 fT dR Na (we K 0):=by
 refine bJ.fn.ok vc (λvs H Q E h=>?_) (λcdv A outer s H vs Q E hr h=>?_)
 ·obtain⟨v,u,rfl,_⟩:=h
  rfl
 ·obtain⟨v,u,rfl,hE,k⟩:=h
  refine⟨_,(aj (bE (PW.pt (sQ (eY (az (bf) rfl T.aV aQ (aa (pv 1) (aa (c5 (v:=.ty "list") rfl T.rJ pD rfl) af)))) (oV (eY (az (bf) rfl T.aV aQ (aa (pv 1) (aa (c5 (v:=.ty "tuple") rfl T.ni lE rfl) af))))))) bN aP)
   (aj (bE (aL xg (pv 1) lN (by with_unfolding_all rfl)) bN aP)
   (aj (bE (eY (az (bf) rfl T.aV aQ (aa (pv 1) (aa (c5 (v:=.ty "str") rfl T.FD Bm rfl) af)))) (ao (aN (jA (az (bf) rfl T.aV aQ (aa (pv 0) (aa (c5 (v:=.ty "str") rfl T.FD Bm rfl) af))) (jj (bQ cQ (pv 0) (pv 1) (aO _)))))) aP)
   (ao (aN (jA (az (bf) rfl T.aV aQ (aa (pv 0) (aa (c5 (v:=.ty "int") rfl T.BU xU rfl) af))) (jA (Jm (az (bf) rfl T.aV aQ (aa (pv 0) (aa (c5 (v:=.ty "bool") rfl T.Ea Bo rfl) af)))) (jj (bQ cQ (pv 0) (pv 1) (aO _)))))))))),?_⟩
  rcases hE with⟨x,rfl,rfl⟩|⟨n,rfl,rfl⟩
  ·refine⟨_,rfl,_,_,_,_,rfl,.inl (.str x),tF,_,rfl,iC ?_⟩
   refine⟨_,rfl,_,_,_,_,rfl,.inl (.str x),rB,_,rfl,iC ?_⟩
   refine⟨_,rfl,rfl,_,rfl,iC ?_⟩
   refine⟨_,rfl,_,_,_,_,rfl,.inl (.str x),fZ,_,rfl,mZ ?_⟩
   refine⟨_,rfl,_,_,_,_,rfl,.inl (.str x),fZ,_,rfl,mZ ?_⟩
   refine⟨_,rfl,_,rfl,rfl,?_⟩
   rw[decide_eq_true rfl]
   exact k H (ai.refl H)
  ·refine⟨_,rfl,_,_,_,_,rfl,.inl (.int n),tG,_,rfl,iC ?_⟩
   refine⟨_,rfl,_,_,_,_,rfl,.inl (.int n),rC,_,rfl,iC ?_⟩
   refine⟨_,rfl,rfl,_,rfl,iC ?_⟩
   refine⟨_,rfl,_,_,_,_,rfl,.inl (.int n),vf,_,rfl,iC ?_⟩
   refine⟨_,rfl,_,_,_,_,rfl,.inl (.int n),fZ,_,rfl,mZ ?_⟩
   refine⟨_,rfl,_,_,_,_,rfl,.inl (.int n),o4,_,rfl,_,rfl,mZ ?_⟩
   refine⟨_,rfl,_,rfl,rfl,?_⟩
   rw[decide_eq_true rfl]
   exact k H (ai.refl H)
theorem rj {d:Nat} {fT:Addr} {dR:FuncData} {p:Pm} (T:Txt K mg p base) (bJ:Dn K mg "_law_same" mU Na fT dR) (pG:aI P w K mg base cj (d+1) fT dR Na (we K d)):aI P w K mg base cj (d+2) fT dR Na (we K (d+1)):=by
 refine bJ.fn.ok vc (λvs H Q E h=>?_) (λcdv A outer s H vs Q E hr h=>?_)
 ·obtain⟨v,u,rfl,_⟩:=h
  rfl
 ·obtain⟨v,u,rfl,hE,k⟩:=h
  refine⟨_,(aj (bE (PW.pt (sQ (eY (az (bf) rfl T.aV aQ (aa (pv 1) (aa (c5 (v:=.ty "list") rfl T.rJ pD rfl) af)))) (oV (eY (az (bf) rfl T.aV aQ (aa (pv 1) (aa (c5 (v:=.ty "tuple") rfl T.ni lE rfl) af))))))) (aj (bE (PW.pt (sQ (aL qY (az (bf) rfl T.aV aQ (aa (pv 0) (aa (c5 (v:=.ty "list") rfl T.rJ pD rfl) af))) (az (bf) rfl T.aV aQ (aa (pv 1) (aa (c5 (v:=.ty "list") rfl T.rJ pD rfl) af))) (aO _)) (oV (aL qY (az (bf) rfl T.aV aQ (aa (pv 0) (aa (c5 (v:=.ty "tuple") rfl T.ni lE rfl) af))) (az (bf) rfl T.aV aQ (aa (pv 1) (aa (c5 (v:=.ty "tuple") rfl T.ni lE rfl) af))) (aO _))))) (ao (aN zQ)) aP)
   (ao (aN (jA (bQ cQ (az (aU) rfl T.ck bC (aa (pv 0) af)) (az (aU) rfl T.ck bC (aa (pv 1) af)) (aO _)) (jj (az (vp rfl) rfl T.MP KI (aa (mH (N:=["_law_a","_law_b"]) rfl (λ_=>⟨[],cN.plain (by decide +kernel) rfl (by decide +kernel) (by decide +kernel)⟩) (EB rfl rfl T.Iu (aa (pv 0) (aa (pv 1) af))) (λ_ _ _ _ _ _ _=>(F8 (K':=K) (n:=2) rfl rfl (bS (aK (i:=0) (show(["_law_a","_law_b"]:List Str).Nodup by decide +kernel) rfl (Or.inl rfl)) (bS (aK (i:=1) (show(["_law_a","_law_b"]:List Str).Nodup by decide +kernel) rfl (Or.inl rfl)) lz)))) (λ_ _ _ _ _ _ _=>(aA pG (hr.mono (by omega)) rfl bJ.m bJ.fn.kp bJ.b .nil aT (aa (pv 0) (aa (pv 1) af))))) af))))))) aP)
   (aj (bE (aL xg (pv 1) lN (by with_unfolding_all rfl)) bN aP)
   (aj (bE (eY (az (bf) rfl T.aV aQ (aa (pv 1) (aa (c5 (v:=.ty "str") rfl T.FD Bm rfl) af)))) (ao (aN (jA (az (bf) rfl T.aV aQ (aa (pv 0) (aa (c5 (v:=.ty "str") rfl T.FD Bm rfl) af))) (jj (bQ cQ (pv 0) (pv 1) (aO _)))))) aP)
   (ao (aN (jA (az (bf) rfl T.aV aQ (aa (pv 0) (aa (c5 (v:=.ty "int") rfl T.BU xU rfl) af))) (jA (Jm (az (bf) rfl T.aV aQ (aa (pv 0) (aa (c5 (v:=.ty "bool") rfl T.Ea Bo rfl) af)))) (jj (bQ cQ (pv 0) (pv 1) (aO _)))))))))),?_⟩
  rcases hE with(⟨x,rfl,rfl⟩|⟨n,rfl,rfl⟩)|⟨p,q,xs,ys,rfl,rfl,hp,hq,hlen,Tj,hall⟩
  ·refine⟨_,rfl,_,_,_,_,rfl,.inl (.str x),tF,_,rfl,iC ?_⟩
   refine⟨_,rfl,_,_,_,_,rfl,.inl (.str x),rB,_,rfl,iC ?_⟩
   refine⟨_,rfl,rfl,_,rfl,iC ?_⟩
   refine⟨_,rfl,_,_,_,_,rfl,.inl (.str x),fZ,_,rfl,mZ ?_⟩
   refine⟨_,rfl,_,_,_,_,rfl,.inl (.str x),fZ,_,rfl,mZ ?_⟩
   refine⟨_,rfl,_,rfl,rfl,?_⟩
   rw[decide_eq_true rfl]
   exact k H (ai.refl H)
  ·refine⟨_,rfl,_,_,_,_,rfl,.inl (.int n),tG,_,rfl,iC ?_⟩
   refine⟨_,rfl,_,_,_,_,rfl,.inl (.int n),rC,_,rfl,iC ?_⟩
   refine⟨_,rfl,rfl,_,rfl,iC ?_⟩
   refine⟨_,rfl,_,_,_,_,rfl,.inl (.int n),vf,_,rfl,iC ?_⟩
   refine⟨_,rfl,_,_,_,_,rfl,.inl (.int n),fZ,_,rfl,mZ ?_⟩
   refine⟨_,rfl,_,_,_,_,rfl,.inl (.int n),o4,_,rfl,_,rfl,mZ ?_⟩
   refine⟨_,rfl,_,rfl,rfl,?_⟩
   rw[decide_eq_true rfl]
   exact k H (ai.refl H)
  ·have tp:∀{H':Hp} {a:Addr} {zs:List V},c7 K H' a zs->(tP K H' (.ref a) (.type "tuple")\/∃b ws,V.ref a= .ref b/\c7 K H' b ws/\Value.type "tuple" = .type "tuple"):=λ{H' a zs} z=>.inr ⟨a,zs,rfl,z,rfl⟩
   refine⟨_,rfl,_,_,_,_,rfl,tp hq,mY,_,rfl,iC ?_⟩
   refine⟨_,rfl,_,_,_,_,rfl,tp hq,fZ,_,rfl,mZ ?_⟩
   refine⟨_,rfl,_,_,_,_,rfl,tp hp,mY,_,rfl,_,_,_,_,rfl,tp hq,mY,rfl,_,rfl,iC ?_⟩
   refine⟨_,rfl,_,_,_,_,rfl,tp hp,fZ,_,rfl,_,_,_,_,rfl,tp hq,fZ,rfl,_,rfl,iC ?_⟩
   refine⟨_,rfl,_,_,rfl,.inr ⟨_,hp,rfl⟩,_,rfl,_,_,rfl,.inr ⟨_,hq,rfl⟩,rfl,_,rfl,?_⟩
   refine oh (λ_=>?_) λz=>absurd (congrArg Nat.cast hlen) z
   refine⟨_,rfl,_,rfl,.tup p,.tup q,_,_,rfl,hp,hq,λl hl=>?_⟩
   refine Bd xs.length (λ_=>V.bl true) hl (Nat.lt_of_le_of_lt Tj (by decide)) (λi H2 s2 hi=>?_) (λH2 s2=>⟨_,_,ai.tup s2 hp,ai.tup s2 hq,.inl (Nat.le_refl _)⟩) (λi z H2 H3 R s2 hi hy hR=>?_) λH2 s2 hl2=>?_
   ·exact⟨_,_,_,_,ai.tup s2 hp,ai.tup s2 hq,List.getElem?_eq_getElem hi,List.getElem?_eq_getElem (by rw[←hlen];exact hi)⟩
   ·obtain⟨p',x',y',rfl,UT,rfl,hxy⟩:=hy
    obtain⟨ex,ey⟩:=hxy _ _ (ai.tup s2 hp) (ai.tup s2 hq)
    refine⟨p',_,rfl,c7.of ah,rfl,_,_,rfl,_,_,rfl,rfl,Kp.rep _ _,?_⟩
    exact⟨_,rfl,_,rfl,x',y',rfl,(hall i x' y' ex ey).same (s2.trans (ai.upd UT)),λH5 s5=>hR H5 ((ai.upd UT).trans s5)⟩
   ·refine⟨l,(List.range xs.length).map λ_=>true,rfl,bP.of (by rw[hl2,List.map_map];rfl),?_⟩
    rw[show((List.range xs.length).map λ_=>true).all id=true from List.all_eq_true.mpr λb hb=>by
     obtain⟨_,_,rfl⟩:=List.mem_map.mp hb
     rfl]
    exact k H2 s2
theorem EF {mQ fF cI:Addr} {kI dP b9:FuncData} {p:Pm} (T:Txt K mg p base) (gw:Dn K mg "_law_gap" qJ Sn mQ kI) (bA:Dn K mg "more_cost" lD l5 fF dP) (lG:aI P w K mg base cj 2 fF dP l5 (Eo K p.au)) (bD:Dn K mg "opening_cost" iH l5 cI b9) (ng:aI P w K mg base cj 2 cI b9 l5 (ug K p.au)):aI P w K mg base cj 3 mQ kI Sn (MY K p.au):=by
 refine gw.fn.ok Eu (λvs H Q E h=>?_) (λcdv A outer s H vs Q E hr h=>?_)
 ·obtain⟨x,T1,b,rfl,_⟩:=h
  rfl
 ·obtain⟨x,T1,b,rfl,hP,kk⟩:=h
  refine⟨_,(ao (aN (qa (eY (pv 1)) (aA lG (hr.mono (by decide)) rfl bA.m bA.fn.kp bA.b .nil aT (aa (pv 0) af)) (aD bZ (aA ng (hr.mono (by decide)) rfl bD.m bD.fn.kp bD.b .nil aT (aa (pv 0) af)) (aA lG (hr.mono (by decide)) rfl bA.m bA.fn.kp bA.b .nil aT (aa (pv 0) af)))))),?_⟩
  refine⟨_,rfl,_,rfl,?_⟩
  cases b with
  |true=>exact mZ ⟨_,rfl,x,T1.1,T1.2.1,T1.2.2.1,T1.2.2.2,rfl,hP,by rw[if_pos rfl]at kk;exact kk⟩
  |false=>exact iC ⟨_,rfl,x,T1.1,T1.2.1,T1.2.2.1,T1.2.2.2,rfl,hP,_,rfl,x,T1.1,T1.2.1,T1.2.2.1,T1.2.2.2,rfl,hP,_,_,rfl,rfl,by rw[if_neg Bool.false_ne_true]at kk;exact kk⟩
theorem uy {fu:Addr} {eF:FuncData} {p:Pm} (T:Txt K mg p base) (cT:Dn K mg "_law_may_begin" jw Sl fu eF)  :aI P w K mg base cj 1 fu eF Sl FP:=by
 refine cT.fn.ok um (λvs H Q E h=>?_) (λcdv A outer s H vs Q E hr h=>?_)
 ·obtain⟨m,i,j,rfl,_⟩:=h
  rfl
 ·obtain⟨m,i,j,rfl,hm,kk⟩:=h
  refine⟨_,(aj (bE (aL cQ (pv 0) bG (aO _)) (ao (aN (jA (bQ cQ (pv 1) ak (aO _)) (jj (bQ cQ (pv 2) ak (aO _)))))) aP)
   (aj (bE (aL cQ (pv 0) bG (aO _)) (ao (aN (bQ cQ (pv 1) ak (aO _)))) aP)
   (ao (aN (Jl (bQ cQ (pv 0) bG (aO _)) (jj (bQ cQ (pv 2) ak (aO _)))))))),?_⟩
  unfold vK at kk
  refine⟨_,rfl,rfl,_,rfl,Dh (λh1=>?_) λh1=>?_⟩
  ·rw[if_pos h1]at kk
   refine⟨_,rfl,rfl,_,rfl,oh (λhi=>⟨_,rfl,rfl,?_⟩) λhi=>?_⟩
   ·rw[DB]
    rwa [decide_eq_true hi,Bool.true_and]at kk
   ·rwa [decide_eq_false hi,Bool.false_and]at kk
  rw[if_neg h1]at kk
  refine⟨_,rfl,rfl,_,rfl,Dh (λh2=>?_) λh2=>?_⟩
  ·rw[if_pos h2]at kk
   exact⟨_,rfl,rfl,by rw[DB];exact kk⟩
  rw[if_neg h2]at kk
  refine⟨_,rfl,rfl,_,rfl,Dh (λh3=>?_) λh3=>?_⟩
  ·rw[if_neg (λz=>by rw[h3]at z;exact absurd z (by decide +kernel))]at kk
   exact kk
  ·have h4:m=Str.ofString "over" :=by
    rcases Qd hm with z|z|z|z
    ·exact absurd z h1
    ·exact absurd z h2
    ·exact z
    ·exact absurd z h3
   rw[if_pos h4]at kk
   exact⟨_,rfl,rfl,by rw[DB];exact kk⟩
theorem xr {ie:Addr} {gg:FuncData} {p:Pm} (T:Txt K mg p base) (dX:Dn K mg "_law_may_end" k6 Sk ie gg)  :aI P w K mg base cj 1 ie gg Sk FO:=by
 refine dX.fn.ok wQ (λvs H Q E h=>?_) (λcdv A outer s H vs Q E hr h=>?_)
 ·obtain⟨m,f,s,i,j,rfl,_⟩:=h
  rfl
 ·obtain⟨m,f,s,i,j,rfl,hm,hf,hs,kk⟩:=h
  have lf:f.length<=sizeLine:=Nat.le_trans hf (by decide)
  have ls:s.length<=sizeLine:=Nat.le_trans hs (by decide)
  refine⟨_,(aj (bE (aL cQ (pv 0) bG (aO _)) (ao (aN (jA (bQ cQ (pv 3) (az (aU) rfl T.ck bC (aa (pv 1) af)) (aO _)) (jj (bQ cQ (pv 4) (az (aU) rfl T.ck bC (aa (pv 2) af)) (aO _)))))) aP)
   (ao (aN (Jl (bQ cQ (pv 0) bG (aO _)) (jj (bQ cQ (pv 3) (az (aU) rfl T.ck bC (aa (pv 1) af)) (aO _))))))),?_⟩
  unfold yJ at kk
  refine⟨_,rfl,rfl,_,rfl,Dh (λh1=>?_) λh1=>?_⟩
  ·rw[if_pos h1]at kk
   refine⟨_,rfl,_,rfl,_,_,rfl,⟨lf,rfl⟩,rfl,_,rfl,oh (λhi=>⟨_,rfl,_,rfl,_,_,rfl,⟨ls,rfl⟩,rfl,?_⟩) λhi=>?_⟩
   ·rw[DB]
    rwa [decide_eq_true (show i=(f.cps.size:Int) from hi),Bool.true_and]at kk
   ·rwa [decide_eq_false (show ¬i=(f.cps.size:Int) from hi),Bool.false_and]at kk
  rw[if_neg h1]at kk
  refine⟨_,rfl,rfl,_,rfl,Dh (λh3=>?_) λh3=>?_⟩
  ·rw[if_pos h3]at kk
   exact kk
  ·rw[if_neg h3]at kk
   exact⟨_,rfl,_,rfl,_,_,rfl,⟨lf,rfl⟩,rfl,by rw[DB];exact kk⟩
end
section
variable{P:Program}{w:World}{K:PySem.W.Frag}{mg:Str->Option Value}{base:Heap}
theorem yD {jb:Addr} {gX:FuncData} {p:Pm} (T:Txt K mg p base) (cL:Dn K mg "_law_formed" mw Sj jb gX)  :aI P w K mg base cj 1 jb gX Sj Cr:=by
 refine cL.fn.ok kU (λvs H Q E h=>?_) (λcdv A outer s H vs Q E hr h=>?_)
 ·obtain⟨r,F,f,s,rfl,_⟩:=h
  rfl
 ·obtain⟨r,F,f,s,rfl,⟨ls,hr0,hls,K8⟩,hf,hs,kk⟩:=h
  have lf:f.length<=sizeLine:=Nat.le_trans hf (by decide)
  have R6:s.length<=sizeLine:=Nat.le_trans hs (by decide)
  refine⟨_,(aj (bE (PW.pt (sQ (nY (eY (az (bf) rfl T.aV aQ (aa (pv 0) (aa (c5 (v:=.ty "list") rfl T.rJ pD rfl) af))))) (oV (aL qY (az (aU) rfl T.ck bC (aa (pv 0) af)) (aD bZ (az (aU) rfl T.ck bC (aa (pv 1) af)) ak) (aO _))))) bN aP)
   (aj (cG PassesOwn.never rfl (jy (pv 0)) (aK (i:=3) kU.nd rfl (Or.inl rfl)) (aj (bE (PW.pt (sQ (nY (eY (az (bf) rfl T.aV aQ (aa (pv 3) (aa (c5 (v:=.ty "list") rfl T.rJ pD rfl) af))))) (oV (aL qY (az (aU) rfl T.ck bC (aa (pv 3) af)) (aD bZ (az (aU) rfl T.ck bC (aa (pv 2) af)) ak) (aO _))))) bN aP)
   (ao (cG PassesOwn.never rfl (jy (pv 3)) (aK (i:=4) kU.nd rfl (Or.inl rfl)) (aj (bE (PW.pt (sQ (nY (eY (az (bf) rfl T.aV aQ (aa (pv 4) (aa (c5 (v:=.ty "tuple") rfl T.ni lE rfl) af))))) (oV (aL qY (az (aU) rfl T.ck bC (aa (pv 4) af)) ak (aO _))))) bN aP)
   (ao (cG PassesOwn.never rfl (AF (pv 4)) (aK (i:=5) kU.nd rfl (Or.inl rfl)) (ao (bE (PW.pt (wY (aL wj (pv 5) lN (by with_unfolding_all rfl)) (sR (PW.pt (sQ (nY (eY (az (bf) rfl T.aV aQ (aa (pv 5) (aa (c5 (v:=.ty "int") rfl T.BU xU rfl) af))))) (oV (eY (az (bf) rfl T.aV aQ (aa (pv 5) (aa (c5 (v:=.ty "bool") rfl T.Ea Bo rfl) af)))))))))) bN aP)))))))))
   (ao (aN zQ)))),?_⟩
  refine⟨_,rfl,_,_,_,_,rfl,.inl (.lst hr0),fZ,_,rfl,m5 ?_⟩
  refine⟨_,rfl,_,_,rfl,.inl ⟨_,bP.of hr0,rfl⟩,_,rfl,_,_,rfl,⟨lf,rfl⟩,_,_,rfl,rfl,rfl,_,rfl,qo (λz=>absurd ?_ z) λ_=>?_⟩
  ·rw[List.length_map,hls]
   show((f.cps.size+1:Nat):Int)=(f.cps.size:Int)+1
   omega
  refine⟨_,rfl,r,rfl,⟨_,bP.of hr0⟩,?_⟩
  refine jr (K:=K) (a:=r) (xs:=ls.map V.ref) (λi σ H2=>∃v3 v4 v5,σ=[some (.ref r),some (.str f),some (.str s),v3,v4,v5]/\H=H2)
   ⟨_,_,_,rfl,rfl⟩ (λi σ H2 _ ⟨_,_,_,_,e⟩=>by rw[←e];exact bP.of hr0) ?_ ?_
  ·rintro i y σ H2 hy ⟨v3,v4,v5,rfl,rfl⟩
   obtain⟨l,hl,rfl⟩:=jl hy
   obtain⟨ps,hps,hpl,hp⟩:=K8 i l hl
   refine⟨_,rfl,_,_,_,_,rfl,.inl (.lst hps),fZ,_,rfl,m5 ?_⟩
   refine⟨_,rfl,_,_,rfl,.inl ⟨_,bP.of hps,rfl⟩,_,rfl,_,_,rfl,⟨R6,rfl⟩,_,_,rfl,rfl,rfl,_,rfl,qo (λz=>absurd ?_ z) λ_=>?_⟩
   ·rw[List.length_map,hpl]
    show((s.cps.size+1:Nat):Int)=(s.cps.size:Int)+1
    omega
   refine⟨_,rfl,l,rfl,⟨_,bP.of hps⟩,?_⟩
   refine jr (K:=K) (a:=l) (xs:=ps.map V.ref) (λj σ H2=>∃v4 v5,σ=[some (.ref r),some (.str f),some (.str s),some (.ref l),v4,v5]/\H=H2)
    ⟨_,_,rfl,rfl⟩ (λi σ H2 _ ⟨_,_,_,e⟩=>by rw[←e];exact bP.of hps) ?_ ?_
   ·rintro j y σ H2 hy ⟨v4,v5,rfl,rfl⟩
    obtain⟨q,hq,rfl⟩:=jl hy
    have US:=hp j q hq
    refine⟨_,rfl,_,_,_,_,rfl,.inl (.tup US),fZ,_,rfl,m5 ?_⟩
    refine⟨_,rfl,_,_,rfl,.inr ⟨_,c7.of US,rfl⟩,rfl,_,rfl,qo (λz=>absurd rfl z) λ_=>?_⟩
    refine⟨_,rfl,q,rfl,⟨_,c7.of US⟩,?_⟩
    refine Gx (K:=K) (a:=q) (xs:=pQ F (i,j)) (λk σ H2=>∃v5,σ=[some (.ref r),some (.str f),some (.str s),some (.ref l),some (.ref q),v5]/\H=H2)
     ⟨_,rfl,rfl⟩ (λi σ H2 _ ⟨_,_,e⟩=>by rw[←e];exact c7.of US) ?_ ?_
    ·rintro k y σ H2 hy ⟨v5,rfl,rfl⟩
     obtain⟨c,_,rfl⟩:=zI hy
     cases F (i,j,c)with
     |none=>exact⟨_,rfl,rfl,_,rfl,m5 ⟨_,rfl,rfl⟩⟩
     |some n =>
      refine⟨_,rfl,rfl,_,rfl,zY ⟨_,rfl,_,_,_,_,rfl,.inl (.int n),fZ,_,rfl,m5 ⟨_,rfl,_,_,_,_,rfl,.inl (.int n),o4,_,rfl,iC ⟨_,rfl,rfl⟩⟩⟩⟩
    ·rintro σ H2 ⟨v5,rfl,rfl⟩
     exact⟨_,_,rfl,rfl⟩
   ·rintro σ H2 ⟨v4,v5,rfl,rfl⟩
    exact⟨_,_,_,rfl,rfl⟩
  ·rintro σ H2 ⟨v3,v4,v5,rfl,rfl⟩
   exact kk
theorem sV {eK fE mQ:Addr} {dD dO kI:FuncData} {p:Pm} (T:Txt K mg p base) (cC:Dn K mg "_law_holds_from" iQ Si eK dD) (cB:Dn K mg "pair_cost" lC P0 fE dO) (qB:aI P w K mg base cj 1 fE dO P0 (rQ K p.au)) (gw:Dn K mg "_law_gap" qJ Sn mQ kI) (An:aI P w K mg base cj 3 mQ kI Sn (MY K p.au)):aI P w K mg base cj 4 eK dD Si (FQ K p.au):=by
 refine cC.fn.ok dj (λvs H Q E h=>?_) (λcdv A outer s H vs Q E hr h=>?_)
 ·obtain⟨pr,r,T1,F,f,s,m,i,j,rfl,_⟩:=h
  rfl
 ·obtain⟨pr,r,T1,F,f,s,m,i,j,rfl,hP,of,os,hf,hs,U3,hi,hj,hOk,kk⟩:=h
  refine⟨_,(aj (cG PassesOwn.never rfl (dw rfl T.iB (aa ak af)) (aK (i:=6) dj.nd rfl (Or.inl rfl)) (aj (aH (i:=7) dj.nd rfl (Or.inl rfl) (aW bR (aW bz (aW bz (pv 3) (pv 4) (λ_ _=>rfl)) (pv 5) (λ_ _=>rfl)) (pv 6) (λ_ _=>rfl)))
   (ao (bE (aL wj (pv 7) lN (by with_unfolding_all rfl)) (aj (aH (i:=8) dj.nd rfl (Or.inl rfl) (jk af))
   (bB (bE (PW.pt (wY (aL qZ (pv 4) (az (aU) rfl T.ck bC (aa (pv 1) af)) (aO _)) (sR (aL qZ (pv 5) (az (aU) rfl T.ck bC (aa (pv 2) af)) (aO _))))) (ao (cZ (lQ PySem.F.plainAttrs_list PySem.F.slot_list_append PySem.F.type_list_append cY (pv 8) (aa (bH (aa (aW bR (aW bz (aW bz (pv 3) (aD bZ (pv 4) ak) (λ_ _=>rfl)) (aD bZ (pv 5) ak) (λ_ _=>rfl)) ak (λ_ _=>rfl)) (aa (aA qB (hr.mono (by decide)) rfl cB.m cB.fn.kp cB.b .nil aT (aa (pv 0) (aa (aW uH (pv 1) (pv 4) (λ_ _=>rfl)) (aa (aW uH (pv 2) (pv 5) (λ_ _=>rfl)) af)))) af))) af)))) aP)
   (bB (bE (aL qZ (pv 4) (az (aU) rfl T.ck bC (aa (pv 1) af)) (aO _)) (ao (cZ (lQ PySem.F.plainAttrs_list PySem.F.slot_list_append PySem.F.type_list_append cY (pv 8) (aa (bH (aa (aW bR (aW bz (aW bz (pv 3) (aD bZ (pv 4) ak) (λ_ _=>rfl)) (pv 5) (λ_ _=>rfl)) ak (λ_ _=>rfl)) (aa (aA An (hr.mono (by decide)) rfl gw.m gw.fn.kp gw.b .nil aT (aa (pv 0) (aa (bQ cQ (pv 6) ak (aO _)) af))) af))) af)))) aP)
   (bB (bE (aL qZ (pv 5) (az (aU) rfl T.ck bC (aa (pv 2) af)) (aO _)) (ao (cZ (lQ PySem.F.plainAttrs_list PySem.F.slot_list_append PySem.F.type_list_append cY (pv 8) (aa (bH (aa (aW bR (aW bz (aW bz (pv 3) (pv 4) (λ_ _=>rfl)) (aD bZ (pv 5) ak) (λ_ _=>rfl)) ak (λ_ _=>rfl)) (aa (aA An (hr.mono (by decide)) rfl gw.m gw.fn.kp gw.b .nil aT (aa (pv 0) (aa (bQ cQ (pv 6) ak (aO _)) af))) af))) af)))) aP)
   (ao (cG PassesOwn.never rfl (jy (pv 8)) (oW (n:=2) rfl (bS (aK (i:=9) dj.nd rfl (Or.inl rfl)) (bS (aK (i:=10) dj.nd rfl (Or.inl rfl)) lz))) (ao (bE (PW.pt (sQ (aL xg (pv 9) lN (by with_unfolding_all rfl)) (oV (aL q9 (pv 9) (aD bZ (pv 7) (pv 10)) (aO _))))) bN aP)))))))) aP))))
   (ao (aN zQ))),?_⟩
  have lf:f.length<=sizeLine:=Nat.le_trans hf (by decide)
  have R6:s.length<=sizeLine:=Nat.le_trans hs (by decide)
  have at_:=λ(a b c k:Nat) (H2:Hp) (s2:ai H H2)=>(U3.same s2).get (a:=a) (b:=b) (c:=c) (k:=k)
  refine⟨3,rfl,by decide,by decide,?_⟩
  refine gO (lo:=0) (n:=3) (λk σ H2=>∃v6 v7 v8 v9 v10,σ=[some (.ref pr),some (.str f),some (.str s),some (.ref r),some (.int (i:Int)),some (.int (j:Int)),v6,v7,v8,v9,v10]/\ai H H2)
   ⟨_,_,_,_,_,rfl,ai.refl _⟩ ?_ ?_
  ·rintro k σ H2 hk ⟨v6,v7,v8,v9,v10,rfl,s2⟩
   obtain⟨c,hc⟩:∃c,vo[k]? =some c:=⟨_,List.getElem?_eq_getElem (show k<vo.length from hk)⟩
   obtain⟨ls,l,ps,q,a2,a1,a3,a4,a5,a6⟩:=at_ i j c k H2 s2 hi hj hc
   refine⟨_,rfl,_,rfl,r,_,_,_,rfl,rfl,bP.of a2,a1,_,rfl,l,_,_,_,rfl,rfl,bP.of a3,a4,_,rfl,q,_,_,_,rfl,rfl,c7.of a5,by rw[Int.zero_add];exact a6,?_⟩
   cases hF:F (i,j,c)with
   |none=>exact⟨_,rfl,rfl,_,rfl,m5 ⟨_,_,_,_,_,rfl,s2⟩⟩
   |some n =>
    have hIn:(lK T1 m f s).In (i,j,c):=⟨hi,hj,(Fg hc).2.2⟩
    have ok:=hOk _ hIn n hF
    refine⟨_,rfl,rfl,_,rfl,zY ⟨by show 0<=sizeLine;decide,λlc Gs=>?_⟩⟩
    have C0:pH (L2.upd H2 lc (.lst [])) lc n []:=⟨ah,λp hp=>nomatch hp⟩
    have s2':ai H2 (L2.upd H2 lc (.lst [])):=ai.upd Gs
    generalize L2.upd H2 lc (.lst [])=H3 at C0 s2'
    refine⟨λσ H'=>∃ps:List Addr,σ=[some (.ref pr),some (.str f),some (.str s),some (.ref r),some (.int (i:Int)),some (.int (j:Int)),some (.int (0+(k:Int))),some (.int n),some (.ref lc),v9,v10]/\ai H2 H'/\ps.length<=1/\pH H' lc n ps,?_,?_⟩
    ·refine⟨_,rfl,_,rfl,_,_,rfl,⟨lf,rfl⟩,_,_,rfl,rfl,_,rfl,?_⟩
     refine cE (λh1=>?_) (λh1=>?_)
     ·refine⟨_,rfl,_,rfl,_,_,rfl,⟨R6,rfl⟩,_,_,rfl,rfl,_,rfl,?_⟩
      have oq:i<f.cps.size:=by have z:(i:Int)<(f.cps.size:Int):=h1;omega
      refine cE (λh2=>?_) (λh2=>?_)
      ·have h2':j<s.cps.size:=by have z:(j:Int)<(s.cps.size:Int):=h2;omega
       obtain⟨a,ha⟩:=Bc oq
       obtain⟨b,hb⟩:=Bc h2'
       obtain⟨i',j',fr,hi',hj',hat,YI⟩:=Ju (u:=uT T1) hP.Zb (of a (nT ha)) (os b (nT hb))
       obtain⟨n',hn',hle⟩:=ok ((i+1,j+1,112),(lK T1 m f s).pc i j) (Gd.kD.mpr (.inl ⟨oq,h2',rfl⟩))
       obtain⟨ls,l,ps,q,b2,b1,b3,b4,b5,b6⟩:=at_ (i+1) (j+1) 112 0 H3 (s2.trans s2') oq h2' rfl
       rw[show F (i+1,j+1,112)=some n' from hn']at b6
       refine⟨_,rfl,.inl ⟨rfl,_,bP.of C0.1⟩,_,rfl,_,rfl,_,_,rfl,rfl,r,_,_,_,rfl,rfl,bP.of b2,b1,_,rfl,_,_,rfl,rfl,l,_,_,_,rfl,rfl,bP.of b3,b4,q,_,_,_,rfl,rfl,c7.of b5,b6,?_⟩
       refine⟨_,rfl,_,rfl,_,rfl,f,_,a,rfl,rfl,lf,eW (kh ha),_,rfl,_,rfl,s,_,b,rfl,rfl,R6,eW (kh hb),pr,T1.1,T1.2.1,T1.2.2.1,T1.2.2.2,i',j',a,b,fr,rfl,mJ.same (s2.trans s2') hP,hi',hj',hat,λH5 s5=>⟨by show 2<=sizeLine;decide,λr1 hr1=>?_⟩⟩
       have e1:fr.1*(uT T1 / fr.2)=(lK T1 m f s).pc i j:=by
        show _=Pw T1.1 T1.2.1 (uT T1) (f.cps.toList.getD i 0) (s.cps.toList.getD j 0)
        rw[List.getD_eq_getElem?_getD,List.getD_eq_getElem?_getD,kh ha,kh hb]
        exact YI.symm
       have s6:=s5.trans (ai.upd (o:=.tup [.int n',.int (fr.1*(uT T1 / fr.2))]) hr1)
       exact⟨lc,_,_,rfl,rfl,s6 _ _ C0.1,by show 0<sizeLine;decide,[]++[r1],rfl,ai.at (s2'.trans s6) Gs,Nat.le_refl _,C0.put s5 hr1 (by show n'<=n+fr.1*(uT T1 / fr.2);rw[e1];exact hle)⟩
      ·exact⟨[],rfl,s2',Nat.zero_le _,C0⟩
     ·exact iC ⟨[],rfl,s2',Nat.zero_le _,C0⟩
    rintro σ H4 ⟨W4,rfl,s4,K6,C4⟩
    refine⟨λσ H'=>∃ps:List Addr,σ=[some (.ref pr),some (.str f),some (.str s),some (.ref r),some (.int (i:Int)),some (.int (j:Int)),some (.int (0+(k:Int))),some (.int n),some (.ref lc),v9,v10]/\ai H2 H'/\ps.length<=2/\pH H' lc n ps,?_,?_⟩
    ·refine⟨_,rfl,_,rfl,_,_,rfl,⟨lf,rfl⟩,_,_,rfl,rfl,_,rfl,?_⟩
     refine cE (λh1=>?_) (λh1=>?_)
     ·have oq:i<f.cps.size:=by have z:(i:Int)<(f.cps.size:Int):=h1;omega
      obtain⟨n',hn',hle⟩:=ok ((i+1,j,97),(lK T1 m f s).ac 97 c) (Gd.kD.mpr (.inr (.inl ⟨oq,rfl⟩)))
      obtain⟨ls,l,ps,q,b2,b1,b3,b4,b5,b6⟩:=at_ (i+1) j 97 1 H4 (s2.trans s4) oq hj rfl
      rw[show F (i+1,j,97)=some n' from hn']at b6
      refine⟨_,rfl,.inl ⟨rfl,_,bP.of C4.1⟩,_,rfl,_,rfl,_,_,rfl,rfl,r,_,_,_,rfl,rfl,bP.of b2,b1,_,rfl,l,_,_,_,rfl,rfl,bP.of b3,b4,q,_,_,_,rfl,rfl,c7.of b5,b6,?_⟩
      refine⟨_,rfl,_,rfl,rfl,pr,T1,_,rfl,hP.same (s2.trans s4),by show 2<=sizeLine;decide,λr1 hr1=>?_⟩
      have s6:=λo=>ai.upd (o:=o) hr1
      exact⟨lc,_,_,rfl,rfl,s6 _ _ _ C4.1,by rw[List.length_map];exact Nat.lt_of_le_of_lt (show W4.length<=100 by omega) (by decide),W4++[r1],rfl,ai.at (s4.trans (s6 _)) Gs,by rw[List.length_append];exact Nat.succ_le_succ K6,C4.put (ai.refl _) hr1 (by rw[Nq (m:=m) (f:=f) (s:=s) (z:=1) (v:=97) (c:=c) (Fg hc).1 (by decide)];exact hle)⟩
     ·exact⟨W4,rfl,s4,by omega,C4⟩
    rintro σ H5 ⟨W3,rfl,s5,UW,C5⟩
    refine⟨λσ H'=>∃ps:List Addr,σ=[some (.ref pr),some (.str f),some (.str s),some (.ref r),some (.int (i:Int)),some (.int (j:Int)),some (.int (0+(k:Int))),some (.int n),some (.ref lc),v9,v10]/\ai H2 H'/\pH H' lc n ps,?_,?_⟩
    ·refine⟨_,rfl,_,rfl,_,_,rfl,⟨R6,rfl⟩,_,_,rfl,rfl,_,rfl,?_⟩
     refine cE (λh1=>?_) (λh1=>?_)
     ·have oq:j<s.cps.size:=by have z:(j:Int)<(s.cps.size:Int):=h1;omega
      obtain⟨n',hn',hle⟩:=ok ((i,j+1,98),(lK T1 m f s).ac 98 c) (Gd.kD.mpr (.inr (.inr ⟨oq,rfl⟩)))
      obtain⟨ls,l,ps,q,b2,b1,b3,b4,b5,b6⟩:=at_ i (j+1) 98 2 H5 (s2.trans s5) hi oq rfl
      rw[show F (i,j+1,98)=some n' from hn']at b6
      refine⟨_,rfl,.inl ⟨rfl,_,bP.of C5.1⟩,_,rfl,_,rfl,r,_,_,_,rfl,rfl,bP.of b2,b1,_,rfl,_,_,rfl,rfl,l,_,_,_,rfl,rfl,bP.of b3,b4,q,_,_,_,rfl,rfl,c7.of b5,b6,?_⟩
      refine⟨_,rfl,_,rfl,rfl,pr,T1,_,rfl,hP.same (s2.trans s5),by show 2<=sizeLine;decide,λr1 hr1=>?_⟩
      have s6:=λo=>ai.upd (o:=o) hr1
      exact⟨lc,_,_,rfl,rfl,s6 _ _ _ C5.1,by rw[List.length_map];exact Nat.lt_of_le_of_lt (show W3.length<=100 by omega) (by decide),W3++[r1],rfl,ai.at (s5.trans (s6 _)) Gs,C5.put (ai.refl _) hr1 (by rw[Nq (m:=m) (f:=f) (s:=s) (z:=2) (v:=98) (c:=c) (Fg hc).2.1 (by decide)];exact hle)⟩
     ·exact⟨W3,rfl,s5,C5⟩
    rintro σ H6 ⟨ps6,rfl,s6,C6⟩
    refine⟨_,rfl,lc,rfl,⟨_,bP.of C6.1⟩,?_⟩
    refine jr (K:=K) (a:=lc) (xs:=ps6.map V.ref) (λa σ H7=>∃v9 v10,σ=[some (.ref pr),some (.str f),some (.str s),some (.ref r),some (.int (i:Int)),some (.int (j:Int)),some (.int (0+(k:Int))),some (.int n),some (.ref lc),v9,v10]/\H6=H7)
     ⟨_,_,rfl,rfl⟩ (λa σ H7 _ ⟨_,_,_,e⟩=>by rw[←e];exact bP.of C6.1) ?_ ?_
    ·rintro a y σ H7 hy ⟨v9,v10,rfl,rfl⟩
     obtain⟨q,hq,rfl⟩:=jl hy
     obtain⟨x,y,h1,h2⟩:=C6.2 q (List.mem_of_getElem? hq)
     refine⟨_,_,rfl,c7.of h1,rfl,_,_,rfl,_,_,rfl,rfl,?_⟩
     refine⟨_,rfl,rfl,_,rfl,iC ⟨_,rfl,_,rfl,_,rfl,_,_,rfl,rfl,_,_,rfl,rfl,_,rfl,cE (λz=>?_) λ_=>⟨_,_,rfl,rfl⟩⟩⟩
     exact absurd h2 (by have z':n+y<x:=z;omega)
    ·rintro σ H7 ⟨v9,v10,rfl,rfl⟩
     exact⟨_,_,_,_,_,rfl,s2.trans s6⟩
  ·rintro σ H2 ⟨v6,v7,v8,v9,v10,rfl,s2⟩
   exact kk H2 s2
theorem AO {jJ mL:Addr} {iU kF:FuncData} {p:Pm} (T:Txt K mg p base) (gz:Dn K mg "_law_units" nE Sh jJ iU) (jQ:Dn K mg "unit_of" qG l5 mL kF) (Ic:aI P w K mg base cj 1 mL kF l5 (Cg K p.au)):aI P w K mg base cj 2 jJ iU Sh (Cf K p.au):=by
 refine gz.fn.ok Az (λvs H Q E h=>?_) (λcdv A outer s H vs Q E hr h=>?_)
 ·obtain⟨x,c,T1,n,rfl,_⟩:=h
  rfl
 ·obtain⟨x,c,T1,n,rfl,hP,hc,hn,kk⟩:=h
  refine⟨_,(ao (aN (aD Ge (aW bR (pv 1) ak (λ_ _=>rfl)) (aD Jv (aA Ic (hr.mono (by decide)) rfl jQ.m jQ.fn.kp jQ.b .nil aT (aa (pv 0) af)) (aW bR (pv 1) ak (λ_ _=>rfl)))))),?_⟩
  have hd:0<(gH (n,uT T1)).2:=EY n hP.pos
  have hle:(gH (n,uT T1)).2<=uT T1:=lo_le n hP.pos
  have ZI:Bg (uT T1):=hP.big.bg
  refine⟨_,rfl,_,_,_,_,rfl,rfl,c7.of hc,rfl,_,rfl,x,T1.1,T1.2.1,T1.2.2.1,T1.2.2.2,rfl,hP,_,rfl,_,_,_,_,rfl,rfl,c7.of hc,rfl,_,_,rfl,rfl,⟨hd,?_⟩,_,_,rfl,rfl,⟨?_,?_⟩,?_⟩
  ·exact Nat.lt_of_le_of_lt (by have:=hP.pos;show(gH (n,uT T1)).2.natAbs<=(uT T1).natAbs;omega) ZI
  ·exact Nat.lt_of_le_of_lt (m7 _ _) hn
  ·exact Nat.lt_of_le_of_lt (m7 _ _) ZI
  ·show Q (.int ((gH (n,uT T1)).1*(uT T1 / (gH (n,uT T1)).2))) H
   rw[L4 (u:=uT T1) hP.pos]
   exact kk
end
section
variable{P:Program}{w:World}{K:PySem.W.Frag}{mg:Str->Option Value}{base:Heap}
theorem xq {ic gG:Addr} {gf fD:FuncData} {p:Pm} (T:Txt K mg p base) (b8:Dn K mg "_law_refusal" kZ Sg ic gf) (bT:Dn K mg "paper_of" mT l6 gG fD) (pF:aI P w K mg base (vz P w) 8 gG fD l6 (IX P w K p.au p.aC p.aG)):aI P w K mg base cj 9 ic gf Sg (IU K p.au (ua K)):=by
 refine b8.fn.ok fW (λvs H Q E h=>?_) (λcdv A outer s H vs Q E hr h=>?_)
 ·obtain⟨pr,T1,f,s,m,rfl,_⟩:=h
  rfl
 ·obtain⟨pr,T1,f,s,m,rfl,hP,hT,hf,hs,kk⟩:=h
  refine⟨_,(aj (aH (i:=4) fW.nd rfl (Or.inl rfl) lN)
   (bB (Pj Qx (λ_ _ _ LT PO=>(ao (cZ (Jt pF (hr.mono (by decide)) rfl bT.m bT.fn.kp bT.b .nil LT (aa (pv 0) (aa (pv 1) (aa (pv 2) (aa (pv 3) af)))))))) (M5 (i:=5) fW.nd rfl rfl rfl T.uD T.GQ (λea=>(ao (aH (i:=4) fW.nd rfl (Or.inl rfl) (bH (aa bG (aa (CK (K':=K) rfl (pv 5) rfl) (aa (CK (K':=K) rfl (pv 5) rfl) (aa (ku (Ab) rfl T.BU xU (aa (az (qw (K':=K) rfl) rfl T.aV aQ (aa (pv 5) (aa (nN (v:=.ref p.aG) rfl T.qg rfl) af))) af)) af)))))))) (M5 (i:=5) fW.nd rfl rfl rfl T.qg T.BY (λea=>(ao (aH (i:=4) fW.nd rfl (Or.inl rfl) (bH (aa bG (aa (ku (Ab) rfl T.BU xU (aa (az (qw (K':=K) rfl) rfl T.aV aQ (aa (pv 5) (aa (nN (v:=.ref p.aC) rfl T.uD rfl) af))) af)) af)))))) Po)))
   (ao (aN (pv 4))))),?_⟩
  refine⟨λσ' H'=>∃r v5,σ'=[some (.ref pr),some (.str f),some (.str s),some (.str m),some (.ref r),v5]/\Q (.ref r) H',?_,?_⟩
  ·refine⟨_,rfl,_,rfl,_,rfl,_,rfl,pr,T1,f,s,m,rfl,hP,hf,hs,λof os hm=>?_,λi j bad dx H' s' hd=>?_,λof os hm=>?_⟩
   ·rcases kk with⟨i,j,hB,_⟩|⟨_,_,hm',_⟩
    ·exact absurd ⟨of,os⟩ hB.no
    ·rw[hm]at hm';cases hm'
   ·rcases kk with⟨i',j',hB,kk⟩|⟨of,os,_⟩
    ·obtain⟨rfl,rfl⟩:=hB.uniq bad
     refine⟨_,_,rfl,T.uG,mZ λea Yh=>?_⟩
     have s2:ai H' (upd H' ea (K9 ea (.ref p.aC) (some dx))):=ai.upd Yh
     refine⟨_,rfl,ea,_,dx,_,_,rfl,ah,s2 _ _ hd,T.ud,T.tu,Km,_,rfl,ea,_,dx,_,_,rfl,ah,s2 _ _ hd,T.ud,T.qe,Fb,?_⟩
     refine⟨_,rfl,ea,p.aC,some dx,_,_,false,rfl,.inl ⟨_,rfl,rfl⟩,ah,.inr ⟨dx,_,rfl,s2 _ _ hd⟩,T.ud,T.se,.inr ⟨false,rfl,by show 4<=sizeLine;decide,λt2 D6=>?_⟩⟩
     exact⟨t2,_,rfl,kk t2 _ ((s'.trans s2).trans (ai.upd D6)) ah⟩
    ·exact absurd ⟨of,os⟩ bad.no
   ·rcases kk with⟨i,j,hB,_⟩|⟨_,_,_,hl,kk⟩
    ·exact absurd ⟨of,os⟩ hB.no
    ·refine⟨hl,λH' s'=>⟨_,_,rfl,T.r9,iC ⟨_,_,rfl,T.qm,mZ λea Yh=>?_⟩⟩⟩
     have s2:ai H' (upd H' ea (K9 ea (.ref p.aG) none)):=ai.upd Yh
     refine⟨_,rfl,ea,p.aG,none,_,_,false,rfl,.inl ⟨_,rfl,rfl⟩,ah,.inl rfl,T.BV,T.sj,.inr ⟨false,rfl,by show 2<=sizeLine;decide,λt2 D6=>?_⟩⟩
     exact⟨t2,_,rfl,kk t2 _ ((s'.trans s2).trans (ai.upd D6)) ah⟩
  ·rintro σ' H1 ⟨r,v5,rfl,q⟩
   exact⟨_,rfl,q⟩
theorem vI {gq:Addr} {fh:FuncData} {p:Pm} (T:Txt K mg p base) (c9:Dn K mg "_law_odd_rows" j6 K3 gq fh)  :aI P w K mg base cj 1 gq fh K3 (IY K p.au):=by
 refine c9.fn.ok cP (λvs H Q E h=>?_) (λcdv A outer s H vs Q E hr h=>?_)
 ·obtain⟨m,pr,T1,f,g,rfl,_⟩:=h
  rfl
 ·obtain⟨m,pr,T1,f,g,rfl,hm,hP,h4,of,og,hf,hg,kk⟩:=h
  have lf:f.length<=sizeLine:=Nat.le_trans hf (by decide)
  have lg:g.length<=sizeLine:=Nat.le_trans hg (by decide)
  refine⟨_,(bB (aH (i:=4) cP.nd rfl (Or.inl rfl) (aW bz (CN (N:=["_law_sign","_law_prices_here"]) rfl (cN.rD (nt:=1) (ix:=[1]) rfl (by decide +kernel) (by decide +kernel) (by kernel_rfl) rfl (by kernel_rfl)) (Jk bG) (λ_ _ _ _ _ _ _=>(aK (i:=0) (show(["_law_sign","_law_prices_here"]:List Str).Nodup by decide +kernel) rfl (Or.inl rfl))) (λ_ _ _ _ _ _ _=>(pv 0)) (λ_ _ _ _ _ _ _=>(aL sS (pv 0) (LN (K':=K) rfl (pv 1) rfl) (by with_unfolding_all rfl)))) ak (λ_ _=>rfl)))
   (aj (aH (i:=5) cP.nd rfl (Or.inl rfl) (jk (aa (pv 2) (aa (pv 3) af))))
   (aj (aH (i:=6) cP.nd rfl (Or.inl rfl) lN)
   (bB (cG PassesOwn.never rfl (dw rfl T.iB (aa ak af)) (aK (i:=7) cP.nd rfl (Or.inl rfl)) (ao (bE (aL qY (aD cy (pv 0) ak) (pv 7) (aO _)) (aj (aH (i:=8) cP.nd rfl (Or.inl rfl) (aW bz (pv 5) (pv 7) (λ_ _=>rfl)))
   (bB (aH (i:=9) cP.nd rfl (Or.inl rfl) (aD cy (aD dB (pv 0) (aD bZ ak (aD mV ak (pv 7)))) (aD bZ (az (aU) rfl T.ck bC (aa (pv 8) af)) ak)))
   (aj (uq (aD oY (aD oY (CJ Jd (pv 8) F6 (F5 (pv 9))) (pv 4)) (CJ Jd (pv 8) (F5 (pv 9)) F6)) (AG (pv 5) (pv 7) set_list))
   (ao (bE (aL xg (pv 6) lN (by with_unfolding_all rfl)) (ao (aH (i:=6) cP.nd rfl (Or.inl rfl) (bH (aa (pv 7) (aa (pv 9) af))))) aP))))) aP)))
   (ao (aN (bH (aa (pv 5) (aa (pv 6) af))))))))),?_⟩
  refine⟨λσ H2=>∃c:Nat,c∉T1.1.cps.toList/\σ=[some (.int m),some (.ref pr),some (.str f),some (.str g),some (.str ⟨#[c]⟩),none,none,none,none,none]/\ai H H2,?_,?_⟩
  ·refine⟨_,rfl,λl hl=>?_⟩
   have e9:(Str.ofString "qxQX07+~ ").cps.size=9:=by kernel_rfl
   obtain⟨_,_,_,_,_,_,_,dx,Pp,o,mo,d,kvs,Q4,_⟩:=id hP
   refine Be 9 (λi=>!decide (uB.getD i 0∈T1.1.cps.toList)) (λi=>sg (uB.getD i 0)) hl (by decide) (λi H2 s2 hi=>?_) (λH2 s2=>?_) (λi y H2 H3 R S s2 hi hy hR hS=>?_) λH2 s2 hl2=>?_
   ·show i<_;rw[e9];exact hi
   ·show _<=9;rw[e9];exact Nat.le_refl _
   ·obtain⟨rfl,c,hc,rfl⟩:=hy
    have ec:uB.getD i 0=c:=nR (by rw[←LS];exact kh hc)
    rw[ec]at hR hS
    refine⟨Kp.Cy,_,rfl,_,rfl,pr,_,dx,_,_,rfl,s2 _ _ Q4,T.bq,T.fX,o7,_,_,rfl,rfl,_,rfl,?_⟩
    rw[StrLaws.found_one]
    by_cases q:c∈T1.1.cps.toList
    ·rw[decide_eq_true q]at hS ⊢
     exact m5 (hS rfl _ (ai.refl _))
    ·rw[decide_eq_false q]at hR ⊢
     exact zY ⟨_,rfl,hR rfl _ (ai.refl _)⟩
   ·have JY:=LU h4
    have e:((List.range 9).filter λi=>!decide (uB.getD i 0∈T1.1.cps.toList)).map (λi=>sg (uB.getD i 0))=(ve T1.1).map sg:=by
     unfold ve
     rw[←Gy uB 0,List.map_map]
     rfl
    rw[e]at hl2
    have hjl:0<(ve T1.1).length:=by omega
    exact⟨l,_,_,_,rfl,rfl,bP.of hl2,(show yU _ ((0:Nat):Int)=_ from eW (by rw[List.getElem?_map,List.getElem?_eq_getElem hjl];rfl)),(ve T1.1)[0],PC (List.getElem_mem hjl),rfl,s2⟩
  rintro σ H1 ⟨c,hc,rfl,s1⟩
  refine⟨_,rfl,_,rfl,by show 2<=sizeLine;decide,λlr hlr=>?_⟩
  have m0:=Int.emod_nonneg (m / 3) (show(f.cps.size:Int)+1≠0 by omega)
  have m1:=Int.emod_lt_of_pos (m / 3) (show(0:Int)<(f.cps.size:Int)+1 by omega)
  have n0:=Int.emod_nonneg (m / 50) (show(g.cps.size:Int)+1≠0 by omega)
  have n1:=Int.emod_lt_of_pos (m / 50) (show(0:Int)<(g.cps.size:Int)+1 by omega)
  obtain⟨a1,ha1⟩:∃a:Nat,m / 3 % ((f.cps.size:Int)+1)=(a:Int):=⟨_,(Int.toNat_of_nonneg m0).symm⟩
  obtain⟨b1,hb1⟩:∃a:Nat,m / 50 % ((g.cps.size:Int)+1)=(a:Int):=⟨_,(Int.toNat_of_nonneg n0).symm⟩
  have a1f:(a1:Int)<=(f.cps.size:Int):=by omega
  have b1g:(b1:Int)<=(g.cps.size:Int):=by omega
  have zf:=Gp (c:=c) (Int.natCast_nonneg a1) a1f
  have zg:=Gp (c:=c) (Int.natCast_nonneg b1) b1g
  have Bf:=Ah (b:=f) (Int.natCast_nonneg a1) a1f of hc
  have Bg:=Ah (b:=g) (Int.natCast_nonneg b1) b1g og hc
  rw[Int.toNat_natCast]at Bf Bg
  refine⟨λσ H5=>∃(a b:Str) (d:Addr) (i j:Nat) (v7 v8 v9:Option V),σ=[some (.int m),some (.ref pr),some (.str f),some (.str g),some (.str ⟨#[c]⟩),some (.ref lr),some (.ref d),v7,v8,v9]/\ai H1 H5/\H5 lr=some (.lst [.str a,.str b])/\t9 T1.1 a b i j/\a.cps.size<=20/\b.cps.size<=20/\H5 d=some (.tup [.int (i:Int),.int (j:Int)]),?_,?_⟩
  ·refine⟨2,rfl,by decide,by decide,?_⟩
   refine gO (lo:=0) (n:=2) (λi σ H5=>∃(a b:Str) (v:V) (v7 v8 v9:Option V),σ=[some (.int m),some (.ref pr),some (.str f),some (.str g),some (.str ⟨#[c]⟩),some (.ref lr),some v,v7,v8,v9]/\ai H1 H5/\H5 lr=some (.lst [.str a,.str b]) ∧
    ((i=0/\a=f/\b=g/\v= .iP)\/(i=1/\b=g/\m % 3=0/\a=f/\v= .iP)\/(1<=i/\m % 3≠0/\a=yM f a1 c/\(b=g\/b=yM g b1 c)/\(i=1->b=g)/\∃d,v= .ref d/\H5 d=some (.tup [.int ((0:Nat):Int),.int (a1:Int)]))\/(i=2/\a=f/\b=yM g b1 c/\∃d,v= .ref d/\H5 d=some (.tup [.int ((1:Nat):Int),.int (b1:Int)]))))
    ⟨f,g,.iP,_,_,_,rfl,ai.upd hlr,ah,.inl ⟨rfl,rfl,rfl,rfl⟩⟩ ?_ ?_
   ·rintro i σ H5 hi ⟨a,b,v,v7,v8,v9,rfl,s5,A5,hcn⟩
    refine⟨_,rfl,_,_,rfl,rfl,(by show(0:Int)<3;decide),_,rfl,rfl,_,rfl,qo (λhk=>?_) λhk=>?_⟩
    ·obtain⟨x,sp,hx,D7,hxz,abd⟩:∃(x:Str) (sp:Nat),yU [V.str a,.str b] (0+(i:Int))=some (.str x)/\(x=f/\sp=a1/\i=0\/x=g/\sp=b1/\i=1)/\(i=0->x=a/\sp=a1)/\(i=1->x=b/\sp=b1):=by
      rcases(show i=0\/i=1 by omega)with rfl|rfl
      ·refine⟨a,a1,rfl,.inl ⟨?_,rfl,rfl⟩,λ_=>⟨rfl,rfl⟩,λz=>absurd z (by decide)⟩
       rcases hcn with⟨_,h,_⟩|⟨z,_⟩|⟨z,_⟩|⟨z,_⟩
       ·exact h
       all_goals exact absurd z (by decide)
      ·refine⟨b,b1,rfl,.inr ⟨?_,rfl,rfl⟩,(λz=>absurd z (by decide)),λ_=>⟨rfl,rfl⟩⟩
       rcases hcn with⟨z,_⟩|⟨_,h,_⟩|⟨_,_,_,_,h,_⟩|⟨z,_⟩
       ·exact absurd z (by decide)
       ·exact h
       ·exact h rfl
       ·exact absurd z (by decide)
     have hxs:x.cps.size<=12/\(sp:Int)<=(x.cps.size:Int):=by rcases D7 with⟨rfl,rfl,_⟩|⟨rfl,rfl,_⟩<;>omega
     have hsv:m / (3+47*(0+(i:Int))) % ((x.cps.size:Int)+1)=(sp:Int):=by
      rcases D7 with⟨rfl,rfl,rfl⟩|⟨rfl,rfl,rfl⟩
      ·exact ha1
      ·exact hb1
     have lx:x.length<=sizeLine:=Nat.le_trans hxs.1 (by decide)
     have l1:=Txt.slice_le x none (some (sp:Int))
     have l2:=Txt.slice_le x (some (sp:Int)) none
     have xl:x.length<=12:=hxs.1
     have l3:(Txt.slice x none (some (sp:Int))++(⟨#[c]⟩:Str)).length=(Txt.slice x none (some (sp:Int))).length+1:=by
      show((Txt.slice x none (some (sp:Int))).cps++ #[c]).size=_
      rw[Array.size_append]
      rfl
     refine⟨_,rfl,_,rfl,lr,_,_,_,rfl,rfl,bP.of A5,hx,?_⟩
     refine⟨λσ H6=>σ=[some (.int m),some (.ref pr),some (.str f),some (.str g),some (.str ⟨#[c]⟩),some (.ref lr),some v,some (.int (0+(i:Int))),some (.str x),some (.int (sp:Int))]/\H5=H6,?_,?_⟩
     ·refine⟨_,rfl,_,rfl,_,_,rfl,rfl,.inl ⟨by decide,by decide⟩,_,_,rfl,rfl,_,_,rfl,rfl,⟨by show(0:Int)<3+47*(0+(i:Int));omega,by show 3+47*(0+(i:Int))<1073741824;omega⟩,_,rfl,_,_,rfl,⟨lx,rfl⟩,_,_,rfl,rfl,_,_,rfl,rfl,(by show(0:Int)<(x.cps.size:Int)+1;omega),?_,rfl⟩
      rw[←hsv]
      rfl
     rintro σ _ ⟨rfl,rfl⟩
     refine⟨_,rfl,_,rfl,_,rfl,x,rfl,lx,_,rfl,_,_,rfl,rfl,Nat.le_trans (show _+1<=100 by omega) (by decide),_,rfl,_,rfl,_,rfl,x,rfl,lx,_,_,rfl,rfl,Nat.le_trans (show _<=100 by omega) (by decide),?_⟩
     refine⟨_,rfl,_,rfl,lr,_,_,i,rfl,rfl,A5,by rw[Int.zero_add];exact E2 hi,?_⟩
     have s6:ai H1 (upd H5 lr (.lst ([V.str a,.str b].set i (.str (yM x sp c))))):=ai.at s5 hlr
     have Qp:upd H5 lr (.lst ([V.str a,.str b].set i (.str (yM x sp c)))) lr=some (.lst ([V.str a,.str b].set i (.str (yM x sp c)))):=ah
     have hd6:∀{d ys},H5 d=some (.tup ys)->upd H5 lr (.lst ([V.str a,.str b].set i (.str (yM x sp c)))) d=some (.tup ys):=λ{d ys} h=>by rw[aq (λz=>by rw[z,A5]at h;cases h)];exact h
     rcases D7 with⟨rfl,rfl,rfl⟩|⟨rfl,rfl,rfl⟩
     ·obtain⟨_,rfl⟩:_/\v= .iP:=by
       rcases hcn with⟨_,_,_,h⟩|⟨z,_⟩|⟨z,_⟩|⟨z,_⟩
       ·exact⟨trivial,h⟩
       all_goals exact absurd z (by decide)
      have ZW:b=g:=by
       rcases hcn with⟨_,_,h,_⟩|⟨z,_⟩|⟨z,_⟩|⟨z,_⟩
       ·exact h
       all_goals exact absurd z (by decide)
      refine⟨_,rfl,rfl,_,rfl,ZF rfl ⟨_,rfl,_,rfl,by show 2<=sizeLine;decide,λd hd=>?_⟩⟩
      have s7:=ai.upd (o:=.tup [.int (0+((0:Nat):Int)),.int (sp:Int)]) hd
      exact⟨_,b,_,_,_,_,rfl,s6.trans s7,s7 _ _ Qp,.inr (.inr (.inl ⟨Nat.le_refl _,hk,rfl,.inl ZW,λ_=>ZW,d,rfl,ah⟩))⟩
     ·rcases hcn with⟨z,_⟩|⟨_,_,h3,rfl,rfl⟩|⟨_,h3,rfl,_,_,d,rfl,hd⟩|⟨z,_⟩
      ·exact absurd z (by decide)
      ·refine⟨_,rfl,rfl,_,rfl,ZF rfl ⟨_,rfl,_,rfl,by show 2<=sizeLine;decide,λd hd=>?_⟩⟩
       have s7:=ai.upd (o:=.tup [.int (0+((1:Nat):Int)),.int (sp:Int)]) hd
       exact⟨_,_,_,_,_,_,rfl,s6.trans s7,s7 _ _ Qp,.inr (.inr (.inr ⟨rfl,rfl,rfl,d,rfl,ah⟩))⟩
      ·exact⟨_,rfl,rfl,_,rfl,Xx (λz=>by cases z) ⟨_,_,_,_,_,_,rfl,s6,Qp,.inr (.inr (.inl ⟨by decide,h3,rfl,.inr rfl,(λz=>absurd z (by decide)),d,rfl,hd6 hd⟩))⟩⟩
      ·exact absurd z (by decide)
    ·refine⟨a,b,v,_,_,_,rfl,s5,A5,?_⟩
     rcases hcn with⟨rfl,rfl,rfl,rfl⟩|⟨rfl,rfl,h3,rfl,rfl⟩|⟨h1,h3,ha,hb,_,hd⟩|⟨rfl,_⟩
     ·exact .inr (.inl ⟨rfl,rfl,hk,rfl,rfl⟩)
     ·rw[h3]at hk;exact absurd hk (by decide)
     ·exact .inr (.inr (.inl ⟨by omega,h3,ha,hb,λz=>by omega,hd⟩))
     ·exact absurd hi (by decide)
   ·rintro σ H5 ⟨a,b,v,v7,v8,v9,rfl,s5,A5,⟨z,_⟩|⟨z,_⟩|⟨_,hm3,rfl,hb,_,d,rfl,hd⟩|⟨_,rfl,rfl,d,rfl,hd⟩⟩
    ·cases z
    ·cases z
    ·refine⟨_,b,d,0,a1,_,_,_,rfl,s5,A5,.inl ⟨rfl,Bf.1,Bf.2⟩,by unfold yM;omega,?_,hd⟩
     rcases hb with rfl|rfl
     ·omega
     ·unfold yM;omega
    ·exact⟨a,_,d,1,b1,_,_,_,rfl,s5,A5,.inr ⟨rfl,of,Bg.1,Bg.2⟩,by omega,by unfold yM;omega,hd⟩
  rintro σ H5 ⟨a,b,d,i,j,v7,v8,v9,rfl,s5,A5,hB,za,zb,hd⟩
  refine⟨_,rfl,_,rfl,by show 2<=sizeLine;decide,λr hr=>?_⟩
  have s6:=ai.upd (o:=.tup [.ref lr,.ref d]) hr
  exact kk r lr d a b i j _ ((s1.trans s5).trans s6) ah (s6 _ _ A5) (s6 _ _ hd) hB za zb
theorem xm {ia ic gq fT:Addr} {gb gf fh dR:FuncData} {p:Pm} (T:Txt K mg p base) (dW:Dn K mg "_law_refused" kY K3 ia gb) (b8:Dn K mg "_law_refusal" kZ Sg ic gf) (rG:aI P w K mg base cj 9 ic gf Sg (IU K p.au (ua K))) (c9:Dn K mg "_law_odd_rows" j6 K3 gq fh) (yi:aI P w K mg base cj 1 gq fh K3 (IY K p.au)) (bJ:Dn K mg "_law_same" mU Na fT dR) (pG:aI P w K mg base cj 2 fT dR Na (we K 1)):aI P w K mg base cj 10 ia gb K3 (IV K p.au (ua K)):=by
 refine dW.fn.ok jZ (λvs H Q E h=>?_) (λcdv A outer s H vs Q E hr h=>?_)
 ·obtain⟨m,pr,T1,f,g,rfl,_⟩:=h
  rfl
 ·obtain⟨m,pr,T1,f,g,rfl,hm,hP,hT,h4,of,og,hf,hg,kk⟩:=h
  refine⟨_,(bB (bE (nY (eY (aA pG (hr.mono (by decide)) rfl bJ.m bJ.fn.kp bJ.b .nil aT (aa (aA rG (hr.mono (by decide)) rfl b8.m b8.fn.kp b8.b .nil aT (aa (pv 1) (aa (pv 2) (aa (pv 3) (aa (aW bz (jk (aa bG (aa bG (aa bG af)))) (aD cy (pv 0) ak) (λ_ _=>rfl)) af))))) (aa (bH (aa bG (aa ak af))) af))))) bN aP)
   (aj (uq (aA yi (hr.mono (by decide)) rfl c9.m c9.fn.kp c9.b .nil aT (aa (aD dB (pv 0) ak) (aa (pv 1) (aa (pv 2) (aa (pv 3) af))))) (oW (n:=2) rfl (bS (aK (i:=4) jZ.nd rfl (Or.inl rfl)) (bS (aK (i:=5) jZ.nd rfl (Or.inl rfl)) lz))))
   (aj (aH (i:=6) jZ.nd rfl (Or.inl rfl) (aA rG (hr.mono (by decide)) rfl b8.m b8.fn.kp b8.b .nil aT (aa (pv 1) (aa (aW bz (pv 4) ak (λ_ _=>rfl)) (aa (aW bz (pv 4) ak (λ_ _=>rfl)) (aa (aW bz (jk (aa bG (aa bG af))) (aD cy (aD dB (pv 0) ak) ak) (λ_ _=>rfl)) af))))))
   (ao (aN (jA (bQ wj (pv 6) lN (by with_unfolding_all rfl)) (jj (aA pG (hr.mono (by decide)) rfl bJ.m bJ.fn.kp bJ.b .nil aT (aa (pv 6) (aa (aD Gf (aD Gf (bH (aa bG af)) (pv 5)) (bH (aa ak af))) af)))))))))),?_⟩
  obtain⟨wd,hw1,XM,hwa⟩:∃wd:Str,kc wd=false/\(reprText wd).length<=20/\yU [V.str (Str.ofString ""),.str (Str.ofString "over "),.str (Str.ofString "b")] (m % 3)=some (.str wd):=by
   have e:m % 3=0\/m % 3=1\/m % 3=2:=by omega
   rcases e with e|e|e<;>rw[e]<;>exact⟨_,by decide +kernel,by decide +kernel,rfl⟩
  obtain⟨wd2,XJ⟩:∃wd:Str,yU [V.str (Str.ofString "over"),.str (Str.ofString "none")] (m / 30 % 2)=some (.str wd):=by
   have e:m / 30 % 2=0\/m / 30 % 2=1:=by omega
   rcases e with e|e<;>rw[e]<;>exact⟨_,rfl⟩
  refine⟨λσ H1=>σ=[some (.int m),some (.ref pr),some (.str f),some (.str g),none,none,none]/\ai H H1,?_,?_⟩
  ·refine⟨_,rfl,_,rfl,_,rfl,by show 3<=sizeLine;decide,λq hq=>?_⟩
   have s1:=ai.upd (o:=.lst [.str (Str.ofString ""),.str (Str.ofString "over "),.str (Str.ofString "b")]) hq
   refine⟨_,rfl,_,_,rfl,rfl,(by show(0:Int)<3;decide),q,_,_,_,rfl,rfl,bP.of ah,hwa,pr,T1,f,g,wd,rfl,hP.same s1,hT.same s1,by omega,by omega,.inr ⟨of,og,hw1,XM,λr2 H9 s9 hr2=>⟨by show 2<=sizeLine;decide,λr3 Qk=>?_⟩⟩⟩
   have Ex:=ai.upd (o:=.tup [.str (Str.ofString "no manner"),.int 0]) Qk
   exact⟨_,_,rfl,D0.of (c7.of (Ex _ _ hr2)) (c7.of ah) (by show 2<=100;decide) (.cons .str (.cons .int .nil)),λUs RS=>⟨_,rfl,m5 ⟨rfl,(s1.trans s9).trans (Ex.trans RS)⟩⟩⟩
  rintro σ H1 ⟨rfl,s1⟩
  refine⟨_,rfl,_,_,rfl,rfl,⟨by decide,by decide⟩,_,rfl,_,rfl,_,rfl,m / 3,pr,T1,f,g,rfl,by omega,hP.same s1,h4,of,og,hf,hg,λr lr d a b i j H2 s2 hr2 hlr hd hB za zb=>?_⟩
  refine⟨_,_,rfl,c7.of hr2,rfl,_,_,rfl,_,_,rfl,rfl,?_⟩
  have G0:=s1.trans s2
  refine⟨_,rfl,_,rfl,lr,_,_,.str a,rfl,rfl,bP.of hlr,rfl,_,rfl,lr,_,_,.str b,rfl,rfl,bP.of hlr,rfl,by show 2<=sizeLine;decide,λq hq=>?_⟩
  have s3:=ai.upd (o:=.lst [.str (Str.ofString "over"),.str (Str.ofString "none")]) hq
  refine⟨_,rfl,_,_,rfl,rfl,⟨by decide,by decide⟩,_,_,rfl,rfl,(by show(0:Int)<2;decide),q,_,_,_,rfl,rfl,bP.of ah,XJ,pr,T1,a,b,wd2,rfl,hP.same (G0.trans s3),hT.same (G0.trans s3),za,zb,.inl ⟨i,j,hB,λr4 H4 s4 UQ=>?_⟩⟩
  have Zc:=s3.trans s4
  refine⟨_,rfl,rfl,true,rfl,mZ ⟨_,rfl,by show 1<=sizeLine;decide,λt1 ht1=>?_⟩⟩
  have s5:=ai.upd (o:=.tup [.str (Str.ofString "no sign")]) ht1
  refine⟨_,rfl,t1,d,_,_,rfl,rfl,c7.of ah,c7.of ((Zc.trans s5) _ _ hd),by simp,by show 3<=sizeLine;decide,(λz=>by cases z),λ_ t2 D6=>?_⟩
  have s6:=s5.trans (ai.upd (o:=.tup ([.str (Str.ofString "no sign")]++[.int (i:Int),.int (j:Int)])) D6)
  refine⟨by show 1<=sizeLine;decide,λt3 Mt=>?_⟩
  have s7:=ai.upd (o:=.tup [.int 0]) Mt
  refine⟨t2,t3,_,_,rfl,rfl,c7.of (s7 _ _ ah),c7.of ah,by simp,by show 4<=sizeLine;decide,(λz=>by cases z),λ_ t4 Ms=>?_⟩
  have s8:=(s6.trans s7).trans (ai.upd (o:=.tup (([.str (Str.ofString "no sign")]++[.int (i:Int),.int (j:Int)])++[.int 0])) Ms)
  exact⟨_,_,rfl,D0.of (c7.of (s8 _ _ UQ)) (c7.of ah) (by show 4<=100;decide) (.cons .str (.cons .int (.cons .int (.cons .int .nil)))),λH9 s9=>kk H9 ((G0.trans Zc).trans (s8.trans s9))⟩
end
section
variable{P:Program}{w:World}{K:PySem.W.Frag}{mg:Str->Option Value}{base:Heap}
theorem Pz {z6 i9 mP ja bw gG jb jJ kL fu eK ie ia:Addr} {Kn gU kH gW aX fD gX iU iL eF dD gg gb:FuncData} {p:Pm} (T:Txt K mg p base) (K0:Dn K mg "law" qW QX z6 Kn) (fK:Dn K mg "_law_prices" mj l4 i9 gU) (BJ:aI P w K mg base cj 7 i9 gU l4 (zL K p.au)) (gv:Dn K mg "_law_row" qI So mP kH) (Am:aI P w K mg base cj 2 mP kH So (IS K)) (fL:Dn K mg "_law_manner" mq ["_law_m"] ja gW) (BK:aI P w K mg base cj 1 ja gW ["_law_m"] Cn) (aB:Dn K mg "_law_next" fR l4 bw aX) (cA:aI P w K mg base cj 1 bw aX l4 (pR K)) (bT:Dn K mg "paper_of" mT l6 gG fD) (pF:aI P w K mg base cj 8 gG fD l6 (nv (IX P w K p.au p.aC p.aG))) (cL:Dn K mg "_law_formed" mw Sj jb gX) (tV:aI P w K mg base cj 1 jb gX Sj Cr) (gz:Dn K mg "_law_units" nE Sh jJ iU) (DT:aI P w K mg base cj 2 jJ iU Sh (Cf K p.au)) (iN:Dn K mg "cheapest" oR l6 kL iL) {wI:Tok} (yk:Binds K iL l6 [.str (Str.ofString "whole") wI]) (Fw:aI P w K mg base cj 8 kL iL l6 (nv (FZ P w K p.au p.aC p.aG (ua K)))) (cT:Dn K mg "_law_may_begin" jw Sl fu eF) (vY:aI P w K mg base cj 1 fu eF Sl FP) (cC:Dn K mg "_law_holds_from" iQ Si eK dD) (uU:aI P w K mg base cj 4 eK dD Si (FQ K p.au)) (dX:Dn K mg "_law_may_end" k6 Sk ie gg) (zo:aI P w K mg base cj 1 ie gg Sk FO) (dW:Dn K mg "_law_refused" kY K3 ia gb) (zm:aI P w K mg base cj 10 ia gb K3 (IV K p.au (ua K))):aI P w K mg base cj 12 z6 Kn QX (Au K (ua K)):=by
 refine K0.fn.ok j0 (λvs H Q E h=>?_) (λcdv A outer s H vs Q E hr h=>?_)
 ·obtain⟨s,ns,rfl,_⟩:=h
  rfl
 ·obtain⟨s,ns,rfl,ha,hl,hT,kk⟩:=h
  refine⟨_,(aj (aH (i:=1) j0.nd rfl (Or.inl rfl) (jk (aa ak af)))
   (aj (aH (i:=2) j0.nd rfl (Or.inl rfl) (aA BJ (hr.mono (by decide)) rfl fK.m fK.fn.kp fK.b .nil aT (aa (pv 0) (aa (pv 1) af))))
   (aj (aH (i:=3) j0.nd rfl (Or.inl rfl) (aA Am (hr.mono (by decide)) rfl gv.m gv.fn.kp gv.b .nil aT (aa (pv 0) (aa (pv 1) (aa (cH (pv 2) rfl) (aa ak af))))))
   (aj (aH (i:=4) j0.nd rfl (Or.inl rfl) (aA Am (hr.mono (by decide)) rfl gv.m gv.fn.kp gv.b .nil aT (aa (pv 0) (aa (pv 1) (aa (cH (pv 2) rfl) (aa ak af))))))
   (bB (aH (i:=5) j0.nd rfl (Or.inl rfl) (aA BK (hr.mono (by decide)) rfl fL.m fL.fn.kp fL.b .nil aT (aa (aA cA (hr.mono (by decide)) rfl aB.m aB.fn.kp aB.b .nil aT (aa (pv 0) (aa (pv 1) af))) af)))
   (bB (aH (i:=6) j0.nd rfl (Or.inl rfl) (aA pF (hr.mono (by decide)) rfl bT.m bT.fn.kp bT.b .nil aT (aa (pv 2) (aa (pv 3) (aa (pv 4) (aa (pv 5) af))))))
   (bB (bE (nY (eY (aA tV (hr.mono (by decide)) rfl cL.m cL.fn.kp cL.b .nil aT (aa (pv 6) (aa (pv 3) (aa (pv 4) af)))))) bN aP)
   (bB (aH (i:=7) j0.nd rfl (Or.inl rfl) (aA DT (hr.mono (by decide)) rfl gz.m gz.fn.kp gz.b .nil aT (aa (pv 2) (aa (aW bR (aA Fw (hr.mono (by decide)) rfl iN.m iN.fn.kp iN.b .nil aT (aa (pv 2) (aa (pv 3) (aa (pv 4) (aa (pv 5) af))))) ak (λ_ _=>rfl)) af))))
   (aj (aH (i:=8) j0.nd rfl (Or.inl rfl) zQ)
   (bB (cG PassesOwn.never rfl (dw rfl T.iB (aa (aD bZ (az (aU) rfl T.ck bC (aa (pv 3) af)) ak) af)) (aK (i:=9) j0.nd rfl (Or.inl rfl)) (ao (cG PassesOwn.never rfl (dw rfl T.iB (aa (aD bZ (az (aU) rfl T.ck bC (aa (pv 4) af)) ak) af)) (aK (i:=10) j0.nd rfl (Or.inl rfl)) (aj (aH (i:=11) j0.nd rfl (Or.inl rfl) (aW bz (aW bz (pv 6) (pv 9) (λ_ _=>rfl)) (pv 10) (λ_ _=>rfl)))
   (bB (bE (PW.pt (wY (eY (aA vY (hr.mono (by decide)) rfl cT.m cT.fn.kp cT.b .nil aT (aa (pv 5) (aa (pv 9) (aa (pv 10) af))))) (sR (PW.pt (sQ (aL xg (aW bR (pv 11) ak (λ_ _=>rfl)) lN (by with_unfolding_all rfl)) (oV (aL q9 (aW bR (pv 11) ak (λ_ _=>rfl)) ak (aO _)))))))) bN aP)
   (bB (bE (nY (eY (aA uU (hr.mono (by decide)) rfl cC.m cC.fn.kp cC.b .nil aT (aa (pv 2) (aa (pv 3) (aa (pv 4) (aa (pv 6) (aa (pv 9) (aa (pv 10) af))))))))) bN aP)
   (ao (bE (eY (aA zo (hr.mono (by decide)) rfl dX.m dX.fn.kp dX.b .nil aT (aa (pv 5) (aa (pv 3) (aa (pv 4) (aa (pv 9) (aa (pv 10) af))))))) (bB (CH (i:=12) (N:=["_law_number"]) j0.nd rfl (Or.inl rfl) rfl (λ_=>⟨[],cN.plain (by decide +kernel) rfl (by decide +kernel) (by decide +kernel)⟩) (AF (pv 11)) (λ_ _ _ _ _ _ _=>(aK (i:=0) (show(["_law_number"]:List Str).Nodup by decide +kernel) rfl (Or.inl rfl))) (λ_ _ _ _ _ _ _=>(pv 0)) (λ_ _ _ _ _ _ _=>(aL wj (pv 0) lN (by with_unfolding_all rfl))))
   (bB (bE (PW.pt (wY (aL q9 (az (aU) rfl T.ck bC (aa (pv 12) af)) ak (aO _)) (sR (aL qZ (az (Aa rfl) rfl T.BS xT (aa (pv 12) af)) (pv 7) (aO _))))) bN aP)
   (ao (aH (i:=8) j0.nd rfl (Or.inl rfl) (Jl (pv 8) (jj (bQ G6 (pv 7) (pv 12) (by with_unfolding_all rfl)))))))) aP))))))))
   (bB (cZ (lQ PySem.F.plainAttrs_list PySem.F.slot_list_append PySem.F.type_list_append cY (aW bz (pv 6) ak (λ_ _=>rfl)) (aa lN af)))
   (bB (cZ (lQ PySem.F.plainAttrs_list PySem.F.slot_list_append PySem.F.type_list_append cY (pv 6) (aa (jk af) af)))
   (bB (bE (nY (eY (aA tV (hr.mono (by decide)) rfl cL.m cL.fn.kp cL.b .nil aT (aa (aA pF (hr.mono (by decide)) rfl bT.m bT.fn.kp bT.b .nil aT (aa (pv 2) (aa (pv 3) (aa (pv 4) (aa (pv 5) af))))) (aa (pv 3) (aa (pv 4) af)))))) bN aP)
   (ao (aN (jA (pv 8) (jj (aA zm (hr.mono (by decide)) rfl dW.m dW.fn.kp dW.b .nil aT (aa (aA cA (hr.mono (by decide)) rfl aB.m aB.fn.kp aB.b .nil aT (aa (pv 0) (aa (pv 1) af))) (aa (pv 2) (aa (pv 3) (aa (pv 4) af)))))))))))))))))))))),?_⟩
  refine⟨by show 1<=sizeLine;decide,λt ht=>?_⟩
  have hC:wz K (upd H t (.lst [.int 0])) s t ns 0:=by
   refine⟨?_,hl,ah,by decide⟩
   rw[Wo.set]
   exact ai.seq (λb u e=>Wo.in (aM e ht) e) ha
  have Yo:LT (ua K) (upd H t (.lst [.int 0])):=hT.same (ai.upd ht)
  generalize upd H t (.lst [.int 0])=H0 at hC Yo ⊢
  refine⟨_,rfl,_,rfl,s,t,ns,0,rfl,hC,by decide,λx H1 k1 T1 Yt h4 hx w1 ht1 Q3 UO=>?_⟩
  have C1:=hC.off w1 ht1 (by omega)
  obtain⟨sig,_,_,_,_,_,_,dx,Pp,o,mo,d,kvs,Q4,_⟩:=id Yt
  have XI:=Wo.sub _ _ Q4
  refine⟨_,rfl,_,rfl,_,rfl,x,_,dx,_,_,rfl,XI,T.bq,T.fX,o7,s,t,ns,k1,7,T1.1,rfl,C1,by omega,by decide,sig.1,sig.2.1,λf H2 k2 of hf w2 D6 UN Xw=>?_⟩
  have C2:=C1.off w2 D6 (by omega)
  refine⟨_,rfl,_,rfl,_,rfl,x,_,dx,_,_,rfl,Wo.sub _ _ (w2 _ _ Q4),T.bq,T.fX,o7,s,t,ns,k2,7,T1.1,rfl,C2,by omega,by decide,sig.1,sig.2.1,λg H3 k3 og hg w3 Mt Q2 Q0=>?_⟩
  have C3:=C2.off w3 Mt (by omega)
  have w03:=(w1.trans w2).trans w3
  refine⟨λσ H4=>∃m,kc m=true/\σ=[some (.ref s),some (.ref t),some (.ref x),some (.str f),some (.str g),some (.str m),none,none,none,none,none,none,none]/\ai (Wo t H3) (Wo t H4)/\H4 t=some (.lst [.int (k3+1)]),?_,?_⟩
  ·refine⟨_,rfl,_,rfl,s,t,ns,k3,rfl,C3,by omega,λm0 hm0 _=>⟨m0,rfl,hm0,λm H4 hm s4=>⟨m,hm,rfl,?_,s4 _ _ ah⟩⟩⟩
   exact Wo.step s4
  rintro σ H4 ⟨m,hm,rfl,w4,Ms⟩
  have Y6:=w03.trans w4
  have Yn:=Yo.step hC.at_ Y6
  have Q9:=(Yt.same ((w2.trans w3).trans w4)).same Wo.sub
  refine⟨λσ H5=>∃r ls F,σ=[some (.ref s),some (.ref t),some (.ref x),some (.str f),some (.str g),some (.str m),some (.ref r),none,none,none,none,none,none]/\ai H4 H5/\H4 r=none/\(∀l∈ls,H4 l=none)/\H5 r=some (.lst (ls.map V.ref))/\ls.length=f.cps.size+1/\GL H5 F g.cps.size ls/\rF (lK T1 m f g) (Bp m f.cps.size g.cps.size) F,?_,?_⟩
  ·exact⟨_,rfl,_,rfl,_,rfl,_,rfl,x,T1,f,g,m,rfl,Q9,by omega,by omega,λ_ _ _=>⟨by omega,by omega,λr ls F H5 s5 h1 h2 h3 h4 h5 h6=>⟨r,ls,F,rfl,s5,h1,h2,h3,h4,h5,h6⟩⟩,λi j bad=>absurd ⟨of,og⟩ bad.no,λ_ _ z=>by rw[hm]at z;cases z⟩
  rintro σ H5 ⟨r,ls,F,rfl,s5,hrn,X6,ZL,hls,K8,hPa⟩
  have U3:yb H5 F f.cps.size g.cps.size r:=⟨ls,ZL,hls,K8⟩
  refine⟨λσ H6=>σ=[some (.ref s),some (.ref t),some (.ref x),some (.str f),some (.str g),some (.str m),some (.ref r),none,none,none,none,none,none]/\H5=H6,?_,?_⟩
  ·exact⟨_,rfl,_,rfl,_,rfl,r,F,f,g,rfl,U3,by omega,by omega,_,rfl,m5 ⟨rfl,rfl⟩⟩
  rintro σ _ ⟨rfl,rfl⟩
  refine⟨λσ H6=>∃b,fmin (lK T1 m f g).lF (Bp m f.cps.size g.cps.size)=some b/\σ=[some (.ref s),some (.ref t),some (.ref x),some (.str f),some (.str g),some (.str m),some (.ref r),some (.int ((lK T1 m f g).lF b)),none,none,none,none,none]/\Lo P w (ua K) H5 H6,?_,?_⟩
  ·refine⟨_,rfl,_,rfl,_,rfl,_,rfl,_,rfl,x,T1,f,g,m,rfl,Q9.same s5,Yn.same s5,by omega,by omega,λ_ _ _=>⟨by omega,by omega,λq H6 lo _ hch=>?_⟩,λi j bad=>absurd ⟨of,og⟩ bad.no,λ_ _ z=>by rw[hm]at z;cases z⟩
   obtain⟨b,c,pb,hb,hq,hc,_⟩:=hch
   exact⟨q,_,_,_,rfl,rfl,c7.of hq,rfl,x,c,T1,_,rfl,lo.pr (Q9.same s5),hc,Q9.LD m (by omega) (by omega) _,b,hb,rfl,lo⟩
  rintro σ H6 ⟨b,hb,rfl,L7⟩
  have hP6:=L7.pr (Q9.same s5)
  have ok:=E7 T1 m f g
  have hbi:(lK T1 m f g).In (b.1,b.2,112):=by
   have:=iJ.mp (List.mem_filter.mp (m6 hb)).1
   exact⟨this.1,this.2,.inl rfl⟩
  obtain⟨e,hei,hee,hef⟩:=hPa.met ok hb hbi
  have Yr:yb H6 F f.cps.size g.cps.size r:=L7.pp U3
  have lf:f.length<=sizeLine:=Nat.le_trans (show f.cps.size<=12 by omega) (by decide)
  have lg:g.length<=sizeLine:=Nat.le_trans (show g.cps.size<=12 by omega) (by decide)
  refine⟨λσ H7=>∃v9 v10 v11 D4,σ=[some (.ref s),some (.ref t),some (.ref x),some (.str f),some (.str g),some (.str m),some (.ref r),some (.int ((lK T1 m f g).lF b)),some (.bl true),v9,v10,v11,D4]/\ai H6 H7,?_,?_⟩
  ·refine⟨_,rfl,_,_,rfl,⟨lf,rfl⟩,_,_,rfl,rfl,_,rfl,?_,?_,?_⟩
   ·show _<=(f.cps.size:Int)+1
    omega
   ·show(f.cps.size:Int)+1<_
    omega
   have en:(((f.length:Nat):Int)+1).toNat=f.cps.size+1:=by show((f.cps.size:Int)+1).toNat=_;omega
   rw[en]
   refine gO (lo:=0) (n:=f.cps.size+1) (λi σ H7=>∃met v9 v10 v11 D4,σ=[some (.ref s),some (.ref t),some (.ref x),some (.str f),some (.str g),some (.str m),some (.ref r),some (.int ((lK T1 m f g).lF b)),some (.bl met),v9,v10,v11,D4]/\ai H6 H7/\(e.1<i->met=true))
    ⟨false,_,_,_,_,rfl,ai.refl _,λz=>absurd z (Nat.not_lt_zero _)⟩ ?_ ?_
   ·rintro i σ H7 hi ⟨met,v9,v10,v11,D4,rfl,s7,hmet⟩
    refine⟨_,rfl,_,_,rfl,⟨lg,rfl⟩,_,_,rfl,rfl,_,rfl,?_,?_,?_⟩
    ·show _<=(g.cps.size:Int)+1
     omega
    ·show(g.cps.size:Int)+1<_
     omega
    have en:(((g.length:Nat):Int)+1).toNat=g.cps.size+1:=by show((g.cps.size:Int)+1).toNat=_;omega
    rw[en]
    refine gO (lo:=0) (n:=g.cps.size+1) (λj σ H7=>∃met v10 v11 D4,σ=[some (.ref s),some (.ref t),some (.ref x),some (.str f),some (.str g),some (.str m),some (.ref r),some (.int ((lK T1 m f g).lF b)),some (.bl met),some (.int (i:Int)),v10,v11,D4]/\ai H6 H7/\(e.1<i\/(e.1=i/\e.2.1<j)->met=true))
     ⟨met,v10,v11,D4,by rw[Int.zero_add];rfl,s7,λz=>by rcases z with z|⟨_,z⟩;exact hmet z;exact absurd z (Nat.not_lt_zero _)⟩ ?_ ?_
    ·rintro j σ H8 hj ⟨met,v10,v11,D4,rfl,s8,hmet⟩
     have hP8:=hP6.same s8
     have Tz:=Yr.same s8
     obtain⟨ls8,l8,ps8,q8,a1,a2,a3,a4,a5,a6⟩:=Tz.get (a:=i) (b:=j) (c:=112) (k:=0) (by omega) (by omega) rfl
     refine⟨_,rfl,_,rfl,r,_,_,_,rfl,rfl,bP.of a1,a2,_,rfl,l8,_,_,_,rfl,rfl,bP.of a3,by rw[Int.zero_add];exact a4,?_⟩
     refine⟨λσ H9=>σ=[some (.ref s),some (.ref t),some (.ref x),some (.str f),some (.str g),some (.str m),some (.ref r),some (.int ((lK T1 m f g).lF b)),some (.bl met),some (.int (i:Int)),some (.int (j:Int)),some (.ref q8),D4]/\H8=H9,?_,?_⟩
     ·refine⟨_,rfl,_,rfl,_,rfl,m,_,_,rfl,hm,_,rfl,?_⟩
      rw[Int.zero_add]
      cases z:vK m ((i:Int),(j:Int))with
      |false=>exact iC (iC ⟨rfl,rfl⟩)
      |true =>
       obtain⟨n,hn,hle⟩:=hPa.b.YQ (i,j) (List.mem_filter.mpr ⟨iJ.mpr ⟨by show i<=_;omega,by show j<=_;omega⟩,z⟩)
       rw[hn]at a6
       refine mZ ⟨_,rfl,q8,_,_,_,rfl,rfl,c7.of a5,a6,rfl,_,rfl,iC ⟨_,rfl,q8,_,_,_,rfl,rfl,c7.of a5,a6,_,_,rfl,rfl,_,rfl,cE (λz=>absurd z (by show ¬(0:Int)<n;omega)) λ_=>⟨rfl,rfl⟩⟩⟩
     rintro σ _ ⟨rfl,rfl⟩
     refine⟨λσ H9=>σ=[some (.ref s),some (.ref t),some (.ref x),some (.str f),some (.str g),some (.str m),some (.ref r),some (.int ((lK T1 m f g).lF b)),some (.bl met),some (.int (i:Int)),some (.int (j:Int)),some (.ref q8),D4]/\ai H8 H9,?_,?_⟩
     ·refine⟨_,rfl,_,rfl,_,rfl,_,rfl,_,rfl,_,rfl,x,r,T1,F,f,g,m,i,j,rfl,hP8,of,og,by omega,by omega,Tz,by omega,by omega,hPa.ok,λH9 s9=>⟨_,rfl,m5 ⟨rfl,s9⟩⟩⟩
     rintro σ H9 ⟨rfl,s9⟩
     refine⟨_,rfl,_,rfl,_,rfl,_,rfl,_,rfl,m,f,g,_,_,rfl,hm,by omega,by omega,_,rfl,?_⟩
     have Tr:e.1<i\/(e.1=i/\e.2.1<j+1)->(e.1<i\/(e.1=i/\e.2.1<j))\/(e.1=i/\e.2.1=j):=by omega
     cases z:yJ m f g ((i:Int),(j:Int))with
     |false =>
      refine iC ⟨met,_,_,_,rfl,s8.trans s9,λq=>?_⟩
      rcases Tr q with q|⟨q1,q2⟩
      ·exact hmet q
      ·have Tq:yJ m f g ((e.1:Int),(e.2.1:Int))=true:=hee
       rw[q1,q2,z]at Tq
       cases Tq
     |true =>
      refine mZ ⟨λσ vV=>∃l,σ=[some (.ref s),some (.ref t),some (.ref x),some (.str f),some (.str g),some (.str m),some (.ref r),some (.int ((lK T1 m f g).lF b)),some (.bl met),some (.int (i:Int)),some (.int (j:Int)),some (.ref q8),some (.ref l)]/\ai H8 vV/\vV l=some (.lst ((o9 F (i,j)).map V.int)),?_,?_⟩
      ·refine⟨_,rfl,q8,rfl,⟨_,c7.of (s9 _ _ a5)⟩,λl hl=>?_⟩
       have c3:∀k,k<3->∃c,vo[k]? =some c/\vo.getD k 0=c:=λk hk=>⟨_,List.getElem?_eq_getElem (show k<vo.length from hk),nR (List.getElem?_eq_getElem (show k<vo.length from hk))⟩
       refine Be 3 (λk=>(F (i,j,vo.getD k 0)).isSome) (λk=>AX (F (i,j,vo.getD k 0))) hl (by decide) (λk vV Ex hk=>?_) (λvV Ex=>?_) (λk y vV Us R S Ex hk hy hR hS=>?_) λvV Ex JZ=>?_
       ·exact⟨_,_,c7.of (Ex _ _ (s9 _ _ a5)),List.getElem?_eq_getElem hk⟩
       ·exact⟨_,c7.of (Ex _ _ (s9 _ _ a5)),Nat.le_refl _⟩
       ·obtain⟨rfl,hy⟩:=hy
        obtain⟨c,hc,rfl⟩:=zI (hy _ (c7.of (Ex _ _ (s9 _ _ a5))))
        rw[show vo.getD k 0=c from nR hc]at hR hS
        refine⟨Kp.Cy,_,rfl,rfl,_,rfl,?_⟩
        cases hF:F (i,j,c)with
        |none=>rw[hF]at hS;exact iC (hS rfl _ (ai.refl _))
        |some n=>rw[hF]at hR;exact mZ ⟨_,rfl,hR rfl _ (ai.refl _)⟩
       ·exact⟨l,rfl,s9.trans Ex,by rw[JZ,MD F (i,j)]⟩
      rintro σ vV ⟨l,rfl,Ex,JZ⟩
      have hmin:o9 F (i,j)≠[]->(lK T1 m f g).lF b<=tD (o9 F (i,j)):=λne=>by
       obtain⟨c,hc,hF⟩:=Dc.mp (tw ne)
       exact hPa.least hb hF z
      have key:e.1=i/\e.2.1=j->(lK T1 m f g).lF b∈o9 F (i,j):=λ⟨q1,q2⟩=>Dc.mpr ⟨e.2.2,hei.2.2,by rw[←q1,←q2];exact hef⟩
      refine⟨λσ Us=>σ=[some (.ref s),some (.ref t),some (.ref x),some (.str f),some (.str g),some (.str m),some (.ref r),some (.int ((lK T1 m f g).lF b)),some (.bl met),some (.int (i:Int)),some (.int (j:Int)),some (.ref q8),some (.ref l)]/\vV=Us,?_,?_⟩
      ·refine⟨_,rfl,_,_,rfl,.inl ⟨_,bP.of JZ,rfl⟩,_,_,rfl,rfl,_,rfl,cE (λh0=>?_) λ_=>iC ⟨rfl,rfl⟩⟩
       have ne:o9 F (i,j)≠[]:=λz=>by rw[z]at h0;exact absurd h0 (by decide)
       exact⟨_,rfl,l,_,rfl,bP.of JZ,ne,_,rfl,_,_,rfl,rfl,_,rfl,cE (λz=>absurd z (by have:=hmin ne;show ¬tD (o9 F (i,j))<(lK T1 m f g).lF b;omega)) λ_=>⟨rfl,rfl⟩⟩
      rintro σ _ ⟨rfl,rfl⟩
      refine⟨_,rfl,_,rfl,?_⟩
      cases met with
      |true=>exact mZ ⟨true,_,_,_,rfl,s8.trans Ex,λ_=>rfl⟩
      |false =>
       refine iC ⟨_,rfl,_,rfl,l,_,rfl,.inl (bP.of JZ),rfl,?_,_,_,_,_,rfl,s8.trans Ex,λq=>?_⟩
       ·rw[List.all_eq_true]
        intro v hv
        obtain⟨n,_,rfl⟩:=List.mem_map.mp hv
        rfl
       ·rcases Tr q with q|q
        ·exact absurd (hmet q) (by decide)
        ·exact Mm (key q)
    ·rintro σ H8 ⟨met,v10,v11,D4,rfl,s8,hmet⟩
     exact⟨met,_,_,_,_,rfl,s8,λz=>hmet (by have:=hei.2.1;have:(lK T1 m f g).m=g.cps.size:=rfl;omega)⟩
   ·rintro σ H8 ⟨met,v9,v10,v11,D4,rfl,s8,hmet⟩
    have:=hei.1
    have:(lK T1 m f g).n=f.cps.size:=rfl
    rw[hmet (by omega)]
    exact⟨_,_,_,_,rfl,s8⟩
  rintro σ H7 ⟨v9,v10,v11,D4,rfl,s7⟩
  have lo7:Lo P w (ua K) H4 H7:=((Lo.of Yn s5).trans L7).then s7
  have ZK:H7 r=some (.lst (ls.map V.ref)):=s7 _ _ (L7.nx _ _ (Nt.lst ZL))
  have l0:0<ls.length:=by omega
  have Mw:=List.getElem?_eq_getElem l0
  obtain⟨ps0,Mv,S8,_⟩:=(L7.ln (K8 0 _ Mw)).same s7
  have hn0:=X6 _ (List.getElem_mem l0)
  generalize ls[0]=la at Mw Mv hn0
  refine⟨λσ H8=>σ=[some (.ref s),some (.ref t),some (.ref x),some (.str f),some (.str g),some (.str m),some (.ref r),some (.int ((lK T1 m f g).lF b)),some (.bl true),v9,v10,v11,D4]/\Lo P w (ua K) H4 H8/\∃xs,H8 r=some (.lst xs)/\xs.length<=20,?_,?_⟩
  ·refine⟨_,rfl,r,_,_,_,rfl,rfl,bP.of ZK,(show yU (ls.map V.ref) ((0:Nat):Int)=some (V.ref la) from eW (by rw[List.getElem?_map,Mw];rfl)),.inl ⟨rfl,_,bP.of Mv⟩,la,_,_,rfl,rfl,Mv,by rw[List.length_map,S8];exact Nat.lt_of_le_of_lt (show _<=100 by omega) (by decide),rfl,lo7.put hn0 Mv,?_⟩
   by_cases z:r=la
   ·exact⟨_,by rw[z];exact ah,by rw[List.length_append,List.length_map,S8];show g.cps.size+1+1<=20;omega⟩
   ·exact⟨_,by rw[aq z];exact ZK,by rw[List.length_map];omega⟩
  rintro σ H8 ⟨rfl,lo8,xs,XT,hxs⟩
  refine⟨λσ H9=>σ=[some (.ref s),some (.ref t),some (.ref x),some (.str f),some (.str g),some (.str m),some (.ref r),some (.int ((lK T1 m f g).lF b)),some (.bl true),v9,v10,v11,D4]/\Lo P w (ua K) H4 H9,?_,?_⟩
  ·refine⟨_,rfl,.inl ⟨rfl,_,bP.of XT⟩,by show 0<=sizeLine;decide,λq hq=>?_⟩
   have s9:=ai.upd (o:=.lst []) hq
   exact⟨r,_,_,rfl,rfl,s9 _ _ XT,Nat.lt_of_le_of_lt (show _<=100 by omega) (by decide),rfl,(lo8.then s9).put hrn (s9 _ _ XT)⟩
  rintro σ H9 ⟨rfl,Zx⟩
  refine⟨λσ vV=>σ=[some (.ref s),some (.ref t),some (.ref x),some (.str f),some (.str g),some (.str m),some (.ref r),some (.int ((lK T1 m f g).lF b)),some (.bl true),v9,v10,v11,D4]/\Lo P w (ua K) H4 vV,?_,?_⟩
  ·exact⟨_,rfl,_,rfl,_,rfl,_,rfl,x,T1,f,g,m,rfl,Zx.pr Q9,by omega,by omega,λ_ _ _=>⟨by omega,by omega,λr2 ls2 F2 vV Ex h1 h2 h3 h4 h5 h6=>⟨_,rfl,_,rfl,r2,F2,f,g,rfl,⟨ls2,h3,h4,h5⟩,by omega,by omega,_,rfl,m5 ⟨rfl,Zx.then Ex⟩⟩⟩,λi j bad=>absurd ⟨of,og⟩ bad.no,λ_ _ z=>by rw[hm]at z;cases z⟩
  rintro σ vV ⟨rfl,JJ⟩
  have Mu:=JJ.nx _ _ (Nt.lst Ms)
  have Sd:Lo P w (ua K) (Wo t H0) vV:=(Lo.of (Yo.wo hC.at_) (Y6.trans Wo.sub)).trans JJ
  have C10:wz K vV s t ns (k3+1):=Sd.ctr hC Mu (by omega)
  have R9:Lo P w (ua K) (Wo t H4) (Wo t vV):=(JJ.cut Yn Ms).wo Mu
  have Ys:ya K p.au (Wo t vV) x T1:=R9.pr (Yt.same ((w2.trans w3).trans w4))
  refine⟨_,rfl,true,rfl,mZ ⟨_,rfl,_,rfl,s,t,ns,k3+1,rfl,C10,by omega,λm0 hm0 _=>⟨_,rfl,_,rfl,_,rfl,m0,x,T1,f,g,rfl,hm0,?_,JJ.lt.put Mu,h4,of,og,by omega,by omega,λH' s'=>kk H' ((JJ.lt.put Mu).same s')⟩⟩⟩
  have z:ya K p.au (Wo t (L2.upd vV t (.lst [.int (k3+1+1)]))) x T1:=by rw[Wo.set];exact Ys
  exact z.same Wo.sub
end
def jU(K:PySem.W.Frag)(x y:Str)(s:Stmt):Prop:=∃f oc od sl kV dc pm an cd ct,PySem.W.nsIn K mainGlobals x=some (some (.ref f))/\K.lookup f=some ⟨oc,od,.func (PySem.W.fnOf y y (fV s) (dQ s) (ay s) .none kV dc pm an cd ct),sl⟩/\PySem.W.codeIn K cd y=true/\PySem.W.keepIn K (.ref f)=true
theorem jU.mk{K:PySem.W.Frag}{x y:Str}{s:Stmt}{f:Addr}{oc kV dc pm cd ct:Value}{od an:Option Addr}{sl:Array (Option Value)}(a:PySem.W.nsIn K mainGlobals x=some (some (.ref f)))(l:K.lookup f=some ⟨oc,od,.func (PySem.W.fnOf y y (fV s) (dQ s) (ay s) .none kV dc pm an cd ct),sl⟩)(c:PySem.W.codeIn K cd y=true)(k:PySem.W.keepIn K (.ref f)=true):jU K x y s:=⟨f,oc,od,sl,kV,dc,pm,an,cd,ct,a,l,c,k⟩
theorem T5{K:PySem.W.Frag}{h:Heap}{mg:Str->Option Value}{x y:Str}{s:Stmt}{ps:List Str}(X:K.In h)(G:h.Ns mainGlobals mg)(d:jU K x y s)(b:∀(kV doc pm:Value) (an:Option Addr) (cdv ct:Value) (us:List Value),us.length=ps.length->bindArgs (PySem.W.fnOf y y (fV s) (dQ s) (ay s) .none kV doc pm an cdv ct) ⟨us,[]⟩=pure (ps.zip us):=by intro _ _ _ _ _ _ us hl;first|(obtain⟨_,rfl⟩:=GP.Ma hl;exact rfl)|(obtain⟨_,_,rfl⟩:=GP.PZ hl;exact rfl)|(obtain⟨_,_,_,rfl⟩:=GP.JN hl;exact rfl)|(obtain⟨_,_,_,_,rfl⟩:=GP.L8 hl;exact rfl)|(obtain⟨_,_,_,_,_,rfl⟩:=GP.JM hl;exact rfl)|(obtain⟨_,_,_,_,_,_,rfl⟩:=GP.Sf hl;exact rfl)):∃f fd,Da K mg x y s ps f fd:=by
 obtain⟨f,oc,od,sl,kV,dc,pm,an,cd,ct,a,l,c,k⟩:=d
 exact⟨f,_,uL l c k,Binds.all (b kV dc pm an cd ct),PySem.W.mg_of X G a⟩
theorem bF{K:PySem.W.Frag}{h:Heap}{mg:Str->Option Value}{x:Str}{s:Stmt}{ps:List Str}(X:K.In h)(G:h.Ns mainGlobals mg)(d:jU K x x s)(b:∀(kV doc pm:Value) (an:Option Addr) (cdv ct:Value) (us:List Value),us.length=ps.length->bindArgs (PySem.W.fnOf x x (fV s) (dQ s) (ay s) .none kV doc pm an cdv ct) ⟨us,[]⟩=pure (ps.zip us):=by intro _ _ _ _ _ _ us hl;first|(obtain⟨_,rfl⟩:=GP.Ma hl;exact rfl)|(obtain⟨_,_,rfl⟩:=GP.PZ hl;exact rfl)|(obtain⟨_,_,_,rfl⟩:=GP.JN hl;exact rfl)|(obtain⟨_,_,_,_,rfl⟩:=GP.L8 hl;exact rfl)|(obtain⟨_,_,_,_,_,rfl⟩:=GP.JM hl;exact rfl)|(obtain⟨_,_,_,_,_,_,rfl⟩:=GP.Sf hl;exact rfl)):∃f fd,Dn K mg x s ps f fd:=by
 obtain⟨f,fd,e⟩:=T5 X G d b
 exact⟨f,fd,e.fn,e.b,e.m⟩
theorem jU.ns{K:PySem.W.Frag}{h:Heap}{mg:Str->Option Value}{x y:Str}{s:Stmt}(d:jU K x y s)(X:K.In h)(G:h.Ns mainGlobals mg):∀f,mg x=some (.ref f)->PySem.W.nsIn K mainGlobals x=some (some (.ref f)):=λf hf=>by
 obtain⟨f',oc,od,sl,kV,dc,pm,an,cd,ct,a,_⟩:=d
 have e:=(PySem.W.mg_of X G a).symm.trans hf
 cases e
 exact a
def Uw(K:PySem.W.Frag)(x:Str)(s:Stmt)(v:Str):Prop:=∃f oc od sl D u R0 n sl2 kV dc pm an cd ct,PySem.W.nsIn K mainGlobals x=some (some (.ref f))/\K.lookup f=some ⟨oc,od,.func (PySem.W.fnOf x x (fV s) (dQ s) (ay s) (.ref D) kV dc pm an cd ct),sl⟩/\PySem.W.codeIn K cd x=true/\PySem.W.keepIn K (.ref f)=true/\K.lookup D=some ⟨.type "tuple",R0,.seq #[.str v u] n,sl2⟩
theorem Uw.mk {K:PySem.W.Frag} {x v:Str} {s:Stmt} {f D:Addr} {oc kV dc pm cd ct:Value} {od R0 an:Option Addr} {sl sl2:Array (Option Value)} {u:Tok} {n:Nat} (a:PySem.W.nsIn K mainGlobals x=some (some (.ref f))) (l:K.lookup f=some ⟨oc,od,.func (PySem.W.fnOf x x (fV s) (dQ s) (ay s) (.ref D) kV dc pm an cd ct),sl⟩) (c:PySem.W.codeIn K cd x=true) (k:PySem.W.keepIn K (.ref f)=true) (e:K.lookup D=some ⟨.type "tuple",R0,.seq #[.str v u] n,sl2⟩):Uw K x s v:=⟨f,oc,od,sl,D,u,R0,n,sl2,kV,dc,pm,an,cd,ct,a,l,c,k,e⟩
theorem QB{K:PySem.W.Frag}{h:Heap}{mg:Str->Option Value}{x v a1 a2 a3 a4:Str}{s:Stmt}(X:K.In h)(G:h.Ns mainGlobals mg)(d:Uw K x s v)
  (b:∀(D:Addr) (kV doc pm:Value) (an:Option Addr) (cdv ct v1 v2 v3 v4:Value) (sh:Shared) (o:Obj) (u:Tok) (n:Nat),sh.heap.get? D=some o->o.data= .seq #[.str v u] n->BindsTo sh (PySem.W.fnOf x x (fV s) (dQ s) (ay s) (.ref D) kV doc pm an cdv ct) ⟨[v1,v2,v3,v4],[]⟩ [(a1,v1),(a2,v2),(a3,v3),(a4,v4)]:=by intro _ _ _ _ _ _ _ _ _ _ _ _ _ _ _ ho hs;exact BindsTo.of_defaults rfl ho hs rfl rfl)
  (b2:∀(D:Addr) (kV doc pm:Value) (an:Option Addr) (cdv ct v1 v2 v3:Value) (sh:Shared) (o:Obj) (u:Tok) (n:Nat),sh.heap.get? D=some o->o.data= .seq #[.str v u] n->BindsTo sh (PySem.W.fnOf x x (fV s) (dQ s) (ay s) (.ref D) kV doc pm an cdv ct) ⟨[v1,v2,v3],[]⟩ [(a1,v1),(a2,v2),(a3,v3),(a4,.str v u)]:=by intro _ _ _ _ _ _ _ _ _ _ _ _ _ _ ho hs;exact BindsTo.of_defaults rfl ho hs rfl rfl):∃f fd u,Dn K mg x s [a1,a2,a3,a4] f fd/\Binds K fd [a1,a2,a3,a4] [.str v u]:=by
 obtain⟨f,oc,od,sl,D,u,R0,n,sl2,kV,dc,pm,an,cd,ct,a,l,c,k,e⟩:=d
 refine⟨f,_,u,⟨uL l c k,λsh us hX hl=>?_,PySem.W.mg_of X G a⟩,λsh us hX hl=>?_⟩
 ·rw[List.append_nil]at hl ⊢
  obtain⟨v1,v2,v3,v4,rfl⟩:=GP.L8 hl
  exact b D kV dc pm an cd ct v1 v2 v3 v4 sh _ u n (hX _ _ e) rfl
 ·obtain⟨v1,v2,v3,rfl⟩:=GP.JN (show us.length=3 by rw[List.length_append]at hl;exact Nat.succ.inj hl)
  exact b2 D kV dc pm an cd ct v1 v2 v3 sh _ u n (hX _ _ e) rfl
theorem all_mk {l:PySem.W.OpenLaw} {w:World} {K:PySem.W.Frag} {h:Heap} {mg:Str->Option Value} {fa:Addr} (X:K.In h) (G:h.Ns mainGlobals mg) (hfa:mg "law" =some (.ref fa))
  {lU:Tok}
  {nu:Tok}
  {jB:Addr} {CW:Option Addr} {ES:Nat} {Cw:Array (Option Value)} {Cb Ca B9:Tok}
  {kO:Addr} {EI:Option Addr} {Hi:Nat} {Ep:Array (Option Value)} {Ej Ei Eh Eg:Tok}
  {m8:Addr} {LV:Option Addr} {PR:Nat} {Lz:Array (Option Value)} {Lu Ls Lr:Tok}
  {au:Addr}
  {aR:Addr}
  {fQ:Addr}
  {aG:Addr}
  {aC:Addr}
  (u0:pK K "first_begin" =true)
  (u1:pK K "state_behind" =true)
  (u2:PySem.W.nsIn K mainGlobals "FIRST_SIGN" =some (some (.int 32 lU)))
  (u3:PySem.W.nsIn K mainGlobals "LAST_SIGN" =some (some (.int 126 nu)))
  (u4:PySem.W.nsIn K mainGlobals "NO_SIGNS" =some (some (.ref jB)))
  (u5:K.lookup jB=some ⟨.type "tuple",CW,.seq #[.int 34 Cb,.int 37 Ca,.int 45 B9] ES,Cw⟩)
  (u6:PySem.W.nsIn K mainGlobals "MANNERS" =some (some (.ref kO)))
  (u7:K.lookup kO=some ⟨.type "tuple",EI,.seq #[.str (Str.ofString "whole") Ej,.str (Str.ofString "within") Ei,.str (Str.ofString "over") Eh,.str (Str.ofString "stretch") Eg] Hi,Ep⟩)
  (u8:PySem.W.nsIn K mainGlobals "CAME" =some (some (.ref m8)))
  (u9:K.lookup m8=some ⟨.type "tuple",LV,.seq #[.str (Str.ofString "p") Lu,.str (Str.ofString "a") Ls,.str (Str.ofString "b") Lr] PR,Lz⟩)
  (WC:PySem.W.nsIn K mainGlobals "Prices" =some (some (.ref au)))
  (WB:PySem.W.plainGet K au Str.empty=true) (WA:PySem.W.hasDictIn K au=true) (Wz:PySem.W.plainOver K au=true) (Wy:PySem.W.findIn K (.ref au) "__setattr__" =some (some (.builtin "object.__setattr__"))) (Wx:PySem.W.makesIn K au=true) (Ww:PySem.W.keepIn K (.ref au)=true)
  (u17:bM K au "signs")
  (Wv:bM K au "pairs")
  (Wu:bM K au "opening")
  (Wt:bM K au "more")
  (Ws:bM K au "factors")
  (Wr:bM K au "unit")
  (Wq:bM K au "costs")
  (Wn:bM K au "opening_units")
  (Wm:bM K au "more_units")
  (Wl:PySem.W.nsIn K mainGlobals "Ground" =some (some (.ref aR)))
  (Wk:PySem.W.plainGet K aR Str.empty=true) (Wj:PySem.W.hasDictIn K aR=true) (Wi:PySem.W.plainOver K aR=true) (Wh:PySem.W.findIn K (.ref aR) "__setattr__" =some (some (.builtin "object.__setattr__"))) (Wg:PySem.W.makesIn K aR=true) (Wf:PySem.W.keepIn K (.ref aR)=true)
  (We:bM K aR "steps")
  (Wd:bM K aR "begins")
  (Wc:bM K aR "ends")
  (Wb:PySem.W.nsIn K mainGlobals "WeaveError" =some (some (.ref fQ)))
  (Wa:PySem.W.nsIn K mainGlobals "NoManner" =some (some (.ref aG)))
  (u38:PySem.W.excIn K aG [.type "ValueError",.type "Exception",.type "BaseException",.type "object"] "ValueError.__new__" =true)
  (V9:PySem.W.hasDictIn K aG=true) (V8:PySem.W.typeIn K (.ref aG)=some (.type "type")) (V7:PySem.W.mroIn K aG (.type "BaseException")=some true)
  (V6:PySem.W.findIn K (.ref aG) "__getattribute__" =some (some (.builtin "BaseException.__getattribute__")))
  (V5:PySem.W.findIn K (.ref aG) "__getattr__" =some none)
  (V4:PySem.W.hasDictIn K aG=true)
  (V3:PySem.W.findIn K (.ref aG) "__class__" =some (some (.builtin "object.__class__")))
  (V2:PySem.W.specialIn K (.builtin "object.__class__") "__get__" =some (some (.builtin "getset_descriptor.__get__")))
  (V1:PySem.W.takesIn K (.builtin "object.__class__")=some true)
  (V0:PySem.W.mroIn K aG (.type "object")=some true)
  (VZ:PySem.W.mroIn K aG (.type "BaseException")=some true)
  (VY:PySem.W.nsIn K mainGlobals "NoSign" =some (some (.ref aC)))
  (VX:PySem.W.hasDictIn K aC=true) (VW:PySem.W.typeIn K (.ref aC)=some (.type "type")) (VV:PySem.W.mroIn K aC (.type "BaseException")=some true)
  (VU:PySem.W.findIn K (.ref aC) "__getattribute__" =some (some (.builtin "BaseException.__getattribute__")))
  (VT:PySem.W.findIn K (.ref aC) "__getattr__" =some none)
  (VS:PySem.W.hasDictIn K aC=true)
  (VR:PySem.W.findIn K (.ref aC) "__class__" =some (some (.builtin "object.__class__")))
  (VQ:PySem.W.specialIn K (.builtin "object.__class__") "__get__" =some (some (.builtin "getset_descriptor.__get__")))
  (VP:PySem.W.takesIn K (.builtin "object.__class__")=some true)
  (VO:PySem.W.mroIn K aC (.type "object")=some true)
  (VN:PySem.W.mroIn K aC (.type "BaseException")=some true)
  (VM:PySem.W.hasDictIn K aC=true) (VL:((PySem.W.clsIn K aC).any λcd=>rM cd.mro)=true) (VJ:PySem.W.findIn K (.ref aC) "__setattr__" =some (some (.builtin "object.__setattr__"))) (VI:PySem.W.keepIn K (.ref aC)=true)
  (VH:bM K aC "row")
  (VG:bM K aC "place")
  (VF:PySem.W.specialIn K (.ref fQ) "__getattribute__" =some (some (.builtin "type.__getattribute__"))) (VE:PySem.W.readsIn K fQ (.type "type")=true) (VD:PySem.W.findCls K (.ref fQ) (.type "type") "__init__" =some (.val (.builtin "ValueError.__init__")))
  (VC:PySem.W.subIn K (.ref aC) (.ref aC)=some true)
  (VB:PySem.W.subIn K (.ref aG) (.ref aC)=some false)
  (VA:PySem.W.subIn K (.ref aG) (.ref aG)=some true)
  (u74:PySem.W.kitOne K (.ref aC) (.ref aG)=some false)
  (Vz:PySem.W.kitOne K (.ref aG) (.ref aC)=some false)
  {od0 an0:Option Addr} {sl0:Array (Option Value)} {oc0 kV0 dc0 pm0 cd0 ct0:Value} {bh:Addr}
  (Y7:PySem.W.findIn K (.ref aC) "__init__" =some (some (.ref bh))) (Vy:PySem.W.isFn K (.ref bh)=true) (Vx:K.lookup bh=some ⟨oc0,od0,.func (PySem.W.fnOf "__init__" "NoSign.__init__" (fV bV) (dQ bV) (ay bV) .none kV0 dc0 pm0 an0 cd0 ct0),sl0⟩) (Vw:PySem.W.codeIn K cd0 "NoSign.__init__" =true) (Vv:PySem.W.keepIn K (.ref bh)=true)
  (u81:jU K "greatest_divisor" "greatest_divisor" cX)
  (Vu:jU K "lowest" "lowest" sN)
  (Vt:jU K "is_sign" "is_sign" qK)
  (Vs:jU K "are_signs" "are_signs" nK)
  (Vr:jU K "check_signs" "check_signs" lu)
  (Vq:jU K "check_lengths" "check_lengths" jx)
  (Vp:jU K "lowest_price" "lowest_price" iI)
  (Vo:jU K "lowest_prices" "lowest_prices" ju)
  (Vn:jU K "all_unders" "all_unders" mF)
  (Vm:jU K "unit_factors" "unit_factors" j4)
  (Vl:jU K "product_of" "product_of" lZ)
  (Vk:jU K "by_unit" "by_unit" oA)
  (Vj:jU K "costs_by_signs" "costs_by_signs" iR)
  {Xc YS:Option Addr} {WV:Array (Option Value)} {Xf Xv YK W6 T9 YO:Value} {bx:Addr}
  (Vi:PySem.W.findIn K (.ref au) "__init__" =some (some (.ref bx))) (Vh:PySem.W.isFn K (.ref bx)=true) (Vg:K.lookup bx=some ⟨Xf,Xc,.func (PySem.W.fnOf "__init__" "Prices.__init__" (fV bU) (dQ bU) (ay bU) .none Xv YK W6 YS T9 YO),WV⟩) (Vf:PySem.W.codeIn K T9 "Prices.__init__" =true) (Ve:PySem.W.keepIn K (.ref bx)=true)
  (Vd:jU K "unit_of" "unit_of" qG)
  (OW:jU K "pair_cost" "pair_cost" lC)
  (OV:jU K "opening_cost" "opening_cost" iH)
  (OU:jU K "more_cost" "more_cost" lD)
  (OT:jU K "in_units" "in_units" oQ)
  (OS:jU K "check_known" "check_known" ly)
  (OR:jU K "check_rows" "check_rows" mD)
  (OQ:jU K "check_manner" "check_manner" j7)
  (OP:jU K "alone_cost" "alone_cost" mE)
  (OO:jU K "may_begin" "may_begin" nD)
  (ON:jU K "may_end" "may_end" qH)
  (OM:jU K "all_places" "all_places" mG)
  (OL:jU K "steps_from" "steps_from" lY)
  (OJ:jU K "all_steps" "all_steps" nL)
  (OI:jU K "all_ends" "all_ends" oS)
  {Xb YR:Option Addr} {WU:Array (Option Value)} {Xe Xu YJ W5 T8 YN:Value} {aS:Addr}
  (OH:PySem.W.findIn K (.ref aR) "__init__" =some (some (.ref aS))) (OG:PySem.W.isFn K (.ref aS)=true) (OF:K.lookup aS=some ⟨Xe,Xb,.func (PySem.W.fnOf "__init__" "Ground.__init__" (fV bK) (dQ bK) (ay bK) .none Xu YJ W5 YR T8 YN),WU⟩) (OD:PySem.W.codeIn K T8 "Ground.__init__" =true) (OC:PySem.W.keepIn K (.ref aS)=true)
  (OB:jU K "least_rests" "least_rests" kX)
  (OA:jU K "ends_there" "ends_there" mz)
  (Ll:jU K "first_begin" "first_begin" k9)
  (Lk:jU K "state_behind" "state_behind" j5)
  (Oz:jU K "first_moves" "first_moves" k8)
  (u124:Uw K "cheapest" oR (Str.ofString "whole"))
  (Ox:jU K "least_numbers" "least_numbers" jv)
  (Ow:jU K "numbers_at" "numbers_at" mh)
  (Ov:jU K "paper_of" "paper_of" mT)
  (Ou:jU K "_law_next" "_law_next" fR)
  (Ot:jU K "_law_great" "_law_great" nJ)
  (Oq:jU K "_law_signs" "_law_signs" nG)
  (Oo:jU K "_law_price" "_law_price" nH)
  (Om:jU K "_law_table" "_law_table" nF)
  (Ol:jU K "_law_prices" "_law_prices" mj)
  (Oj:jU K "_law_row" "_law_row" qI)
  (Oi:jU K "_law_manner" "_law_manner" mq)
  (Oh:jU K "_law_same" "_law_same" mU)
  (Og:jU K "_law_gap" "_law_gap" qJ)
  (Oe:jU K "_law_may_begin" "_law_may_begin" jw)
  (Od:jU K "_law_may_end" "_law_may_end" k6)
  (Oc:jU K "_law_formed" "_law_formed" mw)
  (Ob:jU K "_law_holds_from" "_law_holds_from" iQ)
  (Oa:jU K "_law_units" "_law_units" nE)
  (N9:jU K "_law_refusal" "_law_refusal" kZ)
  (N8:jU K "_law_odd_rows" "_law_odd_rows" j6)
  (N7:jU K "_law_refused" "_law_refused" kY)
  {Xa Ua:Option Addr} {WT:Array (Option Value)} {Xd SO T3 RW QE T6:Value} {z6:Addr}
  (Lj:PySem.W.nsIn K mainGlobals "law" =some (some (.ref z6))) (N6:K.lookup z6=some ⟨Xd,Xa,.func (PySem.W.fnOf "law" "law" (fV qW) (dQ qW) (ay qW) .none SO T3 RW Ua QE T6),WT⟩) (N5:PySem.W.codeIn K QE "law" =true) (N4:PySem.W.keepIn K (.ref z6)=true)
  (Li:Fc K aC bh=true)
  (N3:PySem.W.nsIn K mainGlobals "abs" =some none)
  (N2:PySem.W.nsIn K mainGlobals "len" =some none)
  (N1:PySem.W.nsIn K mainGlobals "ord" =some none)
  (NZ:PySem.W.nsIn K mainGlobals "set" =some none)
  (NY:PySem.W.nsIn K mainGlobals "tuple" =some none)
  (NX:PySem.W.nsIn K mainGlobals "zip" =some none)
  (NW:PySem.W.nsIn K mainGlobals "enumerate" =some none)
  (NV:PySem.W.nsIn K mainGlobals "range" =some none)
  (NU:PySem.W.nsIn K mainGlobals "isinstance" =some none)
  (NT:PySem.W.nsIn K mainGlobals "int" =some none)
  (NS:PySem.W.nsIn K mainGlobals "bool" =some none)
  (NQ:PySem.W.nsIn K mainGlobals "all" =some none)
  (NP:PySem.W.nsIn K mainGlobals "list" =some none)
  (NO:PySem.W.nsIn K mainGlobals "str" =some none)
  (NN:PySem.W.nsIn K mainGlobals "min" =some none)
  (NL:PySem.W.nsIn K mainGlobals "reversed" =some none)
  : ∃fd:FuncData,(∀(s:Shared) (v:Value),BindsTo s fd ⟨[v],[]⟩ [("_law_script",v)])/\∀base:Heap,K.In base->base.Ns mainGlobals mg->NH base mg->aI l.prog w K mg base cj 12 fa fd QX (Au K (ua K)):=by
 have e:=hfa.symm.trans (PySem.W.mg_of X G Lj)
 cases e
 obtain⟨p,hp⟩:∃p:Pm,p=(⟨lU,nu,jB,kO,m8,au,aR,fQ,aG,aC⟩:Pm):=⟨_,rfl⟩
 have t7:=uL (st:=bV) Vx Vw Vv
 have dH:Dm K "__init__" "NoSign.__init__" bV QY _ _:=⟨t7,Binds.all (ps:=QY) λus hl=>by obtain⟨_,_,_,rfl⟩:=GP.JN hl;exact rfl⟩
 obtain⟨br,aZ,aJ⟩:=bF (ps:=Me) X G u81
 obtain⟨oH,mK,lH⟩:=bF (ps:=SN) X G Vu
 obtain⟨mR,kJ,jS⟩:=bF (ps:=["sign"]) X G Vt
 obtain⟨jO,iZ,gD⟩:=bF (ps:=["text"]) X G Vs
 obtain⟨iw,gj,dZ⟩:=bF (ps:=["signs"]) X G Vr
 obtain⟨fz,eG,cU⟩:=bF (ps:=SK) X G Vq
 obtain⟨cJ,cg,bu⟩:=bF (ps:=l7) X G Vp
 obtain⟨fk,eB,cR⟩:=bF (ps:=["row"]) X G Vo
 obtain⟨jg,g7,fO⟩:=bF (ps:=SM) X G Vn
 obtain⟨gm,e7,c8⟩:=bF (ps:=["unders"]) X G Vm
 obtain⟨i7,gQ,fH⟩:=bF (ps:=["factors"]) X G Vl
 obtain⟨je,gF,cO⟩:=bF (ps:=P1) X G Vk
 obtain⟨eL,dF,cD⟩:=bF (ps:=SJ) X G Vj
 have tZ:=uL (st:=bU) Vg Vf Ve
 have dG:Dm K "__init__" "Prices.__init__" bU QZ _ _:=⟨tZ,Binds.all (ps:=QZ) λus hl=>by obtain⟨_,_,_,_,_,rfl⟩:=GP.JM hl;exact rfl⟩
 obtain⟨mL,kF,jQ⟩:=bF (ps:=l5) X G Vd
 obtain⟨fE,dO,cB⟩:=bF (ps:=P0) X G OW
 obtain⟨cI,b9,bD⟩:=bF (ps:=l5) X G OV
 obtain⟨fF,dP,bA⟩:=bF (ps:=l5) X G OU
 obtain⟨kK,jG,iM⟩:=bF (ps:=SI) X G OT
 obtain⟨iy,gk,d8⟩:=bF (ps:=SH) X G OS
 obtain⟨jd,gZ,fN⟩:=bF (ps:=SG) X G OR
 obtain⟨gu,fj,dh⟩:=bF (ps:=["manner"]) X G OQ
 obtain⟨jf,g6,cM⟩:=bF (ps:=SE) X G OP
 obtain⟨jI,iT,gy⟩:=bF (ps:=SD) X G OO
 obtain⟨mO,kG,jR⟩:=bF (ps:=SA) X G ON
 obtain⟨jh,g8,fP⟩:=bF (ps:=Sz) X G OM
 obtain⟨i6,gP,fG⟩:=bF (ps:=Sy) X G OL
 obtain⟨jP,i0,gE⟩:=bF (ps:=Sx) X G OJ
 obtain⟨kN,jH,iO⟩:=bF (ps:=Sw) X G OI
 have t8:=uL (st:=bK) OF OD OC
 have bL:Dm K "__init__" "Ground.__init__" bK Nb _ _:=⟨t8,Binds.all (ps:=Nb) λus hl=>by obtain⟨_,_,_,_,_,rfl⟩:=GP.JM hl;exact rfl⟩
 obtain⟨g9,f6,dU⟩:=bF (ps:=l9) X G OB
 obtain⟨jc,gY,fM⟩:=bF (ps:=K5) X G OA
 obtain⟨iu,gi,c6⟩:=bF (ps:=Sv) X G Ll
 obtain⟨gp,ff,cK⟩:=bF (ps:=K5) X G Lk
 obtain⟨ig,gh,dY⟩:=bF (ps:=Su) X G Oz
 obtain⟨kL,iL,wI,iN,yk⟩:=QB (a1:= "prices") (a2:= "first") (a3:= "second") (a4:= "manner") X G u124
 obtain⟨fq,eE,cS⟩:=bF (ps:=l9) X G Ox
 obtain⟨i8,gT,fJ⟩:=bF (ps:=Ss) X G Ow
 obtain⟨gG,fD,bT⟩:=bF (ps:=l6) X G Ov
 obtain⟨bw,aX,aB⟩:=bF (ps:=l4) X G Ou
 obtain⟨jN,iY,gC⟩:=bF (ps:=l4) X G Ot
 obtain⟨jL,iW,gB⟩:=bF (ps:=K4) X G Oq
 obtain⟨jM,iX,bX⟩:=bF (ps:=Sq) X G Oo
 obtain⟨jK,iV,gA⟩:=bF (ps:=K4) X G Om
 obtain⟨i9,gU,fK⟩:=bF (ps:=l4) X G Ol
 obtain⟨mP,kH,gv⟩:=bF (ps:=So) X G Oj
 obtain⟨ja,gW,fL⟩:=bF (ps:=["_law_m"]) X G Oi
 obtain⟨fT,dR,bJ⟩:=bF (ps:=Na) X G Oh
 obtain⟨mQ,kI,gw⟩:=bF (ps:=Sn) X G Og
 obtain⟨fu,eF,cT⟩:=bF (ps:=Sl) X G Oe
 obtain⟨ie,gg,dX⟩:=bF (ps:=Sk) X G Od
 obtain⟨jb,gX,cL⟩:=bF (ps:=Sj) X G Oc
 obtain⟨eK,dD,cC⟩:=bF (ps:=Si) X G Ob
 obtain⟨jJ,iU,gz⟩:=bF (ps:=Sh) X G Oa
 obtain⟨ic,gf,b8⟩:=bF (ps:=Sg) X G N9
 obtain⟨gq,fh,c9⟩:=bF (ps:=K3) X G N8
 obtain⟨ia,gb,dW⟩:=bF (ps:=K3) X G N7
 have Uu:=uL (st:=qW) N6 N5 N4
 have K0:Dn K mg "law" qW QX _ _:=⟨Uu,Binds.all (ps:=QX) λus hl=>by obtain⟨_,rfl⟩:=GP.Ma hl;exact rfl,PySem.W.mg_of X G Lj⟩
 have ye:YU K p.aC bh:=by subst hp;exact⟨BW Li,Vy,VI⟩
 have yd:Mk K p.au bx:=by subst hp;exact⟨Wx,Vi,Vh,Ww⟩
 have oK:Mk K p.aR aS:=by subst hp;exact⟨Wg,OH,OG,Wf⟩
 refine⟨PySem.W.fnOf "law" "law" (fV qW) (dQ qW) (ay qW) .none SO T3 RW Ua QE T6,λs v=>.of_eq rfl,λbase _ _ bb=>?_⟩
 have T:Txt K mg p base:=by subst hp;exact⟨PySem.W.mg_none_of X G N3,PySem.W.mg_none_of X G N2,PySem.W.mg_none_of X G N1,PySem.W.mg_none_of X G NZ,PySem.W.mg_none_of X G NY,PySem.W.mg_none_of X G NX,PySem.W.mg_none_of X G NW,PySem.W.mg_none_of X G NV,PySem.W.mg_none_of X G NU,PySem.W.mg_none_of X G NT,PySem.W.mg_none_of X G NS,PySem.W.mg_none_of X G NQ,PySem.W.mg_none_of X G NP,PySem.W.mg_none_of X G NO,PySem.W.mg_none_of X G NN,PySem.W.mg_none_of X G NL,PySem.W.mg_of X G u2,PySem.W.mg_of X G u3,PySem.W.mg_of X G u4,λH=>.inr ⟨_,_,_,u5,rfl,rfl,(by show 3<=sizeLine;decide),.cons ⟨_,rfl⟩ (.cons ⟨_,rfl⟩ (.cons ⟨_,rfl⟩ (.nil)))⟩,PySem.W.mg_of X G u6,λH=>.inr ⟨_,_,_,u7,rfl,rfl,(by show 4<=sizeLine;decide),.cons ⟨_,rfl⟩ (.cons ⟨_,rfl⟩ (.cons ⟨_,rfl⟩ (.cons ⟨_,rfl⟩ (.nil))))⟩,PySem.W.mg_of X G u8,λH=>.inr ⟨_,_,_,u9,rfl,rfl,(by show 3<=sizeLine;decide),.cons ⟨_,rfl⟩ (.cons ⟨_,rfl⟩ (.cons ⟨_,rfl⟩ (.nil)))⟩,PySem.W.mg_of X G WC,⟨WB,WA,Wz,Wy⟩,u17,Wv,Wu,Wt,Ws,Wr,Wq,Wn,Wm,PySem.W.mg_of X G Wl,⟨Wk,Wj,Wi,Wh⟩,We,Wd,Wc,PySem.W.mg_of X G Wb,PySem.W.mg_of X G Wa,Lh u38,⟨V9,V8,V7⟩,⟨V6,V5,V4,V3,V2,V1,V0,VZ⟩,PySem.W.mg_of X G VY,⟨VX,VW,VV⟩,⟨VU,VT,VS,VR,VQ,VP,VO,VN⟩,⟨VM,VL,VJ⟩,⟨_,BW Li⟩,VH,VG,⟨VF,VE,VD⟩,VC,VB,VA,u74,Vz,bb,u0,Ll.ns X G,u1,Lk.ns X G⟩
 have jD:=qR (P:=l.prog) (w:=w) (base:=base) T aJ
 have KQ:=G7 T lH aJ jD
 have qA:=vH T bu lH KQ
 have vP:=uw T cR bu qA
 have BD:=yG (P:=l.prog) (w:=w) (base:=base) T fO
 have xY:=vE T c8 aJ jD
 have Bv:=yx (P:=l.prog) (w:=w) (base:=base) T fH
 have Ak:=EH (P:=l.prog) (w:=w) (base:=base) T cO
 have HX:=EG (P:=l.prog) (w:=w) (base:=base) T jS
 have DP:=AV T gD jS HX
 have zj:=xx T dZ gD DP
 have vS:=uz (P:=l.prog) (w:=w) (base:=base) T cU
 have uQ:=sW T cD cO Ak
 have HS:=EC (P:=l.prog) (w:=w) (base:=base) T jQ
 have vt:=AL (P:=l.prog) (w:=w) (base:=base) T cB
 have qz:=vG (P:=l.prog) (w:=w) (base:=base) T bD
 have vv:=AM (P:=l.prog) (w:=w) (base:=base) T bA
 have Fo:=CT T iM aJ jD
 have tR:=rX T dG dZ zj cU vS cR vP bu qA fO BD c8 xY fH Bv cD uQ cO Ak
 have tS:=rY (P:=l.prog) (w:=w) (base:=base) T dH
 have vU:=uA T d8 dH ye tS
 have x9:=vJ T fN d8 vU
 have BC:=yF T cM bA vv bD qz
 have DJ:=AN (P:=l.prog) (w:=w) (base:=base) T gy
 have HU:=ED (P:=l.prog) (w:=w) (base:=base) T jR
 have uR:=sX (P:=l.prog) (w:=w) (base:=base) T dh
 have BE:=yH (P:=l.prog) (w:=w) (base:=base) T fP
 have Bt:=yw T fG cB vt cM BC
 have DQ:=AW T gE fG Bt
 have Fq:=CV T iO jR HU
 have nU:=rZ T bL fN x9 dh uR fP BE gE DQ gy DJ iO Fq
 have yW:=xh (P:=l.prog) (w:=w) (base:=base) T dU
 have BB:=yE (P:=l.prog) (w:=w) (base:=base) T fM
 have zh:=xw (P:=l.prog) (w:=w) (base:=base) T c6
 have xZ:=vF (P:=l.prog) (w:=w) (base:=base) T cK
 have zd:=xu T dY fM BB cK xZ
 have Fp:=CU T iN bL oK nU dU yW c6 zh iM Fo dY zd
 have vQ:=ux (P:=l.prog) (w:=w) (base:=base) T cS
 have Bw:=yy (P:=l.prog) (w:=w) (base:=base) T fJ
 have x6:=CP T bT bL oK nU cS vQ fJ Bw
 have jC:=CQ (P:=l.prog) (w:=w) (base:=base) T aB
 have DO:=AU T gC aB jC
 have DM:=AR T gB aB jC
 have DN:=AS T bX aB jC gC DO
 have DL:=AQ T gA aB jC gB DM bX DN
 have Bx:=yz T fK aB jC gA DL dG yd tR
 have HV:=EE T gv aB jC
 have By:=yC (P:=l.prog) (w:=w) (base:=base) T fL
 have yX:=xj (P:=l.prog) (w:=w) (base:=base) T bJ
 have tQ:=rj (d:=0) T bJ yX
 have MK:=rj (d:=1) T bJ tQ
 have HW:=EF T gw bA vv bD qz
 have vR:=uy (P:=l.prog) (w:=w) (base:=base) T cT
 have y9:=xr (P:=l.prog) (w:=w) (base:=base) T dX
 have BA:=yD (P:=l.prog) (w:=w) (base:=base) T cL
 have uP:=sV T cC cB vt gw HW
 have DK:=AO T gz jQ HS
 have yZ:=xq T b8 bT x6
 have x8:=vI (P:=l.prog) (w:=w) (base:=base) T c9
 have yY:=xm T dW b8 yZ c9 x8 bJ tQ
 have Uc:=Pz T K0 fK Bx gv HV fL By aB jC bT (aI.nv x6) cL BA gz DK iN yk (aI.nv Fp) cT vR cC uP dX y9 dW yY
 exact Uc
theorem walk{l:PySem.W.OpenLaw}{q:Program}{loose:List Str}{XP:(Str->Option Value)->Heap->Prop}{YP:World->Heap->Prop}{d:DefRec}{K:Params->PySem.W.Frag}(hn:l.most=some 63)(hdf:d.params.defaults=[])
  (hY:∀(w:World) (h:Heap),YP w h->(K w.params).In h) (hY1:∀(w:World) (h:Heap),YP w h->h.get? (eN (K w.params) "first_begin")=some (PySem.W.tabObj #[])) (hY2:∀(w:World) (h:Heap),YP w h->h.get? (eN (K w.params) "state_behind")=some (PySem.W.tabObj #[])) (Yx:∀w:World,pK (K w.params) "first_begin" =true) (Yw:∀w:World,pK (K w.params) "state_behind" =true)
  (hne:∀w:World,Nat.beq (eN (K w.params) "first_begin") (eN (K w.params) "state_behind")=false) (hG:∀w:World,PySem.W.nsIn (K w.params) mainGlobals "GAP" =some none)
  (F:∀(w:World) (mg:Str->Option Value) (fa:Addr) (h:Heap),(K w.params).In h->h.Ns mainGlobals mg->mg d.name=some (.ref fa) →
   ∃fd:FuncData,(∀(s:Shared) (u:Value),BindsTo s fd ⟨[u],[]⟩ [("_law_script",u)])/\∀base:Heap,(K w.params).In base->base.Ns mainGlobals mg->NH base mg->aI l.prog w (K w.params) mg base cj 12 fa fd QX (Au (K w.params) (ua (K w.params)))) :
  PySem.W.WalkO q loose XP YP l.row.toRowW d [] (λf vs=>PySem.call f vs) :=
 L2.Iz (n:=63) (k:=12) (x:= "_law_script") (nms:=["first_begin","state_behind"]) (CX:=λ_=>cj) (sp:=λw=>Au (K w.params) (ua (K w.params))) hn (by decide) hdf ⟨rfl,by decide,by decide⟩ hY (λw h Y=>Ao (hY1 w h Y) (hY2 w h Y)) (λw=>Ao (Yx w) (Yw w)) hG F
  (λw H a ns hl hT hS=>⟨a,ns,rfl,hS,hl,⟨.inl (hT _ List.mem_cons_self),.inl (hT _ (List.mem_cons_of_mem _ List.mem_cons_self)),Nat.ne_of_beq_eq_false (hne w)⟩,λH' ZX=>⟨rfl,Ao (B7 ZX.a) (B7 ZX.b)⟩⟩) λ_ _ _ _ _ z=>z
end Ut
namespace PySem.W.Fast
def tw6195962679025700009:=0
def tw17641431037719582253:=0
def tw10567657793563095977:=0
def tw13210534750050184092:=0
def tw9475460068794144095:=0
def tw2107884523884953221:=0
def tw18050473106952140641:=0
def tw9103449607734549784:=0
def tw17024679923709894736:=0
def tw5156004133524733698:=0
def tw3595932832892768641:=0
def tw18369220093328104283:=0
def tw9760769632520701460:=0
def tw11390870338769808417:=0
def tw14760982803891702843:=0
def tw7692341548156064894:=0
def tw614755502406325081:=0
def tw11691728125757724867:=0
def tw18414601757011505391:=0
def tw5134436101261491359:=0
def tw350213025485936392:=0
def tw16882886002716780002:=0
def tw17372058149647406705:=0
def tw16022278710227657498:=0
def tw3820973974389137444:=0
def tw14502065722457882551:=0
def tw5540830748791466778:=0
def tw7890290330598691340:=0
def tw5993221339123830847:=0
def tw9851817927674482366:=0
def tw30871611236760038:=0
def tw4473302312941028756:=0
def tw8690413386784588258:=0
def tw11407296610396280707:=0
def tw8933008585261055848:=0
def tw2865750563903627249:=0
def tw668662338488586128:=0
def tw7529710805180333462:=0
def tw18415582553662087125:=0
def tw8659874085840371344:=0
def tw12804622943827076457:=0
def tw301762006794939289:=0
def tw16760138141196898486:=0
def tw15096363306313803920:=0
def tw16580373047751044824:=0
def tw1027473113047831161:=0
def tw7625390329270807912:=0
def tw14351689829761544473:=0
def tw5664236510831778710:=0
def tw10701873040761050116:=0
def tw4585172423419245550:=0
def tw3571901651581393375:=0
def tw3595919224115580988:=0
def tw13700304944132603499:=0
def tw7695599270252360084:=0
def tw14502609057334064222:=0
def tw5953660689652890936:=0
def tw14525670508916947737:=0
def tw7712500032508040729:=0
def tw5115281594291688961:=0
def tw9915617558743302078:=0
def tw10813722159890477444:=0
def tw1916255231884487085:=0
def tw6832053945104707460:=0
def tw7359036896529325663:=0
def tw8702999813976722874:=0
def tw334167438025362256:=0
def tw12973174219162144245:=0
def tw15422902819778126688:=0
def tw209252108127506601:=0
def tw14146703348737922668:=0
def tw4989577561725840280:=0
def tw13117865479255781194:=0
def tw5404167782838533373:=0
def tw6081612867067346986:=0
def tw4326402774783044183:=0
def tw10116241244498646283:=0
def tw7832553246287621771:=0
def tw12840349881990563366:=0
def tw17166582015012099402:=0
def tw15481975921287332992:=0
def tw15852120331410240585:=0
def tw5824314615710764080:=0
def tw15022386107905481697:=0
def tw14415629745348231049:=0
def tw4106918577871871726:=0
def tw15507396354451835624:=0
def tw5689175724937517086:=0
def tw10162891890573431269:=0
def tw17206020798425978684:=0
def tw18064425254356667260:=0
def tw13488170347249366518:=0
def tw15563805611709574364:=0
def tw12478731148609488875:=0
def tw13790131451745634612:=0
def tw2892770578529237300:=0
def tw5187381562987418245:=0
def tw6808678965740971537:=0
def tw4188232438425306442:=0
def tw17616106926541468859:=0
def tw15890371165314898106:=0
def tw16167223637087964435:=0
def tw17061490448547602678:=0
def tw12831699770368668393:=0
def tw12940345029339259675:=0
def tw14158698263102955417:=0
def tw12608675320178176123:=0
def tw8822861769656404667:=0
def tw1538706255619444215:=0
def tw15396574757524851480:=0
def tw6261877294960457337:=0
def tw5901598645341149451:=0
def tw3265484627398794767:=0
def tw103430750293717535:=0
def tw18122221917813260017:=0
def tw8867119549239592472:=0
def tw2878200320760187216:=0
def tw1687815844285000351:=0
def tw16282076724733563738:=0
def tw15676109611230360743:=0
def tw12629992820873250826:=0
def tw12548368742711777757:=0
def tw17269177910517185689:=0
def tw13022522331199260232:=0
def tw12023371340980693455:=0
def tw16254604976680451266:=0
def tw15608200068413582560:=0
def tw14223715994199885368:=0
def tw8970165371815164580:=0
def tw1314083459764883915:=0
def tw3937490043749187532:=0
def tw15100928568477841715:=0
def tw11503227468232167908:=0
def tw3180095900372933257:=0
def tw7739504028966588133:=0
def tw15513697325210009509:=0
def tw15075600449646741992:=0
def tw17505603771986882201:=0
def tw12406061187860212560:=0
def tw13087313841424863325:=0
def tw285219753785409490:=0
def tw3578069388548218949:=0
def tw14302507501365586783:=0
def tw2813289854667741836:=0
def tw5055285633236049939:=0
def tw14476049860551266010:=0
def tw837244216353047173:=0
def tw3315132486482102263:=0
def tw9572957643340711103:=0
def tw607443904143787168:=0
def tw12817738075680672751:=0
def tw12999478283343238926:=0
def tw7778978692172348341:=0
def tw12928912608513373777:=0
def tw8443568237360573600:=0
def tw1472493538075828067:=0
def tw15271417689755968312:=0
def tw10532217802507129892:=0
def tw11428796742695298271:=0
def tw2166678328877815409:=0
def tw7086023024886947644:=0
def tw5388275098492161682:=0
def tw14453805153801592808:=0
def tw6241021908411093766:=0
def tw4020910951342034878:=0
def tw3450579744367566330:=0
def tw14010658379114248684:=0
def tw7573228805822737103:=0
def tw15907502791424856166:=0
def tw3052977631818774665:=0
def tw8639373429477276776:=0
def tw8856803246669624450:=0
def tw467825074250546896:=0
def tw9607902823918453472:=0
def tw523168020334691178:=0
def tw17590570944245700677:=0
def tw17510937712410572379:=0
def tw6185284758667822843:=0
def tw6616287344719069113:=0
def tw13233824881792745511:=0
def tw7764159748187678649:=0
def tw17123600887391256608:=0
def tw7613735757326599215:=0
def tw6221249412408311944:=0
def tw5097883384555060094:=0
def tw5571818697302298704:=0
def tw2992968958436706639:=0
def tw6220315812838625049:=0
def tw5969726187253160123:=0
def tw6419977230187592422:=0
def tw11049523954569430021:=0
def tw10283232390004114788:=0
def tw1866595521730388803:=0
def tw6589685250264146044:=0
def tw17123986897343719729:=0
def tw9829101453241330235:=0
def tw17976840087746427065:=0
def tw17694503208050135934:=0
def tw17395514173643237177:=0
def tw8920980804898913944:=0
def tw10971436907457765818:=0
def tw10681710012646111371:=0
def tw4210171951541139822:=0
def tw12419879105722647021:=0
def tw12763631886966969666:=0
def tw10004227541205240306:=0
def tw10366061681601602588:=0
def tw12542196201515203072:=0
def tw9087198818212408561:=0
def tw10960993077869860589:=0
def tw12333591103731582939:=0
def tw12609699326405631814:=0
def tw15002425283260211844:=0
def tw15537320726872897627:=0
def tw210097057193371440:=0
def tw12995580859160928618:=0
def tw11807465746951866996:=0
def tw4627079429474925325:=0
def tw7923708462444181961:=0
def tw11338178298637480896:=0
def tw14047534947871294407:=0
def tw16791500010929433491:=0
def tw3304665623501089823:=0
def tw410396561971753384:=0
def tw14866368741170161519:=0
def tw6973218303333114183:=0
def tw396057134471816260:=0
def tw10029693533112019691:=0
def tw16729642021160343054:=0
def tw2083742513251965911:=0
def tw18256168756709739429:=0
def tw7003440858083768719:=0
def tw17695085427565837362:=0
def tw318775327866972160:=0
def tw5487501697583705529:=0
def tw1337647418251145407:=0
def tw3409017418495675668:=0
def tw8262799761434863930:=0
def tw8037800510729745702:=0
def tw8564308181703344829:=0
def tw2755353664811144000:=0
def tw6735513134899743209:=0
def tw3999239697631491620:=0
def tw14984165828233896298:=0
def tw10207115617270510853:=0
def tw11444241589888701514:=0
def tw13591702811513835208:=0
def tw4212767493152085724:=0
def tw6356899232878057473:=0
def tw10633907603587119002:=0
def tw4719813320056733831:=0
def tw13892844184630742711:=0
def tw18313927856280642259:=0
def tw12161918834695968577:=0
def tw17992225819805181433:=0
def tw9413071168357433237:=0
def tw16210344616910522854:=0
def tw12885402823361575281:=0
def tw6203175453242027326:=0
def tw11174018980203470523:=0
def tw12005243229676439083:=0
def tw17331859442488941666:=0
def tw5829151620414949831:=0
def tw4042153492053852149:=0
def tw16880903193333958044:=0
def tw8523033796508213247:=0
def tw16710209616595377510:=0
def tw15789100367549017956:=0
def tw15743033229922987185:=0
def tw16773815831771136850:=0
def tw2152480634379570092:=0
def tw583970021591360564:=0
def tw812894769177604859:=0
def tw17885032436021269925:=0
def tw1632370763188578552:=0
def tw10822218849858860662:=0
def tw5736720901071961580:=0
def tw1554737914875685446:=0
def tw12117361934182547932:=0
def tw8852976290154634887:=0
def tw12676358150401974608:=0
def tw1098484285517720686:=0
def tw11481875833673482433:=0
def tw17418338410968913319:=0
def tw7041746416269608077:=0
def tw11500071429424527053:=0
def tw5845607827611062704:=0
def tw9526474103660857823:=0
def tw13083762049680145564:=0
def tw9259754552794108244:=0
def tw5586438735182111616:=0
def tw563502696515282910:=0
def tw16575848395594684405:=0
def tw15192865767114606486:=0
def tw1429740619997153534:=0
def tw9810428229715069065:=0
def tw15357649623326840807:=0
def tw1739095796116286709:=0
def tw13884870558001668194:=0
def tw13367508656449000161:=0
def tw8638811863049169336:=0
def tw10794391636503247641:=0
def tw8831574062381622480:=0
def tw6834391645386867439:=0
def tw12772642633754488752:=0
def tw9858125955577027972:=0
def tw3057448207835783263:=0
def tw4928809914977557494:=0
def tw11882718450098484894:=0
def tw10550175968370157693:=0
def tw4349233511127164895:=0
def tw8822356668886317856:=0
def tw13814889223275856133:=0
def tw16034158632186749865:=0
def tw1262391686030353773:=0
def tw1896047955844440323:=0
def tw2883732220831026795:=0
def tw1586038330196136972:=0
def tw259615920914385379:=0
def tw9828671458656271511:=0
def tw13364643273875195324:=0
def tw15527220349198730358:=0
def tw5836833727567891485:=0
def tw9787106211111152426:=0
def tw4398446859644483576:=0
def tw14466048028806846814:=0
def tw12727815790101585862:=0
def tw16258923976923580224:=0
def tw1555181559772973262:=0
def tw15328797439566623585:=0
def tw7081321390789420229:=0
def tw18433265600190961102:=0
def tw3507380370105721069:=0
def tw9272596418864550772:=0
def tw13306268578739462393:=0
def tw2338768879790196056:=0
def tw8785995707964549964:=0
def tw15750173982366566579:=0
def tw7719450114835145930:=0
def tw12132772992233619345:=0
def tw17218105388604086021:=0
def tw10161754482061473755:=0
def tw17528916949268545591:=0
def tw4290332994792068375:=0
def tw831569239637228234:=0
def tw3231540183773008323:=0
def tw14933409321239519748:=0
def tw14159488411290133750:=0
def tw1655616948757420022:=0
def tw12133464093049992708:=0
def tw11628214398754723034:=0
def tw5869090963310629297:=0
def tw17147456528540723186:=0
def tw1883153136228003808:=0
def tw8310959958107651831:=0
def tw1732893063286777561:=0
def tw10985893612336450729:=0
def tw15127872341408241121:=0
def tw3260319802410377853:=0
def tw5672525839789474041:=0
def tw9682999535751133875:=0
def tw15882664597101421536:=0
def tw16501128640823930031:=0
def tw17630346045484502639:=0
def tw4840146243074897586:=0
def tw2503113791450935748:=0
def tw7724440180670428332:=0
def tw15480495145554405021:=0
def tw2536674250339553336:=0
def tw17348831301104397732:=0
def tw4444692817639187778:=0
def tw8908992324970220070:=0
def tw12886799419764042288:=0
def tw10157919827347638864:=0
def tw15221512100654339927:=0
def tw5454497780938395129:=0
def tw821742660233001300:=0
def tw13178702886407644911:=0
def tw12199543770721269295:=0
def tw6279523778415774593:=0
def tw12874477887538273322:=0
def tw18044130592643198171:=0
def tw2774285277945688952:=0
def tw6834241983423883898:=0
def tw13539671467392033985:=0
def tw10471546840669102490:=0
def tw8537246910389052516:=0
def tw9596769471007489937:=0
def tw5854088171047887657:=0
def tw10233810462789691116:=0
def tw14794755478829222792:=0
def tw2948331225594209643:=0
def tw1205116814995047574:=0
def tw9372420875047390927:=0
def tw786799788126865251:=0
def tw1781396125472045338:=0
def tw5865534264110491366:=0
def tw1998256476934133457:=0
def tw3291057008364459204:=0
def tw1267656479959789524:=0
def tw17890617647113900050:=0
def tw11641118116575681512:=0
def tw13954650670270491677:=0
def tw484272855350119060:=0
def tw2884215973659349202:=0
def tw1240466134542347643:=0
def tw14525438257303916559:=0
def tw5982369273386458200:=0
def tw13476407657949917779:=0
def tw8834084105052465585:=0
def tw7153063683699349149:=0
def tw9181390617143600018:=0
def tw351896456217715081:=0
def tw14672201270577703542:=0
def tw8181202319016904663:=0
def tw2058839023860817220:=0
def tw8215517491254836957:=0
def tw9332394773781889703:=0
def tw17813423196732045784:=0
def tw8824062572947795285:=0
def tw12568054299031821926:=0
def tw222389198420146036:=0
def tw2090144614232745508:=0
def tw13226603481618367079:=0
def tw14278878207656395749:=0
def tw12080598607310738740:=0
def tw4556812422216110527:=0
def tw6185860645129392645:=0
def tw6972612636387342488:=0
def tw16893028691243641544:=0
def tw9763028535870884515:=0
def tw1418012135987672465:=0
def tw17555124138443232924:=0
def tw13172884426215095992:=0
def tw11239046115458189931:=0
def tw8471445255405720823:=0
def tw8933716968721917849:=0
def tw6127814747630944270:=0
def tw9292694458946680993:=0
def tw13915566777676747481:=0
def tw9532351065134121883:=0
def tw13658156274234978131:=0
def tw17051957480909832596:=0
def tw8735994610779259856:=0
def tw9028693521387838280:=0
def tw13443657042760345978:=0
def tw4345233694998025378:=0
end PySem.W.Fast
open PySem PySem.W PyProof.Rows
set_option maxRecDepth 100000 in
set_option maxHeartbeats 0 in
theorem PySem.Challenge.cw_gapweave_k21_paper_walked_holds : PySem.Challenge.rw_gapweave_k21_paper_walked.Holds := by
 w_on;o_law;k_head;(case hw=>w_witness2)
 k_fill
 refine Ut.walk (l:=PySem.Challenge.rw_gapweave_k21_paper_walked) rfl rfl (λw h Y=>PySem.W.km_in_of Y) (λw h Y=>PySem.W.km_tabs_of Y _ (List.elem_iff.mp (by kernel_rfl))) (λw h Y=>PySem.W.km_tabs_of Y _ (List.elem_iff.mp (by kernel_rfl))) (λw=>by kernel_rfl) (λw=>by kernel_rfl) (λw=>by kernel_rfl) (λw=>by kernel_rfl) ?F
 case F =>
  intro w mg fa h KX G hmg
  refine' Ut.all_mk KX G hmg ?u0 ?u1 ?u2 ?u3 ?u4 ?u5 ?u6 ?u7 ?u8 ?u9 ?WC ?WB ?WA ?Wz ?Wy ?Wx ?Ww ?u17 ?Wv ?Wu ?Wt ?Ws ?Wr ?Wq ?Wn ?Wm ?Wl ?Wk ?Wj ?Wi ?Wh ?Wg ?Wf ?We ?Wd ?Wc ?Wb ?Wa ?u38 ?V9 ?V8 ?V7 ?V6 ?V5 ?V4 ?V3 ?V2 ?V1 ?V0 ?VZ ?VY ?VX ?VW ?VV ?VU ?VT ?VS ?VR ?VQ ?VP ?VO ?VN ?VM ?VL ?VJ ?VI ?VH ?VG ?VF ?VE ?VD ?VC ?VB ?VA ?u74 ?Vz ?Y7 ?Vy ?Vx ?Vw ?Vv ?u81 ?Vu ?Vt ?Vs ?Vr ?Vq ?Vp ?Vo ?Vn ?Vm ?Vl ?Vk ?Vj ?Vi ?Vh ?Vg ?Vf ?Ve ?Vd ?OW ?OV ?OU ?OT ?OS ?OR ?OQ ?OP ?OO ?ON ?OM ?OL ?OJ ?OI ?OH ?OG ?OF ?OD ?OC ?OB ?OA ?Ll ?Lk ?Oz ?u124 ?Ox ?Ow ?Ov ?Ou ?Ot ?Oq ?Oo ?Om ?Ol ?Oj ?Oi ?Oh ?Og ?Oe ?Od ?Oc ?Ob ?Oa ?N9 ?N8 ?N7 ?Lj ?N6 ?N5 ?N4 ?Li ?N3 ?N2 ?N1 ?NZ ?NY ?NX ?NW ?NV ?NU ?NT ?NS ?NQ ?NP ?NO ?NN ?NL
  case u2|u3|u4|u5|u6|u7|u8|u9|WC|WB|WA|Wz|Wy|Wx|Ww|Wl|Wk|Wj|Wi|Wh|Wg|Wf|Wb|Wa|V9|V8|V7|V6|V5|V4|V3|V2|V1|V0|VZ|VY|VX|VW|VV|VU|VT|VS|VR|VQ|VP|VO|VN|VM|VJ|VI|VC|VB|VA|Y7|Vy|Vx|Vw|Vv|Vi|Vh|Vg|Vf|Ve|OH|OG|OF|OD|OC|Lj|N6|N5|N4|N3|N2|N1|NZ|NY|NX|NW|NV|NU|NT|NS|NQ|NP|NO|NN|NL=>k_is
  case u0|u1|VL|VF|VE|VD|Li=>kernel_rfl
  case u17|Wv|Wu|Wt|Ws|Wr|Wq|Wn|Wm|We|Wd|Wc|VH|VG=>(show PySem.W.findIn _ _ _=_;k_is)
  case u38=>k_exc
  case u74|Vz=>kit_is
  case u81|Vu|Vt|Vs|Vr|Vq|Vp|Vo|Vn|Vm|Vl|Vk|Vj|Vd|OW|OV|OU|OT|OS|OR|OQ|OP|OO|ON|OM|OL|OJ|OI|OB|OA|Ll|Lk|Oz|Ox|Ow|Ov|Ou|Ot|Oq|Oo|Om|Ol|Oj|Oi|Oh|Og|Oe|Od|Oc|Ob|Oa|N9|N8|N7=>(refine' Ut.jU.mk ?a ?l ?c ?k;(case a=>k_is);(case l=>k_is);(case c=>k_is);(case k=>k_is))
  case u124=>(refine' Ut.Uw.mk ?a ?l ?c ?k ?e;(case a=>k_is);(case l=>k_is);(case c=>k_is);(case k=>k_is);(case e=>k_is))
