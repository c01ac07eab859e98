import PyProof.Rows.All
import Wide.All
import OpenK.AllK
import Wide.FinOn
import Lean
import PyProof.EqAt
import PyProof.EqKinds
import PyProof.TupleCall
import PyProof.NeKinds
import PyProof.Rows.StrStrike
import PyProof.SumWalkG
import PyProof.StrCalls2
import PyProof.Rows.StrItems
import PyProof.Rows.StrJoin2
import PyProof.Truth
import PyProof.DictItems
import KE.KPairComp
import PyProof.DictRoadsH
import PyProof.DictKeyH
import KE.KDictList
import KE.KMinKey
import KE.KLam
import KE.KNestM
import PyProof.MinMaxWalk
import PyProof.WalkInts
import KE.KRevIter
import PySem.Challenge.RW_gapweave_k30_place_at
set_option Elab.async false
set_option linter.all false
set_option maxRecDepth 100000
namespace TK
open PySem
theorem qM{M:Model}{Γ:Ctx}{p:Pos}{t:Sem PySem.Fin}{fs:List Frame}{s s':Shared}{e:End}(h:Runs M Γ p t fs s e s'):s.toks<=s'.toks:=by
 induction h with
 |fresh _ ih=>exact Nat.le_trans (Nat.le_succ _) ih
 |call _ _ a b=>exact Nat.le_trans a b
 |segRet _ _ a b=>exact Nat.le_trans a b
 |segGen _ _ a b=>exact Nat.le_trans a b
 |resumeFresh _ _ _ _ a b=>exact Nat.le_trans a b
 |resumeSuspended _ _ _ _ a b=>exact Nat.le_trans a b
 |segSuspGen _ _ _ _ a b=>exact Nat.le_trans a b
 |_=>first|exact Nat.le_refl _|assumption
theorem Eg{M:Model}{Γ:Ctx}{p:Pos}{g:Nat}{r:Resume}{s s':Shared}{res:GenResult}(h:Wakes M Γ p g r s res s'):s.toks<=s'.toks:=by
 unfold Wakes at h
 split at h
 ·exact h.elim
 ·split at h
  ·obtain⟨e,s1,a,_,_,rfl⟩:=h;have z:=qM a;exact z
  ·obtain⟨_,rfl⟩:=h;exact Nat.le_refl _
  ·obtain⟨_,rfl⟩:=h;exact Nat.le_refl _
 ·obtain⟨e,s1,a,_,_,rfl⟩:=h;have z:=qM a;exact z
 ·obtain⟨_,rfl⟩:=h;exact Nat.le_refl _
 ·obtain⟨_,rfl⟩:=h;exact Nat.le_refl _
theorem SG{α:Type}{M:Model}{Γ:Ctx}{n:Nat}(t:Sem α):∀{Q:α->Pos->Shared->Prop} {E:Value->Pos->Shared->Prop} {p:Pos} {s:Shared},n<=s.toks →
  Sem.wp M Γ t (λa p s'=>n<=s'.toks->Q a p s') (λe p s'=>n<=s'.toks->E e p s') p s->Sem.wp M Γ t Q E p s:=by
 induction t with
 |pure a=>intro Q E p s hn h;exact h hn
 |raise e=>intro Q E p s hn h;exact h hn
 |unsupported w=>intro Q E p s hn h;exact h
 |finish e=>intro Q E p s hn h;exact h
 |rule t k ih=>intro Q E p s hn h;exact ih () hn h
 | «at» p' k ih=>intro Q E p s hn h;exact ih () hn h
 |load a q k ih=>intro Q E p s hn h;obtain⟨o,e,h⟩:=h;exact⟨o,e,ih o hn h⟩
 |update a q f k ih=>intro Q E p s hn h;exact⟨h.1,ih () hn h.2⟩
 |alloc o k ih=>intro Q E p s hn h;exact ih _ hn h
 |loadIfAlive a k ih=>intro Q E p s hn h;exact ih _ hn h
 |point l k ih=>intro Q E p s hn h;exact ih () hn h
 |register a k ih=>intro Q E p s hn h;exact h
 |fresh k ih=>intro Q E p s hn h;exact ih _ (Nat.le_succ_of_le hn) h
 |ask k ih=>intro Q E p s hn h;exact ih _ hn h
 |choose src m k ih=>intro Q E p s hn h;exact⟨h.1,ih _ hn h.2⟩
 |os q l k ih=>intro Q E p s hn h;exact ih _ hn h
 |call c hd g l k ih=>intro Q E p s hn h;obtain⟨r,s1,a,h⟩:=h;exact⟨r,s1,a,ih r (Nat.le_trans hn (qM a)) h⟩
 |handled own k ih=>intro Q E p s hn h;exact ih _ hn h
 |newGen c k ih=>intro Q E p s hn h;exact ih _ hn h
 |genState g k ih=>intro Q E p s hn h;obtain⟨st,e,h⟩:=h;exact⟨st,e,ih _ hn h⟩
 |resume g r l k ih=>intro Q E p s hn h;obtain⟨res,s1,a,h⟩:=h;exact⟨res,s1,a,ih _ (Nat.le_trans hn (Eg a)) h⟩
 |yield v g l k ih=>intro Q E p s hn h;exact h
 |stack k ih=>intro Q E p s hn h;exact ih _ hn h
 |fork c k ih=>intro Q E p s hn h;exact h
 |thread k ih=>intro Q E p s hn h;exact ih _ hn h
 |await a tk tm l k ih=>intro Q E p s hn h;exact h
theorem bS{α:Type}{M:Model}{A:Around}{t:Sem α}{Q:α->Shared->Prop}{E:Value->Shared->Prop}{s:Shared}{n:Nat}(hn:n<=s.toks)(h:wpAny M A t (λa s'=>n<=s'.toks->Q a s') (λe s'=>n<=s'.toks->E e s') s):wpAny M A t Q E s :=
 λΓ p hΓ=>SG t hn (h Γ p hΓ)
theorem Fv{M:Model}{A:Around}{c:Code}{R:Result->Shared->Prop}{s:Shared}{n:Nat}(hn:n<=s.toks)(h:codeAny M A c (λr s'=>n<=s'.toks->R r s') s):codeAny M A c R s:=λΓ p hc hb=>by
 obtain⟨r,s1,a,h⟩:=h Γ p hc hb
 exact⟨r,s1,a,h (Nat.le_trans hn (qM a))⟩
end TK
set_option Elab.async false
set_option linter.all false
set_option maxRecDepth 100000
namespace L2
open PySem PySem.Spec PyProof.Rows
abbrev Key:=Sum Int Str
def xM:Key->Value->Bool
 | .inl k,v=>Value.isInt k v
 | .inr x,v=>Value.isStrOf x v
def YU(w:World):Key->Int
 | .inl k=>hashInt k
 | .inr x=>hashStr w x
theorem dJ:∀{k:Key} {v:Value},xM k v=true->(∃i t,k=Sum.inl i/\v=Value.int i t)\/(∃x t,k=Sum.inr x/\v=Value.str x t)
 | .inl i,v,h=>by
  obtain⟨t,e⟩:=Value.isInt_shape (k:=i) (v:=v) h
  exact .inl ⟨i,t,rfl,e⟩
 | .inr x,v,h=>by
  obtain⟨t,e⟩:=Value.isStrOf_shape (x:=x) (v:=v) h
  exact .inr ⟨x,t,rfl,e⟩
theorem Ib(i:Int)(t:Tok):xM (.inl i) (.int i t)=true:=by simp[xM,Value.isInt]
theorem Ia(x:Str)(t:Tok):xM (.inr x) (.str x t)=true:=by simp[xM,Value.isStrOf]
theorem Rn(a b:Int):decide ((Sum.inl a:Key)=Sum.inl b)=(a==b):=by
 by_cases e:a=b
 ·subst e;simp
 ·have h:¬(Sum.inl a:Key)=Sum.inl b:=λq=>e (Sum.inl.inj q)
  rw[decide_eq_false h]
  exact(beq_eq_false_iff_ne.mpr e).symm
theorem Rk(a b:Str):decide ((Sum.inr a:Key)=Sum.inr b)=decide (a=b):=by
 by_cases e:a=b
 ·subst e;simp
 ·have h:¬(Sum.inr a:Key)=Sum.inr b:=λq=>e (Sum.inr.inj q)
  rw[decide_eq_false h,decide_eq_false e]
theorem Rm(a:Int)(b:Str):decide ((Sum.inl a:Key)=Sum.inr b)=false:=decide_eq_false (λq=>nomatch q)
theorem Rl(a:Str)(b:Int):decide ((Sum.inr a:Key)=Sum.inl b)=false:=decide_eq_false (λq=>nomatch q)
def bJ(prog:Program)(w:World):PySem.KeyKind prog w Key where
 is:=xM
 hash:=YU w
 inj:=λv a b ha hb=>by
  rcases dJ ha with⟨i,t,rfl,rfl⟩|⟨x,t,rfl,rfl⟩
  ·rcases dJ hb with⟨j,u,rfl,e⟩|⟨y,u,rfl,e⟩
   ·injection e with e1 _;rw[e1]
   ·exact nomatch e
  ·rcases dJ hb with⟨j,u,rfl,e⟩|⟨y,u,rfl,e⟩
   ·exact nomatch e
   ·injection e with e1 _;rw[e1]
 byValue:=λk v h=>by
  rcases dJ h with⟨i,t,rfl,rfl⟩|⟨x,t,rfl,rfl⟩<;>rfl
 pyHash:=λhv h=>by
  rcases dJ hv with⟨i,t,rfl,rfl⟩|⟨x,t,rfl,rfl⟩
  ·exact wpAny_pyHash_int h
  ·exact wpAny_pyHash_str h
 eqBool:=λhu hv h=>by
  rcases dJ hu with⟨i,t,rfl,rfl⟩|⟨x,t,rfl,rfl⟩
  ·rcases dJ hv with⟨j,u,rfl,rfl⟩|⟨y,u,rfl,rfl⟩
   ·rw[Rn]at h;exact wpAny_eqBool_int h
   ·rw[Rm]at h;exact SeqAt.EqAt.int_str i t y u _ _ _ _ h
  ·rcases dJ hv with⟨j,u,rfl,rfl⟩|⟨y,u,rfl,rfl⟩
   ·rw[Rl]at h;exact SeqAt.EqAt.str_int x t j u _ _ _ _ h
   ·rw[Rk]at h;exact wpAny_eqBool_str h
 «strs» :=λk x t v h=>by
  rcases dJ h with⟨i,u,rfl,e⟩|⟨y,u,rfl,e⟩
  ·exact nomatch e
  ·injection e with e1 _
   subst e1
   cases v<;>rfl
theorem C0(prog:Program)(w:World)(i:Int)(t:Tok):(bJ prog w).is (.inl i) (.int i t)=true:=Ib i t
theorem qj(prog:Program)(w:World)(x:Str)(t:Tok):(bJ prog w).is (.inr x) (.str x t)=true:=Ia x t
end L2
namespace L2
open PySem PySem.Spec PyProof.Rows
inductive V where
 |gB|bl (b:Bool)|int (i:Int)|str (x:Str)|G2 (b:Array UInt8)|RM (b:UInt64)|ref (a:Addr)|ty (n:String)
 deriving DecidableEq
def RelV:V->Value->Prop
 | .gB,u=>u=Value.none
 | .bl b,u=>u=Value.bool b
 | .int i,u=>∃t,u=Value.int i t
 | .str x,u=>∃t,u=Value.str x t
 | .G2 b,u=>∃t,u=Value.bytes b t
 | .RM b,u=>∃t,u=Value.float b t
 | .ref a,u=>u=Value.ref a
 | .ty n,u=>u=Value.type n
abbrev Vals:List V->List Value->Prop:=Paired RelV
theorem Vals.length{xs:List V}{us:List Value}(r:Vals xs us):xs.length=us.length:=Paired.length r
theorem Vals.get:∀{xs:List V} {us:List Value} {i:Nat} {x:V},Vals xs us->xs[i]? =some x->∃u,us[i]? =some u/\RelV x u
 |_,_,_,_,.nil,e=>by simp at e
 |_,_,0,_,.cons r _,e=>by simp at e;subst e;exact⟨_,rfl,r⟩
 |_,_,i+1,x,.cons _ t,e=>by
  obtain⟨u,h1,h2⟩:=Vals.get (i:=i) (x:=x) t (by simpa using e)
  exact⟨u,by simpa using h1,h2⟩
theorem Vals.set{x:V}{u:Value}(r:RelV x u):∀{xs:List V} {us:List Value} (i:Nat),Vals xs us->Vals (xs.set i x) (us.set i u)
 |_,_,_,.nil=>.nil
 |_,_,0,.cons _ t=>.cons r t
 |_,_,i+1,.cons q t=>.cons q (Vals.set r i t)
theorem Vals.append:∀{xs ys:List V} {us ws:List Value},Vals xs us->Vals ys ws->Vals (xs++ys) (us++ws)
 |_,_,_,_,.nil,s=>s
 |_,_,_,_,.cons r t,s=>.cons r (Vals.append t s)
theorem Vals.none_of:∀{xs:List V} {us:List Value} {i:Nat},Vals xs us->xs[i]? =none->us[i]? =none:=λ{xs us i} r e=>by
 have h1:=r.length
 have h2:xs.length<=i:=List.getElem?_eq_none_iff.mp e
 exact List.getElem?_eq_none_iff.mpr (by omega)
def nF:Option V->Option Value->Prop
 |some v,some u=>RelV v u
 |none,none=>True
 |_,_=>False
def KV{κ:Type}:List (κ×V)->List (κ×Value)->Prop:=Paired λ(p:κ×V) (q:κ×Value)=>p.1=q.1/\RelV p.2 q.2
def kV:Key->V
 | .inl i=>.int i
 | .inr x=>.str x
inductive HO where
 |lst (xs:List V)
 |tup (xs:List V)
 |dK (kvs:List (Key×V))|dT (kvs:List (List Key×V))
 |set (S:Int->Bool) (n:Nat)
 |ins (C dx:Addr) (fs:List (Str×V))
 |own (x:Addr)
 |xd (fs:List (Str×V))
 |met (f x:Addr)
 |VT (lo hi:Int)
 |tS (o:Obj) (u:HO)
 |NO (ps:Array Value)
 |ext (φ:Heap->Prop)
abbrev Hp:=Addr->Option HO
def upd(H:Hp)(a:Addr)(o:HO):Hp:=λb=>if b=a then some o else H b
theorem af{H:Hp}{a:Addr}{o:HO}:upd H a o a=some o:=by unfold upd;rw[if_pos rfl]
theorem au{H:Hp}{a b:Addr}{o:HO}(h:b≠a):upd H a o b=H b:=by unfold upd;rw[if_neg h]
theorem qg{H:Hp}{a b:Addr}{o u:HO}(h:H a=some o)(h':H b=some u)(d:o≠u):a≠b:=by
 intro e;subst e;rw[h]at h';exact d (Option.some.inj h')
theorem aM{H:Hp}{a b:Addr}{o:HO}(h:H a=some o)(h':H b=none):a≠b:=by
 intro e;subst e;rw[h]at h';cases h'
section
variable(P:Program)(w:World)
def bI(H:Hp)(h:Heap)(a:Addr):HO->Prop
 | .lst xs=>xs.length<=sizeLine/\∃(its:List Value) (n:Nat),Vals xs its/\h.get? a=some { cls:=.type "list",data:=.seq its.toArray n }
 | .tup xs=>xs.length<=sizeLine/\∃its:List Value,Vals xs its/\IsTup h a its.toArray
 | .dK kvs=>kvs.length<=sizeLine/\(a==sysModules)=false/\∃vs,KV kvs vs/\h.DictOf (bJ P w) a vs
 | .dT kvs=>kvs.length<=sizeLine/\(a==sysModules)=false/\∃xs:List (List Key×Addr×Value),
   Paired (λ(p:List Key×V) (q:List Key×Addr×Value)=>p.1=q.1/\H q.2.1=some (.tup (p.1.map kV))/\RelV p.2 q.2.2) kvs xs ∧
   ∃o es ep,h.get? a=some o/\o.ExactDict/\o.data= .dict es ep/\es.toList=xs.map (entryOfKey (tupleKind (bJ P w)))/\(xs.map (·.1)).Nodup
 | .set S n=>h.SetOf (intKind P w) a S n
 | .ins C dx fs=>H dx=some (.own a)/\fs.length<=1000/\dx≠a/\h.get? a=some (PySem.W.instObj C dx) ∧
   ∃mA,h.Ns1 dx mA/\(∀f,nF (fs.lookup f) (mA f))/\PySem.Within mA (fs.map (·.1))
 | .own _=>∃o,h.get? a=some o
 | .xd fs=>∃mA,h.Ns1 a mA/\∀f,nF (fs.lookup f) (mA f)
 | .VT lo hi=>∃t u v,h.get? a=some { cls:=.type "range",data:=.fields #[.int lo t,.int hi u,.int 1 v] }
 | .tS o u=>h.get? a=some o/\bI H h a u
 | .NO ps=>h.get? a=some { cls:=.none,data:=.fields ps }
 | .met f x=>h.get? a=some (PySem.W.methodObj (.ref f) (.ref x))
 | .ext φ=>φ h/\(∃o,h.get? a=some o)/\∀h1 h2:Heap,φ h1->(∀o,h1.get? a=some o->h2.get? a=some o)->φ h2
def mQ(H:Hp)(h:Heap):Prop:=∀a o,H a=some o->bI P w H h a o
end
section
variable{P:Program}{w:World}{H H':Hp}{h h':Heap}{a:Addr}{o:HO}
theorem bI.lt(x:bI P w H h a o):a<h.objs.size:=by
 cases o with
 |lst xs=>obtain⟨_,_,_,_,e⟩:=x;exact Heap.lt_size e
 |tup xs=>obtain⟨_,_,_,p⟩:=x;exact p.lt
 |dK kvs=>obtain⟨_,_,_,_,o,_,_,e,_⟩:=x;exact Heap.lt_size e
 |dT kvs=>obtain⟨_,_,_,_,o,_,_,e,_⟩:=x;exact Heap.lt_size e
 |set S n=>obtain⟨o,_,_,_,e,_⟩:=x;exact Heap.lt_size e
 |ins C dx fs=>obtain⟨_,_,_,e,_⟩:=x;exact Heap.lt_size e
 |own y=>obtain⟨_,e⟩:=x;exact Heap.lt_size e
 |xd fs=>obtain⟨_,⟨_,_,_,e,_⟩,_⟩:=x;exact Heap.lt_size e
 |VT lo hi=>obtain⟨_,_,_,e⟩:=x;exact Heap.lt_size e
 |tS ob u=>obtain⟨e,_⟩:=x;exact Heap.lt_size e
 |NO ps=>exact Heap.lt_size (show h.get? a=some _ from x)
 |met f y=>exact Heap.lt_size (show h.get? a=some _ from x)
 |ext φ=>obtain⟨_,⟨_,e⟩,_⟩:=x;exact Heap.lt_size e
theorem Paired.g8{α β:Type}{F G:α->β->Prop}:∀{l₁:List α} {l₂:List β},Paired F l₁ l₂->(∀a b,F a b->G a b)->Paired G l₁ l₂
 |_,_,.nil,_=>.nil
 |_,_,.cons r t,f=>.cons (f _ _ r) (Paired.g8 t f)
theorem bI.stay(x:bI P w H h a o)(k:∀b u,(b=a\/H b=some (.own a))->h.get? b=some u->h'.get? b=some u)
  (ho:∀b,H b=some (.own a)->H' b=some (.own a)) (ht:∀b xs,H b=some (.tup xs)->H' b=some (.tup xs)):bI P w H' h' a o:=by
 induction o with
 |lst xs=>obtain⟨z,its,n,r,e⟩:=x;exact⟨z,its,n,r,k _ _ (.inl rfl) e⟩
 |tup xs=>obtain⟨z,its,r,ob,e,c⟩:=x;exact⟨z,its,r,ob,k _ _ (.inl rfl) e,c⟩
 |dK kvs=>obtain⟨z,y,vs,r,ob,es,ep,e,c⟩:=x;exact⟨z,y,vs,r,ob,es,ep,k _ _ (.inl rfl) e,c⟩
 |dT kvs =>
  obtain⟨z,y,xs,r,ob,es,ep,e,c⟩:=x
  exact⟨z,y,xs,Paired.g8 r λp q z=>⟨z.1,ht _ _ z.2.1,z.2.2⟩,ob,es,ep,k _ _ (.inl rfl) e,c⟩
 |set S n=>obtain⟨ob,es,ep,t,e,c⟩:=x;exact⟨ob,es,ep,t,k _ _ (.inl rfl) e,c⟩
 |ins C dx fs =>
  obtain⟨d,z,ne,e,mA,⟨od,es,ep,e2,c⟩,r⟩:=x
  exact⟨ho _ d,z,ne,k _ _ (.inl rfl) e,mA,⟨od,es,ep,k _ _ (.inr d) e2,c⟩,r⟩
 |own y=>obtain⟨ob,e⟩:=x;exact⟨ob,k _ _ (.inl rfl) e⟩
 |xd fs=>obtain⟨mA,⟨od,es,ep,e,c⟩,r⟩:=x;exact⟨mA,⟨od,es,ep,k _ _ (.inl rfl) e,c⟩,r⟩
 |VT lo hi=>obtain⟨t,u,v,e⟩:=x;exact⟨t,u,v,k _ _ (.inl rfl) e⟩
 |tS ob u ih=>obtain⟨e,q⟩:=x;exact⟨k _ _ (.inl rfl) e,ih q⟩
 |NO ps =>
  have e:h.get? a=some { cls:=.none,data:=.fields ps }:=x
  show h'.get? a=some { cls:=.none,data:=.fields ps }
  exact k a _ (.inl rfl) e
 |met f y =>
  have e:h.get? a=some (PySem.W.methodObj (.ref f) (.ref y)):=x
  show h'.get? a=some (PySem.W.methodObj (.ref f) (.ref y))
  exact k a _ (.inl rfl) e
 |ext φ=>obtain⟨p,⟨o,e⟩,st⟩:=x;exact⟨st _ _ p λo q=>k _ _ (.inl rfl) q,⟨o,k _ _ (.inl rfl) e⟩,st⟩
theorem mQ.lt(x:mQ P w H h)(e:H a=some o):a<h.objs.size:=(x a o e).lt
theorem mQ.fresh(x:mQ P w H h)(e:h.objs.size<=a):H a=none:=by
 cases q:H a with
 |none=>rfl
 |some u=>exact absurd (Nat.lt_of_lt_of_le (x.lt q) e) (Nat.lt_irrefl _)
theorem mQ.kept(x:mQ P w H h)(k:∀b u,h.get? b=some u->h'.get? b=some u):mQ P w H h':=λa o e =>
 (x a o e).stay (λb u _ q=>k b u q) (λ_ q=>q) λ_ _ q=>q
theorem mQ.laid(x:mQ P w H h)(k:∀b u,h.get? b=some u->h'.get? b=some u)(hp:h.objs.size<=a)(new:bI P w (upd H a o) h' a o):mQ P w (upd H a o) h':=λb u e=>by
 have hn:=x.fresh hp
 by_cases hb:b=a
 ·subst hb;rw[af]at e;cases e;exact new
 ·rw[au hb]at e
  exact(x b u e).stay (λc v _ q=>k c v q) (λc q=>by rw[au (aM q hn)];exact q) λc xs q=>by rw[au (aM q hn)];exact q
end
def Rd(H:Hp)(a:Addr)(u:HO):Prop:=H a=some u\/∃o,H a=some (.tS o u)
theorem Rd.ok{P:Program}{w:World}{H:Hp}{h:Heap}{a:Addr}{u:HO}(r:Rd H a u)(x:mQ P w H h):bI P w H h a u:=by
 rcases r with r|⟨o,r⟩
 ·exact x a u r
 ·obtain⟨_,q⟩:=x a _ r
  exact q
def Vr:Option HO->Prop
 |some (.lst _)=>True
 |some (.dK _)=>True
 |some (.dT _)=>True
 |some (.set _ _)=>True
 |some (.ins _ _ _)=>True
 |some (.ext _)=>True
 |_=>False
section
variable{P:Program}{w:World}{H:Hp}{h h':Heap}{x e:Addr}{o':HO}
theorem mQ.write(ok:mQ P w H h)(mu:Vr (H x))(he:e=x\/H e=some (.own x))(k:∀b u,b≠e->h.get? b=some u->h'.get? b=some u)(Sq:∃u,h'.get? e=some u)
  (new:bI P w (upd H x o') h' x o'):mQ P w (upd H x o') h':=λb u q=>by
 have Tz:∀c y,H c=some (.own y)->c≠x:=λc y r z=>by subst z;rw[r]at mu;exact mu
 have YG:∀c xs,H c=some (.tup xs)->c≠x:=λc xs r z=>by subst z;rw[r]at mu;exact mu
 by_cases hb:b=x
 ·subst hb;rw[af]at q;cases q;exact new
 ·rw[au hb]at q
  by_cases Le:b=e
  ·have q':H b=some (.own x):=by
    rcases he with z|z
    ·exact absurd (Le.trans z) hb
    ·rw[Le];exact z
   rw[q]at q';cases q'
   obtain⟨v,hv⟩:=Sq
   exact⟨v,by rw[Le];exact hv⟩
  ·refine(ok b u q).stay (λc v hc r=>k c v ?_ r) (λc r=>by rw[au (Tz c b r)];exact r) λc xs r=>by rw[au (YG c xs r)];exact r
   rcases hc with rfl|hc
   ·exact Le
   ·rintro rfl
    rcases he with z|z
    ·exact Tz c b hc z
    ·rw[hc]at z;cases z;exact hb rfl
end
structure Un(fs ex:List Addr)(H H':Hp)(h h':Heap):Prop where
 keep:∀b o,h.get? b=some o->H b=none->b∉fs->b∉ex->h'.get? b=some o
 slot:∀b o,h.get? b=some o->H b=none->b∈fs->b∉ex->∃sl,h'.get? b=some { o with slots:=sl }
 free:∀b o,h.get? b=some o->H b=none->b∉ex->H' b=none
 there:∀b o,h.get? b=some o->b∉ex->∃o',h'.get? b=some o'
 tups:∀b xs,H b=some (.tup xs)->H' b=some (.tup xs)
 q9:∀b o u,H b=some (.tS o u)->H' b=some (.tS o u)
 rL:∀b ps,H b=some (.NO ps)->∃more,H' b=some (.NO (ps++more))
section
variable{fs fs' ex ex':List Addr}{H H1 H2:Hp}{h h1 h2 h':Heap}{a x e:Addr}{o:HO}
theorem Un.any(u:Un fs ex H H1 h h1){b:Addr}{ob:Obj}(q:h.get? b=some ob)(n:H b=none)(hx:b∉ex):∃sl,h1.get? b=some { ob with slots:=sl }:=by
 by_cases hb:b∈fs
 ·exact u.slot b ob q n hb hx
 ·exact⟨ob.slots,u.keep b ob q n hb hx⟩
theorem Un.kept(k:∀b u,h.get? b=some u->h'.get? b=some u):Un fs ex H H h h' :=
 ⟨λb ob q _ _ _=>k b ob q,λb ob q _ _ _=>⟨ob.slots,k b ob q⟩,λ_ _ _ n _=>n,λb ob q _=>⟨ob,k b ob q⟩,λ_ _ q=>q,λ_ _ _ q=>q,λ_ ps q=>⟨#[],by rw[q];simp⟩⟩
theorem Un.refl:Un fs ex H H h h:=Un.kept λ_ _ q=>q
theorem Un.laid(k:∀b u,h.get? b=some u->h'.get? b=some u)(hp:h.objs.size<=a)(hn:H a=none):Un fs ex H (upd H a o) h h' where
 keep:=λb u q _ _ _=>k b u q
 slot:=λb u q _ _ _=>⟨u.slots,k b u q⟩
 free:=λb u q n _=>by rw[au (Nat.ne_of_lt (Nat.lt_of_lt_of_le (Heap.lt_size q) hp))];exact n
 there:=λb u q _=>⟨u,k b u q⟩
 tups:=λb xs q=>by rw[au (aM q hn)];exact q
 q9:=λb u xs q=>by rw[au (aM q hn)];exact q
 rL:=λb ps q=>⟨#[],by rw[au (aM q hn),q];simp⟩
theorem Un.write(mu:Vr (H x))(he:e=x\/H e=some (.own x))(k:∀b u,b≠e->h.get? b=some u->h'.get? b=some u)(Sq:∃u,h'.get? e=some u):Un fs ex H (upd H x o) h h':=by
 have hx:∀b,H b=none->b≠x:=λb n z=>by subst z;rw[n]at mu;exact mu
 have hb:∀b,H b=none->b≠e:=λb n z=>by
  subst z
  rcases he with r|r
  ·exact hx b n r
  ·rw[n]at r;cases r
 have hm:∀b u,H b=some u->¬Vr (some u)->b≠x:=λb u q nm z=>by subst z;rw[q]at mu;exact nm mu
 refine⟨λb u q n _ _=>k b u (hb b n) q,λb u q n _ _=>⟨u.slots,k b u (hb b n) q⟩,λb u q n _=>by rw[au (hx b n)];exact n,λb u q _=>?_,
  λb xs q=>by rw[au (hm b _ q λz=>z)];exact q,λb u xs q=>by rw[au (hm b _ q λz=>z)];exact q,λb ps q=>⟨#[],by rw[au (hm b _ q λz=>z),q];simp⟩⟩
 by_cases Le:b=e
 ·subst Le;exact Sq
 ·exact⟨u,k b u Le q⟩
end
def VN(h:Heap)(H:Hp):List Addr:=(List.range h.objs.size).filter λa=>(H a).isSome
def yP(h:Heap)(H:Hp):Heap:=PySem.W.hideAll h (VN h H)
theorem Ii(h:Heap)(H:Hp):(yP h H).objs.size=h.objs.size:=PySem.W.hideAll_size _ _
theorem Lc{h:Heap}{H:Hp}{b:Addr}{o:Obj}(e:h.get? b=some o)(n:H b=none):(yP h H).get? b=some o :=
 PySem.W.hideAll_get _ e λhm=>by
  have q:(H b).isSome=true:=(List.mem_filter.mp hm).2
  rw[n]at q;simp at q
theorem MP{h:Heap}{H:Hp}{b:Addr}{o:Obj}(e:(yP h H).get? b=some o):h.get? b=some o/\H b=none:=by
 have e':h.get? b=some o:=PySem.W.of_hideAll (VN h H) e
 refine⟨e',?_⟩
 cases q:H b with
 |none=>rfl
 |some x =>
  have hm:b∈VN h H:=List.mem_filter.mpr ⟨List.mem_range.mpr (Heap.lt_size e'),by simp[q]⟩
  have z:(yP h H).get? b=none:=PySem.W.hideAll_none (VN h H) hm
  rw[z]at e;cases e
end L2
namespace L2
open PySem PySem.Spec PyProof.Rows
structure Mod(K:PySem.W.Frag)(mg:Str->Option Value)(base:Heap):Prop where
 N8:K.In base
 glob:base.Ns mainGlobals mg
 blt:∃mb,base.Ns builtinsNs mb/\∀x:Str,x≠ "__name__" ->mb x=bootBuiltins x
 nolimit:base.NoLimit
structure Cx where
 prog:Program
 w:World
 K:PySem.W.Frag
 mg:Str->Option Value
 base:Heap
 A:Around
 N:List Str
 s₀:Shared
 H₀:Hp
 env:Env
 outer:List Env
 stack:List Env
 ex:List Addr
 fn:Str->Bool
 calm:Bool
 pn:List (Addr×Obj)
 xe:Value->Shared->Prop
def frs(l:List Env):List Addr:=l.filterMap (·.frame)
abbrev Cx.fs(X:Cx):List Addr:=frs X.outer
def Wm(sc:Scope)(x:Str):Prop:=sc.names.lookup x=some .local\/sc.names.lookup x=some .cell\/sc.names.lookup x=some .free
def Loc(sc:Scope)(x:Str):Prop:=sc.names.lookup x=some .local\/sc.names.lookup x=some .cell
def Look(env:Env)(h:Heap)(m:Str->Option Value)(x:Str)(u:Value):Prop :=
 (env.kindOf x=some .local/\m x=some u)\/((env.kindOf x=some .cell\/env.kindOf x=some .free)/\∃c,env.cells.lookup x=some c/\h.IsCell c (some u))
def FD(mg:Str->Option Value)(n:Nat):Prop:=∀v u,mg "GAP" =some (.str v u)->u<n/\u≠0
theorem FD.mono{mg:Str->Option Value}{n m:Nat}(h:FD mg n)(l:n<=m):FD mg m:=λv u e=>⟨Nat.lt_of_lt_of_le (h v u e).1 l,(h v u e).2⟩
structure Cx.Ok(X:Cx):Prop where
 mod:Mod X.K X.mg X.base
 kind:X.env.scope.kind= .function
 glob:X.env.globals=mainGlobals
 blt:X.env.builtins=builtinsNs
 above:X.s₀.heap.objs.size<=X.env.locals
 inj:∀x y c,X.env.cells.lookup x=some c->X.env.cells.lookup y=some c->x=y
 has:∀x,(X.env.kindOf x=some .cell\/X.env.kindOf x=some .free)->∃c,X.env.cells.lookup x=some c
 Ny:∀x c,X.fn x=true->X.env.cells.lookup x=some c->X.s₀.heap.objs.size<=c
 hd:X.calm=true->X.A.handled=none
 frames:X.A.frames=some X.stack
 stk:X.stack=X.outer\/(X.stack=X.env::X.outer/\X.env.frame=some X.env.locals)
 Wi:∀b∈X.ex,b≠X.env.locals/\∀x c,X.env.cells.lookup x=some c->c≠b
 bs:∀b o,X.base.get? b=some o->X.s₀.heap.get? b=some o/\X.H₀ b=none
 LG:X.base.objs.size<=X.s₀.heap.objs.size
 ER:∀b o,X.base.get? b=some o->b∉X.ex
 Io:∀b∈X.ex,b∉X.fs
 sy:X.s₀.heap.FunFrames X.base X.outer
 Nn:∀b∈X.fs,X.H₀ b=none
 tk:FD X.mg X.s₀.toks
structure Inv(X:Cx)(pins:List (Addr×Obj))(σ:List (Option V))(H:Hp)(s:Shared):Prop where
 ok:X.Ok
 os:s.os=X.s₀.os
 bare:AllBare s.gens
 base:Un X.fs X.ex X.H₀ H X.s₀.heap s.heap
 loc:∃m,s.heap.Ns X.env.locals m/\∀(i:Nat) (x:Str) (v:V),X.N[i]? =some x->σ[i]? =some (some v)->Wm X.env.scope x->∃u,RelV v u/\Look X.env s.heap m x u
 cell:∀x c,X.env.cells.lookup x=some c->∃v,s.heap.IsCell c v
 free:H X.env.locals=none
 jA:∀x c,X.env.cells.lookup x=some c->H c=none
 pin:∀p∈X.pn++pins,s.heap.get? p.1=some p.2/\H p.1=none/\p.1≠X.env.locals/\p.1∉X.fs/\∀v,p.2.data≠ .cell v
 hok:mQ X.prog X.w H s.heap
 len:σ.length=X.N.length
 up:X.s₀.toks<=s.toks
section
variable{X:Cx}{pins:List (Addr×Obj)}{σ:List (Option V)}{H H':Hp}{s:Shared}{h':Heap}
theorem Cx.Ok.YI(ok:X.Ok){b:Addr}{o:Obj}(e:X.base.get? b=some o):b∉X.fs:=λhb=>by
 have:=(ok.sy.mem hb).1
 rw[e]at this;cases this
theorem Inv.tk(I:Inv X pins σ H s):FD X.mg s.toks:=I.ok.tk.mono I.up
theorem Inv.bs(I:Inv X pins σ H s):∀b o,X.base.get? b=some o->s.heap.get? b=some o/\H b=none:=λb o e =>
 ⟨I.base.keep b o (I.ok.bs b o e).1 (I.ok.bs b o e).2 (I.ok.YI e) (I.ok.ER b o e),I.base.free b o (I.ok.bs b o e).1 (I.ok.bs b o e).2 (I.ok.ER b o e)⟩
theorem Inv.bk(I:Inv X pins σ H s):∀b o,X.base.get? b=some o->s.heap.get? b=some o:=λb o e=>(I.bs b o e).1
theorem Inv.mod(I:Inv X pins σ H s):Mod X.K X.mg X.base:=I.ok.mod
theorem Inv.pB(I:Inv X pins σ H s):X.K.In s.heap:=I.ok.mod.N8.keeps I.bk
theorem Inv.nolimit(I:Inv X pins σ H s):s.heap.NoLimit:=I.ok.mod.nolimit.keeps I.bk
theorem Inv.lt(I:Inv X pins σ H s):X.env.locals<s.heap.objs.size:=let ⟨_,hn,_⟩:=I.loc;hn.lt
theorem Inv.sz(I:Inv X pins σ H s):X.s₀.heap.objs.size<=s.heap.objs.size:=Nat.le_trans I.ok.above (Nat.le_of_lt I.lt)
theorem Inv.YH(I:Inv X pins σ H s){a:Addr}(h:s.heap.objs.size<=a):a∉X.fs:=λhb=>by
 obtain⟨_,o,ho,_⟩:=I.ok.sy.mem hb
 exact absurd (Nat.lt_of_lt_of_le (Heap.lt_size ho) (Nat.le_trans I.sz h)) (Nat.lt_irrefl _)
theorem Inv.Ov(I:Inv X pins σ H s):∀x c,X.env.cells.lookup x=some c->c≠X.env.locals:=λx c e z=>by
 obtain⟨v,o,ho,hd⟩:=I.cell x c e
 obtain⟨m,⟨o',es,ep,ho',hd',_⟩,_⟩:=I.loc
 rw[z,ho']at ho;cases ho;rw[hd']at hd;cases hd
theorem Inv.sy(I:Inv X pins σ H s):s.heap.FunFrames X.base X.outer:=by
 have all:∀(l:List Env),(∀b∈frs l,b∈X.fs)->X.s₀.heap.FunFrames X.base l->s.heap.FunFrames X.base l:=by
  intro l
  induction l with
  |nil=>intro _ _;trivial
  |cons env r ih =>
   intro hs hl
   obtain⟨hk,⟨L,o,hf,hn,ho,hd⟩,hr⟩:=hl
   have hL:L∈X.fs:=hs L (by unfold frs;rw[List.filterMap_cons,hf];exact List.mem_cons_self)
   obtain⟨sl,e⟩:=I.base.slot L o ho (I.ok.Nn L hL) hL λz=>I.ok.Io L z hL
   exact⟨hk,⟨L,_,hf,hn,e,hd⟩,ih (λb hb=>hs b (by unfold frs;rw[List.filterMap_cons,hf];exact List.mem_cons_of_mem _ hb)) hr⟩
 exact all X.outer (λ_ hb=>hb) I.ok.sy
theorem Inv.stack(I:Inv X pins σ H s):s.heap.FunFrames X.base X.stack:=by
 rcases I.ok.stk with e|⟨e,hf⟩
 ·rw[e];exact I.sy
 ·rw[e]
  obtain⟨m,hn,_⟩:=I.loc
  refine .cons (by rw[I.ok.kind];decide) hf hn ?_ I.sy
  exact Heap.get?_none_of_le (Nat.le_trans I.ok.LG I.ok.above)
theorem Inv.rO(I:Inv X pins σ H s):∀b∈frs X.stack,b∈X.env.locals::X.fs:=λb hb=>by
 rcases I.ok.stk with e|⟨e,hf⟩
 ·rw[e]at hb;exact List.mem_cons_of_mem _ hb
 ·rw[e]at hb
  unfold frs at hb
  rw[List.filterMap_cons,hf]at hb
  exact hb
theorem Inv.Ar(I:Inv X pins σ H s):∀b∈frs X.stack,H b=none:=λb hb=>by
 rcases List.mem_cons.mp (I.rO b hb)with e|hb
 ·rw[e];exact I.free
 ·obtain⟨_,o,ho,_⟩:=I.ok.sy.mem hb
  exact I.base.free b o ho (I.ok.Nn b hb) λz=>I.ok.Io b z hb
theorem Inv.step{g':Array GenState}{t':Nat}{d':Drawn}{ch:List Addr}(I:Inv X pins σ H s)
  (hch:∀b∈ch,(b∈X.ex\/X.s₀.heap.objs.size<=b)/\b≠X.env.locals/\(∀x c,X.env.cells.lookup x=some c->c≠b)/\∀p∈X.pn++pins,p.1≠b)
  (keep:∀b o,b≠X.env.locals->b∉X.fs->b∉ch->s.heap.get? b=some o->H b=none->h'.get? b=some o)
  (slot:∀b o,b≠X.env.locals->b∈X.fs->b∉ch->s.heap.get? b=some o->H b=none->∃sl,h'.get? b=some { o with slots:=sl }) (free:∀b o,b∉ch->s.heap.get? b=some o->H b=none->H' b=none)
  (there:∀b o,b∉ch->s.heap.get? b=some o->∃o',h'.get? b=some o')
  (tups:∀b xs,H b=some (.tup xs)->H' b=some (.tup xs)) (q9:∀b o u,H b=some (.tS o u)->H' b=some (.tS o u)) (rL:∀b ps,H b=some (.NO ps)->∃more,H' b=some (.NO (ps++more)))
  (ns:∀m,s.heap.Ns X.env.locals m->h'.Ns X.env.locals m) (hok:mQ X.prog X.w H' h') (hg:AllBare g') (ht:X.s₀.toks<=t') :
  Inv X pins σ H' { s with heap:=h',gens:=g',drawn:=d',toks:=t' }:=by
 have neL:∀b o,X.s₀.heap.get? b=some o->b≠X.env.locals:=λb o e=>Nat.ne_of_lt (Nat.lt_of_lt_of_le (Heap.lt_size e) I.ok.above)
 have VY:∀b o,X.s₀.heap.get? b=some o->b∉X.ex->b∉ch:=λb o e hx hb=>by
  rcases(hch b hb).1 with z|z
  ·exact hx z
  ·exact absurd (Nat.lt_of_lt_of_le (Heap.lt_size e) z) (Nat.lt_irrefl _)
 have cellK:∀x c,X.env.cells.lookup x=some c->∀v,s.heap.IsCell c v->h'.IsCell c v:=λx c e v ⟨o,ho,hd⟩=>by
  have N3:c∉ch:=λz=>(hch c z).2.2.1 x c e rfl
  by_cases hc:c∈X.fs
  ·obtain⟨sl,q⟩:=slot c o (I.Ov x c e) hc N3 ho (I.jA x c e)
   exact⟨_,q,hd⟩
  ·exact⟨o,keep c o (I.Ov x c e) hc N3 ho (I.jA x c e),hd⟩
 refine⟨I.ok,I.os,hg,⟨λb o e n hb hx=>?_,λb o e n hb hx=>?_,λb o e n hx=>?_,λb o e hx=>?_,λb xs e=>tups b xs (I.base.tups b xs e),λb o xs e=>q9 b o xs (I.base.q9 b o xs e),λb ps e=>?_⟩,?_,λx c e=>?_,?_,λx c e=>?_,λp hp=>?_,hok,I.len,ht⟩
 ·exact keep b o (neL b o e) hb (VY b o e hx) (I.base.keep b o e n hb hx) (I.base.free b o e n hx)
 ·obtain⟨sl,e1⟩:=I.base.slot b o e n hb hx
  obtain⟨IY,e2⟩:=slot b _ (neL b o e) hb (VY b o e hx) e1 (I.base.free b o e n hx)
  exact⟨IY,e2⟩
 ·obtain⟨o',e1⟩:=I.base.there b o e hx
  exact free b o' (VY b o e hx) e1 (I.base.free b o e n hx)
 ·obtain⟨o',e1⟩:=I.base.there b o e hx
  exact there b o' (VY b o e hx) e1
 ·obtain⟨m1,e1⟩:=I.base.rL b ps e
  obtain⟨m2,e2⟩:=rL b _ e1
  exact⟨m1++m2,by rw[e2,Array.append_assoc]⟩
 ·obtain⟨m,hn,hl⟩:=I.loc
  refine⟨m,ns m hn,λi x v e1 e2 e3=>?_⟩
  obtain⟨u,r,l⟩:=hl i x v e1 e2 e3
  refine⟨u,r,?_⟩
  rcases l with l|⟨k,c,e,z⟩
  ·exact .inl l
  ·exact .inr ⟨k,c,e,cellK x c e _ z⟩
 ·obtain⟨v,z⟩:=I.cell x c e
  exact⟨v,cellK x c e v z⟩
 ·obtain⟨m,⟨o,_,_,ho,_⟩,_⟩:=I.loc
  exact free _ o (λz=>(hch _ z).2.1 rfl) ho I.free
 ·obtain⟨v,o,ho,hd⟩:=I.cell x c e
  exact free c o (λz=>(hch c z).2.2.1 x c e rfl) ho (I.jA x c e)
 ·obtain⟨e,n,ne,nf,d⟩:=I.pin p hp
  have N3:p.1∉ch:=λz=>(hch p.1 z).2.2.2 p hp rfl
  exact⟨keep p.1 p.2 ne nf N3 e n,free p.1 p.2 N3 e n,ne,nf,d⟩
theorem Inv.un{t':Nat}(I:Inv X pins σ H s)(u:Un X.fs [] H H' s.heap h')(hok:mQ X.prog X.w H' h')(ht:s.toks<=t':=by first|exact Nat.le_refl _|exact Nat.le_succ _|assumption|omega):Inv X pins σ H' { s with heap:=h',toks:=t' }:=by
 obtain⟨m,⟨o,es,ep,ho,r⟩,_⟩:=id I.loc
 obtain⟨sl,hL⟩:=u.any ho I.free (by simp)
 exact I.step (g':=s.gens) (d':=s.drawn) (ch:=[]) (λ_ z=>nomatch z) (λb o _ hb _ e n=>u.keep b o e n hb (by simp)) (λb o _ hb _ e n=>u.slot b o e n hb (by simp)) (λb o _ e n=>u.free b o e n (by simp)) (λb o _ e=>u.there b o e (by simp)) u.tups u.q9 u.rL (λm' hm=>by
  obtain⟨o',es',Wj,ho',r'⟩:=hm
  rw[ho]at ho';cases ho'
  exact⟨_,es',Wj,hL,r'⟩) hok I.bare (Nat.le_trans I.up ht)
theorem Inv.call{g':Array GenState}{t':Nat}{d':Drawn}{ch:List Addr}(I:Inv X pins σ H s)(u:Un (frs X.stack) ch H H' s.heap h')(hok:mQ X.prog X.w H' h')(hg:AllBare g')
  (hch:∀b∈ch,(b∈X.ex\/X.s₀.heap.objs.size<=b)/\b≠X.env.locals/\(∀x c,X.env.cells.lookup x=some c->c≠b)/\∀p∈X.pn++pins,p.1≠b) (ht:X.s₀.toks<=t') :
  Inv X pins σ H' { s with heap:=h',gens:=g',drawn:=d',toks:=t' }:=by
 obtain⟨m,⟨o,es,ep,ho,r⟩,_⟩:=id I.loc
 obtain⟨sl,hL⟩:=u.any ho I.free λz=>(hch _ z).2.1 rfl
 exact I.step (ch:=ch) hch (λb o hL hb hc e n=>u.keep b o e n (λz=>(List.mem_cons.mp (I.rO b z)).elim hL hb) hc) (λb o _ _ hc e n=>u.any e n hc) (λb o hc e n=>u.free b o e n hc) (λb o hc e=>u.there b o e hc) u.tups u.q9 u.rL (λm' hm=>by
  obtain⟨o',es',Wj,ho',r'⟩:=hm
  rw[ho]at ho';cases ho'
  exact⟨_,es',Wj,hL,r'⟩) hok hg ht
theorem Inv.turned{t':Nat}{it:Addr}(I:Inv X pins σ H s)(k:∀b o,b≠it->s.heap.get? b=some o->h'.get? b=some o)(hn:H it=none)(hL:it≠X.env.locals)
  (h1:it∈X.ex\/X.s₀.heap.objs.size<=it) (h2:∀x c,X.env.cells.lookup x=some c->c≠it) (h3:∀p∈X.pn++pins,p.1≠it) (ht:s.toks<=t':=by first|exact Nat.le_refl _|exact Nat.le_succ _|assumption|omega):Inv X pins σ H { s with heap:=h',toks:=t' }:=by
 have nit:∀b u,H b=some u->b≠it:=λb u e z=>by rw[z,hn]at e;cases e
 refine I.step (g':=s.gens) (d':=s.drawn) (ch:=[it]) (λb hb=>?_) (λb o _ _ hc e _=>k b o (λz=>hc (by simp[z])) e) (λb o _ _ hc e _=>⟨o.slots,k b o (λz=>hc (by simp[z])) e⟩) (λ_ _ _ _ n=>n)
  (λb o hc e=>⟨o,k b o (λz=>hc (by simp[z])) e⟩) (λ_ _ e=>e) (λ_ _ _ e=>e) (λb ps e=>⟨#[],by rw[e];simp⟩) (λm hm=>?_) (λb u e=>?_) I.bare (Nat.le_trans I.up ht)
 ·have e:b=it:=by simpa using hb
  subst e
  exact⟨h1,hL,h2,h3⟩
 ·obtain⟨o,es,ep,ho,r⟩:=hm
  exact⟨o,es,ep,k _ o (Ne.symm hL) ho,r⟩
 ·refine(I.hok b u e).stay (λc v hc q=>k c v ?_ q) (λ_ q=>q) λ_ _ q=>q
  rcases hc with z|z
  ·rw[z];exact nit b u e
  ·exact nit c _ z
theorem Inv.tok(I:Inv X pins σ H s)(t':Nat)(ht:s.toks<=t':=by first|exact Nat.le_refl _|exact Nat.le_succ _|assumption|omega):Inv X pins σ H { s with toks:=t' }:=I.un (h':=s.heap) (t':=t') Un.refl I.hok ht
theorem Inv.kept{t':Nat}(I:Inv X pins σ H s)(k:∀b u,s.heap.get? b=some u->h'.get? b=some u)(ht:s.toks<=t':=by first|exact Nat.le_refl _|exact Nat.le_succ _|assumption|omega):Inv X pins σ H { s with heap:=h',toks:=t' }:=I.un (Un.kept k) (I.hok.kept k) ht
theorem Inv.laid{a:Addr}{o:HO}{t':Nat}(I:Inv X pins σ H s)(k:∀b u,s.heap.get? b=some u->h'.get? b=some u)(hp:s.heap.objs.size<=a)(new:bI X.prog X.w (upd H a o) h' a o)(ht:s.toks<=t':=by first|exact Nat.le_refl _|exact Nat.le_succ _|assumption|omega):
  Inv X pins σ (upd H a o) { s with heap:=h',toks:=t' }:=I.un (Un.laid k hp (I.hok.fresh hp)) (I.hok.laid k hp new) ht
theorem Inv.write{x e:Addr}{o:HO}{t':Nat}(I:Inv X pins σ H s)(mu:Vr (H x))(he:e=x\/H e=some (.own x))(k:∀b u,b≠e->s.heap.get? b=some u->h'.get? b=some u)(Sq:∃u,h'.get? e=some u)
  (new:bI X.prog X.w (upd H x o) h' x o) (ht:s.toks<=t':=by first|exact Nat.le_refl _|exact Nat.le_succ _|assumption|omega):Inv X pins σ (upd H x o) { s with heap:=h',toks:=t' }:=I.un (Un.write mu he k Sq) (I.hok.write mu he k Sq new) ht
theorem Inv.weak{σ':List (Option V)}(I:Inv X pins σ H s)(hl:σ'.length=σ.length)(w:∀(i:Nat) v,σ'[i]? =some (some v)->σ[i]? =some (some v)):Inv X pins σ' H s :=
 ⟨I.ok,I.os,I.bare,I.base,let ⟨m,hn,hl'⟩:=I.loc;⟨m,hn,λi x v e1 e2 e3=>hl' i x v e1 (w i v e2) e3⟩,I.cell,I.free,I.jA,I.pin,I.hok,hl.trans I.len,I.up⟩
theorem Inv.AF{NZ:List (Addr×Obj)}(I:Inv X pins σ H s)(h:∀p∈NZ,s.heap.get? p.1=some p.2/\H p.1=none/\p.1≠X.env.locals/\p.1∉X.fs/\∀v,p.2.data≠ .cell v):Inv X NZ σ H s :=
 ⟨I.ok,I.os,I.bare,I.base,I.loc,I.cell,I.free,I.jA,λp hp=>(List.mem_append.mp hp).elim (λz=>I.pin p (List.mem_append_left _ z)) (h p),I.hok,I.len,I.up⟩
theorem xA{N:List Str}(hN:N.Nodup){i j:Nat}{x:Str}(a:N[i]? =some x)(b:N[j]? =some x):i=j:=by
 obtain⟨h1,e1⟩:=List.getElem?_eq_some_iff.mp a
 obtain⟨h2,e2⟩:=List.getElem?_eq_some_iff.mp b
 exact(List.getElem_inj hN).mp (e1.trans e2.symm)
theorem zE{M:Model}{A:Around}{E:Value->Shared->Prop}{i:Nat}{x:Str}{v:V}{u:Value}{Q:Unit->Shared->Prop}(I:Inv X pins σ H s)(hN:X.N.Nodup)(hi:X.N[i]? =some x)(hx:Loc X.env.scope x)(r:RelV v u)
  (h:∀s',Inv X pins (σ.set i (some v)) H s'->(∃a,Heap.SameBut a s.heap s'.heap/\(a=X.env.locals\/X.env.cells.lookup x=some a))->Q () s') (hf:X.fn x=true\/X.env.scope.names.lookup x=some .local:=by first|exact .inl rfl|exact .inr rfl|assumption):wpAny M A (storeName X.env x u) Q E s:=by
 obtain⟨m,hn,hl⟩:=id I.loc
 have hcls:(X.env.scope.kind== .class||(X.env.scope.kind== .module&&X.env.locals != X.env.globals))=false:=by rw[I.ok.kind];rfl
 have UT:i<σ.length:=by rw[I.len];exact(List.getElem?_eq_some_iff.mp hi).1
 have Ov:=I.Ov
 have tracked:∀{a:Addr} {h':Heap},(∃o,s.heap.get? a=some o/\H a=none)->Heap.SameBut a s.heap h'->mQ X.prog X.w H h':=λ{a h'} ha hs b ob e=>by
  obtain⟨_,_,hfree⟩:=ha
  refine(I.hok b ob e).stay (λc w' hc q=>(hs.2 c ?_).trans q) (λ_ q=>q) λ_ _ q=>q
  rintro rfl
  rcases hc with rfl|hc
  ·rw[hfree]at e;cases e
  ·rw[hfree]at hc;cases hc
 rcases hx with hk|hk
 ·refine wpAny_storeName_local hk hn (λh' hn' hs=>?_) hcls
  obtain⟨oL,_,_,hoL,_⟩:=id hn
  refine h _ ⟨I.ok,I.os,I.bare,⟨λb o e n hb hx=>?_,λb o e n hb hx=>?_,I.base.free,λb o e hx=>?_,I.base.tups,I.base.q9,I.base.rL⟩,⟨_,hn',λj y v' e1 e2 e3=>?_⟩,λy c e=>?_,I.free,I.jA,λp hp=>?_,tracked ⟨oL,hoL,I.free⟩ hs,by simpa using I.len,Nat.le_trans I.up (by first|exact Nat.le_refl _|exact Nat.le_succ _|exact Nat.le_add_right _ _)⟩ ⟨_,hs,.inl rfl⟩
  ·exact(hs.2 b (Nat.ne_of_lt (Nat.lt_of_lt_of_le (Heap.lt_size e) I.ok.above))).trans (I.base.keep b o e n hb hx)
  ·obtain⟨sl,e1⟩:=I.base.slot b o e n hb hx
   exact⟨sl,(hs.2 b (Nat.ne_of_lt (Nat.lt_of_lt_of_le (Heap.lt_size e) I.ok.above))).trans e1⟩
  ·obtain⟨o',e1⟩:=I.base.there b o e hx
   exact⟨o',(hs.2 b (Nat.ne_of_lt (Nat.lt_of_lt_of_le (Heap.lt_size e) I.ok.above))).trans e1⟩
  ·by_cases hj:j=i
   ·subst hj
    rw[hi]at e1;cases e1
    rw[List.getElem?_set_self UT]at e2
    cases e2
    exact⟨u,r,.inl ⟨hk,by simp⟩⟩
   ·rw[List.getElem?_set_ne (Ne.symm hj)]at e2
    obtain⟨u',r',q⟩:=hl j y v' e1 e2 e3
    refine⟨u',r',?_⟩
    rcases q with⟨k,e⟩|⟨k,c,e,z⟩
    ·refine .inl ⟨k,?_⟩
     have:y≠x:=λe=>hj (xA hN e1 (e▸hi))
     simp[this,e]
    ·exact .inr ⟨k,c,e,z.sameBut hs (Ov y c e)⟩
  ·obtain⟨w',z⟩:=I.cell y c e
   exact⟨w',z.sameBut hs (Ov y c e)⟩
  ·obtain⟨e,n,ne,nf,d⟩:=I.pin p hp
   exact⟨(hs.2 p.1 ne).trans e,n,ne,nf,d⟩
 ·have hfn:X.fn x=true:=by
   rcases hf with z|z
   ·exact z
   ·rw[z]at hk;cases hk
  obtain⟨c,hc⟩:=I.ok.has x (.inl hk)
  obtain⟨w',z⟩:=I.cell x c hc
  refine wpAny_storeName_cell I.ok.kind hk hc z (λh' hc' hs=>?_)
  obtain⟨oc,hoc,Zl⟩:=id z
  refine h { s with heap:=h' } ⟨I.ok,I.os,I.bare,⟨λb o e n hb hx=>?_,λb o e n hb hx=>?_,I.base.free,λb o e hx=>?_,I.base.tups,I.base.q9,I.base.rL⟩,⟨m,hn.sameBut hs (Ne.symm (Ov x c hc)),λj y v' e1 e2 e3=>?_⟩,λy c' e=>?_,I.free,I.jA,λp hp=>?_,tracked ⟨oc,hoc,I.jA x c hc⟩ hs,by simpa using I.len,I.up⟩ ⟨c,hs,.inr hc⟩
  ·exact(hs.2 b (Nat.ne_of_lt (Nat.lt_of_lt_of_le (Heap.lt_size e) (I.ok.Ny x c hfn hc)))).trans (I.base.keep b o e n hb hx)
  ·obtain⟨sl,e1⟩:=I.base.slot b o e n hb hx
   exact⟨sl,(hs.2 b (Nat.ne_of_lt (Nat.lt_of_lt_of_le (Heap.lt_size e) (I.ok.Ny x c hfn hc)))).trans e1⟩
  ·obtain⟨o',e1⟩:=I.base.there b o e hx
   exact⟨o',(hs.2 b (Nat.ne_of_lt (Nat.lt_of_lt_of_le (Heap.lt_size e) (I.ok.Ny x c hfn hc)))).trans e1⟩
  ·by_cases hj:j=i
   ·subst hj
    rw[hi]at e1;cases e1
    rw[List.getElem?_set_self UT]at e2
    cases e2
    exact⟨u,r,.inr ⟨.inl hk,c,hc,hc'⟩⟩
   ·rw[List.getElem?_set_ne (Ne.symm hj)]at e2
    obtain⟨u',r',q⟩:=hl j y v' e1 e2 e3
    refine⟨u',r',?_⟩
    rcases q with q|⟨k,c',e,z'⟩
    ·exact .inl q
    ·refine .inr ⟨k,c',e,z'.sameBut hs ?_⟩
     rintro rfl
     exact hj (xA hN e1 (I.ok.inj _ _ _ e hc▸hi))
  ·by_cases hcc:c'=c
   ·subst hcc;exact⟨_,hc'⟩
   ·obtain⟨w2,z2⟩:=I.cell y c' e
    exact⟨w2,z2.sameBut hs hcc⟩
  ·obtain⟨e,n,ne,nf,d⟩:=I.pin p hp
   refine⟨(hs.2 p.1 ?_).trans e,n,ne,nf,d⟩
   intro q
   rw[q,hoc]at e
   have q':oc=p.2:=Option.some.inj e
   exact d w' (by rw[←q'];exact Zl)
theorem wO{M:Model}{A:Around}{E:Value->Shared->Prop}{i:Nat}{x:Str}{v:V}{u:Value}{Q:Unit->Shared->Prop}(I:Inv X pins σ H s)(hN:X.N.Nodup)(hi:X.N[i]? =some x)(hx:Loc X.env.scope x)(r:RelV v u)
  (h:∀s',Inv X pins (σ.set i (some v)) H s'->Q () s') (hf:X.fn x=true\/X.env.scope.names.lookup x=some .local:=by first|exact .inl rfl|exact .inr rfl|assumption):wpAny M A (storeName X.env x u) Q E s :=
 zE I hN hi hx r (λs' I' _=>h s' I') hf
theorem Inv.LD{s':Shared}{ch:List Addr}(I:Inv X pins σ H s)(ho:s'.os=s.os)(u:Un (frs X.stack) ch H H' s.heap s'.heap)(hok:mQ X.prog X.w H' s'.heap)(hg:AllBare s'.gens)
  (hch:∀b∈ch,(b∈X.ex\/X.s₀.heap.objs.size<=b)/\b≠X.env.locals/\(∀x c,X.env.cells.lookup x=some c->c≠b)/\∀p∈X.pn++pins,p.1≠b) (ht:X.s₀.toks<=s'.toks):Inv X pins σ H' s':=by
 obtain⟨h',g',d',t',o'⟩:=s'
 have e:o'=s.os:=ho
 subst e
 exact I.call (g':=g') (t':=t') (d':=d') u hok hg hch ht
end
abbrev XK:=Value->Option Addr->Hp->Prop
abbrev St:=List (Option V)
abbrev VK:=V->Hp->Prop
abbrev TE:=St->Hp->VK->Prop
abbrev TT:=St->Hp->(Bool->Hp->Prop)->Prop
abbrev TA:=St->Hp->(List V->Hp->Prop)->Prop
structure Ends where
 nx:St->Hp->Prop
 rt:VK
 bk:St->Hp->Prop:=λ_ _=>False
 ct:St->Hp->Prop:=λ_ _=>False
abbrev TS:=Ends->St->Hp->Prop
def EP(X:Cx)(pins:List (Addr×Obj))(σ:St)(Q:VK)(u:Value)(s':Shared):Prop:=∃v H',Inv X pins σ H' s'/\RelV v u/\Q v H'
def TP(X:Cx)(pins:List (Addr×Obj))(σ:St)(Q:Bool->Hp->Prop)(b:Bool)(s':Shared):Prop:=∃H',Inv X pins σ H' s'/\Q b H'
def AP(X:Cx)(pins:List (Addr×Obj))(σ:St)(Q:List V->Hp->Prop)(us:List Value)(s':Shared):Prop:=∃vs H',Inv X pins σ H' s'/\Vals vs us/\Q vs H'
def SP(X:Cx)(pins:List (Addr×Obj))(D:Ends)(f:Flow)(s':Shared):Prop :=
 match f with
 | .next=>∃ σ' H',Inv X pins σ' H' s'/\D.nx σ' H'
 | .brk=>∃ σ' H',Inv X pins σ' H' s'/\D.bk σ' H'
 | .cont=>∃ σ' H',Inv X pins σ' H' s'/\D.ct σ' H'
 | .ret u=>∃v σ' H',Inv X pins σ' H' s'/\RelV v u/\D.rt v H'
def PE(X:Cx)(e:Expr)(t:TE):Prop :=
 ∀(pins:List (Addr×Obj)) (s:Shared) (σ:St) (H:Hp) (Q:VK),Inv X pins σ H s->t σ H Q->wpAny (model X.prog X.w) X.A (eval e X.env) (EP X pins σ Q) X.xe s
def PT(X:Cx)(e:Expr)(t:TT):Prop :=
 ∀(pins:List (Addr×Obj)) (s:Shared) (σ:St) (H:Hp) (Q:Bool->Hp->Prop),Inv X pins σ H s->t σ H Q->wpAny (model X.prog X.w) X.A (isTrue e X.env (eval e X.env)) (TP X pins σ Q) X.xe s
def PW(X:Cx)(e:Expr)(t:TT):Prop :=
 ∀(whole:Sem Value) (pins:List (Addr×Obj)) (s:Shared) (σ:St) (H:Hp) (Q:Bool->Hp->Prop),Inv X pins σ H s->t σ H Q->wpAny (model X.prog X.w) X.A (isTrue e X.env whole) (TP X pins σ Q) X.xe s
theorem PW.pt{X:Cx}{e:Expr}{t:TT}(h:PW X e t):PT X e t:=h _
def PA(X:Cx)(es:List Expr)(t:TA):Prop :=
 ∀(pos:Pos) (pins:List (Addr×Obj)) (s:Shared) (σ:St) (H:Hp) (Q:List V->Hp->Prop),Inv X pins σ H s->t σ H Q->wpAny (model X.prog X.w) X.A (spliced (backTo pos (starEach es X.env))) (AP X pins σ Q) X.xe s
def PS(X:Cx)(st:Stmt)(t:TS):Prop :=
 ∀(pins:List (Addr×Obj)) (s:Shared) (σ:St) (H:Hp) (D:Ends),Inv X pins σ H s->t D σ H->wpAny (model X.prog X.w) X.A (exec st X.env) (SP X pins D) X.xe s
def Ak(X:Cx)(st:List Stmt)(t:TS):Prop :=
 ∀(pins:List (Addr×Obj)) (s:Shared) (σ:St) (H:Hp) (D:Ends),Inv X pins σ H s->t D σ H->wpAny (model X.prog X.w) X.A (execs st X.env) (SP X pins D) X.xe s
theorem dw{α:Type}{t:Sem α}{Q Q':α->Shared->Prop}{M:Model}{A:Around}{E:Value->Shared->Prop}{s:Shared}(h:wpAny M A t Q E s)(hQ:∀a s,Q a s->Q' a s):wpAny M A t Q' E s:=wpAny_mono h hQ λ_ _ x=>x
end L2
namespace L2
open PySem PySem.Spec PyProof.Rows
section
variable{X:Cx}
def SH(i:Nat):TE:=λσ H Q=>∃v,σ[i]? =some (some v)/\Q v H
def tC(v:V):TE:=λ_ H Q=>Q v H
theorem QW {i:Nat} {x:Str} {pos:Pos} (hN:X.N[i]? =some x) (hv:Wm X.env.scope x) (hd:(x==("__debug__" :Str))=false:=by decide) (hcd:(x==("__classdict__" :Str))=false:=by decide):PE X (.Name x pos) (SH i):=by
 intro pins s σ H Q I h
 obtain⟨v,e,h⟩:=h
 obtain⟨m,hn,hl⟩:=I.loc
 obtain⟨u,r,l⟩:=hl i x v hN e hv
 have fin:EP X pins σ Q u s:=⟨v,H,I,r,h⟩
 rcases l with⟨hk,hm⟩|⟨hk,c,hc,hcell⟩
 ·exact wpAny_Name (wpAny_loadName_local I.ok.kind hk hn hm fin) hd
 ·rcases hk with hk|hk
  ·exact wpAny_Name (wpAny_loadName_cell I.ok.kind hk hc hcell fin) hd
  ·exact wpAny_Name (wpAny_loadName_free I.ok.kind hk hc hcell fin hcd) hd
theorem ak{i j pos}:PE X (.Constant (.int i) j pos) (tC (.int i)):=λ_ _ _ H _ I h=>wpAny_Constant_int ⟨.int i,H,I.tok _,⟨_,rfl⟩,h⟩
theorem Km{b j pos}:PE X (.Constant (.bool b) j pos) (tC (.bl b)):=λ_ _ _ H _ I h=>Constant_bool ⟨.bl b,H,I,rfl,h⟩
theorem uy{j pos}:PE X (.Constant .none j pos) (tC .gB):=λ_ _ _ H _ I h=>Constant_none ⟨.gB,H,I,rfl,h⟩
theorem bC{x j pos}:PE X (.Constant (.str x) j pos) (tC (.str x)):=λ_ _ _ H _ I h=>Calls.Constant_str ⟨.str x,H,I.tok _,⟨_,rfl⟩,h⟩
def Gl(X:Cx)(x:Str):Prop:=X.env.kindOf x=some .globalImplicit
theorem mO{E:Value->Shared->Prop}{pins:List (Addr×Obj)}{s:Shared}{σ:St}{H:Hp}{x:Str}{u:Value}{pos:Pos}{Q:Value->Shared->Prop}(I:Inv X pins σ H s)(hg:Gl X x)(hm:X.mg x=some u)(h:Q u s)
  (hd:(x==("__debug__" :Str))=false:=by decide):wpAny (model X.prog X.w) X.A (eval (.Name x pos) X.env) Q E s :=
 Calls.Name_function_global I.ok.kind hg (Calls.loadGlobal_global (by rw[I.ok.glob];exact I.mod.glob.keeps I.bk) hm h) hd
theorem om{E:Value->Shared->Prop}{pins:List (Addr×Obj)}{s:Shared}{σ:St}{H:Hp}{x:Str}{u:Value}{pos:Pos}{Q:Value->Shared->Prop}(I:Inv X pins σ H s)(hg:Gl X x)(hm:X.mg x=none)(hv:bootBuiltins x=some u)(h:Q u s)
  (hn:x≠ "__name__" :=by decide) (hd:(x==("__debug__" :Str))=false:=by decide):wpAny (model X.prog X.w) X.A (eval (.Name x pos) X.env) Q E s:=by
 obtain⟨mb,h1,h2⟩:=I.mod.blt
 exact Calls.Name_function_global I.ok.kind hg (Calls.loadGlobal_builtin (by rw[I.ok.glob];exact I.mod.glob.keeps I.bk) hm (by rw[I.ok.blt];exact h1.keeps I.bk) ((h2 x hn).trans hv) h) hd
theorem e7 {x:Str} {v:V} {u:Value} {pos:Pos} (hg:Gl X x) (hm:X.mg x=some u) (r:RelV v u) (hd:(x==("__debug__" :Str))=false:=by decide):PE X (.Name x pos) (tC v) :=
 λ_ _ _ H _ I h=>mO I hg hm ⟨v,H,I,r,h⟩ hd
theorem fO {x:Str} {v:V} {u:Value} {pos:Pos} (hg:Gl X x) (hm:X.mg x=none) (hv:bootBuiltins x=some u) (r:RelV v u) (hn:x≠ "__name__" :=by decide) (hd:(x==("__debug__" :Str))=false:=by decide):PE X (.Name x pos) (tC v) :=
 λ_ _ _ H _ I h=>om I hg hm hv ⟨v,H,I,r,h⟩ hn hd
variable{a b:Expr}{ta tb:TE}{pos:Pos}
def tB(t:TE):TT:=λσ H Q=>t σ H λx H1=>∃c,x= .bl c/\Q c H1
theorem lW{e:Expr}{t:TE}(h:PE X e t)(he:∀whole,isTrue e X.env whole=(do let v ←whole;standAt e.pos;holding [v] (truthy v)):=by intro _;rfl):PT X e (tB t):=by
 intro pins s σ H Q I hw
 refine isTrue_plain (dw (h pins s σ H _ I hw) λv s1 ⟨x,H1,I1,r1,q1⟩=>?_) (he _)
 obtain⟨d,rfl,q⟩:=q1
 cases r1
 exact wpAny_truthy_bool ⟨H1,I1,q⟩
variable{tA VP:TT}{rest:List Expr}
def Yj(t u:TT):TT:=λσ H Q=>t σ H λc H1=>if c=true then u σ H1 Q else Q false H1
def tOr(t u:TT):TT:=λσ H Q=>t σ H λc H1=>if c=true then Q true H1 else u σ H1 Q
def Yb(t:TT):TT:=λσ H Q=>t σ H λc H1=>Q (!c) H1
theorem ME(ha:PT X a tA):PW X (.BoolOp .And [a] pos) tA:=by
 intro wh pins s σ H Q I h
 refine isTrue_and (dw (ha pins s σ H Q I h) λc s1 e=>?_)
 cases c with
 |true=>exact isTrue_and_nil e
 |false=>exact e
theorem EA(ha:PT X a tA):PW X (.BoolOp .Or [a] pos) tA:=by
 intro wh pins s σ H Q I h
 refine isTrue_or (dw (ha pins s σ H Q I h) λc s1 e=>?_)
 cases c with
 |false=>exact isTrue_or_nil e
 |true=>exact e
theorem QO(ha:PT X a tA)(hb:PW X (.BoolOp .And (b::rest) pos) VP):PW X (.BoolOp .And (a::b::rest) pos) (Yj tA VP):=by
 intro wh pins s σ H Q I h
 refine isTrue_and (dw (ha pins s σ H _ I h) λc s1 ⟨H1,I1,q1⟩=>?_)
 cases c with
 |true=>exact hb wh pins s1 σ H1 Q I1 q1
 |false=>exact⟨H1,I1,q1⟩
theorem JW(ha:PT X a tA)(hb:PW X (.BoolOp .Or (b::rest) pos) VP):PW X (.BoolOp .Or (a::b::rest) pos) (tOr tA VP):=by
 intro wh pins s σ H Q I h
 refine isTrue_or (dw (ha pins s σ H _ I h) λc s1 ⟨H1,I1,q1⟩=>?_)
 cases c with
 |true=>exact⟨H1,I1,q1⟩
 |false=>exact hb wh pins s1 σ H1 Q I1 q1
theorem xg(ha:PT X a tA):PT X (.UnaryOp .Not a pos) (Yb tA):=by
 intro pins s σ H Q I h
 exact isTrue_not (ha pins s σ H (λc H1=>Q (!c) H1) I h)
def S1(ta tb:TE):TE:=λσ H Q=>ta σ H λx H1=>∃c,x= .bl c/\if c=true then tb σ H1 Q else Q (.bl false) H1
def SJ(ta:TE):TE:=λσ H Q=>ta σ H λx H1=>∃c,x= .bl c/\Q (.bl (!c)) H1
theorem o8{op}{t:TE}(h:PE X a t):PE X (.BoolOp op [a] pos) t:=λpins s σ H Q I hw=>BoolOp_one (h pins s σ H Q I hw)
theorem ng(ha:PE X a ta)(hb:PE X (.BoolOp .And (b::rest) pos) tb):PE X (.BoolOp .And (a::b::rest) pos) (S1 ta tb):=by
 intro pins s σ H Q I h
 refine BoolOp_and (dw (ha pins s σ H _ I h) λv s1 ⟨x,H1,I1,r1,q1⟩=>?_)
 obtain⟨c,rfl,q1⟩:=q1
 cases r1
 refine wpAny_truthy_bool ?_
 cases c with
 |true=>exact hb pins s1 σ H1 Q I1 q1
 |false=>exact⟨.bl false,H1,I1,rfl,q1⟩
theorem Ke(ha:PE X a ta):PE X (.UnaryOp .Not a pos) (SJ ta):=by
 intro pins s σ H Q I h
 refine UnaryOp_ (dw (ha pins s σ H _ I h) λv s1 ⟨x,H1,I1,r1,q1⟩=>?_)
 obtain⟨c,rfl,q1⟩:=q1
 cases r1
 exact not_of (wpAny_truthy_bool ⟨.bl (!c),H1,I1,rfl,q1⟩)
def tIf(t:TT)(ta tb:TE):TE:=λσ H Q=>t σ H λc H1=>if c=true then ta σ H1 Q else tb σ H1 Q
theorem sV{c:Expr}(hc:PT X c tA)(ha:PE X a ta)(hb:PE X b tb):PE X (.IfExp c a b pos) (tIf tA ta tb):=by
 intro pins s σ H Q I h
 refine wpAny_IfExp (dw (hc pins s σ H _ I h) λd s1 ⟨H1,I1,q1⟩=>?_)
 cases d with
 |true=>exact ha pins s1 σ H1 Q I1 q1
 |false=>exact hb pins s1 σ H1 Q I1 q1
end
end L2
namespace L2
open PySem PySem.Spec PyProof.Rows
def bZ(K:PySem.W.Frag)(H:Hp)(a:Addr)(xs:List V):Prop :=
 Rd H a (.lst xs) ∨
  ∃(o:Obj) (its:Array Value) (n:Nat),K.lookup a=some o/\o.cls= .type "list" /\o.dict=none/\o.data= .seq its n/\its.size<=sizeLine/\Vals xs its.toList
def cP(K:PySem.W.Frag)(H:Hp)(a:Addr)(xs:List V):Prop :=
 Rd H a (.tup xs) ∨
  ∃(o:Obj) (its:Array Value) (n:Nat),K.lookup a=some o/\o.cls= .type "tuple" /\o.data= .seq its n/\its.size<=sizeLine/\Vals xs its.toList
def Z9:Value->Option V
 | .none=>some .gB
 | .bool b=>some (.bl b)
 | .int i _=>some (.int i)
 | .str x _=>some (.str x)
 | .bytes b _=>some (.G2 b)
 | .float b _=>some (.RM b)
 | .ref a=>some (.ref a)
 | .type n=>some (.ty n)
 |_=>none
theorem RelV.abs{x:V}{u:Value}(r:RelV x u):Z9 u=some x:=by
 cases x with
 |gB=>cases r;rfl
 |bl _=>cases r;rfl
 |int _=>obtain⟨t,rfl⟩:=r;rfl
 |str _=>obtain⟨t,rfl⟩:=r;rfl
 |G2 _=>obtain⟨t,rfl⟩:=r;rfl
 |RM _=>obtain⟨t,rfl⟩:=r;rfl
 |ref _=>cases r;rfl
 |ty _=>cases r;rfl
theorem RelV.inj{x y:V}{u:Value}(r:RelV x u)(q:RelV y u):x=y:=Option.some.inj (r.abs.symm.trans q.abs)
theorem Vals.inj:∀{xs ys:List V} {us:List Value},Vals xs us->Vals ys us->xs=ys
 |_,_,_,.nil,.nil=>rfl
 |_,_,_,.cons r t,.cons r' t'=>by rw[r.inj r',Vals.inj t t']
section
variable{X:Cx}{pins:List (Addr×Obj)}{σ:St}{H:Hp}{s:Shared}{a:Addr}{xs ys:List V}
theorem bZ.of{K:PySem.W.Frag}(h:H a=some (.lst xs)):bZ K H a xs:=.inl (.inl h)
theorem cP.of{K:PySem.W.Frag}(h:H a=some (.tup xs)):cP K H a xs:=.inl (.inl h)
theorem Inv.list(I:Inv X pins σ H s)(h:bZ X.K H a xs):∃its:List Value,Vals xs its/\PlainL s.heap a its.toArray/\xs.length<=sizeLine:=by
 rcases h with h|⟨o,its,n,hk,hc,hd,hs,hz,r⟩
 ·obtain⟨z,its,n,r,e⟩:=h.ok I.hok
  exact⟨its,r,⟨_,n,e,rfl,rfl,rfl⟩,z⟩
 ·refine⟨its.toList,r,⟨o,n,I.pB a o hk,hc,hd,by simpa using hs⟩,?_⟩
  have e:=r.length
  simp only[Array.length_toList]at e
  omega
theorem Inv.tuple(I:Inv X pins σ H s)(h:cP X.K H a xs):∃its:List Value,Vals xs its/\IsTup s.heap a its.toArray/\xs.length<=sizeLine:=by
 rcases h with h|⟨o,its,n,hk,hc,hs,hz,r⟩
 ·obtain⟨z,its,r,p⟩:=h.ok I.hok
  exact⟨its,r,p,z⟩
 ·refine⟨its.toList,r,⟨o,I.pB a o hk,hc,n,by simpa using hs⟩,?_⟩
  have e:=r.length
  simp only[Array.length_toList]at e
  omega
theorem Inv.xK(I:Inv X pins σ H s)(h:bZ X.K H a xs)(h':bZ X.K H a ys):xs=ys:=by
 obtain⟨its,r,⟨o,n,e,_,_,d⟩,_⟩:=I.list h
 obtain⟨its',r',⟨o',n',e',_,_,d'⟩,_⟩:=I.list h'
 rw[e]at e';cases e'
 rw[d]at d'
 injection d' with d1 _
 have:its=its':=by simpa using congrArg Array.toList d1
 subst this
 exact r.inj r'
theorem Inv.zD(I:Inv X pins σ H s)(h:cP X.K H a xs)(h':cP X.K H a ys):xs=ys:=by
 obtain⟨its,r,⟨o,e,_,n,d⟩,_⟩:=I.tuple h
 obtain⟨its',r',⟨o',e',_,n',d'⟩,_⟩:=I.tuple h'
 rw[e]at e';cases e'
 rw[d]at d'
 injection d' with d1 _
 have:its=its':=by simpa using congrArg Array.toList d1
 subst this
 exact r.inj r'
end
abbrev Cx.yr(X:Cx)(E:Value->Shared->Prop):Cx:={ X with xe:=E }
abbrev Cx.Q3(X:Cx):Cx:=X.yr λ_ _=>False
theorem Cx.Ok.yr{X:Cx}(ok:X.Ok)(E:Value->Shared->Prop):(X.yr E).Ok :=
 ⟨ok.mod,ok.kind,ok.glob,ok.blt,ok.above,ok.inj,ok.has,ok.Ny,ok.hd,ok.frames,ok.stk,ok.Wi,ok.bs,ok.LG,ok.ER,ok.Io,ok.sy,ok.Nn,ok.tk⟩
theorem Cx.Ok.pU{X:Cx}{E:Value->Shared->Prop}(ok:(X.yr E).Ok):X.Ok :=
 ⟨ok.mod,ok.kind,ok.glob,ok.blt,ok.above,ok.inj,ok.has,ok.Ny,ok.hd,ok.frames,ok.stk,ok.Wi,ok.bs,ok.LG,ok.ER,ok.Io,ok.sy,ok.Nn,ok.tk⟩
section
variable{X:Cx}{pins:List (Addr×Obj)}{σ:St}{H:Hp}{s:Shared}{E:Value->Shared->Prop}
theorem Inv.yr(I:Inv X pins σ H s)(E:Value->Shared->Prop):Inv (X.yr E) pins σ H s:=⟨I.ok.yr E,I.os,I.bare,I.base,I.loc,I.cell,I.free,I.jA,I.pin,I.hok,I.len,I.up⟩
theorem Inv.pU(I:Inv (X.yr E) pins σ H s):Inv X pins σ H s:=⟨I.ok.pU,I.os,I.bare,I.base,I.loc,I.cell,I.free,I.jA,I.pin,I.hok,I.len,I.up⟩
theorem SP.pU{D:Ends}{f:Flow}{s':Shared}(h:SP (X.yr E) pins D f s'):SP X pins D f s':=by
 cases f with
 |next=>obtain⟨σ',H',I,q⟩:=h;exact⟨σ',H',I.pU,q⟩
 |brk=>obtain⟨σ',H',I,q⟩:=h;exact⟨σ',H',I.pU,q⟩
 |cont=>obtain⟨σ',H',I,q⟩:=h;exact⟨σ',H',I.pU,q⟩
 |ret u=>obtain⟨v,σ',H',I,r,q⟩:=h;exact⟨v,σ',H',I.pU,r,q⟩
theorem Ak.Q3{st:List Stmt}{t:TS}(h:Ak X.Q3 st t):Ak X st t:=λpins s σ H D I hw =>
 wpAny_mono (h pins s σ H D (I.yr _) hw) (λ_ _ q=>q.pU) λ_ _ z=>False.elim z
end
section
variable{X:Cx}{st:Stmt}{rest:List Stmt}{t u:TS}{e:Expr}{te:TE}{pos:Pos}
def SK:TS:=λD σ H=>D.nx σ H
def X7(t u:TS):TS:=λD σ H=>t { D with nx:=u D } σ H
theorem aN:Ak X [] SK:=λ_ _ σ H _ I h=>wpAny_execs_nil ⟨σ,H,I,h⟩
theorem aj(h1:PS X st t)(h2:Ak X rest u):Ak X (st::rest) (X7 t u):=by
 intro pins s σ H D I h
 refine wpAny_execs_cons (dw (h1 pins s σ H { D with nx:=u D } I h) λf s1 q=>?_)
 cases f with
 |next =>
  obtain⟨σ',H',I',q⟩:=q
  exact h2 pins s1 σ' H' D I' q
 |ret v=>exact q
 |brk=>exact q
 |cont=>exact q
theorem ao(h1:PS X st t):Ak X [st] t:=by
 intro pins s σ H D I h
 refine wpAny_execs_cons (dw (h1 pins s σ H D I h) λf s1 q=>?_)
 cases f with
 |next=>exact wpAny_execs_nil q
 |ret v=>exact q
 |brk=>exact q
 |cont=>exact q
theorem Inv.quiet{pins:List (Addr×Obj)}{σ:St}{H:Hp}{s:Shared}(I:Inv X pins σ H s):interactive X.env=false:=by simp[interactive,I.ok.kind]
def SV(te:TE):TS:=λD σ H=>te σ H λ_ H1=>D.nx σ H1
theorem cj(he:PE X e te)(hs:swapsWith e none pos.line X.env=pure false:=by rfl):PS X (.Expr e pos) (SV te):=by
 intro pins s σ H D I h
 exact wpAny_Expr_any (dw (he pins s σ H _ I h) λv s1 ⟨x,H1,I1,r1,q1⟩=>⟨σ,H1,I1,q1⟩) I.quiet hs
def X8(te:TE):TS:=λD σ H=>te σ H D.rt
theorem aL(he:PE X e te):PS X (.Return (some e) pos) (X8 te):=by
 intro pins s σ H D I h
 exact wpAny_Return_some (dw (he pins s σ H _ I h) λv s1 ⟨x,H1,I1,r1,q1⟩=>⟨x,σ,H1,I1,r1,q1⟩)
def Yg(c:TT)(t u:TS):TS:=λD σ H=>c σ H λb H1=>if b=true then t D σ H1 else u D σ H1
theorem bN{c:Expr}{a b:List Stmt}{tc:TT}(hc:PT X c tc)(ha:Ak X a t)(hb:Ak X b u):PS X (.If c a b pos) (Yg tc t u):=by
 intro pins s σ H D I h
 refine wpAny_If (dw (hc pins s σ H _ I h) λd s1 ⟨H1,I1,q1⟩=>?_)
 cases d with
 |true=>exact ha pins s1 σ H1 D I1 q1
 |false=>exact hb pins s1 σ H1 D I1 q1
def Qz:TS:=λ_ _ _=>False
theorem eN{sts:List Stmt}:Ak X sts Qz:=λ_ _ _ _ _ _ h=>h.elim
end
abbrev TG:=V->St->Hp->(St->Hp->Prop)->Prop
abbrev Oz:=List V->St->Hp->(St->Hp->Prop)->Prop
def PG(X:Cx)(target:Expr)(t:TG):Prop :=
 ∀(pins:List (Addr×Obj)) (s:Shared) (σ:St) (H:Hp) (v:V) (u:Value) (Q:St->Hp->Prop),Inv X pins σ H s->RelV v u->t v σ H Q →
  wpAny (model X.prog X.w) X.A (assign target X.env u) (λ_ s'=>∃ σ' H',Inv X pins σ' H' s'/\Q σ' H') X.xe s
def Vo(X:Cx)(ts:List Expr)(t:Oz):Prop :=
 ∀(pins:List (Addr×Obj)) (s:Shared) (σ:St) (H:Hp) (vs:List V) (us:List Value) (Q:St->Hp->Prop),Inv X pins σ H s->Vals vs us->t vs σ H Q →
  wpAny (model X.prog X.w) X.A (assignInOrder ((assignEach ts X.env).map (·.2)) us) (λ_ s'=>∃ σ' H',Inv X pins σ' H' s'/\Q σ' H') X.xe s
abbrev R0:=V->V->V->Hp->(Hp->Prop)->Prop
def Vn(X:Cx)(t:R0):Prop :=
 ∀(pins:List (Addr×Obj)) (s:Shared) (σ:St) (H:Hp) (o i v:V) (ov iv u:Value) (Q:Hp->Prop),Inv X pins σ H s->RelV o ov->RelV i iv->RelV v u->t o i v H Q →
  wpAny (model X.prog X.w) X.A (setItem ov iv u) (λ_ s'=>∃H',Inv X pins σ H' s'/\Q H') X.xe s
section
variable{X:Cx}{pos:Pos}
def Lj(i:Nat):TG:=λv σ H Q=>Q (σ.set i (some v)) H
theorem aK{i:Nat}{x:Str}(hN:X.N.Nodup)(hi:X.N[i]? =some x)(hx:Loc X.env.scope x)(hf:X.fn x=true\/X.env.scope.names.lookup x=some .local:=by first|exact .inl rfl|exact .inr rfl|assumption):PG X (.Name x pos) (Lj i):=by
 intro pins s σ H v u Q I r h
 exact wpAny_assign_Name (wO I hN hi hx r (λs' I'=>⟨_,H,I',h⟩) hf)
def ZS:Oz:=λvs σ H Q=>vs=[]/\Q σ H
def U8(t:TG)(u:Oz):Oz:=λvs σ H Q=>∃v r,vs=v::r/\t v σ H λσ' H'=>u r σ' H' Q
theorem jo:Vo X [] ZS:=by
 intro pins s σ H vs us Q I r h
 obtain⟨e,h⟩:=h
 subst e
 cases r
 exact assignInOrder_nil ⟨σ,H,I,h⟩
theorem bG{e:Expr}{es:List Expr}{t:TG}{u:Oz}(h1:PG X e t)(h2:Vo X es u)
  (hs:(assignEach (e::es) X.env).map (·.2)=assign e X.env::(assignEach es X.env).map (·.2):=by rfl):Vo X (e::es) (U8 t u):=by
 intro pins s σ H vs us Q I r h
 obtain⟨v,vr,e1,h⟩:=h
 subst e1
 cases r with
 |cons r rr =>
  rw[hs]
  refine assignInOrder_cons (dw (h1 pins s σ H _ _ _ I r h) λ_ s1 ⟨σ1,H1,I1,q1⟩=>?_)
  exact h2 pins s1 σ1 H1 _ _ Q I1 rr q1
def U7(K:PySem.W.Frag)(n:Nat)(t:Oz):TG:=λv σ H Q=>∃a xs,v= .ref a/\cP K H a xs/\xs.length=n/\t xs σ H Q
theorem m7{es:List Expr}{k:Nat}{t:Oz}{n:Nat}(hc:X.calm=true)(h:Vo X es t)
  (hn:(assignEach es X.env).length=n:=by rfl) (hst:(assignEach es X.env).findIdx? (·.1)=none:=by rfl):PG X (.Tuple es k pos) (U7 X.K n t):=by
 intro pins s σ H v u Q I r hw
 obtain⟨a,xs,e1,hq,hl,hw⟩:=hw
 subst e1
 cases r
 obtain⟨its,rv,ht,hz⟩:=I.tuple hq
 refine assign_Tuple_tuple (I.ok.hd hc) ht (by simp[hn,←hl,rv.length]) hst λh' hx=>?_
 have I1:Inv X pins σ H { s with heap:=h' }:=I.kept (t':=s.toks) λb o e=>hx b o (Nat.ne_of_lt (Heap.lt_size e)) e
 exact h pins _ σ H xs _ Q I1 (by simpa using rv) hw
def ZR(to ti:TE)(t:R0):TG:=λv σ H Q=>to σ H λo H1=>ti σ H1 λi H2=>t o i v H2 λH3=>Q σ H3
theorem AH{o i:Expr}{to ti:TE}{t:R0}(ho:PE X o to)(hi:PE X i ti)(hs:Vn X t)
  (ha:∀v,assign (.Subscript o i pos) X.env v=(do
   let ov ←holding [v] (eval o X.env)
   let iv ←holding [v,ov] (eval i X.env)
   standAt pos
   holding [v,ov,iv] (setItem ov iv v)
   release [v,ov,iv] []):=by intro _;rfl):PG X (.Subscript o i pos) (ZR to ti t):=by
 intro pins s σ H v u Q I r h
 rw[ha]
 refine wpAny_bind (wpAny_holding (dw (ho pins s σ H _ I h) λov s1 ⟨x,H1,I1,r1,q1⟩=>?_))
 refine wpAny_bind (wpAny_holding (dw (hi pins s1 σ H1 _ I1 q1) λiv s2 ⟨y,H2,I2,r2,q2⟩=>?_))
 refine wpAny_bind (wpAny_standAt (wpAny_bind (wpAny_holding (dw (hs pins s2 σ H2 x y v ov iv u _ I2 r1 r2 r q2) λ_ s3 ⟨H3,I3,q3⟩=>?_))))
 exact wpAny_release ⟨σ,H3,I3,q3⟩
def QD(te:TE)(g:TG):TS:=λD σ H=>te σ H λx H1=>g x σ H1 D.nx
theorem rT{tg e:Expr}{te:TE}{g:TG}(he:PE X e te)(hg:PG X tg g)(hs:swapsWithSole [tg] e pos.line X.env=pure false:=by rfl)(hw:swappedStores [tg] e X.env=pure none:=by rfl)
  (h1:(assignEach [tg] X.env).map (·.2)=[assign tg X.env]:=by rfl):PS X (.Assign [tg] e pos) (QD te g):=by
 intro pins s σ H D I h
 refine wpAny_Assign_stores (dw (he pins s σ H _ I h) λv s1 ⟨x,H1,I1,r1,q1⟩=>?_) hs hw
 rw[h1]
 exact dw (hg pins s1 σ H1 x v _ I1 r1 q1) λ_ s2 q=>q
theorem aC{i:Nat}{x:Str}{e:Expr}{te:TE}{pos':Pos}(hN:X.N.Nodup)(hi:X.N[i]? =some x)(hx:Loc X.env.scope x)(he:PE X e te)(hs:swapsWith e (some (.Name x pos')) pos.line X.env=pure false:=by rfl)(hf:X.fn x=true\/X.env.scope.names.lookup x=some .local:=by first|exact .inl rfl|exact .inr rfl|assumption):
  PS X (.Assign [.Name x pos'] e pos) (QD te (Lj i)):=by
 intro pins s σ H D I h
 refine wpAny_Assign_Name (dw (he pins s σ H _ I h) λv s1 ⟨y,H1,I1,r1,q1⟩=>?_) hs
 exact wO I1 hN hi hx r1 (λs2 I2=>⟨_,H1,I2,q1⟩) hf
end
section
variable{X:Cx}{pos:Pos}
def Qw(c:TT)(tb:TS):TS:=λD σ H=>∃W:Nat->St->Hp->Prop,(∃m,W m σ H)/\∀m σ H,W m σ H →
 c σ H λb H1=>if b=true then ∃N:St->Hp->Prop,(∀ σ' H',N σ' H'->∃m',m'<m/\W m' σ' H')/\tb { D with nx:=N,ct:=N,bk:=D.nx } σ H1 else D.nx σ H1
theorem CB{c:Expr}{body:List Stmt}{tc:TT}{tb:TS}(hp:PassesOwn (model X.prog X.w) X.A X.env X.xe)(hc:PT X c tc)(hb:Ak X body tb):PS X (.While c body [] pos) (Qw tc tb):=by
 intro pins s σ H D I h
 obtain⟨W,⟨m0,w0⟩,turn⟩:=h
 refine wpAny_While (codeAny_whileLoop (λn s'=>∃ σ' H',Inv X pins σ' H' s'/\W n σ' H') ?_ m0 ⟨σ,H,I,w0⟩)
 rintro n s1 ⟨σ1,H1,I1,w1⟩
 refine wpAny_passesOwn hp (dw (hc pins s1 σ1 H1 _ I1 (turn n σ1 H1 w1)) λb s2 ⟨H2,I2,q2⟩=>?_)
 cases b with
 |true =>
  obtain⟨N,hN,q2⟩:=q2
  rw[if_pos rfl]
  refine wpAny_passesOwn hp (dw (hb pins s2 σ1 H2 _ I2 q2) λf s3 q3=>?_)
  cases f with
  |next =>
   obtain⟨σ3,H3,I3,n3⟩:=q3
   obtain⟨m',hm,w3⟩:=hN σ3 H3 n3
   exact⟨m',hm,σ3,H3,I3,w3⟩
  |cont =>
   obtain⟨σ3,H3,I3,n3⟩:=q3
   obtain⟨m',hm,w3⟩:=hN σ3 H3 n3
   exact⟨m',hm,σ3,H3,I3,w3⟩
  |brk=>exact q3
  |ret v=>exact q3
 |false =>
  rw[if_neg Bool.false_ne_true]
  exact wpAny_execs_nil ⟨σ1,H2,I2,q2⟩
end
structure It where
 go:Nat->Hp->Prop
 zq:Nat->Hp->V->Hp->Prop
 stop:Nat->Hp->Prop
def pL(X:Cx)(pins:List (Addr×Obj))(H:Hp)(b:Addr):Prop :=
 H b=none/\b≠X.env.locals/\b∉X.fs/\(b∈X.ex\/X.s₀.heap.objs.size<=b)/\(∀x c,X.env.cells.lookup x=some c->c≠b)/\∀p∈X.pn++pins,p.1≠b
theorem Inv.sC{X:Cx}{pins:List (Addr×Obj)}{σ:St}{H H':Hp}{s:Shared}{b:Addr}(I:Inv X pins σ H s)(hb:s.heap.objs.size<=b)(hn:H' b=none):pL X pins H' b:=by
 refine⟨hn,Nat.ne_of_gt (Nat.lt_of_lt_of_le I.lt hb),I.YH hb,.inr (Nat.le_trans I.sz hb),λx c e z=>?_,λp hp z=>?_⟩
 ·obtain⟨v,q⟩:=I.cell x c e
  exact absurd (Nat.lt_of_lt_of_le q.lt (by rw[z];exact hb)) (Nat.lt_irrefl _)
 ·exact absurd (Nat.lt_of_lt_of_le (Heap.lt_size (I.pin p hp).1) (by rw[z];exact hb)) (Nat.lt_irrefl _)
structure Turn(P:Program)(w:World)(K:PySem.W.Frag)(tg:Expr)(J:It)(fp:List Addr)(it:Addr)(tn:Nat->Heap->Prop):Prop where
 mem:it∈fp
 obj:∀i h,tn i h->∀b∈fp,∃o,h.get? b=some o/\∀v,o.data≠ .cell v
 keep:∀i h h',tn i h->(∀b∈fp,∀o,h.get? b=some o->h'.get? b=some o)->tn i h'
 item:∀(X:Cx),X.prog=P->X.w=w->X.K=K->X.calm=true->∀(i:Nat) (pins:List (Addr×Obj)) (s:Shared) (σ:St) (H:Hp) (E:Value->Shared->Prop),Inv X pins σ H s->(∀b∈fp,pL X pins H b)->tn i s.heap->J.go i H →
  wpAny (model P w) X.A (pyNext (.ref it)) (λr s1=>∃u,r=some u ∧
   wpAny (model P w) X.A (letOwnedTupleGo tg (.ref it) u) (λ_ s2=>∃x H',Inv X pins σ H' s2/\RelV x u/\J.zq i H x H'/\tn (i+1) s2.heap/\∀b∈fp,H' b=none) E s1) E s
 done:∀(X:Cx),X.prog=P->X.w=w->X.K=K->X.calm=true->∀(i:Nat) (pins:List (Addr×Obj)) (s:Shared) (σ:St) (H:Hp) (E:Value->Shared->Prop),Inv X pins σ H s->(∀b∈fp,pL X pins H b)->tn i s.heap->J.stop i H →
  wpAny (model P w) X.A (pyNext (.ref it)) (λr s1=>r=none/\Inv X pins σ H s1) E s
 self:∀(A:Around) (i:Nat) (s:Shared) (Q:Value->Shared->Prop) (E:Value->Shared->Prop),tn i s.heap->Q (.ref it) s->wpAny (model P w) A (pyIter (.ref it)) Q E s
abbrev TI:=St->Hp->(It->Hp->Prop)->Prop
def PIE(X:Cx)(pins:List (Addr×Obj))(σ:St)(tg:Expr)(R:It->Hp->Prop)(itv:Value)(s2:Shared):Prop :=
 ∃(it:Addr) (fp:List Addr) (tn:Nat->Heap->Prop) (J:It) (H':Hp),itv= .ref it/\Inv X pins σ H' s2/\Turn X.prog X.w X.K tg J fp it tn/\tn 0 s2.heap/\(∀b∈fp,pL X pins H' b)/\R J H'
def PI(X:Cx)(tg iter:Expr)(wi:TI):Prop :=
 ∀(pins:List (Addr×Obj)) (s:Shared) (σ:St) (H:Hp) (R:It->Hp->Prop),Inv X pins σ H s->wi σ H R →
  wpAny (model X.prog X.w) X.A (eval iter X.env) (λv s1=>wpAny (model X.prog X.w) X.A (pyIter v) (PIE X pins σ tg R) X.xe s1) X.xe s
theorem zW{M:Model}{A:Around}{E:Value->Shared->Prop}{s:Shared}{tg:Expr}{it:Addr}{u:Value}{o:Obj}{n:String}{vs:Array Value}{Q:Unit->Shared->Prop}(ho:s.heap.get? it=some o)(hc:o.cls= .type n)(hd:o.data= .fields vs)
  (hn:["enumerate","zip","dict_itemiterator","dict_reverseitemiterator","odict_iterator","itertools.zip_longest","itertools.pairwise"].contains n=false) (hQ:Q () s):wpAny M A (letOwnedTupleGo tg (.ref it) u) Q E s:=by
 unfold letOwnedTupleGo
 cases tg<;>first
  |exact wpAny_pure hQ
  |(cases u<;>first
    |exact wpAny_pure hQ
    |(refine wpAny_bind (wpAny_load ho ?_)
      rw[hc,hd]
      show wpAny M A (if(["enumerate","zip","dict_itemiterator","dict_reverseitemiterator","odict_iterator","itertools.zip_longest","itertools.pairwise"].contains n&&vs[0]? ==some (rawInt _))=true then _ else _) Q E s
      rw[if_neg (by intro h;rw[hn,Bool.false_and]at h;cases h)]
      exact wpAny_pure hQ))
def Vy(K:PySem.W.Frag)(a:Addr):It :=
 ⟨λi H=>∃xs x,bZ K H a xs/\xs[i]? =some x,λi H x H'=>H'=H/\∀xs,bZ K H a xs->xs[i]? =some x,λi H=>∃xs,bZ K H a xs/\xs.length<=i⟩
def Vw(K:PySem.W.Frag)(a:Addr):It :=
 ⟨λi H=>∃xs x,cP K H a xs/\xs[i]? =some x,λi H x H'=>H'=H/\∀xs,cP K H a xs->xs[i]? =some x,λi H=>∃xs,cP K H a xs/\xs.length<=i⟩
def Sx(lo:Int)(n:Nat):It:=⟨λi _=>i<n,λi H x H'=>H'=H/\x= .int (lo+i),λi _=>n<=i⟩
theorem zC{P:Program}{w:World}{K:PySem.W.Frag}{tg:Expr}(a it:Addr):Turn P w K tg (Vy K a) [it] it (λi h=>h.IsListIter it a i) where
 mem:=by simp
 obj:=λi h st b hb=>by
  have e:b=it:=by simpa using hb
  subst e
  obtain⟨o,e,c,d⟩:=st
  exact⟨o,e,λv z=>by rw[d]at z;cases z⟩
 keep:=λi h h' st k=>st.at λo e=>k it (by simp) o e
 item:=by
  intro X hP hw hK hc i pins s σ H E I hf st hg
  subst hP hw hK
  obtain⟨xs,x,hq,hx⟩:=hg
  obtain⟨its,rv,p,hz⟩:=I.list hq
  obtain⟨u,hu,ru⟩:=rv.get hx
  obtain⟨f0,f1,f2,f3,f4,f5⟩:=hf it (by simp)
  refine wpAny_pyNext_list_item st p.isList (x:=u) (by simpa using hu) λh' st' sb=>?_
  have I1:Inv X pins σ H { s with heap:=h' }:=I.turned (t':=s.toks) (λb o hb e=>(sb.2 b hb).trans e) f0 f1 f3 f4 f5
  obtain⟨o,e,c,d⟩:=id st'
  exact⟨u,rfl,zW (s:={ s with heap:=h' }) e c d (by decide) ⟨x,H,I1,ru,⟨rfl,λys hy=>by rw[I.xK hy hq];exact hx⟩,st',λb hb=>(hf b hb).1⟩⟩
 done:=by
  intro X hP hw hK hc i pins s σ H E I hf st hg
  subst hP hw hK
  obtain⟨xs,hq,hx⟩:=hg
  obtain⟨its,rv,p,hz⟩:=I.list hq
  obtain⟨f0,f1,f2,f3,f4,f5⟩:=hf it (by simp)
  have hl:=rv.length
  exact wpAny_pyNext_list_end (I.ok.hd hc) st p.isList (by simp;omega) λh' eb=>⟨rfl,I.turned (t':=s.toks) (λb o hb e=>eb b o hb e) f0 f1 f3 f4 f5⟩
 self:=λ_ _ _ _ _ st h=>wpAny_pyIter_listiter st h
theorem wN{P:Program}{w:World}{K:PySem.W.Frag}{tg:Expr}(a it:Addr):Turn P w K tg (Vw K a) [it] it (λi h=>h.IsTupleIter it a i) where
 mem:=by simp
 obj:=λi h st b hb=>by
  have e:b=it:=by simpa using hb
  subst e
  obtain⟨o,e,c,d⟩:=st
  exact⟨o,e,λv z=>by rw[d]at z;cases z⟩
 keep:=λi h h' st k=>st.at λo e=>k it (by simp) o e
 item:=by
  intro X hP hw hK hc i pins s σ H E I hf st hg
  subst hP hw hK
  obtain⟨xs,x,hq,hx⟩:=hg
  obtain⟨its,rv,p,hz⟩:=I.tuple hq
  obtain⟨u,hu,ru⟩:=rv.get hx
  obtain⟨f0,f1,f2,f3,f4,f5⟩:=hf it (by simp)
  refine wpAny_pyNext_tuple_item st (show s.heap.IsTuple a its.toArray from p) (x:=u) (by simpa using hu) λh' st' sb=>?_
  have I1:Inv X pins σ H { s with heap:=h' }:=I.turned (t':=s.toks) (λb o hb e=>(sb.2 b hb).trans e) f0 f1 f3 f4 f5
  obtain⟨o,e,c,d⟩:=id st'
  exact⟨u,rfl,zW (s:={ s with heap:=h' }) e c d (by decide) ⟨x,H,I1,ru,⟨rfl,λys hy=>by rw[I.zD hy hq];exact hx⟩,st',λb hb=>(hf b hb).1⟩⟩
 done:=by
  intro X hP hw hK hc i pins s σ H E I hf st hg
  subst hP hw hK
  obtain⟨xs,hq,hx⟩:=hg
  obtain⟨its,rv,p,hz⟩:=I.tuple hq
  obtain⟨f0,f1,f2,f3,f4,f5⟩:=hf it (by simp)
  have hl:=rv.length
  exact wpAny_pyNext_tuple_end (I.ok.hd hc) st (show s.heap.IsTuple a its.toArray from p) (by simp;omega) λh' eb=>⟨rfl,I.turned (t':=s.toks) (λb o hb e=>eb b o hb e) f0 f1 f3 f4 f5⟩
 self:=λ_ _ _ _ _ st h=>wpAny_pyIter_tupleiter st h
theorem Eh{P:Program}{w:World}{K:PySem.W.Frag}{tg:Expr}(it:Addr)(lo:Int)(n:Nat):Turn P w K tg (Sx lo n) [it] it (λi h=>IsRangeIter h it (lo+(i:Nat)*1) ((n:Int)-(i:Nat)) 1) where
 mem:=by simp
 obj:=λi h st b hb=>by
  have e:b=it:=by simpa using hb
  subst e
  exact⟨_,st,λv z=>by
   have z':Data.fields _=Data.cell v:=z
   cases z'⟩
 keep:=λi h h' st k=>k it (by simp) _ st
 item:=by
  intro X hP hw hK hc i pins s σ H E I hf st hg
  subst hP hw hK
  obtain⟨f0,f1,f2,f3,f4,f5⟩:=hf it (by simp)
  have W:=Walks.range (prog:=X.prog) (w:=X.w) (I.ok.hd hc) it lo 1 n
  refine TK.bS (Nat.le_refl s.toks) (W.item i s _ _ hg st λv h' tk hv st' kk hup=>?_)
  obtain⟨t,rfl⟩:=hv
  have I1:Inv X pins σ H { s with heap:=h',toks:=tk }:=I.turned (λb o hb e=>kk b o (by simpa using hb) e) f0 f1 f3 f4 f5
  refine⟨_,rfl,zW (s:={ s with heap:=h',toks:=tk }) (n:= "range_iterator") st' rfl rfl (by decide) ⟨.int (lo+i),H,I1,⟨t,?_⟩,⟨rfl,rfl⟩,st',λb hb=>(hf b hb).1⟩⟩
  rw[Int.mul_one]
 done:=by
  intro X hP hw hK hc i pins s σ H E I hf st hg
  subst hP hw hK
  obtain⟨f0,f1,f2,f3,f4,f5⟩:=hf it (by simp)
  exact wpAny_pyNext_range_end (I.ok.hd hc) st (by have:n<=i:=hg;omega) λh' eb=>⟨rfl,I.turned (t':=s.toks) (λb o hb e=>eb b o hb e) f0 f1 f3 f4 f5⟩
 self:=λ_ _ _ _ _ st h=>wpAny_pyIter_rangeiter st h
end L2
namespace L2
open PySem PySem.Spec PyProof.Rows
section
variable{X:Cx}{tg:Expr}
def Uw(K:PySem.W.Frag)(tl:TE):TI:=λσ H R=>tl σ H λx H1=>∃a,x= .ref a/\(∃xs,bZ K H1 a xs)/\R (Vy K a) H1
def Y3(K:PySem.W.Frag)(tl:TE):TI:=λσ H R=>tl σ H λx H1=>∃a,x= .ref a/\(∃xs,cP K H1 a xs)/\R (Vw K a) H1
theorem nU{l:Expr}{tl:TE}(hl:PE X l tl):PI X tg l (Uw X.K tl):=by
 intro pins s σ H R I h
 refine dw (hl pins s σ H _ I h) λv s1 ⟨x,H1,I1,r1,q1⟩=>?_
 obtain⟨a,e,⟨xs,hq⟩,q⟩:=q1
 subst e
 cases r1
 obtain⟨its,rv,p,hz⟩:=I1.list hq
 refine wpAny_pyIter_list p.isList ?_
 refine⟨s1.heap.objs.size,[s1.heap.objs.size],_,_,H1,rfl,I1.kept (t':=s1.toks) λb o e=>Heap.get?_push_of_some _ e,zC a _,⟨_,Heap.get?_push_size _ rfl,rfl,rfl⟩,λb hb=>?_,q⟩
 have e:b=s1.heap.objs.size:=by simpa using hb
 subst e
 exact I1.sC (Nat.le_refl _) (I1.hok.fresh (Nat.le_refl _))
theorem Kc{l:Expr}{tl:TE}(hl:PE X l tl):PI X tg l (Y3 X.K tl):=by
 intro pins s σ H R I h
 refine dw (hl pins s σ H _ I h) λv s1 ⟨x,H1,I1,r1,q1⟩=>?_
 obtain⟨a,e,⟨xs,hq⟩,q⟩:=q1
 subst e
 cases r1
 obtain⟨its,rv,p,hz⟩:=I1.tuple hq
 refine wpAny_pyIter_tuple (show s1.heap.IsTuple a its.toArray from p) ?_
 refine⟨s1.heap.objs.size,[s1.heap.objs.size],_,_,H1,rfl,I1.kept (t':=s1.toks) λb o e=>Heap.get?_push_of_some _ e,wN a _,⟨_,Heap.get?_push_size _ rfl,rfl,rfl⟩,λb hb=>?_,q⟩
 have e:b=s1.heap.objs.size:=by simpa using hb
 subst e
 exact I1.sC (Nat.le_refl _) (I1.hok.fresh (Nat.le_refl _))
theorem JU{pins:List (Addr×Obj)}{σ:St}{H:Hp}{s:Shared}{R:It->Hp->Prop}{E:Value->Shared->Prop}{lo hi:Int}{t u v:Tok}{tk:Nat}(I:Inv X pins σ H s)(h1: -(2 ^ 62)<=lo)(h2:lo<2 ^ 62)(h3: -(2 ^ 62)<=hi)(h4:hi<2 ^ 62)
  (q:R (Sx lo (hi-lo).toNat) H) (htk:s.toks<=tk:=by first|exact Nat.le_refl _|exact Nat.le_succ _|assumption|omega):wpAny (model X.prog X.w) X.A (pyIter (.ref s.heap.objs.size)) (PIE X pins σ tg R) E { s with heap:=s.heap.push { cls:=.type "range",data:=.fields #[.int lo t,.int hi u,.int 1 v] },toks:=tk }:=by
 refine wpAny_pyIter_range (IsRange.new ..) (small_one h1 h2 h3 h4) ?_
 have I1:Inv X pins σ H { s with heap:=s.heap.push { cls:=.type "range",data:=.fields #[.int lo t,.int hi u,.int 1 v] },toks:=tk }:=I.kept λb o e=>Heap.get?_push_of_some _ e
 refine⟨(s.heap.push { cls:=.type "range",data:=.fields #[.int lo t,.int hi u,.int 1 v] }).objs.size,[(s.heap.push { cls:=.type "range",data:=.fields #[.int lo t,.int hi u,.int 1 v] }).objs.size],_,_,H,rfl,
  I1.kept (t':=tk) λb o e=>Heap.get?_push_of_some _ e,Eh _ lo (hi-lo).toNat,?_,λb hb=>?_,q⟩
 ·have e1:lo+((0:Nat):Int)*1=lo:=by simp
  have e2:(((hi-lo).toNat:Nat):Int)-((0:Nat):Int)=Builtin.Range.rangeSize lo hi 1:=by rw[rangeSize_one];split<;>omega
  show IsRangeIter _ _ (lo+((0:Nat):Int)*1) ((((hi-lo).toNat:Nat):Int)-((0:Nat):Int)) 1
  rw[e1,e2]
  exact Heap.get?_push_size _ rfl
 ·have e:b=(s.heap.push { cls:=.type "range",data:=.fields #[.int lo t,.int hi u,.int 1 v] }).objs.size:=by simpa using hb
  subst e
  exact I1.sC (Nat.le_refl _) (I1.hok.fresh (Nat.le_refl _))
def Uv(ta:TA):TI:=λσ H R=>ta σ H λvs H1=>∃j:Int,vs=[.int j]/\ -(2 ^ 62)<=j/\j<2 ^ 62/\R (Sx 0 j.toNat) H1
theorem gC {a:Expr} {ta:TA} {p pos:Pos} (hg:Gl X "range") (hm:X.mg "range" =none) (ha:PA X [a] ta) (hs:starEach [a] X.env=[(false,eval a X.env)]:=by rfl):PI X tg (.Call (.Name "range" p) [a] [] pos) (Uv ta):=by
 intro pins s σ H R I h
 refine Call_ (om I hg hm boot_range (PyProof.Rows.callWith_type1 (dw (ha pos pins s σ H _ I h) λus s1 ⟨vs,H1,I1,r1,q1⟩=>?_) hs rfl))
 obtain⟨j,e,q1,q2,q⟩:=q1
 subst e
 cases r1 with
 |cons r rr =>
  cases rr
  obtain⟨t,rfl⟩:=r
  exact call_range_1 (JU I1 (by omega) (by omega) q1 q2 (by simpa using q))
def Yh(wi:TI)(g:TG)(tb:TS):TS:=λD σ H=>wi σ H λJ H1=>∃W:Nat->Nat->St->Hp->Prop,(∃m,W 0 m σ H1)/\∀i m σ H,W i m σ H →
 (J.stop i H/\D.nx σ H)\/(J.go i H/\∃N:St->Hp->Prop,(∀ σ' H',N σ' H'->∃m',m'<m/\W (i+1) m' σ' H')/\∀x H',J.zq i H x H'->g x σ H' λσ2 H2=>tb { D with nx:=N,ct:=N,bk:=D.nx } σ2 H2)
def AG(fp:List Addr)(h:Heap):List (Addr×Obj):=fp.filterMap λb=>(h.get? b).map λo=>(b,o)
theorem iu{fp:List Addr}{h:Heap}{b:Addr}{o:Obj}(hb:b∈fp)(e:h.get? b=some o):(b,o)∈AG fp h:=List.mem_filterMap.mpr ⟨b,hb,by rw[e];rfl⟩
theorem HB{fp:List Addr}{h:Heap}{p:Addr×Obj}(hp:p∈AG fp h):p.1∈fp/\h.get? p.1=some p.2:=by
 obtain⟨b,hb,e⟩:=List.mem_filterMap.mp hp
 cases q:h.get? b with
 |none=>rw[q]at e;cases e
 |some o =>
  rw[q]at e
  have e':(b,o)=p:=Option.some.inj e
  subst e'
  exact⟨hb,q⟩
theorem Inv.pinned{pins:List (Addr×Obj)}{σ:St}{H:Hp}{s:Shared}{fp:List Addr}(I:Inv X pins σ H s)(hf:∀b∈fp,pL X pins H b)(ho:∀b∈fp,∃o,s.heap.get? b=some o/\∀v,o.data≠ .cell v):Inv X (pins++AG fp s.heap) σ H s :=
 I.AF λp hp=>(List.mem_append.mp hp).elim (λz=>I.pin p (List.mem_append_right _ z)) λz=>by
  obtain⟨hb,e⟩:=HB z
  obtain⟨f0,f1,f2,_⟩:=hf p.1 hb
  obtain⟨o,e',d⟩:=ho p.1 hb
  rw[e]at e';cases e'
  exact⟨e,f0,f1,f2,d⟩
theorem Inv.wK{pins pl:List (Addr×Obj)}{σ:St}{H:Hp}{s:Shared}(I:Inv X (pins++pl) σ H s):Inv X pins σ H s:=I.AF λp hp=>I.pin p (List.mem_append_right _ (List.mem_append_left _ hp))
theorem cy{iter:Expr}{body:List Stmt}{wi:TI}{g:TG}{tb:TS}{pos:Pos}(hp:PassesOwn (model X.prog X.w) X.A X.env X.xe)(hc:X.calm=true)(hi:PI X tg iter wi)(hg:PG X tg g)(hb:Ak X body tb)
  (hs:∀x,foldedSetIterable iter X.env x=pure x:=by intro _;rfl):PS X (.For tg iter body [] pos) (Yh wi g tb):=by
 intro pins s σ H D I h
 refine wpAny_For (dw (hi pins s σ H _ I h) λv s1 h1=>dw h1 λitv s2 h2=>?_) hs
 obtain⟨it,fp,tn,J,H2,e,I2,T,st2,f2,W,⟨m0,w0⟩,turn⟩:=h2
 subst e
 have stat:∀{H':Hp},(∀b∈fp,H' b=none)->∀b∈fp,pL X pins H' b:=λhn b hb=>⟨hn b hb,(f2 b hb).2⟩
 refine codeAny_forLoop_any (λn s'=>∃i σ' H',Inv X pins σ' H' s'/\tn i s'.heap/\(∀b∈fp,H' b=none)/\W i n σ' H') ?_ m0 ⟨0,σ,H2,I2,st2,λb hb=>(f2 b hb).1,w0⟩
 rintro n s3 ⟨i,σ3,H3,I3,st3,fr3,w3⟩
 rcases turn i n σ3 H3 w3 with⟨stop,qn⟩|⟨go,N,hN,step⟩
 ·refine wpAny_passesOwn hp (dw (T.done X rfl rfl rfl hc i pins s3 σ3 H3 X.xe I3 (stat fr3) st3 stop) λr s4 ⟨hr,I4⟩=>?_)
  subst hr
  exact wpAny_execs_nil ⟨σ3,H3,I4,qn⟩
 ·refine wpAny_passesOwn hp (dw (T.item X rfl rfl rfl hc i pins s3 σ3 H3 X.xe I3 (stat fr3) st3 go) λr s4 ⟨u,hr,h4⟩=>?_)
  subst hr
  refine wpAny_passesOwn hp (dw h4 λ_ s5 ⟨x,H5,I5,r5,y5,Yk,fr5⟩=>?_)
  have I5':=I5.pinned (stat fr5) (T.obj _ _ Yk)
  refine wpAny_passesOwn hp (dw (hg _ s5 σ3 H5 x u _ I5' r5 (step x H5 y5)) λ_ s6 ⟨σ6,H6,I6,q6⟩=>?_)
  refine wpAny_passesOwn hp (dw (hb _ s6 σ6 H6 _ I6 q6) λf s7 q7=>?_)
  have again:∀{BS:St} {H7:Hp},Inv X (pins++AG fp s5.heap) BS H7 s7->N BS H7->∃m,m<n/\∃i σ' H',Inv X pins σ' H' s7/\tn i s7.heap/\(∀b∈fp,H' b=none)/\W i m σ' H':=λ{BS H7} I7 n7=>by
   obtain⟨m',hm,w7⟩:=hN BS H7 n7
   refine⟨m',hm,i+1,BS,H7,I7.wK,T.keep _ _ _ Yk λb hb o e=>(I7.pin (b,o) (List.mem_append_right _ (List.mem_append_right _ (iu hb e)))).1,λb hb=>?_,w7⟩
   obtain⟨o,e,d⟩:=T.obj _ _ Yk b hb
   exact(I7.pin (b,o) (List.mem_append_right _ (List.mem_append_right _ (iu hb e)))).2.1
  cases f with
  |next=>obtain⟨BS,H7,I7,n7⟩:=q7;exact again I7 n7
  |cont=>obtain⟨BS,H7,I7,n7⟩:=q7;exact again I7 n7
  |brk=>obtain⟨BS,H7,I7,q7⟩:=q7;exact⟨BS,H7,I7.wK,q7⟩
  |ret v=>obtain⟨x7,BS,H7,I7,r7,q7⟩:=q7;exact⟨x7,BS,H7,I7.wK,r7,q7⟩
end
theorem oM{K:PySem.W.Frag}{a:Addr}{xs:List V}{g:TG}{tb:TS}{D:Ends}{σ:St}{H:Hp}(Pv:Nat->St->Hp->Prop)(h0:Pv 0 σ H)(hl:∀i σ H,i<=xs.length->Pv i σ H->bZ K H a xs)
  (hs:∀i x σ H,xs[i]? =some x->Pv i σ H->g x σ H λσ2 H2=>tb { D with nx:=Pv (i+1),ct:=Pv (i+1),bk:=D.nx } σ2 H2) (hd:∀ σ H,Pv xs.length σ H->D.nx σ H) :
  ∃W:Nat->Nat->St->Hp->Prop,(∃m,W 0 m σ H)/\∀i m σ H,W i m σ H →
   ((Vy K a).stop i H/\D.nx σ H)\/((Vy K a).go i H/\∃N:St->Hp->Prop,(∀ σ' H',N σ' H'->∃m',m'<m/\W (i+1) m' σ' H')/\∀x H',(Vy K a).zq i H x H'->g x σ H' λσ2 H2=>tb { D with nx:=N,ct:=N,bk:=D.nx } σ2 H2):=by
 refine⟨λi m σ H=>m=xs.length-i/\i<=xs.length/\Pv i σ H,⟨xs.length,by simp,Nat.zero_le _,h0⟩,?_⟩
 rintro i m σ H ⟨rfl,hi,p⟩
 have q:=hl i σ H hi p
 by_cases hlt:i<xs.length
 ·refine .inr ⟨⟨xs,xs[i],q,by simp[hlt]⟩,Pv (i+1),λσ' H' p'=>⟨xs.length-(i+1),by omega,rfl,hlt,p'⟩,λx H' y=>?_⟩
  obtain⟨e,y⟩:=y
  subst e
  exact hs i x σ _ (y xs q) p
 ·have e:i=xs.length:=by omega
  subst e
  exact .inl ⟨⟨xs,q,Nat.le_refl _⟩,hd σ H p⟩
theorem GO{K:PySem.W.Frag}{a:Addr}{xs:List V}{g:TG}{tb:TS}{D:Ends}{σ:St}{H:Hp}(Pv:Nat->St->Hp->Prop)(h0:Pv 0 σ H)(hl:∀i σ H,i<=xs.length->Pv i σ H->cP K H a xs)
  (hs:∀i x σ H,xs[i]? =some x->Pv i σ H->g x σ H λσ2 H2=>tb { D with nx:=Pv (i+1),ct:=Pv (i+1),bk:=D.nx } σ2 H2) (hd:∀ σ H,Pv xs.length σ H->D.nx σ H) :
  ∃W:Nat->Nat->St->Hp->Prop,(∃m,W 0 m σ H)/\∀i m σ H,W i m σ H →
   ((Vw K a).stop i H/\D.nx σ H)\/((Vw K a).go i H/\∃N:St->Hp->Prop,(∀ σ' H',N σ' H'->∃m',m'<m/\W (i+1) m' σ' H')/\∀x H',(Vw K a).zq i H x H'->g x σ H' λσ2 H2=>tb { D with nx:=N,ct:=N,bk:=D.nx } σ2 H2):=by
 refine⟨λi m σ H=>m=xs.length-i/\i<=xs.length/\Pv i σ H,⟨xs.length,by simp,Nat.zero_le _,h0⟩,?_⟩
 rintro i m σ H ⟨rfl,hi,p⟩
 have q:=hl i σ H hi p
 by_cases hlt:i<xs.length
 ·refine .inr ⟨⟨xs,xs[i],q,by simp[hlt]⟩,Pv (i+1),λσ' H' p'=>⟨xs.length-(i+1),by omega,rfl,hlt,p'⟩,λx H' y=>?_⟩
  obtain⟨e,y⟩:=y
  subst e
  exact hs i x σ _ (y xs q) p
 ·have e:i=xs.length:=by omega
  subst e
  exact .inl ⟨⟨xs,q,Nat.le_refl _⟩,hd σ H p⟩
theorem kR{lo:Int}{n:Nat}{g:TG}{tb:TS}{D:Ends}{σ:St}{H:Hp}(Pv:Nat->St->Hp->Prop)(h0:Pv 0 σ H)
  (hs:∀i σ H,i<n->Pv i σ H->g (.int (lo+i)) σ H λσ2 H2=>tb { D with nx:=Pv (i+1),ct:=Pv (i+1),bk:=D.nx } σ2 H2) (hd:∀ σ H,Pv n σ H->D.nx σ H) :
  ∃W:Nat->Nat->St->Hp->Prop,(∃m,W 0 m σ H)/\∀i m σ H,W i m σ H →
   ((Sx lo n).stop i H/\D.nx σ H)\/((Sx lo n).go i H/\∃N:St->Hp->Prop,(∀ σ' H',N σ' H'->∃m',m'<m/\W (i+1) m' σ' H')/\∀x H',(Sx lo n).zq i H x H'->g x σ H' λσ2 H2=>tb { D with nx:=N,ct:=N,bk:=D.nx } σ2 H2):=by
 refine⟨λi m σ H=>m=n-i/\i<=n/\Pv i σ H,⟨n,by simp,Nat.zero_le _,h0⟩,?_⟩
 rintro i m σ H ⟨rfl,hi,p⟩
 by_cases hlt:i<n
 ·refine .inr ⟨hlt,Pv (i+1),λσ' H' p'=>⟨n-(i+1),by omega,rfl,hlt,p'⟩,λx H' y=>?_⟩
  obtain⟨e,y⟩:=y
  subst e y
  exact hs i σ _ hlt p
 ·have e:i=n:=by omega
  subst e
  exact .inl ⟨Nat.le_refl _,hd σ H p⟩
end L2
namespace L2
open PySem PySem.Spec PyProof.Rows
abbrev R2:=V->V->Hp->VK->Prop
def ud(X:Cx)(f:Value->Value->Sem Value)(r:R2):Prop :=
 ∀(pins:List (Addr×Obj)) (s:Shared) (σ:St) (H:Hp) (x y:V) (v u:Value) (Q:VK),Inv X pins σ H s->RelV x v->RelV y u->r x y H Q →
  wpAny (model X.prog X.w) X.A (f v u) (EP X pins σ Q) X.xe s
def UnR(X:Cx)(f:Value->Sem Value)(r:V->Hp->VK->Prop):Prop :=
 ∀(pins:List (Addr×Obj)) (s:Shared) (σ:St) (H:Hp) (x:V) (v:Value) (Q:VK),Inv X pins σ H s->RelV x v->r x H Q →
  wpAny (model X.prog X.w) X.A (f v) (EP X pins σ Q) X.xe s
def nE(X:Cx)(f:Value)(r:List V->Hp->VK->Prop):Prop :=
 ∀(pins:List (Addr×Obj)) (s:Shared) (σ:St) (H:Hp) (xs:List V) (us:List Value) (Q:VK),Inv X pins σ H s->Vals xs us->r xs H Q →
  wpAny (model X.prog X.w) X.A (call f us) (EP X pins σ Q) X.xe s
def VO(r:R2)(ta tb:TE):TE:=λσ H Q=>ta σ H λx H1=>tb σ H1 λy H2=>r x y H2 Q
def tUn(r:V->Hp->VK->Prop)(ta:TE):TE:=λσ H Q=>ta σ H λx H1=>r x H1 Q
def rI(C:Int->Int->Prop)(g:Int->Int->V):R2:=λx y H Q=>∃i j,x= .int i/\y= .int j/\C i j/\Q (g i j) H
def QN(g:Int->Int->V):R2:=λx y H Q=>∃i j,x= .int i/\y= .int j/\Q (g i j) H
def rU(g:Int->V):V->Hp->VK->Prop:=λx H Q=>∃i,x= .int i/\Q (g i) H
section
variable{X:Cx}{a b c:Expr}{ta tb tc:TE}{pos:Pos}
theorem RY(ha:PE X a ta)(hb:PE X b tb){pins:List (Addr×Obj)}{s:Shared}{σ:St}{H:Hp}{R:V->V->Hp->Prop}(I:Inv X pins σ H s)
  (h:ta σ H λx H1=>tb σ H1 λy H2=>R x y H2) {Q:Value->Shared->Prop} {f:Value->Value->Sem Value}
  (hf:∀v u s2 x y H2,Inv X pins σ H2 s2->RelV x v->RelV y u->R x y H2->wpAny (model X.prog X.w) X.A (f v u) Q X.xe s2) :
  wpAny (model X.prog X.w) X.A (eval a X.env) (λv s₁=>wpAny (model X.prog X.w) X.A (eval b X.env) (λu s₂=>wpAny (model X.prog X.w) X.A (f v u) Q X.xe s₂) X.xe s₁) X.xe s:=by
 refine dw (ha pins s σ H _ I h) λv s1 ⟨x,H1,I1,r1,q1⟩=>?_
 refine dw (hb pins s1 σ H1 _ I1 q1) λu s2 ⟨y,H2,I2,r2,q2⟩=>?_
 exact hf v u s2 x y H2 I2 r1 r2 q2
theorem aF{op:Operator}{r:R2}(ho:ud X (binaryOp op) r)(ha:PE X a ta)(hb:PE X b tb):PE X (.BinOp a op b pos) (VO r ta tb):=by
 intro pins s σ H Q I h
 exact wpAny_BinOp (RY ha hb I h λv u s2 x y H2 I2 rx ry q=>ho pins s2 σ H2 x y v u Q I2 rx ry q)
theorem uX{op:UnaryOp}{r:V->Hp->VK->Prop}(ho:UnR X (unaryOp op) r)(ha:PE X a ta):PE X (.UnaryOp op a pos) (tUn r ta):=by
 intro pins s σ H Q I h
 exact UnaryOp_ (dw (ha pins s σ H _ I h) λv s1 ⟨x,H1,I1,r1,q1⟩=>ho pins s1 σ H1 x v Q I1 r1 q1)
theorem Tt{f:Value->Value->Sem Value}{C:Int->Int->Prop}{g:Int->Int->Int}
  (rule:∀(i j:Int) (t u:Tok) (s:Shared) (Q:Value->Shared->Prop) (E:Value->Shared->Prop),C i j->Q (.int (g i j) s.toks) { s with toks:=s.toks+1 }->wpAny (model X.prog X.w) X.A (f (.int i t) (.int j u)) Q E s) :
  ud X f (rI C λi j=>.int (g i j)):=by
 intro pins s σ H x y v u Q I rx ry h
 obtain⟨i,j,rfl,rfl,hc,q⟩:=h
 obtain⟨t,rfl⟩:=rx
 obtain⟨t',rfl⟩:=ry
 exact rule i j t t' s _ _ hc ⟨.int (g i j),H,I.tok _,⟨_,rfl⟩,q⟩
theorem Tr{f:Value->Value->Sem Value}{g:Int->Int->Int}
  (rule:∀(i j:Int) (t u:Tok) (s:Shared) (Q:Value->Shared->Prop) (E:Value->Shared->Prop),Q (.int (g i j) s.toks) { s with toks:=s.toks+1 }->wpAny (model X.prog X.w) X.A (f (.int i t) (.int j u)) Q E s) :
  ud X f (QN λi j=>.int (g i j)):=by
 intro pins s σ H x y v u Q I rx ry h
 obtain⟨i,j,rfl,rfl,q⟩:=h
 obtain⟨t,rfl⟩:=rx
 obtain⟨t',rfl⟩:=ry
 exact rule i j t t' s _ _ ⟨.int (g i j),H,I.tok _,⟨_,rfl⟩,q⟩
theorem QX{f:Value->Value->Sem Value}{g:Int->Int->Bool}
  (rule:∀(i j:Int) (t u:Tok) (s:Shared) (Q:Value->Shared->Prop) (E:Value->Shared->Prop),Q (.bool (g i j)) s->wpAny (model X.prog X.w) X.A (f (.int i t) (.int j u)) Q E s) :
  ud X f (QN λi j=>.bl (g i j)):=by
 intro pins s σ H x y v u Q I rx ry h
 obtain⟨i,j,rfl,rfl,q⟩:=h
 obtain⟨t,rfl⟩:=rx
 obtain⟨t',rfl⟩:=ry
 exact rule i j t t' s _ _ ⟨.bl (g i j),H,I,rfl,q⟩
def aak(i j:Int):Prop:=0<j/\j<1073741824
def aaj(i j:Int):Prop:=0<=j/\j<=1000000/\i.natAbs<2 ^ 64
def Sa(i j:Int):Prop:=(-(2 ^ 64)<i/\i<2 ^ 64)\/(-(2 ^ 64)<j/\j<2 ^ 64)
theorem Sa.ok{i j:Int}(h:Sa i j):IntMulOk i j:=by
 rcases h with⟨h1,h2⟩|⟨h1,h2⟩
 ·exact .of_left (intBits_le_64 h1 h2)
 ·exact .of_right (intBits_le_64 h1 h2)
theorem cK:ud X (binaryOp .Add) (QN λi j=>.int (i+j)):=Tr λ_ _ _ _ _ _ _ q=>add_int q
theorem rX:ud X (binaryOp .Sub) (QN λi j=>.int (i-j)):=Tr λ_ _ _ _ _ _ _ q=>sub_int q
theorem lY:ud X (binaryOp .Mult) (rI Sa λi j=>.int (i*j)):=Tt λ_ _ _ _ _ _ _ hc q=>mul_int q hc.ok
theorem cM:ud X (binaryOp .FloorDiv) (rI aak λi j=>.int (i / j)):=Tt λi j _ _ _ _ _ hc q=>by
 have h1:(0:Int)<j:=hc.1
 have h2:j<1073741824:=hc.2
 exact floordiv_int (by omega) (by rw[Int.fdiv_eq_ediv_of_nonneg i (by omega)];exact q) (.inl (PyProof.noPylong_small (by omega)))
theorem b8:ud X (binaryOp .Mod) (rI (λ_ j=>0<j) λi j=>.int (i % j)):=Tt λi j _ _ _ _ _ hc q=>by
 have h1:(0:Int)<j:=hc
 exact mod_int' (by omega) (by rw[Int.fmod_eq_emod_of_nonneg i (by omega)];exact q)
theorem xj:ud X (binaryOp .Pow) (rI aaj λi j=>.int (i ^ j.toNat)):=Tt λ_ _ _ _ _ _ _ hc q=>pow_int_small hc.1 hc.2.1 hc.2.2 q
theorem unI{f:Value->Sem Value}{g:Int->Int}
  (rule:∀(i:Int) (t:Tok) (s:Shared) (Q:Value->Shared->Prop) (E:Value->Shared->Prop),Q (.int (g i) s.toks) { s with toks:=s.toks+1 }->wpAny (model X.prog X.w) X.A (f (.int i t)) Q E s) :
  UnR X f (rU λi=>.int (g i)):=by
 intro pins s σ H x v Q I rx h
 obtain⟨i,rfl,q⟩:=h
 obtain⟨t,rfl⟩:=rx
 exact rule i t s _ _ ⟨.int (g i),H,I.tok _,⟨_,rfl⟩,q⟩
theorem pV:UnR X (unaryOp .USub) (rU λi=>.int (-i)):=unI λ_ _ _ _ _ q=>neg_int q
end
def Tc:V->V->Bool
 | .gB,.gB=>true| .gB,.int _=>true| .int _,.gB=>true| .gB,.bl _=>true| .bl _,.gB=>true| .gB,.str _=>true| .str _,.gB=>true
 | .int _,.int _=>true| .bl _,.bl _=>true| .str _,.str _=>true| .G2 _,.G2 _=>true
 | .int _,.str _=>true| .str _,.int _=>true| .bl _,.str _=>true| .str _,.bl _=>true
 |_,_=>false
def rEq:R2:=λx y H Q=>Tc x y=true/\Q (.bl (decide (x=y))) H
def rNe:R2:=λx y H Q=>Tc x y=true/\Q (.bl (!decide (x=y))) H
theorem mP{i j:Int}:decide (V.int i=V.int j)=(i==j):=by
 rw[Bool.eq_iff_iff]
 simp
theorem Lw{i j:Bool}:decide (V.bl i=V.bl j)=(i==j):=by
 rw[Bool.eq_iff_iff]
 simp
theorem GW{i j:Str}:decide (V.str i=V.str j)=(i==j):=by
 rw[Bool.eq_iff_iff]
 simp
theorem GX{i j:Array UInt8}:decide (V.G2 i=V.G2 j)=(i.toList==j.toList):=by
 rw[Bool.eq_iff_iff]
 cases i
 cases j
 simp
section
variable{X:Cx}{a b c:Expr}{ta tb tc:TE}{pos:Pos}
theorem bY{pins:List (Addr×Obj)}{σ:St}{H:Hp}{s:Shared}{Q:VK}{k k':Bool}(I:Inv X pins σ H s)(q:Q (.bl k) H)(e:k=k'):EP X pins σ Q (.bool k') s:=by
 subst e
 exact⟨.bl k,H,I,rfl,q⟩
theorem gi:ud X (compareOp .Eq) rEq:=by
 intro pins s σ H x y v u Q I rx ry h
 obtain⟨hs,q⟩:=h
 cases x with
 |gB =>
  cases rx
  cases y with
  |gB=>cases ry;exact PySem.EqNone.eq_none_none (bY I q (by simp))
  |bl j=>cases ry;exact PySem.EqNone.eq_none_bool (bY I q (by simp))
  |int j=>obtain⟨t',rfl⟩:=ry;exact PySem.EqNone.eq_none_int (bY I q (by simp))
  |str j=>obtain⟨t',rfl⟩:=ry;exact PySem.EqNone.eq_none_str (bY I q (by simp))
  |_=>exact absurd (show false=true from hs) Bool.false_ne_true
 |bl i =>
  cases rx
  cases y with
  |gB=>cases ry;exact PySem.EqNone.eq_bool_none (bY I q (by simp))
  |bl j=>cases ry;exact eq_bool (bY I q Lw)
  |str j=>obtain⟨t',rfl⟩:=ry;exact PySem.EqMixed.eq_bool_str (bY I q (by simp))
  |_=>exact absurd (show false=true from hs) Bool.false_ne_true
 |int i =>
  obtain⟨t,rfl⟩:=rx
  cases y with
  |gB=>cases ry;exact PySem.EqNone.eq_int_none (bY I q (by simp))
  |int j=>obtain⟨t',rfl⟩:=ry;exact eq_int (bY I q mP)
  |str j=>obtain⟨t',rfl⟩:=ry;exact PySem.EqMixed.eq_int_str (bY I q (by simp))
  |_=>exact absurd (show false=true from hs) Bool.false_ne_true
 |str i =>
  obtain⟨t,rfl⟩:=rx
  cases y with
  |gB=>cases ry;exact PySem.EqNone.eq_str_none (bY I q (by simp))
  |bl j=>cases ry;exact PySem.EqMixed.eq_str_bool (bY I q (by simp))
  |int j=>obtain⟨t',rfl⟩:=ry;exact PySem.EqMixed.eq_str_int (bY I q (by simp))
  |str j=>obtain⟨t',rfl⟩:=ry;exact eq_str (bY I q GW)
  |_=>exact absurd (show false=true from hs) Bool.false_ne_true
 |G2 i =>
  obtain⟨t,rfl⟩:=rx
  cases y with
  |G2 j=>obtain⟨t',rfl⟩:=ry;exact PySem.W.eq_bytes (bY I q GX)
  |_=>exact absurd (show false=true from hs) Bool.false_ne_true
 |_=>cases y<;>exact absurd (show false=true from hs) Bool.false_ne_true
theorem qf:ud X (compareOp .NotEq) rNe:=by
 intro pins s σ H x y v u Q I rx ry h
 obtain⟨hs,q⟩:=h
 cases x with
 |gB =>
  cases rx
  cases y with
  |gB=>cases ry;exact PySem.EqNone.ne_none_none (bY I q (by simp))
  |bl j=>cases ry;exact PySem.EqNone.ne_none_bool (bY I q (by simp))
  |int j=>obtain⟨t',rfl⟩:=ry;exact PySem.EqNone.ne_none_int (bY I q (by simp))
  |str j=>obtain⟨t',rfl⟩:=ry;exact PySem.EqNone.ne_none_str (bY I q (by simp))
  |_=>exact absurd (show false=true from hs) Bool.false_ne_true
 |bl i =>
  cases rx
  cases y with
  |gB=>cases ry;exact PySem.EqNone.ne_bool_none (bY I q (by simp))
  |bl j=>cases ry;exact ne_bool (bY I q (congrArg not Lw))
  |str j=>obtain⟨t',rfl⟩:=ry;exact PySem.EqMixed.ne_bool_str (bY I q (by simp))
  |_=>exact absurd (show false=true from hs) Bool.false_ne_true
 |int i =>
  obtain⟨t,rfl⟩:=rx
  cases y with
  |gB=>cases ry;exact PySem.EqNone.ne_int_none (bY I q (by simp))
  |int j=>obtain⟨t',rfl⟩:=ry;exact ne_int (bY I q (congrArg not mP))
  |str j=>obtain⟨t',rfl⟩:=ry;exact PySem.EqMixed.ne_int_str (bY I q (by simp))
  |_=>exact absurd (show false=true from hs) Bool.false_ne_true
 |str i =>
  obtain⟨t,rfl⟩:=rx
  cases y with
  |gB=>cases ry;exact PySem.EqNone.ne_str_none (bY I q (by simp))
  |bl j=>cases ry;exact PySem.EqMixed.ne_str_bool (bY I q (by simp))
  |int j=>obtain⟨t',rfl⟩:=ry;exact PySem.EqMixed.ne_str_int (bY I q (by simp))
  |str j=>obtain⟨t',rfl⟩:=ry;exact ne_str (bY I q (congrArg not GW))
  |_=>exact absurd (show false=true from hs) Bool.false_ne_true
 |G2 i =>
  obtain⟨t,rfl⟩:=rx
  cases y with
  |G2 j=>obtain⟨t',rfl⟩:=ry;exact PySem.W.ne_bytes (bY I q (congrArg not GX))
  |_=>exact absurd (show false=true from hs) Bool.false_ne_true
 |_=>cases y<;>exact absurd (show false=true from hs) Bool.false_ne_true
theorem CK:ud X (compareOp .Lt) (QN λi j=>.bl (decide (i<j))):=QX λ_ _ _ _ _ _ _ q=>lt_int q
theorem Gx:ud X (compareOp .LtE) (QN λi j=>.bl (decide (i<=j))):=QX λ_ _ _ _ _ _ _ q=>le_int q
theorem xm:ud X (compareOp .Gt) (QN λi j=>.bl (decide (j<i))):=QX λ_ _ _ _ _ _ _ q=>gt_int q
theorem EE:ud X (compareOp .Is) (λx y H Q=>y= .gB/\Q (.bl (decide (x= .gB))) H):=by
 intro pins s σ H x y v u Q I rx ry h
 obtain⟨rfl,q⟩:=h
 cases ry
 refine is_none_gen (bY I q ?_)
 cases x<;>first
  |(cases rx;rfl)
  |(obtain⟨t,rfl⟩:=rx;rfl)
theorem ML:ud X (compareOp .IsNot) (λx y H Q=>y= .gB/\Q (.bl (!decide (x= .gB))) H):=by
 intro pins s σ H x y v u Q I rx ry h
 obtain⟨rfl,q⟩:=h
 cases ry
 refine isnot_none_gen (bY I q ?_)
 cases x<;>first
  |(cases rx;rfl)
  |(obtain⟨t,rfl⟩:=rx;rfl)
theorem aZ(b:Expr){op:CmpOp}(h:op≠ .In:=by decide)(h2:op≠ .NotIn:=by decide):behindInMarks op b=false:=by
 have e1:(op==CmpOp.In)=false:=by cases op<;>first|rfl|exact absurd rfl h
 have e2:(op==CmpOp.NotIn)=false:=by cases op<;>first|rfl|exact absurd rfl h2
 cases b<;>simp[behindInMarks,e1,e2]
theorem g9{op:CmpOp}{r:R2}(ho:ud X (compareOp op) r)(ha:PE X a ta)(hb:PE X b tb)(hm:behindInMarks op b=false):PE X (.Compare a [op] [b] pos) (VO r ta tb):=by
 intro pins s σ H Q I h
 exact wpAny_Compare1 (RY ha hb I h λv u s2 x y H2 I2 rx ry q=>ho pins s2 σ H2 x y v u Q I2 rx ry q) hm
def NP(t:TE):TT:=λσ H Q=>t σ H λx H'=>∃k,x= .bl k/\Q k H'
theorem aP{op:CmpOp}{r:R2}(ho:ud X (compareOp op) r)(ha:PE X a ta)(hb:PE X b tb)(hm:behindInMarks op b=false):PT X (.Compare a [op] [b] pos) (NP (VO r ta tb)):=by
 intro pins s σ H Q I h
 refine wpAny_isTrue_Compare1 (dw (ha pins s σ H _ I h) λv s1 ⟨x,H1,I1,r1,q1⟩=>dw (hb pins s1 σ H1 _ I1 q1) λu s2 ⟨y,H2,I2,r2,q2⟩ =>
  dw (ho pins s2 σ H2 x y v u _ I2 r1 r2 q2) λc s3 ⟨z,H3,I3,r3,k,e,q3⟩=>?_) hm
 subst e
 cases r3
 exact wpAny_truthy_bool ⟨H3,I3,q3⟩
def Jw(r r':R2)(ta tb tc:TE):TE:=λσ H Q=>ta σ H λx H1=>tb σ H1 λy H2=>r x y H2 λz H3=>∃k,z= .bl k ∧
 (if k=true then tc σ H3 λw' H4=>r' y w' H4 Q else Q (.bl false) H3)
theorem Kg{op op':CmpOp}{r r':R2}(ho:ud X (compareOp op) r)(ho':ud X (compareOp op') r')(ha:PE X a ta)(hb:PE X b tb)(hc:PE X c tc)
  (hm:lastMarks [op,op'] [b,c]=false:=by with_unfolding_all rfl):PE X (.Compare a [op,op'] [b,c] pos) (Jw r r' ta tb tc):=by
 intro pins s σ H Q I h
 refine Compare_chain (dw (ha pins s σ H _ I h) λv s1 ⟨x,H1,I1,r1,q1⟩=>chain_link (dw (hb pins s1 σ H1 _ I1 q1) λu s2 ⟨y,H2,I2,r2,q2⟩ =>
  dw (ho pins s2 σ H2 x y v u _ I2 r1 r2 q2) λd s3 ⟨z,H3,I3,r3,k,e,q3⟩=>?_)) hm
 subst e
 cases r3
 refine wpAny_truthy_bool ?_
 cases k with
 |false=>exact ite_ff ⟨.bl false,H3,I3,rfl,q3⟩
 |true=>exact ite_tt (chain_last (dw (hc pins s3 σ H3 _ I3 q3) λw' s4 ⟨z',H4,I4,r4,q4⟩=>ho' pins s4 σ H4 y z' u w' Q I4 r2 r4 q4))
theorem JY{op op':CmpOp}{r r':R2}(ho:ud X (compareOp op) r)(ho':ud X (compareOp op') r')(ha:PE X a ta)(hb:PE X b tb)(hc:PE X c tc)
  (hm:lastMarks [op,op'] [b,c]=false:=by with_unfolding_all rfl):PT X (.Compare a [op,op'] [b,c] pos) (NP (Jw r r' ta tb tc)):=by
 intro pins s σ H Q I h
 refine isTrue_chain (dw (ha pins s σ H _ I h) λv s1 ⟨x,H1,I1,r1,q1⟩=>test_link (dw (hb pins s1 σ H1 _ I1 q1) λu s2 ⟨y,H2,I2,r2,q2⟩ =>
  dw (ho pins s2 σ H2 x y v u _ I2 r1 r2 q2) λd s3 ⟨z,H3,I3,r3,k,e,q3⟩=>?_)) hm
 subst e
 cases r3
 refine wpAny_truthy_bool ?_
 cases k with
 |false =>
  obtain⟨k',e',q'⟩:=q3
  cases e'
  exact ite_ff ⟨H3,I3,q'⟩
 |true =>
  refine ite_tt (test_last (dw (hc pins s3 σ H3 _ I3 q3) λw' s4 ⟨z',H4,I4,r4,q4⟩=>dw (ho' pins s4 σ H4 y z' u w' _ I4 r2 r4 q4) λd' s5 ⟨z2,H5,I5,r5,k2,e2,q5⟩=>?_))
  subst e2
  cases r5
  exact wpAny_truthy_bool ⟨H5,I5,q5⟩
theorem uH:(sizeLine:Nat)<2 ^ 63:=by rw[sizeLine_eq];decide
theorem pA:ud X (binaryOp .Add) (λx y H Q=>∃i j,x= .str i/\y= .str j/\i.length+j.length<=sizeLine/\Q (.str (i++j)) H):=by
 intro pins s σ H x y v u Q I rx ry h
 obtain⟨i,j,rfl,rfl,hz,q⟩:=h
 obtain⟨t,rfl⟩:=rx
 obtain⟨t',rfl⟩:=ry
 exact TK.bS (Nat.le_refl _) (add_str (λt' tk hup=>⟨.str (i++j),H,I.tok _,⟨_,rfl⟩,q⟩) hz)
theorem vals1{x:V}{us:List Value}(r:Vals [x] us):∃u,us=[u]/\RelV x u:=by
 cases r with
 |cons r1 r2=>cases r2;exact⟨_,rfl,r1⟩
theorem vals2{x y:V}{us:List Value}(r:Vals [x,y] us):∃u w',us=[u,w']/\RelV x u/\RelV y w':=by
 cases r with
 |cons r1 r2 =>
  cases r2 with
  |cons r3 r4=>cases r4;exact⟨_,_,rfl,r1,r3⟩
theorem LC:nE X (.builtin "abs") (λxs H Q=>∃i,xs=[.int i]/\Q (.int (if i<0 then -i else i)) H):=by
 intro pins s σ H xs us Q I r h
 obtain⟨i,rfl,q⟩:=h
 obtain⟨u,rfl,t,rfl⟩:=vals1 r
 exact TK.bS (Nat.le_refl _) (call_abs_int λu tk hup=>⟨.int (if i<0 then -i else i),H,I.tok _,⟨_,rfl⟩,q⟩)
theorem IF:nE X (.type "int") (λxs H Q=>(∃i,xs=[.int i]/\Q (.int i) H)\/∃k,xs=[.bl k]/\Q (.int (if k then 1 else 0)) H):=by
 intro pins s σ H xs us Q I r h
 rcases h with⟨i,rfl,q⟩|⟨k,rfl,q⟩
 ·obtain⟨u,rfl,t,rfl⟩:=vals1 r
  exact call_int_int ⟨.int i,H,I,⟨_,rfl⟩,q⟩
 ·obtain⟨u,rfl,r1⟩:=vals1 r
  cases r1
  exact call_int_bool ⟨.int (if k then 1 else 0),H,I.tok _,⟨_,rfl⟩,q⟩
theorem LA:nE X (.builtin "ord") (λxs H Q=>∃x,xs=[.str x]/\x.length=1/\Q (.int (x.cps.getD 0 0:Nat)) H):=by
 intro pins s σ H xs us Q I r h
 obtain⟨x,rfl,hz,q⟩:=h
 obtain⟨u,rfl,t,rfl⟩:=vals1 r
 exact ord_of_one hz ⟨.int _,H,I.tok _,⟨_,rfl⟩,q⟩
def R8(K:PySem.W.Frag)(x:V)(H:Hp)(n:Nat):Prop :=
 match x with
 | .str y=>y.length<=sizeLine/\n=y.length
 | .G2 y=>y.size<=sizeLine/\n=y.size
 | .ref p=>(∃xs,bZ K H p xs/\n=xs.length)\/∃xs,cP K H p xs/\n=xs.length
 |_=>False
theorem bq:nE X (.builtin "len") (λxs H Q=>∃x n,xs=[x]/\R8 X.K x H n/\Q (.int n) H):=by
 intro pins s σ H xs us Q I r h
 obtain⟨x,n,rfl,e,q⟩:=h
 obtain⟨u,rfl,rx⟩:=vals1 r
 have hl:=uH
 have hs:sizeLine=16777216:=sizeLine_eq
 cases x with
 |str y =>
  obtain⟨t,rfl⟩:=rx
  obtain⟨hy,e'⟩:y.length<=sizeLine/\n=y.length:=e
  subst e'
  exact len_str (by omega) ⟨.int _,H,I.tok _,⟨_,rfl⟩,q⟩
 |G2 y =>
  obtain⟨t,rfl⟩:=rx
  obtain⟨hy,e'⟩:y.size<=sizeLine/\n=y.size:=e
  subst e'
  exact PySem.W.len_bytes (by omega) ⟨.int _,H,I.tok _,⟨_,rfl⟩,q⟩
 |ref p =>
  cases rx
  have e':(∃xs,bZ X.K H p xs/\n=xs.length)\/∃xs,cP X.K H p xs/\n=xs.length:=e
  rcases e' with⟨xs,hx,e'⟩|⟨xs,hx,e'⟩
  ·subst e'
   obtain⟨its,r',pl,hz⟩:=I.list hx
   have hlen:=r'.length
   exact Calls.call_len_list pl.isList (by simp only[List.size_toArray];omega) ⟨.int xs.length,H,I.tok _,⟨_,by simp only[List.size_toArray];rw[hlen]⟩,q⟩
  ·subst e'
   obtain⟨its,r',pl,hz⟩:=I.tuple hx
   have hlen:=r'.length
   exact len_tuple pl (by simp only[List.size_toArray];omega) ⟨.int xs.length,H,I.tok _,⟨_,by simp only[List.size_toArray];rw[hlen]⟩,q⟩
 |_=>exact(show False from e).elim
end
end L2
namespace L2
open PySem PySem.Spec PyProof.Rows
structure IQ(h:Heap)(x dx C:Addr)(mA:Str->Option Value):Prop where
 obj:h.get? x=some (PySem.W.instObj C dx)
 ns:h.Ns1 dx mA
 ne:dx≠x
theorem uG{h:Heap}{dx:Addr}{mA:Str->Option Value}(n:h.Ns1 dx mA):∃od,h.get? dx=some od/\∀name,PySem.W.lookIn name od=some (mA name):=by
 obtain⟨o,es,ep,ho,hd,hk,_,hm⟩:=n
 refine⟨o,ho,λname=>?_⟩
 have e:=hm name
 unfold nsFind findBy at e
 rw[←Array.find?_toList]at e
 unfold PySem.W.lookIn
 rw[hd]
 dsimp only
 split
 ·rename_i y q
  rw[q]at e
  exact congrArg some e
 ·rename_i q
  rw[q]at e
  have a:es.toList.any (·.refKey)=false:=by
   rw[List.any_eq_false]
   intro y hy
   obtain⟨z,t,hkey⟩:=hk y (Array.mem_toList_iff.mp hy)
   simp[DictEntry.refKey,hkey]
  have a':¬es.toList.any (·.refKey)=true:=by rw[a];exact Bool.false_ne_true
  rw[if_neg a']
  exact congrArg some e
theorem IQ.look{h:Heap}{x dx C:Addr}{mA:Str->Option Value}(I:IQ h x dx C mA):∃od,PySem.W.InstAt h x (PySem.W.instObj C dx) C (some od)/\∀name,PySem.W.lookIn name od=some (mA name) :=
 let ⟨od,ho,hl⟩:=uG I.ns
 ⟨od,⟨I.obj,rfl,rfl,ho⟩,hl⟩
section
variable{prog:Program}{w:World}{A:Around}{E:Value->Shared->Prop}{s:Shared}{K:PySem.W.Frag}{x dx C f:Addr}{mA:Str->Option Value}{name:Str}{v:Value}
theorem get_map{expr:Bool}{Q:Value->Shared->Prop}(X:K.In s.heap)(I:IQ s.heap x dx C mA)(hg:PySem.W.plainGet K C name=true)(hh:PySem.W.hasDictIn K C=true)
  (ha:PySem.W.findIn K (.ref C) name=some none) (hv:mA name=some v) (hv':PySem.W.handedIn v=true) (h:Q v { s with toks:=s.toks+1 }) :
  wpAny (model prog w) A (getAttr (.ref x) name expr) Q E s:=by
 obtain⟨od,J,hl⟩:=I.look
 exact PySem.W.get_value X J (PySem.W.plainGet_of hg).1 (PySem.W.findObj_own hh ha rfl (by rw[hl,hv])) hv' h
theorem My{ns:List Str}{Q:Unit->Shared->Prop}(X:K.In s.heap)(I:IQ s.heap x dx C mA)
  (hs:PySem.W.findIn K (.ref C) "__setattr__" =some (some (.builtin "object.__setattr__"))) (hp:PySem.W.plainOver K C=true) (ht:PySem.W.takerIn K C name=some none) (hh:PySem.W.hasDictIn K C=true)
  (hw:PySem.Within mA ns) (hsz:ns.length<=sizeLine)
  (h:∀h',IQ h' x dx C (λy=>if y=name then some v else mA y)->Heap.SameBut dx s.heap h'->Q () { s with heap:=h',toks:=s.toks+2 }) :
  wpAny (model prog w) A (setAttr (.ref x) name v) Q E s:=by
 obtain⟨od,J,hl⟩:=I.look
 refine PySem.W.set_plain X J hs (PySem.W.osa_open (s:={ s with toks:=s.toks+1 }) (r:=none) X J hp ht λb=>?_)
 obtain⟨cd,hc,hd'⟩:=PySem.W.any_some hh
 have hx:s.heap.get? x=some ⟨.ref C,some dx,.plain,#[]⟩:=I.obj
 refine wpAny_bind (wpAny_pure (wpAny_bind (wpAny_bind (wpAny_loadPart hx (wpAny_bind (PySem.W.Looks.here (s:={ s with toks:=s.toks+1 }) (PySem.W.looks_clsIn X hc) ?_))))))
 rw[hd']
 refine wpAny_pure (a:=some dx) (wpAny_bind (wpAny_pure (wpAny_bind ?_)))
 refine wpAny_nsSet1 (s:={ s with toks:=s.toks+1 }) I.ns λh' hn2 hs2=>?_
 obtain⟨oD,esD,epD,UM,UX,UY⟩:=hn2.count (PySem.Within.cons name v hw)
 refine wpAny_bind (wpAny_lookBehind UM (by rw[UX];exact pastItsLine_dict (Nat.le_trans UY (by rw[List.length_cons];omega))) ?_)
 exact wpAny_pure (h _ ⟨(hs2.2 _ (Ne.symm I.ne)).trans I.obj,hn2,I.ne⟩ hs2)
theorem KI{R:Result->Shared->Prop}{vs:List Value}{kw:List (Str×Value)}(X:K.In s.heap)(hm:PySem.W.makesIn K C=true)
  (hi:PySem.W.findIn K (.ref C) "__init__" =some (some (.ref f))) (hf:PySem.W.typeIn K (.ref f)=some (.type "function"))
  (h:codeAny (model prog w) (A.under (.builtin "type.__call__" ⟨.ref C::vs,kw⟩)) (.call (.ref f) ⟨.ref (s.heap.objs.size+1)::vs,kw⟩) (PySem.W.InitBack (s.heap.objs.size+1) R)
   { s with heap:=(s.heap.push PySem.W.emptyDict).push (PySem.W.instObj C s.heap.objs.size) }) :
  codeAny (model prog w) A (.call (.ref C) ⟨vs,kw⟩) R s:=by
 obtain⟨hh,g,d,t,os⟩:=s
 exact PySem.W.make_core (PySem.W.makes_of X hm) (PySem.W.looks_findIn X hi) (λself=>PySem.W.bind_fn X self hf) (.inl rfl) h
end
def aG(f:Str)(v:V):List (Str×V)->List (Str×V)
 |[]=>[(f,v)]
 |(g,x)::r=>if g=f then(g,v)::r else(g,x)::aG f v r
theorem av(f g:Str)(v:V):∀fs:List (Str×V),(aG f v fs).lookup g=if g=f then some v else fs.lookup g
 |[]=>by
  show List.lookup g [(f,v)]=_
  by_cases h:g=f
  ·have hb:(g==f)=true:=beq_iff_eq.mpr h
   simp only[List.lookup,hb,if_pos h]
  ·have hb:(g==f)=false:=beq_eq_false_iff_ne.mpr h
   simp only[List.lookup,hb,if_neg h]
 |(k,x)::r=>by
  have ih:=av f g v r
  rw[show aG f v ((k,x)::r)=(if k=f then(k,v)::r else(k,x)::aG f v r) from rfl]
  by_cases hk:k=f
  ·rw[if_pos hk]
   by_cases h:g=k
   ·have hb:(g==k)=true:=beq_iff_eq.mpr h
    simp only[List.lookup,hb,if_pos (h.trans hk)]
   ·have hb:(g==k)=false:=beq_eq_false_iff_ne.mpr h
    simp only[List.lookup,hb,if_neg (λe:g=f=>h (e.trans hk.symm))]
  ·rw[if_neg hk]
   by_cases h:g=k
   ·have hb:(g==k)=true:=beq_iff_eq.mpr h
    simp only[List.lookup,hb,if_neg (λe:g=f=>hk (h.symm.trans e))]
   ·have hb:(g==k)=false:=beq_eq_false_iff_ne.mpr h
    simp only[List.lookup,hb]
    exact ih
theorem oK(f:Str)(v:V):∀fs:List (Str×V),f∈(aG f v fs).map (·.1)/\∀g,g∈fs.map (·.1)->g∈(aG f v fs).map (·.1)
 |[]=>⟨by simp[aG],λg h=>by simp at h⟩
 |(k,x)::r=>by
  obtain⟨i1,i2⟩:=oK f v r
  rw[show aG f v ((k,x)::r)=(if k=f then(k,v)::r else(k,x)::aG f v r) from rfl]
  by_cases hk:k=f
  ·rw[if_pos hk]
   subst hk
   exact⟨by simp,λg h=>by simpa using h⟩
  ·rw[if_neg hk]
   refine⟨?_,λg h=>?_⟩
   ·rw[List.map_cons]
    exact List.mem_cons_of_mem _ i1
   ·rw[List.map_cons]at h ⊢
    rcases List.mem_cons.mp h with e|e
    ·exact List.mem_cons.mpr (.inl e)
    ·exact List.mem_cons_of_mem _ (i2 g e)
theorem qm(f:Str)(v:V):∀fs:List (Str×V),(aG f v fs).length<=fs.length+1
 |[]=>by simp[aG]
 |(k,x)::r=>by
  have ih:=qm f v r
  rw[show aG f v ((k,x)::r)=(if k=f then(k,v)::r else(k,x)::aG f v r) from rfl]
  by_cases hk:k=f
  ·rw[if_pos hk,List.length_cons,List.length_cons];omega
  ·rw[if_neg hk,List.length_cons,List.length_cons];omega
theorem nF.some_of{v:V}{o:Option Value}(r:nF (some v) o):∃u,o=some u/\RelV v u:=by
 cases o with
 |none=>exact(show False from r).elim
 |some u=>exact⟨u,rfl,r⟩
theorem Ij{v:V}{u:Value}(r:RelV v u):PySem.W.handedIn u=true:=by
 cases v with
 |gB=>cases (show u=Value.none from r);rfl
 |bl b=>cases (show u=Value.bool b from r);rfl
 |int i=>obtain⟨t,e⟩:=(show ∃t,u=Value.int i t from r);cases e;rfl
 |str x=>obtain⟨t,e⟩:=(show ∃t,u=Value.str x t from r);cases e;rfl
 |G2 b=>obtain⟨t,e⟩:=(show ∃t,u=Value.bytes b t from r);cases e;rfl
 |RM b=>obtain⟨t,e⟩:=(show ∃t,u=Value.float b t from r);cases e;rfl
 |ref a=>cases (show u=Value.ref a from r);rfl
 |ty n=>cases (show u=Value.type n from r);rfl
section
variable{P:Program}{w:World}{H H':Hp}{h h':Heap}{a C dx:Addr}{fs fs':List (Str×V)}
theorem AY(hok:mQ P w H h)(e:H a=some (.ins C dx fs)):∃mA,IQ h a dx C mA/\(∀f,nF (fs.lookup f) (mA f))/\PySem.Within mA (fs.map (·.1))/\fs.length<=1000/\H dx=some (.own a):=by
 obtain⟨d,z,ne,ob,mA,n,r,q⟩:=(show bI P w H h a (.ins C dx fs) from hok a _ e)
 exact⟨mA,⟨ob,n,ne⟩,r,q,z,d⟩
end
structure NJ(K:PySem.W.Frag)(C:Addr):Prop where
 pg:PySem.W.plainGet K C Str.empty=true
 hd:PySem.W.hasDictIn K C=true
 po:PySem.W.plainOver K C=true
 sa:PySem.W.findIn K (.ref C) "__setattr__" =some (some (.builtin "object.__setattr__"))
theorem NJ.get{K:PySem.W.Frag}{C:Addr}(c:NJ K C)(f:Str):PySem.W.plainGet K C f=true:=c.pg
def bL(K:PySem.W.Frag)(C:Addr)(f:Str):Prop:=PySem.W.findIn K (.ref C) f=some none
theorem bL.Jt{K:PySem.W.Frag}{C:Addr}{f:Str}(n:bL K C f):PySem.W.takerIn K C f=some none:=by
 unfold PySem.W.takerIn
 rw[show PySem.W.findIn K (.ref C) f=some none from n]
 rfl
section
variable{X:Cx}{pins:List (Addr×Obj)}{σ:St}{H:Hp}{s:Shared}{a C dx:Addr}{fs:List (Str×V)}{f:Str}{v:V}{A:Around}{E:Value->Shared->Prop}
theorem Fb{b:Bool}{Q:Value->Shared->Prop}(I:Inv X pins σ H s)(e:H a=some (.ins C dx fs))(c:NJ X.K C)(n:bL X.K C f)(l:fs.lookup f=some v)
  (h:∀u s',Inv X pins σ H s'->RelV v u->Q u s'):wpAny (model X.prog X.w) A (getAttr (.ref a) f b) Q E s:=by
 obtain⟨mA,O,r,_,_,_⟩:=AY I.hok e
 obtain⟨u,hu,ru⟩:=nF.some_of (v:=v) (o:=mA f) (by rw[←l];exact r f)
 exact get_map I.pB O (c.get f) c.hd n hu (Ij ru) (h u _ (I.tok _) ru)
theorem Es{y:V}{u:Value}{Q:Unit->Shared->Prop}(I:Inv X pins σ H s)(e:H a=some (.ins C dx fs))(c:NJ X.K C)(n:bL X.K C f)(hl:fs.length<1000)(ry:RelV y u)
  (h:∀s',Inv X pins σ (upd H a (.ins C dx (aG f y fs))) s'->Q () s'):wpAny (model X.prog X.w) A (setAttr (.ref a) f u) Q E s:=by
 obtain⟨mA,O,r,wi,_,ho⟩:=AY I.hok e
 have hz:(fs.map (·.1)).length<=sizeLine:=by rw[List.length_map,sizeLine_eq];omega
 refine My I.pB O c.sa c.po n.Jt c.hd wi hz λh' O' sb=>h _ ?_
 have hd:∃o,h'.get? dx=some o:=let ⟨o,_,_,e',_⟩:=O'.ns;⟨o,e'⟩
 refine I.write (x:=a) (e:=dx) (by rw[e];exact True.intro) (.inr ho) (λb q hb z=>(sb.2 b hb).trans z) hd ?_
 refine⟨by rw[au O.ne];exact ho,?_,O.ne,O'.obj,_,O'.ns,λg=>?_,λg hg=>?_⟩
 ·have:=qm f y fs;omega
 ·show nF ((aG f y fs).lookup g) (if g=f then some u else mA g)
  rw[av]
  by_cases q:g=f
  ·rw[if_pos q,if_pos q];exact ry
  ·rw[if_neg q,if_neg q];exact r g
 ·by_cases q:g=f
  ·rw[q];exact(oK f y fs).1
  ·refine(oK f y fs).2 g (wi g λz=>hg ?_)
   show(if g=f then some u else mA g)=none
   rw[if_neg q];exact z
theorem Inv.made(I:Inv X pins σ H s):Inv X pins σ (upd (upd H s.heap.objs.size (.own (s.heap.objs.size+1))) (s.heap.objs.size+1) (.ins C s.heap.objs.size []))
  { s with heap:=(s.heap.push PySem.W.emptyDict).push (PySem.W.instObj C s.heap.objs.size) }:=by
 have e1:(s.heap.push PySem.W.emptyDict).get? s.heap.objs.size=some PySem.W.emptyDict:=Heap.get?_push_size s.heap rfl
 have e2:((s.heap.push PySem.W.emptyDict).push (PySem.W.instObj C s.heap.objs.size)).get? (s.heap.objs.size+1)=some (PySem.W.instObj C s.heap.objs.size):=by
  have:=Heap.get?_push_size (s.heap.push PySem.W.emptyDict) (o:=PySem.W.instObj C s.heap.objs.size) rfl
  rwa [Heap.size_push]at this
 have e3:(s.heap.push PySem.W.emptyDict).Ns s.heap.objs.size (λ_=>none):=⟨PySem.W.emptyDict,#[],_,e1,rfl,(λe he=>absurd he (by simp)),λ_=>rfl⟩
 have I1:=I.laid (a:=s.heap.objs.size) (o:=.own (s.heap.objs.size+1)) (h':=s.heap.push PySem.W.emptyDict) (t':=s.toks) (λb u q=>Heap.get?_push_of_some _ q) (Nat.le_refl _) ⟨_,e1⟩
 refine I1.laid (a:=s.heap.objs.size+1) (o:=.ins C s.heap.objs.size []) (t':=s.toks) (λb u q=>Heap.get?_push_of_some _ q) (Nat.le_of_eq (Heap.size_push _ _)) ?_
 have ne:s.heap.objs.size≠s.heap.objs.size+1:=Nat.ne_of_lt (Nat.lt_succ_self _)
 refine⟨by rw[au ne,af],Nat.zero_le _,ne,e2,λ_=>none,(Heap.Ns1.of_empty e3).at λo q=>Heap.get?_push_of_some _ q,λ_=>True.intro,λy hy=>absurd rfl hy⟩
theorem G4{prog:Program}{w:World}{env:Env}{e:Expr}{f:Str}{pos:Pos}{s:Shared}{Q:Value->Shared->Prop}(hb:attributeBase e f env (eval e env)=eval e env)
  (h:wpAny (model prog w) A (eval e env) (λo s₁=>wpAny (model prog w) A (getAttr o f true) Q E s₁) E s):wpAny (model prog w) A (eval (.Attribute e f pos) env) Q E s :=
 Attribute_any_ h (by rw[arm_eval_Attribute,hb])
end
def SS(K:PySem.W.Frag)(ta:TE)(f:Str):TE:=λσ H Q=>ta σ H λx H1=>∃a C dx fs v,x= .ref a/\H1 a=some (.ins C dx fs)/\NJ K C/\bL K C f/\fs.lookup f=some v/\Q v H1
def Yp(K:PySem.W.Frag)(ta tv:TE)(f:Str):TS:=λD σ H=>tv σ H λy H1=>ta σ H1 λx H2=>∃a C dx fs,x= .ref a/\H2 a=some (.ins C dx fs)/\NJ K C/\bL K C f/\fs.length<1000 ∧
 D.nx σ (upd H2 a (.ins C dx (aG f y fs)))
section
variable{X:Cx}{o e value:Expr}{f:Str}{pos pos' tpos:Pos}{ta tv:TE}
theorem dh(he:PE X e ta)(hb:attributeBase e f X.env (eval e X.env)=eval e X.env):PE X (.Attribute e f pos) (SS X.K ta f):=by
 intro pins s σ H Q I h
 refine G4 hb (dw (he pins s σ H _ I h) λu s1 ⟨x,H1,I1,rx,a,C,dx,fs,v,ex,ea,c,n,l,q⟩=>?_)
 subst ex
 obtain rfl:u=Value.ref a:=rx
 exact Fb I1 ea c n l λu' s2 I2 ru=>⟨v,H1,I2,ru,q⟩
theorem lX(ha:PE X o ta)(hv:PE X value tv)(hs:swapsWith value (some (.Attribute o f pos')) pos.line X.env=pure false):PS X (.Assign [.Attribute o f pos'] value pos) (Yp X.K ta tv f):=by
 intro pins s σ H D I h
 refine plainObj_wpAny_Assign_Attribute (dw (hv pins s σ H _ I h) λu s1 ⟨y,H1,I1,ry,q⟩=>dw (ha pins s1 σ H1 _ I1 q) λov s2 ⟨x,H2,I2,rx,a,C,dx,fs,ex,ea,c,n,l,q2⟩=>?_) hs
 subst ex
 obtain rfl:ov=Value.ref a:=rx
 exact Es I2 ea c n l ry λs3 I3=>⟨σ,_,I3,q2⟩
end
section
variable{X:Cx}{pins:List (Addr×Obj)}{σ:St}{H:Hp}{s:Shared}{A:Around}{E:Value->Shared->Prop}{Q:Value->Shared->Prop}{c:Value}{b:Bool}
inductive t7(K:PySem.W.Frag)(H:Hp):V->Value->Prop where
 |gB:t7 K H .gB (.type "NoneType")
 |bl (x:Bool):t7 K H (.bl x) (.type "bool")
 |int (i:Int):t7 K H (.int i) (.type "int")
 |str (x:Str):t7 K H (.str x) (.type "str")
 |RM (x:UInt64):t7 K H (.RM x) (.type "float")
 |lst {a:Addr} {xs:List V} (e:H a=some (.lst xs)):t7 K H (.ref a) (.type "list")
 |tS {a:Addr} {o:Obj} {xs:List V} (e:H a=some (.tS o (.lst xs))):t7 K H (.ref a) (.type "list")
 |tup {a:Addr} {xs:List V} (e:H a=some (.tup xs)):t7 K H (.ref a) (.type "tuple")
 |dK {a:Addr} {kvs:List (Key×V)} (e:H a=some (.dK kvs)):t7 K H (.ref a) (.type "dict")
 |dT {a:Addr} {kvs:List (List Key×V)} (e:H a=some (.dT kvs)):t7 K H (.ref a) (.type "dict")
 |ins {a C dx:Addr} {fs:List (Str×V)} (e:H a=some (.ins C dx fs)) (cl:NJ K C) (ha:PySem.W.findIn K (.ref C) "__class__" =some (some (.builtin "object.__class__")))
   (hn:PySem.W.specialIn K (.builtin "object.__class__") "__get__" =some (some (.builtin "getset_descriptor.__get__"))) (htk:PySem.W.takesIn K (.builtin "object.__class__")=some true)
   (hm:PySem.W.mroIn K C (.type "object")=some true):t7 K H (.ref a) (.ref C)
theorem Ic{x:V}{u t:Value}(I:Inv X pins σ H s)(rx:RelV x u)(ty:t7 X.K H x t)(e:PySem.W.kitOne X.K t c=some b)(h:∀tk,Q (.bool b) { s with toks:=tk }):
  wpAny (model X.prog X.w) A (call (.builtin "isinstance") [u,c]) Q E s:=by
 cases ty with
 |gB=>cases (show u=Value.none from rx);exact PySem.W.kia_one PySem.W.kitx_none I.pB True.intro e (λz=>nomatch z) h
 |bl y=>cases (show u=Value.bool y from rx);exact PySem.W.kia_one PySem.W.kitx_bool I.pB True.intro e (λz=>nomatch z) h
 |int i=>obtain⟨t,q⟩:=(show ∃t,u=Value.int i t from rx);cases q;exact PySem.W.kia_one PySem.W.kitx_int I.pB True.intro e (λz=>nomatch z) h
 |str y=>obtain⟨t,q⟩:=(show ∃t,u=Value.str y t from rx);cases q;exact PySem.W.kia_one PySem.W.kitx_str I.pB True.intro e (λz=>nomatch z) h
 |RM y=>obtain⟨t,q⟩:=(show ∃t,u=Value.float y t from rx);cases q;exact PySem.W.kia_one PySem.W.kitx_float I.pB True.intro e (λz=>nomatch z) h
 | @lst a xs ea =>
  cases (show u=Value.ref a from rx)
  obtain⟨_,_,n,_,h1⟩:=(show bI X.prog X.w H s.heap a (.lst xs) from I.hok a _ ea)
  exact PySem.W.kia_one PySem.W.kitx_list I.pB ⟨_,h1,rfl⟩ e (λz=>nomatch z) h
 | @tS a ob xs ea =>
  cases (show u=Value.ref a from rx)
  obtain⟨_,_,_,n,_,h1⟩:=(show bI X.prog X.w H s.heap a (.tS ob (.lst xs)) from I.hok a _ ea)
  exact PySem.W.kia_one PySem.W.kitx_list I.pB ⟨_,h1,rfl⟩ e (λz=>nomatch z) h
 | @tup a xs ea =>
  cases (show u=Value.ref a from rx)
  obtain⟨_,_,_,p⟩:=(show bI X.prog X.w H s.heap a (.tup xs) from I.hok a _ ea)
  obtain⟨o,h1,h2,_⟩:=p
  exact PySem.W.kia_one PySem.W.kitx_tuple I.pB ⟨o,h1,h2⟩ e (λz=>nomatch z) h
 | @dK a kvs ea =>
  cases (show u=Value.ref a from rx)
  obtain⟨_,_,vs,_,p⟩:=(show bI X.prog X.w H s.heap a (.dK kvs) from I.hok a _ ea)
  obtain⟨o,es,ep,h1,h2,_⟩:=p
  exact PySem.W.kia_one PySem.W.kitx_dict I.pB ⟨o,h1,h2.1⟩ e (λz=>nomatch z) h
 | @dT a kvs ea =>
  cases (show u=Value.ref a from rx)
  obtain⟨_,_,xs,_,o,es,ep,h1,h2,_⟩:=(show bI X.prog X.w H s.heap a (.dT kvs) from I.hok a _ ea)
  exact PySem.W.kia_one PySem.W.kitx_dict I.pB ⟨o,h1,h2.1⟩ e (λz=>nomatch z) h
 | @ins a C dx fs ea cl ha hn htk hm =>
  cases (show u=Value.ref a from rx)
  obtain⟨mA,O,_⟩:=AY I.hok ea
  obtain⟨od,J,_⟩:=O.look
  exact PySem.W.kia_one (PySem.W.kitx_own (cl.get _) cl.hd ha hn htk hm) I.pB J e (λz=>nomatch z) h
end
end L2
namespace L2
open PySem PySem.Spec PyProof.Rows
structure jS(k:Nat)(A:Around):Prop where
 hd:A.handled=none
 dp:A.depth+3*k+5<recursionLimit
 un:A.units+16*k+200<cLine
theorem jS.mono{j k:Nat}{A:Around}(r:jS k A)(h:j<=k):jS j A:=⟨r.hd,by have:=r.dp;omega,by have:=r.un;omega⟩
theorem jS.deeper{k:Nat}{A:Around}(r:jS (k+1) A)(env:Env):jS k (A.deeper env) :=
 ⟨r.hd,by have:=r.dp;show A.depth+1+3*k+5<_;omega,by have:=r.un;show A.units+3+16*k+200<_;omega⟩
theorem E4{A:Around}{C:Addr}{us:List Value}{kw:List (Str×Value)}:(A.under (.builtin "type.__call__" ⟨.ref C::us,kw⟩)).depth=A.depth+1:=by
 first|rfl|simp[Around.under,Code.weight,Code.isCreation,Code.isGuard,Code.isCaller,Code.frames,Code.isFrame,guardIds]
theorem E3{A:Around}{C:Addr}{us:List Value}{kw:List (Str×Value)}:(A.under (.builtin "type.__call__" ⟨.ref C::us,kw⟩)).units=A.units+1:=by
 first|rfl|simp[Around.under,Code.cUnits,Code.frames,Code.isFrame]
theorem jS.make{k:Nat}{A:Around}(r:jS (k+1) A)(C:Addr)(us:List Value)(kw:List (Str×Value)):jS k (A.under (.builtin "type.__call__" ⟨.ref C::us,kw⟩)) :=
 ⟨r.hd,by have:=r.dp;rw[E4];omega,by have:=r.un;rw[E3];omega⟩
theorem jS.depth{k:Nat}{A:Around}(r:jS k A):A.depth<recursionLimit:=by have:=r.dp;omega
theorem jS.units{k:Nat}{A:Around}(r:jS k A):A.units+64<cLine:=by have:=r.un;omega
def Yc:TA:=λ_ H Q=>Q [] H
def SX(ta:TE)(tr:TA):TA:=λσ H Q=>ta σ H λx H1=>tr σ H1 λxs H2=>Q (x::xs) H2
section
variable{X:Cx}{e:Expr}{es:List Expr}{te:TE}{t:TA}{pos:Pos}
theorem ah:PA X [] Yc:=λ_ _ _ _ H Q I h=>Calls.spliced_nil ⟨[],H,I,.nil,h⟩
theorem aa(ha:PE X e te)(hr:PA X es t)(hs:starEach (e::es) X.env=(false,eval e X.env)::starEach es X.env:=by rfl):PA X (e::es) (SX te t):=by
 intro pos pins s σ H Q I h
 rw[hs]
 show wpAny _ _ (spliced ((false,eval e X.env)::backTo pos (starEach es X.env))) _ _ s
 refine Calls.spliced_cons (dw (ha pins s σ H _ I h) λu s1 ⟨x,H1,I1,r1,q1⟩=>?_)
 exact dw (hr pos pins s1 σ H1 _ I1 q1) λus s2 ⟨xs,H2,I2,r2,q2⟩=>⟨x::xs,H2,I2,.cons r1 r2,q2⟩
def X5(t:TA):TE:=λσ H Q=>t σ H λxs H1=>xs.length<=sizeLine/\∀p,H1 p=none->Q (.ref p) (upd H1 p (.tup xs))
def Ye(t:TA):TE:=λσ H Q=>t σ H λxs H1=>xs.length<=sizeLine/\∀p,H1 p=none->Q (.ref p) (upd H1 p (.lst xs))
theorem bA{x1}(h:PA X es t):PE X (.Tuple es x1 pos) (X5 t):=by
 intro pins s σ H Q I hq
 refine wpAny_Tuple_spliced (dw (h pos pins s σ H _ I hq) λus s1 ⟨xs,H1,I1,r,z,q⟩=>⟨by rw[←r.length];exact z,?_⟩)
 have hf:H1 s1.heap.objs.size=none:=I1.hok.fresh (Nat.le_refl _)
 refine⟨.ref s1.heap.objs.size,upd H1 s1.heap.objs.size (.tup xs),I1.laid (t':=s1.toks) (λb u e=>Heap.get?_push_of_some _ e) (Nat.le_refl _) ?_,rfl,q _ hf⟩
 exact⟨z,us,r,⟨_,Heap.get?_push_size _ rfl,rfl,_,rfl⟩⟩
theorem g6(h:PA X es t):PE X (.List es pos) (Ye t):=by
 intro pins s σ H Q I hq
 refine wpAny_List_spliced (dw (h pos pins s σ H _ I hq) λus s1 ⟨xs,H1,I1,r,z,q⟩=>⟨by rw[←r.length];exact z,?_⟩)
 have hf:H1 s1.heap.objs.size=none:=I1.hok.fresh (Nat.le_refl _)
 refine⟨.ref s1.heap.objs.size,upd H1 s1.heap.objs.size (.lst xs),I1.laid (t':=s1.toks) (λb u e=>Heap.get?_push_of_some _ e) (Nat.le_refl _) ?_,rfl,q _ hf⟩
 exact⟨z,us,0,r,Heap.get?_push_size _ rfl⟩
end
abbrev Sp:=List V->Hp->VK->XK->Prop
abbrev IX:=List Env->Hp->Shared->XK->Value->Shared->Prop
structure FW(P:Program)(w:World)(K:PySem.W.Frag)(mg:Str->Option Value)(base:Heap)(A:Around)(outer:List Env)(s:Shared)(H:Hp):Prop where
 frames:A.frames=some outer
 mod:Mod K mg base
 bs:∀b o,base.get? b=some o->s.heap.get? b=some o/\H b=none
 LG:base.objs.size<=s.heap.objs.size
 sy:s.heap.FunFrames base outer
 Nn:∀b∈frs outer,H b=none
 hok:mQ P w H s.heap
 bare:AllBare s.gens
 tk:FD mg s.toks
def CE(outer:List Env)(P:Program)(w:World)(H:Hp)(s:Shared)(Q:VK)(u:Value)(s':Shared):Prop :=
 ∃v H',s'.os=s.os/\AllBare s'.gens/\Un (frs outer) [] H H' s.heap s'.heap/\mQ P w H' s'.heap/\RelV v u/\s.toks<=s'.toks/\Q v H'
def CR(CX:IX)(outer:List Env)(P:Program)(w:World)(H:Hp)(s:Shared)(Q:VK)(E:XK)(r:Result)(s':Shared):Prop :=
 match r with
 | .ok (.ret u)=>CE outer P w H s Q u s'
 | .ok _=>False
 | .error e=>CX outer H s E e s'
structure aJ(P:Program)(w:World)(K:PySem.W.Frag)(mg:Str->Option Value)(base:Heap)(CX:IX)(k:Nat)(f:Addr)(fd:FuncData)(ps:List Str)(sp:Sp):Prop where
 len:∀vs H Q E,sp vs H Q E->vs.length=ps.length
 run:∀(A:Around) (outer:List Env) (s:Shared) (H:Hp) (args:Args) (us:List Value) (vs:List V) (Q:VK) (E:XK),jS k A->FW P w K mg base A outer s H->BindsTo s fd args (ps.zip us)->Vals vs us->sp vs H Q E →
  codeAny (model P w) A (.call (.ref f) args) (CR CX outer P w H s Q E) s
theorem FW.make{P:Program}{w:World}{K:PySem.W.Frag}{mg:Str->Option Value}{base:Heap}{A:Around}{outer:List Env}{s:Shared}{H:Hp}(e:FW P w K mg base A outer s H)(C:Addr)(us:List Value)(kw:List (Str×Value)):
  FW P w K mg base (A.under (.builtin "type.__call__" ⟨.ref C::us,kw⟩)) outer s H:=⟨by first|exact e.frames|(simpa[Around.under,Code.envs,Code.isFrame,pushEnvs]using e.frames),e.mod,e.bs,e.LG,e.sy,e.Nn,e.hok,e.bare,e.tk⟩
section
variable{X:Cx}{pins:List (Addr×Obj)}{σ:St}{H:Hp}{s s':Shared}
theorem Inv.Nv(I:Inv X pins σ H s):FW X.prog X.w X.K X.mg X.base X.A X.stack s H :=
 ⟨I.ok.frames,I.ok.mod,I.bs,Nat.le_trans I.ok.LG I.sz,I.stack,I.Ar,I.hok,I.bare,I.tk⟩
theorem Inv.after{Q:VK}{u:Value}(I:Inv X pins σ H s)(h:CE X.stack X.prog X.w H s Q u s'):EP X pins σ Q u s':=by
 obtain⟨v,H',os,bare,un,hok,r,tt,q⟩:=h
 obtain⟨hh,g,d,t,os'⟩:=s'
 obtain rfl:os'=s.os:=os
 exact⟨v,H',I.call (h':=hh) (g':=g) (d':=d) (t':=t) (ch:=[]) un hok bare (λb z=>absurd z (by simp)) (Nat.le_trans I.up tt),r,q⟩
end
def SY(sp:Sp)(yo:List V)(E:XK)(t:TA):TE:=λσ H Q=>t σ H λvs H1=>sp (vs++yo) H1 Q E
def SR(C:Addr)(sp:Sp)(yo:List V)(E:XK)(t:TA):TE:=λσ H Q=>t σ H λvs H1=>∀x dx,H1 x=none->H1 dx=none->dx≠x →
 sp (.ref x::(vs++yo)) (upd (upd H1 dx (.own x)) x (.ins C dx [])) (λv H2=>v= .gB/\Q (.ref x) H2) E
def Binds(K:PySem.W.Frag)(fd:FuncData)(ps:List Str)(ds:List Value):Prop :=
 ∀(s:Shared) (us:List Value),K.In s.heap->(us++ds).length=ps.length->BindsTo s fd ⟨us,[]⟩ (ps.zip (us++ds))
theorem Binds.all{K:PySem.W.Frag}{fd:FuncData}{ps:List Str}(h:∀us:List Value,us.length=ps.length->bindArgs fd ⟨us,[]⟩=pure (ps.zip us)):Binds K fd ps []:=λs us _ hl=>by
 rw[List.append_nil]at hl ⊢
 exact .of_eq (h us hl)
def Passes(CX:IX)(X:Cx)(E:XK):Prop:=∀(pins:List (Addr×Obj)) (σ:St) (H:Hp) (s:Shared) (e:Value) (s':Shared),Inv X pins σ H s->CX X.stack H s E e s'->X.xe e s'
section
variable{X:Cx}{CX:IX}{k:Nat}{f C:Addr}{fd:FuncData}{ps:List Str}{sp:Sp}{yo:List V}{ds:List Value}{E:XK}{x m:Str}{p pos apos:Pos}{e o:Expr}{es:List Expr}{ta:TE}{t:TA}
theorem QL{pins:List (Addr×Obj)}{σ:St}{H:Hp}{s:Shared}{Q:VK}{us:List Value}{vs:List V}(F:aJ X.prog X.w X.K X.mg X.base CX k f fd ps sp)(hr:jS k X.A)(hb:Binds X.K fd ps ds)(hd:Vals yo ds)(hx:Passes CX X E)
  (I:Inv X pins σ H s) (r:Vals vs us) (h:sp (vs++yo) H Q E):wpAny (model X.prog X.w) X.A (call (.ref f) us) (EP X pins σ Q) X.xe s:=by
 have r2:Vals (vs++yo) (us++ds):=r.append hd
 have hl:(us++ds).length=ps.length:=by rw[←r2.length];exact F.len _ _ _ _ h
 refine wpAny_call (codeAny_mono (F.run X.A X.stack s H ⟨us,[]⟩ (us++ds) (vs++yo) Q E hr I.Nv (hb s us I.pB hl) r2 h) λr s' hq=>?_)
 cases r with
 |error e=>exact hx pins σ H s e s' I hq
 |ok fl =>
  cases fl with
  |ret u=>exact I.after hq
  |next=>exact False.elim hq
  |brk=>exact False.elim hq
  |cont=>exact False.elim hq
theorem az(F:aJ X.prog X.w X.K X.mg X.base CX k f fd ps sp)(hr:jS k X.A)(hg:Gl X x)(hm:X.mg x=some (.ref f))(hk:PySem.W.keepIn X.K (.ref f)=true)(hb:Binds X.K fd ps ds)(hd:Vals yo ds)(hx:Passes CX X E)
  (ha:PA X (e::es) t) (hdb:(x==("__debug__" :Str))=false:=by decide) (he:starEach (e::es) X.env=(false,eval e X.env)::starEach es X.env:=by rfl) (hpl:(backTo pos (starEach es X.env)).any (·.1)=false:=by rfl) :
  PE X (.Call (.Name x p) (e::es) [] pos) (SY sp yo E t):=by
 intro pins s σ H Q I h
 refine wpAny_Call_Name_kw (mO I hg hm ?_ hdb)
 refine PySem.W.callWith_K (h₀:=X.base) I.ok.mod.N8 hk (dw (ha pos pins s σ H _ I h) λus s1 ⟨vs,H1,I1,r,q⟩=>⟨I1.pB,?_⟩) he hpl
 exact QL F hr hb hd hx I1 r q
structure Mk(K:PySem.W.Frag)(C f:Addr):Prop where
 makes:PySem.W.makesIn K C=true
 init:PySem.W.findIn K (.ref C) "__init__" =some (some (.ref f))
 fn:PySem.W.isFn K (.ref f)=true
 kp:PySem.W.keepIn K (.ref C)=true
theorem JS{pins:List (Addr×Obj)}{σ:St}{H:Hp}{s:Shared}{Q:VK}{us:List Value}{vs:List V}(M:Mk X.K C f)(F:aJ X.prog X.w X.K X.mg X.base CX k f fd ps sp)(hr:jS (k+1) X.A)(hb:Binds X.K fd ps ds)(hd:Vals yo ds)
  (hx:Passes CX X E) (I:Inv X pins σ H s) (r:Vals vs us)
  (h:∀x dx,H x=none->H dx=none->dx≠x->sp (.ref x::(vs++yo)) (upd (upd H dx (.own x)) x (.ins C dx [])) (λv H2=>v= .gB/\Q (.ref x) H2) E) :
  wpAny (model X.prog X.w) X.A (call (.ref C) us) (EP X pins σ Q) X.xe s:=by
 have hq:=h (s.heap.objs.size+1) s.heap.objs.size (I.hok.fresh (Nat.le_succ _)) (I.hok.fresh (Nat.le_refl _)) (Nat.ne_of_lt (Nat.lt_succ_self _))
 have I2:=Inv.made (C:=C) I
 have r2:Vals (V.ref (s.heap.objs.size+1)::(vs++yo)) (Value.ref (s.heap.objs.size+1)::(us++ds)):=.cons rfl (r.append hd)
 have hl:(Value.ref (s.heap.objs.size+1)::us++ds).length=ps.length:=by
  have e:=r2.length
  rw[F.len _ _ _ _ hq]at e
  exact e.symm
 refine wpAny_call (KI (f:=f) I.pB M.makes M.init (beq_iff_eq.mp M.fn) (codeAny_mono (F.run _ X.stack _ _ ⟨Value.ref (s.heap.objs.size+1)::us,[]⟩ (Value.ref (s.heap.objs.size+1)::(us++ds)) _ _ E (hr.make C us [])
  (I2.Nv.make C us []) (hb _ (Value.ref (s.heap.objs.size+1)::us) I2.pB hl) r2 hq) λr s' hq'=>?_))
 cases r with
 |error e=>exact hx pins σ _ _ e s' I2 hq'
 |ok fl =>
  cases fl with
  |ret u =>
   obtain⟨v,H',I3,rv,ev,q3⟩:=I2.after hq'
   subst ev
   exact⟨rv,⟨V.ref (s.heap.objs.size+1),H',I3,rfl,q3⟩⟩
  |next=>exact False.elim hq'
  |brk=>exact False.elim hq'
  |cont=>exact False.elim hq'
theorem Gu(M:Mk X.K C f)(F:aJ X.prog X.w X.K X.mg X.base CX k f fd ps sp)(hr:jS (k+1) X.A)(hg:Gl X x)(hm:X.mg x=some (.ref C))(hb:Binds X.K fd ps ds)(hd:Vals yo ds)(hx:Passes CX X E)
  (ha:PA X (e::es) t) (hdb:(x==("__debug__" :Str))=false:=by decide) (he:starEach (e::es) X.env=(false,eval e X.env)::starEach es X.env:=by rfl) (hpl:(backTo pos (starEach es X.env)).any (·.1)=false:=by rfl) :
  PE X (.Call (.Name x p) (e::es) [] pos) (SR C sp yo E t):=by
 intro pins s σ H Q I h
 refine wpAny_Call_Name_kw (mO I hg hm ?_ hdb)
 refine PySem.W.callWith_K (h₀:=X.base) I.ok.mod.N8 M.kp (dw (ha pos pins s σ H _ I h) λus s1 ⟨vs,H1,I1,r,q⟩=>⟨I1.pB,?_⟩) he hpl
 exact JS M F hr hb hd hx I1 r q
end
section
variable{X:Cx}{CX:IX}{k:Nat}{f C:Addr}{fd:FuncData}{ps ks:List Str}{sp:Sp}{E:XK}{x m:Str}{p pos apos kpos:Pos}{e o:Expr}{es:List Expr}{kws:List Keyword}{te ta:TE}{t tk:TA}{nm:Option Str}
variable{g:List Value->List Value->List Value}{gV:List V->List V->List V}
end
structure aH(N P:List Str)(sc:Scope):Prop where
 kind:sc.kind= .function
 co:sc.isCoroutine=false
 gen:sc.isGenerator=false
 nd:N.Nodup
 pre:N.take P.length=P
 par:∀x∈P,sc.names.lookup x=some .local\/sc.names.lookup x=some .cell
 Q4:∀y∈sc.names,y.2≠ .free
theorem Aa{kindOf:Str->Option NameKind}{x:Str}:∀{binds:List (Str×Value)} {m:Str->Option Value},(∀v,(x,v)∉binds)->bindL kindOf binds m x=m x
 |[],_,_=>rfl
 |(n,v)::r,m,h=>by
  unfold bindL
  rw[Aa λw hw=>h w (List.mem_cons_of_mem _ hw)]
  split
  ·have:x≠n:=by rintro rfl;exact h v List.mem_cons_self
   simp[this]
  ·rfl
theorem Ac{kindOf:Str->Option NameKind}{x:Str}:∀{binds:List (Str×Value)} {m:Str->Option Value},(∀v,(x,v)∉binds)->bindC kindOf binds m x=m x
 |[],_,_=>rfl
 |(n,v)::r,m,h=>by
  unfold bindC
  rw[Ac λw hw=>h w (List.mem_cons_of_mem _ hw)]
  split
  ·rfl
  ·have:x≠n:=by rintro rfl;exact h v List.mem_cons_self
   simp[this]
theorem Ab{kindOf:Str->Option NameKind}{x:Str}{v:Value}:∀{P:List Str} {vs:List Value} {i:Nat} {m:Str->Option Value},P.Nodup->P[i]? =some x->vs[i]? =some v->kindOf x=some .local →
  bindL kindOf (P.zip vs) m x=some v
 |[],_,_,_,_,h,_,_=>by simp at h
 |_::_,[],_,_,_,_,h,_=>by simp at h
 |p::P,w::vs,0,m,nd,h1,h2,hk=>by
  simp at h1 h2;subst h1;subst h2
  show bindL kindOf ((p,w)::P.zip vs) m p=_
  unfold bindL
  rw[Aa λv hv=>(List.nodup_cons.mp nd).1 (List.of_mem_zip hv).1,if_pos hk]
  simp
 |p::P,w::vs,i+1,m,nd,h1,h2,hk=>by
  show bindL kindOf ((p,w)::P.zip vs) m x=_
  unfold bindL
  exact Ab (i:=i) (List.nodup_cons.mp nd).2 (by simpa using h1) (by simpa using h2) hk
theorem Ad{kindOf:Str->Option NameKind}{x:Str}{v:Value}:∀{P:List Str} {vs:List Value} {i:Nat} {m:Str->Option Value},P.Nodup->P[i]? =some x->vs[i]? =some v->kindOf x≠some .local →
  bindC kindOf (P.zip vs) m x=some v
 |[],_,_,_,_,h,_,_=>by simp at h
 |_::_,[],_,_,_,_,h,_=>by simp at h
 |p::P,w::vs,0,m,nd,h1,h2,hk=>by
  simp at h1 h2;subst h1;subst h2
  show bindC kindOf ((p,w)::P.zip vs) m p=_
  unfold bindC
  rw[Ac λv hv=>(List.nodup_cons.mp nd).1 (List.of_mem_zip hv).1,if_neg hk]
  simp
 |p::P,w::vs,i+1,m,nd,h1,h2,hk=>by
  show bindC kindOf ((p,w)::P.zip vs) m x=_
  unfold bindC
  exact Ad (i:=i) (List.nodup_cons.mp nd).2 (by simpa using h1) (by simpa using h2) hk
def start(N:List Str)(vs:List V):St:=vs.map some++List.replicate (N.length-vs.length) none
def tW(CX:IX)(P:Program)(w:World)(K:PySem.W.Frag)(mg:Str->Option Value)(base:Heap)(N:List Str)(qual:Str)(scope:Scope)(f:Addr)(cd:Value)(A:Around)(outer:List Env)(s:Shared)(H:Hp)(E:XK):Cx where
 prog:=P
 w:=w
 K:=K
 mg:=mg
 base:=base
 A:=A.deeper (envOfC qual scope s.heap.objs.size f cd)
 N:=N
 s₀:=s
 H₀:=H
 env:=envOfC qual scope s.heap.objs.size f cd
 outer:=outer
 stack:=envOfC qual scope s.heap.objs.size f cd::outer
 ex:=[]
 calm:=true
 fn:=λ_=>true
 pn:=[]
 xe:=λe s'=>wpAny (model P w) (A.deeper (envOfC qual scope s.heap.objs.size f cd)) (leaving (envOfC qual scope s.heap.objs.size f cd) e) (λ_ s''=>CX outer H s E e s'') (λe' s''=>CX outer H s E e' s'') s'
theorem DH{sc:Scope}{n:Nat}{x:Str}(h:sc.names.lookup x=some .cell):∃c,(cellsFrom n sc.names []).lookup x=some c:=by
 have q:=PySem.W.cellsFrom_some sc.names n [] (.inl h)
 exact Option.isSome_iff_exists.mp q
theorem Ie{CX:IX}{P:Program}{w:World}{K:PySem.W.Frag}{mg:Str->Option Value}{base:Heap}{N ps:List Str}{qual:Str}{scope:Scope}{f:Addr}{cd:Value}{A:Around}{outer:List Env}{s s1:Shared}{H:Hp}{E:XK}{us:List Value}{vs:List V}
  (S:aH N ps scope) (hd:A.handled=none) (e0:FW P w K mg base A outer s H) (hl:vs.length=ps.length) (r:Vals vs us)
  (x:InCallC s s.heap.objs.size (bindL (envOfC qual scope s.heap.objs.size f cd).kindOf (ps.zip us) λ_=>none) (cellsFrom (s.heap.objs.size+1) scope.names []) (bindC (envOfC qual scope s.heap.objs.size f cd).kindOf (ps.zip us) λ_=>none) s1) (hup:s.toks<=s1.toks) :
  Inv (tW CX P w K mg base N qual scope f cd A outer s H E) [] (start N vs) H s1:=by
 have hpl:ps.length<=N.length:=by have:=congrArg List.length S.pre;rw[List.length_take]at this;omega
 obtain⟨h1,tk,rfl,hk⟩:=x.done
 have htk:s.toks<=tk:=hup
 have YJ:∀b:Addr,b∉(tW CX P w K mg base N qual scope f cd A outer s H E).ex:=λb z=>absurd (show b∈([]:List Addr) from z) (by simp)
 refine⟨⟨e0.mod,S.kind,rfl,rfl,Nat.le_refl _,λy z c h1 h2=>?_,λy hy=>?_,λy c _ h=>?_,λ_=>hd,Around.frames_deeper e0.frames,.inr ⟨rfl,rfl⟩,λb z=>absurd z (YJ b),e0.bs,e0.LG,λb _ _=>YJ b,λb z=>absurd z (YJ b),e0.sy,e0.Nn,e0.tk⟩,
  rfl,e0.bare,Un.kept hk,⟨_,x.toInCall.ns,λi y v h1 h2 h3=>?_⟩,λy c h=>⟨_,x.cell y c h⟩,e0.hok.fresh (Nat.le_refl _),λy c h=>?_,λp hp=>absurd (show p∈([]:List (Addr×Obj)) from hp) (by simp),e0.hok.kept hk,?_,htk⟩
 ·exact name_of_addr x.apart (PySem.mem_of_lookup h1) (PySem.mem_of_lookup h2)
 ·have hy:scope.names.lookup y=some .cell\/scope.names.lookup y=some .free:=hy
  rcases hy with hy|hy
  ·exact DH hy
  ·exact absurd rfl (S.Q4 _ (PySem.mem_of_lookup hy))
 ·exact Nat.le_of_lt (x.above y c (PySem.mem_of_lookup h))
 ·have hi:i<vs.length:=by
   unfold start at h2
   by_cases hi:i<vs.length
   ·exact hi
   ·rw[List.getElem?_append_right (by simpa using hi)]at h2
    rw[List.getElem?_replicate]at h2
    split at h2<;>cases h2
  have ha:vs[i]? =some v:=by
   unfold start at h2
   rw[List.getElem?_append_left (by simpa using hi),List.getElem?_map]at h2
   cases e:vs[i]? with
   |none=>rw[e]at h2;cases h2
   |some a=>rw[e]at h2;cases h2;rfl
  obtain⟨u,hu,rv⟩:=r.get ha
  have hp:ps[i]? =some y:=by
   rw[←S.pre,List.getElem?_take_of_lt (by omega)];exact h1
  have ndP:ps.Nodup:=by rw[←S.pre];exact S.nd.sublist (List.take_sublist _ _)
  refine⟨u,rv,?_⟩
  rcases S.par y (List.mem_of_getElem? hp)with k|k
  ·exact .inl ⟨k,Ab ndP hp hu k⟩
  ·obtain⟨c,e⟩:=DH (n:=s.heap.objs.size+1) k
   refine .inr ⟨.inl k,c,e,?_⟩
   have q:=x.cell y c e
   rw[Ad ndP hp hu (by show scope.names.lookup y≠_;rw[k];decide)]at q
   exact q
 ·exact e0.hok.fresh (Nat.le_of_lt (x.above y c (PySem.mem_of_lookup h)))
 ·unfold start
  show _=N.length
  rw[List.length_append,List.length_map,List.length_replicate]
  omega
theorem Lk{CX:IX}{P:Program}{w:World}{K:PySem.W.Frag}{mg:Str->Option Value}{base:Heap}{k:Nat}{f:Addr}{name qual:Str}{params:Arguments}{body:List Stmt}{scope:Scope}{dV kV doc pm cdv ct oc:Value}{an od:Option Addr}
  {osl:Array (Option Value)} {N ps:List Str} {sp:Sp} (lk:K.lookup f=some ⟨oc,od,.func (PySem.W.fnOf name qual params body scope dV kV doc pm an cdv ct),osl⟩) (hcd:PySem.W.codeIn K cdv qual=true) (S:aH N ps scope)
  (len:∀vs H Q E,sp vs H Q E->vs.length=ps.length)
  (hbody:∀(A:Around) (outer:List Env) (s:Shared) (H:Hp) (vs:List V) (Q:VK) (E:XK),jS k (A.deeper (envOfC qual scope s.heap.objs.size f cdv))->sp vs H Q E →
   ∃t,Ak (tW CX P w K mg base N qual scope f cdv A outer s H E) body t/\t { nx:=λ_ H'=>Q .gB H',rt:=Q } (start N vs) H) :
  aJ P w K mg base CX (k+1) f (PySem.W.fnOf name qual params body scope dV kV doc pm an cdv ct) ps sp:=by
 refine⟨len,λA outer s H args us vs Q E hr e0 hb r D7=>?_⟩
 have hl:=len _ _ _ _ D7
 have KX:K.In s.heap:=e0.mod.N8.keeps λb o e=>(e0.bs b o e).1
 have lim:s.heap.NoLimit:=e0.mod.nolimit.keeps λb o e=>(e0.bs b o e).1
 have hkind:∀y∈ps.zip us,scope.names.lookup y.1=some .local\/(scope.names.lookup y.1=some .cell/\((cellsFrom (s.heap.objs.size+1) scope.names []).lookup y.1).isSome=true):=λ⟨n,v⟩ hy=>by
  rcases S.par n (List.of_mem_zip hy).1 with q|q
  ·exact .inl q
  ·exact .inr ⟨q,PySem.W.cellsFrom_some _ _ _ (.inl q)⟩
 refine TK.Fv (Nat.le_refl _) ?_
 refine codeAny_call_function hr.depth (KX _ _ lk) rfl S.co S.gen rfl (PySem.W.codeRec_of KX hcd) (hb _ _ _ _ ?_)
 refine TK.bS (Nat.le_refl _) (wpAny_newFunctionEnv_cells S.kind hkind λenv he s1 x hup=>?_)
 subst he
 refine⟨lim.keeps x.toInCall.keep,codeAny_func ?_⟩
 obtain⟨t,ht,hq⟩:=hbody A outer s H vs Q E (hr.deeper _) D7
 have I:Inv (tW CX P w K mg base N qual scope f cdv A outer s H E) [] (start N vs) H s1:=Ie S hr.hd e0 hl r x hup
 refine wpAny_mono (ht [] s1 (start N vs) H _ I hq) (λfl s' hs Za=>?_) λe s' hs=>wpAny_mono hs (λ_ _ z _=>z) λ_ _ z _=>z
 have fin:∀{σ':St} {H':Hp} {v:V} {u:Value},Inv (tW CX P w K mg base N qual scope f cdv A outer s H E) [] σ' H' s'->RelV v u->Q v H'->CE outer P w H s Q u s' :=
  λ{σ' H' v u} J rv q=>⟨v,H',J.os,J.bare,J.base,J.hok,rv,Za,q⟩
 cases fl with
 |ret u =>
  obtain⟨v,σ',H',J,rv,q⟩:=hs
  exact fin J rv q
 |next =>
  obtain⟨σ',H',J,q⟩:=hs
  exact fin (v:=V.gB) (u:=Value.none) J rfl q
 |brk =>
  obtain⟨_,_,_,q⟩:=hs
  exact False.elim q
 |cont =>
  obtain⟨_,_,_,q⟩:=hs
  exact False.elim q
end L2
namespace L2
open PySem PySem.Spec PyProof.Rows
section
variable{X:Cx}{x:Str}{p pos:Pos}{e:Expr}{es:List Expr}{t:TA}{id T:String}{r:List V->Hp->VK->Prop}
def tCB(r:List V->Hp->VK->Prop)(t:TA):TE:=λσ H Q=>t σ H λvs H1=>r vs H1 Q
theorem aD (hc:nE X (.builtin id) r) (hg:Gl X x) (hm:X.mg x=none) (hv:bootBuiltins x=some (.builtin id)) (ha:PA X (e::es) t) (hn:x≠ "__name__" :=by decide) (hdb:(x==("__debug__" :Str))=false:=by decide)
  (he:starEach (e::es) X.env=(false,eval e X.env)::starEach es X.env:=by rfl) (hpl:(backTo pos (starEach es X.env)).any (·.1)=false:=by rfl):PE X (.Call (.Name x p) (e::es) [] pos) (tCB r t):=by
 intro pins s σ H Q I h
 refine wpAny_Call_Name_kw (om I hg hm hv ?_ hn hdb)
 exact PyProof.Rows.callWith_builtin1 (dw (ha pos pins s σ H _ I h) λus s1 ⟨vs,H1,I1,r1,q1⟩=>hc pins s1 σ H1 vs us Q I1 r1 q1) he hpl
theorem oJ (hc:nE X (.type T) r) (hg:Gl X x) (hm:X.mg x=none) (hv:bootBuiltins x=some (.type T)) (ha:PA X (e::es) t) (hn:x≠ "__name__" :=by decide) (hdb:(x==("__debug__" :Str))=false:=by decide)
  (he:starEach (e::es) X.env=(false,eval e X.env)::starEach es X.env:=by rfl) (hpl:(backTo pos (starEach es X.env)).any (·.1)=false:=by rfl):PE X (.Call (.Name x p) (e::es) [] pos) (tCB r t):=by
 intro pins s σ H Q I h
 refine wpAny_Call_Name_kw (om I hg hm hv ?_ hn hdb)
 exact PyProof.Rows.callWith_type1 (dw (ha pos pins s σ H _ I h) λus s1 ⟨vs,H1,I1,r1,q1⟩=>hc pins s1 σ H1 vs us Q I1 r1 q1) he hpl
end
end L2
namespace HT
open PySem PyProof.Rows
section
open PySem.SeqAt
open PySem.AutoSeq1 (wpAny_loadPart')
open PySem.MeetsSeq PySem.MeetsSeq2 PySem.MeetsSeq3
end
section
variable{prog:Program}{w:World}{A:Around}{E:Value->Shared->Prop}{s:Shared}
theorem Nx{t b:Addr}{vs ws:List Value}{Q:Value->Shared->Prop}(ht:IsTup s.heap t vs.toArray)(hb:IsTup s.heap b ws.toArray)(hv:vs≠[])
  (h1:ws=[]->Q (.ref t) s) (h2:ws≠[]->Q (.ref s.heap.objs.size) { s with heap:=s.heap.push { cls:=.type "tuple",data:=.seq (vs++ws).toArray } })
  (hsz:vs.length+ws.length<=sizeLine):wpAny (model prog w) A (binaryOp .Add (.ref t) (.ref b)) Q E s:=by
 obtain⟨⟨cls,dd,data,sl⟩,ho,hc,n,hd⟩:=id ht
 obtain⟨⟨adH,dd2,data2,sl2⟩,ho2,hc2,n2,hd2⟩:=id hb
 simp only at hc hd hc2 hd2
 subst hc hd hc2 hd2
 have e:vs.toArray++ws.toArray=(vs++ws).toArray:=by simp
 by_cases hw:ws=[]
 ·exact concat_meets ⟨_,ho,rfl⟩ ⟨_,ho2,rfl⟩ noFill_tuple_add seq_tuple_add PySem.F.slot_tuple_add PySem.F.entry_tuple_add (PySem.F.args_tuple_add_2 _ _)
   (tuple_addW1 t b vs.toArray ws.toArray n n2 dd dd2 sl sl2 (by simpa using hv) (by simp[hw])) ⟨ho,ho2,h1 hw⟩
 ·refine concat_meets ⟨_,ho,rfl⟩ ⟨_,ho2,rfl⟩ noFill_tuple_add seq_tuple_add PySem.F.slot_tuple_add PySem.F.entry_tuple_add (PySem.F.args_tuple_add_2 _ _)
   (tuple_addW2 t b vs.toArray ws.toArray n n2 dd dd2 sl sl2 (by simpa using hv) (by simpa using hw) (by rw[List.size_toArray,List.size_toArray];exact hsz)) ⟨ho,ho2,?_⟩
  rw[e]
  exact h2 hw
end
end HT
namespace L2
open PySem PySem.Spec PyProof.Rows
abbrev TO:=St->Hp->(Option Int->Hp->Prop)->Prop
def PO(X:Cx)(e:Option Expr)(t:TO):Prop :=
 ∀(pins:List (Addr×Obj)) (s:Shared) (σ:St) (H:Hp) (Q:Option Int->Hp->Prop),Inv X pins σ H s->t σ H Q →
  wpAny (model X.prog X.w) X.A (evalPart e X.env) (λu s'=>∃o H',Inv X pins σ H' s'/\IsPart u o/\Q o H') X.xe s
def Mv:TO:=λ_ H Q=>Q none H
def SI(t:TE):TO:=λσ H Q=>t σ H λx H1=>∃i,x= .int i/\Q (some i) H1
section
variable{X:Cx}{e:Expr}{te:TE}{lo hi:Option Expr}{tl th:TO}{pos p2:Pos}
theorem Gp:PO X none Mv:=by
 intro pins s σ H Q I h
 rw[evalPart_none]
 exact wpAny_pure ⟨none,H,I,.none,h⟩
theorem Gn(h:PE X e te):PO X (some e) (SI te):=by
 intro pins s σ H Q I hw
 rw[evalPart_some]
 refine dw (h pins s σ H _ I hw) λu s1 ⟨x,H1,I1,r1,q1⟩=>?_
 obtain⟨i,rfl,q⟩:=q1
 obtain⟨t,rfl⟩:=r1
 exact⟨some i,H1,I1,.int i t,q⟩
def SlR(X:Cx)(r:V->Option Int->Option Int->Hp->VK->Prop):Prop :=
 ∀(pins:List (Addr×Obj)) (s:Shared) (σ:St) (H:Hp) (x:V) (v vl vu:Value) (lo hi:Option Int) (sl:Addr) (Q:VK),Inv X pins σ H s->RelV x v->s.heap.IsSliceOf sl vl vu .none->IsPart vl lo->IsPart vu hi->r x lo hi H Q →
  ∃T id,typeLookup (.type T) "__getitem__" =pure (some (.builtin id))/\s.TypeIs v T/\wpAny (model X.prog X.w) X.A (getItem v (.ref sl)) (EP X pins σ Q) X.xe s
def tSl(r:V->Option Int->Option Int->Hp->VK->Prop)(te:TE)(tl th:TO):TE:=λσ H Q=>te σ H λx H1=>tl σ H1 λl H2=>th σ H2 λu H3=>r x l u H3 Q
theorem CD{r:V->Option Int->Option Int->Hp->VK->Prop}(hr:SlR X r)(he:PE X e te)(hl:PO X lo tl)(hu:PO X hi th):PE X (.Subscript e (.Slice lo hi none p2) pos) (tSl r te tl th):=by
 intro pins s σ H Q I h
 refine Subscript_ (dw (he pins s σ H _ I h) λv s1 ⟨x,H1,I1,r1,q1⟩=>?_)
 refine wpAny_Slice (dw (hl pins s1 σ H1 _ I1 q1) λvl s2 ⟨l,H2,I2,pl,q2⟩=>dw (hu pins s2 σ H2 _ I2 q2) λvu s3 ⟨u,H3,I3,pu,q3⟩=>?_)
 rw[evalPart_none]
 refine wpAny_pure ?_
 have I4:Inv X pins σ H3 { s3 with heap:=s3.heap.push { cls:=.type "slice",data:=.fields #[vl,vu,.none] } }:=I3.kept (t':=s3.toks) λb ob q=>Heap.get?_push_of_some _ q
 obtain⟨T,id,hT,ht,hg⟩:=hr pins { s3 with heap:=s3.heap.push { cls:=.type "slice",data:=.fields #[vl,vu,.none] } } σ H3 x v vl vu l u s3.heap.objs.size Q I4 r1 (Heap.IsSliceOf.new ..) pl pu q3
 show wpAny (model X.prog X.w) X.A (subscriptTail e (.Slice lo hi none p2) v (.ref s3.heap.objs.size)) (EP X pins σ Q) X.xe { s3 with heap:=s3.heap.push { cls:=.type "slice",data:=.fields #[vl,vu,.none] } }
 exact tail_any (ops:=[.ref s3.heap.objs.size,v]) ht hT hg (by with_unfolding_all rfl)
def To(K:PySem.W.Frag):R2:=λx y H Q=>∃a b xs ys,x= .ref a/\y= .ref b/\cP K H a xs/\cP K H b ys/\xs≠[]/\xs.length+ys.length<=sizeLine ∧
 (ys=[]->Q (.ref a) H)/\(ys≠[]->∀p,H p=none->Q (.ref p) (upd H p (.tup (xs++ys))))
theorem Vals.AV{xs:List V}{us:List Value}(r:Vals xs us):us=[]↔xs=[]:=by
 cases r with
 |nil=>simp
 |cons _ _=>simp
theorem MN:ud X (binaryOp .Add) (To X.K):=by
 intro pins s σ H x y v u Q I rx ry h
 obtain⟨a,b,xs,ys,rfl,rfl,ha,hb,hx,hz,q1,q2⟩:=h
 cases rx
 cases ry
 obtain⟨its,r1,p1,_⟩:=I.tuple ha
 obtain⟨its2,r2,p2,_⟩:=I.tuple hb
 refine HT.Nx p1 p2 (λz=>hx (r1.AV.mp z)) (λz=>⟨.ref a,H,I,rfl,q1 (r2.AV.mp z)⟩) (λz=>?_) (by rw[←r1.length,←r2.length];exact hz)
 refine⟨.ref s.heap.objs.size,_,I.laid (t':=s.toks) (o:=.tup (xs++ys)) (λb ob q=>Heap.get?_push_of_some _ q) (Nat.le_refl _) ?_,rfl,q2 (λw=>z (r2.AV.mpr w)) _ (I.hok.fresh (Nat.le_refl _))⟩
 exact⟨by rw[List.length_append];exact hz,_,r1.append r2,IsTup.new _ _⟩
end
end L2
namespace L2
open PySem PySem.Spec PyProof.Rows
def K1(n:Nat)(i:Int):Option Nat:=if 0<=i then(if i<n then some i.toNat else none)else if -(n:Int)<=i then some (i+n).toNat else none
def Af{α:Type}(xs:List α)(i:Int):Option α:=(K1 xs.length i).bind λj=>xs[j]?
theorem GD{n:Nat}{i:Int}{j:Nat}(h:K1 n i=some j):seqIndex? i n=some j/\j<n/\ -(n:Int)<=i/\i<n:=by
 unfold K1 at h
 by_cases h0:0<=i
 ·rw[if_pos h0]at h
  by_cases h1:i<n
  ·rw[if_pos h1]at h
   have e:i.toNat=j:=Option.some.inj h
   exact⟨by rw[seqIndex_of h0 h1,e],by omega,by omega,h1⟩
  ·rw[if_neg h1]at h;cases h
 ·rw[if_neg h0]at h
  by_cases h1: -(n:Int)<=i
  ·rw[if_pos h1]at h
   have e:(i+n).toNat=j:=Option.some.inj h
   exact⟨by rw[seqIndex_neg (by omega) h1,e],by omega,h1,by omega⟩
  ·rw[if_neg h1]at h;cases h
theorem Bm{α:Type}{xs:List α}{i:Int}{v:α}(h:Af xs i=some v):∃j,seqIndex? i xs.length=some j/\xs[j]? =some v/\j<xs.length/\ -(xs.length:Int)<=i/\i<xs.length:=by
 unfold Af at h
 cases e:K1 xs.length i with
 |none=>rw[e]at h;cases h
 |some j =>
  rw[e]at h
  obtain⟨h1,h2,h3,h4⟩:=GD e
  exact⟨j,h1,h,h2,h3,h4⟩
theorem fQ{α:Type}{xs:List α}{j:Nat}{v:α}(h:xs[j]? =some v):Af xs (j:Int)=some v:=by
 have hj:j<xs.length:=(List.getElem?_eq_some_iff.mp h).1
 have e:K1 xs.length (j:Int)=some j:=by
  unfold K1
  rw[if_pos (by omega),if_pos (by omega)];simp
 unfold Af;rw[e];exact h
theorem LJ{α:Type}(xs:List α)(v:α):Af (xs++[v]) (-1)=some v:=by
 have hl:(xs++[v]).length=xs.length+1:=by simp
 have e:K1 (xs++[v]).length (-1)=some xs.length:=by
  unfold K1
  rw[hl,if_neg (by decide),if_pos (by omega)]
  congr 1
  omega
 unfold Af
 rw[e]
 show(xs++[v])[xs.length]? =some v
 simp
def NH(b:Expr):Prop:=∀o i,subscripted b false o i=operate [o,i] (getItem o i)
def Vu(X:Cx)(r:R2):Prop :=
 ∀(value slice:Expr) (pins:List (Addr×Obj)) (s:Shared) (σ:St) (H:Hp) (x y:V) (v u:Value) (Q:VK),Inv X pins σ H s->RelV x v->RelV y u->r x y H Q →
  subscripted slice false v u=operate [v,u] (getItem v u)->wpAny (model X.prog X.w) X.A (subscriptTail value slice v u) (EP X pins σ Q) X.xe s
def Wn(X:Cx)(id:String)(r:V->List V->Hp->VK->Prop):Prop :=
 ∀(pins:List (Addr×Obj)) (s:Shared) (σ:St) (H:Hp) (x:V) (xs:List V) (v:Value) (us:List Value) (Q:VK),Inv X pins σ H s->RelV x v->Vals xs us->r x xs H Q →
  wpAny (model X.prog X.w) X.A (call (.builtin id) (v::us)) (EP X pins σ Q) X.xe s
section
variable{X:Cx}{a b:Expr}{ta tb:TE}{pos:Pos}
theorem aU{r:R2}(hr:Vu X r)(ha:PE X a ta)(hb:PE X b tb)(hs:NH b):PE X (.Subscript a b pos) (VO r ta tb):=by
 intro pins s σ H Q I h
 exact Subscript_ (RY ha hb I h λv u s2 x y H2 I2 rx ry q=>hr a b pins s2 σ H2 x y v u Q I2 rx ry q (hs _ _))
def Yv(K:PySem.W.Frag):R2:=λx y H Q=>∃p xs i v,x= .ref p/\y= .int i/\bZ K H p xs/\Af xs i=some v/\Q v H
def Tn(K:PySem.W.Frag):R2:=λx y H Q=>∃p xs i v,x= .ref p/\y= .int i/\cP K H p xs/\Af xs i=some v/\Q v H
def Yu:R2:=λx y H Q=>∃z i c,x= .str z/\y= .int i/\z.length<=sizeLine/\Af z.cps.toList i=some c/\Q (.str ⟨#[c]⟩) H
theorem bM:Vu X (Yv X.K):=by
 intro value slice pins s σ H x y v u Q I rx ry h hs
 obtain⟨p,xs,i,z,rfl,rfl,hq,he,q⟩:=h
 cases rx
 obtain⟨t,rfl⟩:=ry
 obtain⟨its,r,pl,hz⟩:=I.list hq
 obtain⟨j,h1,h2,h3,h4,h5⟩:=Bm he
 obtain⟨w,ew,rw'⟩:=r.get h2
 have hl:=r.length
 have hn:=uH
 have fin:EP X pins σ Q w s:=⟨z,H,I,rw',q⟩
 by_cases h0:0<=i
 ·have hj:i.toNat=j:=by
   rw[seqIndex_of h0 h5]at h1
   exact Option.some.inj h1
  exact item_listR pl.isList h0 (by omega) (by rw[hj];simpa using ew) fin hs
 ·have hj:(i+(its.toArray.size:Int)).toNat=j:=by
   rw[seqIndex_neg (by omega) h4]at h1
   rw[List.size_toArray,←hl]
   exact Option.some.inj h1
  exact subscriptTail_builtinR (x:=w) pl.isList.typeIs slot_list_getitem.lookup
   (wpAny_getItem_list_neg (Q:=λr s'=>r=w/\EP X pins σ Q r s') pl.isList (by omega) (by rw[List.size_toArray]<;>omega) (by omega) (by rw[hj];simpa using ew) ⟨rfl,fin⟩) hs
theorem bK:Vu X (Tn X.K):=by
 intro value slice pins s σ H x y v u Q I rx ry h hs
 obtain⟨p,xs,i,z,rfl,rfl,hq,he,q⟩:=h
 cases rx
 obtain⟨t,rfl⟩:=ry
 obtain⟨its,r,pl,hz⟩:=I.tuple hq
 obtain⟨j,h1,h2,h3,h4,h5⟩:=Bm he
 obtain⟨w,ew,rw'⟩:=r.get h2
 have hl:=r.length
 have hn:=uH
 have fin:EP X pins σ Q w s:=⟨z,H,I,rw',q⟩
 exact subscriptTail_builtinR (x:=w) pl.typeIs slot_tuple_getitem.lookup
  (getItem_tuple (j:=j) (Q:=λr s'=>r=w/\EP X pins σ Q r s') pl (by omega) (by omega) (by rw[List.size_toArray,←hl];exact h1) (by simpa using ew) ⟨rfl,fin⟩) hs
theorem uL:Vu X Yu:=by
 intro value slice pins s σ H x y v u Q I rx ry h hs
 obtain⟨z,i,c,rfl,rfl,hz,he,q⟩:=h
 obtain⟨t,rfl⟩:=rx
 obtain⟨t',rfl⟩:=ry
 obtain⟨j,h1,h2,h3,h4,h5⟩:=Bm he
 have hl:z.cps.toList.length=z.length:=by simp[Str.length]
 rw[hl]at h1 h4 h5
 have hn:=uH
 exact tail_any (typeIs_str s z t) slot_str_getitem.lookup (getItem_str (c:=c) (by
  have e1:decide (i< -(2 ^ 63:Int))=false:=decide_eq_false (by omega)
  have e2:decide (i>=2 ^ 63)=false:=decide_eq_false (by omega)
  rw[e1,e2,Bool.or_false]) (by rw[h1];simpa using h2) ⟨.str ⟨#[c]⟩,H,I.tok _,⟨_,rfl⟩,q⟩) hs
theorem E2(its:List Value)(n j:Nat)(u:Value):Obj.mapSeq (·.setIfInBounds j u) { cls:=.type "list",data:=.seq its.toArray n }={ cls:=.type "list",data:=.seq (its.set j u).toArray n }:=by
 simp[Obj.mapSeq]
theorem Inv.lst{pins:List (Addr×Obj)}{σ:St}{H:Hp}{s:Shared}{p:Addr}{xs:List V}(I:Inv X pins σ H s)(h:H p=some (.lst xs)):
  ∃(its:List Value) (n:Nat),Vals xs its/\s.heap.get? p=some { cls:=.type "list",data:=.seq its.toArray n }/\xs.length<=sizeLine:=by
 obtain⟨z,its,n,r,e⟩:=I.hok p _ h
 exact⟨its,n,r,e,z⟩
theorem Inv.Q7{pins:List (Addr×Obj)}{σ:St}{H:Hp}{s:Shared}{p:Addr}{xs ys:List V}{its its':List Value}{n n':Nat}{f:Obj->Obj}(I:Inv X pins σ H s)(h:H p=some (.lst xs))
  (ho:s.heap.get? p=some { cls:=.type "list",data:=.seq its.toArray n }) (hf:f { cls:=.type "list",data:=.seq its.toArray n }={ cls:=.type "list",data:=.seq its'.toArray n' }) (r:Vals ys its') (hz:ys.length<=sizeLine) (t:Nat) (ht:s.toks<=t:=by first|exact Nat.le_refl _|exact Nat.le_succ _|assumption|omega) :
  Inv X pins σ (upd H p (.lst ys)) { s with heap:=s.heap.update p f,toks:=t }:=by
 have e:(s.heap.update p f).get? p=some { cls:=.type "list",data:=.seq its'.toArray n' }:=by
  rw[Heap.get?_update_self f ho (by rw[hf]<;>rfl),hf]
 refine I.write (x:=p) (e:=p) (by rw[h];trivial) (.inl rfl) (λb u hb q=>(Heap.get?_update_other _ _ (Ne.symm hb)).trans q) ⟨_,e⟩ ?_
 exact⟨hz,its',n',r,e⟩
def Tj:V->V->V->Hp->(Hp->Prop)->Prop:=λo i v H Q=>∃p xs k j,o= .ref p/\i= .int k/\H p=some (.lst xs)/\K1 xs.length k=some j/\Q (upd H p (.lst (xs.set j v)))
theorem set_list:Vn X Tj:=by
 intro pins s σ H o i v ov iv u Q I ro ri rv h
 obtain⟨p,xs,k,j,rfl,rfl,hp,hj,q⟩:=h
 cases ro
 obtain⟨t,rfl⟩:=ri
 obtain⟨its,n,r,ho,hz⟩:=I.lst hp
 obtain⟨h1,h2,h3,h4⟩:=GD hj
 have hl:=r.length
 have hn:=uH
 have I':Inv X pins σ (upd H p (.lst (xs.set j v))) { s with heap:=s.heap.update p (Obj.mapSeq (·.setIfInBounds j u)) } :=
  I.Q7 hp ho (E2 its n j u) (r.set rv j) (by rw[List.length_set];exact hz) s.toks
 by_cases h0:0<=k
 ·have hk:k.toNat=j:=by
   rw[seqIndex_of h0 h4]at h1
   exact Option.some.inj h1
  exact PySem.W.ki_setAt ho h0 (by omega) (by rw[List.size_toArray,←hl];exact h4) (by rw[hk];exact⟨_,I',q⟩)
 ·have hk:(k+(its.toArray.size:Int)).toNat=j:=by
   rw[seqIndex_neg (by omega) h3]at h1
   rw[List.size_toArray,←hl]
   exact Option.some.inj h1
  exact PySem.W.ki_setBack ho (by omega) (by rw[List.size_toArray,←hl];exact h3) (by omega) (by rw[hk];exact⟨_,I',q⟩)
def vo:V->Bool
 | .gB=>true
 | .bl _=>true
 | .int _=>true
 | .str _=>true
 |_=>false
def Ou:V->V->Bool
 | .gB,.gB=>true
 | .bl a,.bl b=>a==b
 | .bl a,.int b=>(if a then 1 else 0)==b
 | .int a,.bl b=>a==(if b then 1 else 0)
 | .int a,.int b=>a==b
 | .str a,.str b=>a==b
 |_,_=>false
theorem RN{A:Around}{s:Shared}{y x:V}{u v:Value}(ry:RelV y u)(rx:RelV x v)(fy:vo y=true)(fx:vo x=true):SeqAt.EqAt A s u v (Ou y x):=by
 cases y with
 |gB =>
  cases ry
  cases x with
  |gB=>cases rx;exact SeqAt.EqAt.same _
  |bl b=>cases rx;exact SeqAt.EqAt.none_bool b
  |int b=>obtain⟨t,rfl⟩:=rx;exact SeqAt.EqAt.none_int b t
  |str b=>obtain⟨t,rfl⟩:=rx;exact SeqAt.EqAt.none_str b t
  |_=>exact absurd (show false=true from fx) Bool.false_ne_true
 |bl a =>
  cases ry
  cases x with
  |gB=>cases rx;exact SeqAt.EqAt.bool_none a
  |bl b=>cases rx;exact SeqAt.EqAt.bool_bool a b
  |int b=>obtain⟨t,rfl⟩:=rx;exact SeqAt.EqAt.bool_int a b t
  |str b=>obtain⟨t,rfl⟩:=rx;exact SeqAt.EqAt.bool_str a b t
  |_=>exact absurd (show false=true from fx) Bool.false_ne_true
 |int a =>
  obtain⟨t',rfl⟩:=ry
  cases x with
  |gB=>cases rx;exact SeqAt.EqAt.int_none a t'
  |bl b=>cases rx;exact SeqAt.EqAt.int_bool a t' b
  |int b=>obtain⟨t,rfl⟩:=rx;exact SeqAt.EqAt.int_int a t' b t
  |str b=>obtain⟨t,rfl⟩:=rx;exact SeqAt.EqAt.int_str a t' b t
  |_=>exact absurd (show false=true from fx) Bool.false_ne_true
 |str a =>
  obtain⟨t',rfl⟩:=ry
  cases x with
  |gB=>cases rx;exact SeqAt.EqAt.str_none a t'
  |bl b=>cases rx;exact SeqAt.EqAt.str_bool a t' b
  |int b=>obtain⟨t,rfl⟩:=rx;exact SeqAt.EqAt.str_int a t' b t
  |str b=>obtain⟨t,rfl⟩:=rx;exact SeqAt.EqAt.str_str a t' b t
  |_=>exact absurd (show false=true from fx) Bool.false_ne_true
 |_=>exact absurd (show false=true from fy) Bool.false_ne_true
def Nu(x:V)(u:Value):Bool:=match u with
 | .none=>Ou .gB x
 | .bool b=>Ou (.bl b) x
 | .int i _=>Ou (.int i) x
 | .str z _=>Ou (.str z) x
 |_=>false
theorem Lr{x y:V}{u:Value}(r:RelV y u)(f:vo y=true):Nu x u=Ou y x:=by
 cases y with
 |gB=>cases r;rfl
 |bl b=>cases r;rfl
 |int i=>obtain⟨t,rfl⟩:=r;rfl
 |str z=>obtain⟨t,rfl⟩:=r;rfl
 |_=>exact absurd (show false=true from f) Bool.false_ne_true
theorem Bo{x:V}:∀{xs:List V} {us:List Value},Vals xs us->xs.all vo=true->us.any (Nu x)=xs.any λy=>Ou y x
 |_,_,.nil,_=>rfl
 |y::xs,u::us,.cons r t,f=>by
  rw[List.all_cons,Bool.and_eq_true]at f
  rw[List.any_cons,List.any_cons,Lr r f.1,Bo t f.2]
theorem xF{A:Around}{s:Shared}{x:V}{v:Value}(rx:RelV x v)(fx:vo x=true):∀{xs:List V} {us:List Value},Vals xs us->xs.all vo=true->∀u∈us,SeqAt.EqAt A s u v (Nu x u)
 |_,_,.nil,_=>λu hu=>by cases hu
 |y::xs,u::us,.cons r t,f=>λu' hu=>by
  rw[List.all_cons,Bool.and_eq_true]at f
  rcases List.mem_cons.mp hu with rfl|hu
  ·rw[Lr r f.1];exact RN r rx f.1 fx
  ·exact xF rx fx t f.2 u' hu
def N9(x:V)(xs:List V):Bool:=xs.any λy=>Ou y x
def rIn(K:PySem.W.Frag)(neg:Bool):R2:=λx y H Q=>∃p xs,y= .ref p/\(bZ K H p xs\/cP K H p xs)/\vo x=true/\xs.all vo=true/\Q (.bl (if neg then !N9 x xs else N9 x xs)) H
theorem sZ:ud X (compareOp .NotIn) (rIn X.K true):=by
 intro pins s σ H x y v u Q I rx ry h
 obtain⟨p,xs,rfl,hq,fx,fs,q⟩:=h
 cases ry
 rcases hq with hq|hq
 ·obtain⟨its,r,pl,hz⟩:=I.list hq
  refine SeqAt.notIn_listAt (Nu x) pl.isList (λw hw=>xF rx fx r fs w (by simpa using hw)) ⟨.bl _,H,I,rfl,?_⟩
  rw[show its.toArray.any (Nu x)=its.any (Nu x) by simp,Bo r fs]
  exact q
 ·obtain⟨its,r,pl,hz⟩:=I.tuple hq
  refine SeqAt.notIn_tupleAt (Nu x) pl (λw hw=>xF rx fx r fs w (by simpa using hw)) ⟨.bl _,H,I,rfl,?_⟩
  rw[show its.toArray.any (Nu x)=its.any (Nu x) by simp,Bo r fs]
  exact q
theorem sY:ud X (compareOp .NotIn) (λx y H Q=>∃i j,x= .str i/\y= .str j/\Q (.bl (!(!(Builtin.Str.occurrences j i 0 j.length 1).isEmpty))) H):=by
 intro pins s σ H x y v u Q I rx ry h
 obtain⟨i,j,rfl,rfl,q⟩:=h
 obtain⟨t,rfl⟩:=rx
 obtain⟨t',rfl⟩:=ry
 exact notIn_str ⟨.bl _,H,I,rfl,q⟩
theorem Be:nE X (.builtin "len") (λxs H Q=>∃z,xs=[.str z]/\z.length<=sizeLine/\Q (.int z.length) H):=by
 intro pins s σ H xs us Q I r h
 obtain⟨z,rfl,hz,q⟩:=h
 obtain⟨u,rfl,t,rfl⟩:=vals1 r
 have hn:=uH
 exact len_str (by omega) ⟨.int z.length,H,I.tok _,⟨_,rfl⟩,q⟩
theorem rG:nE X (.type "tuple") (λxs H Q=>∃p ys,xs=[.ref p]/\((bZ X.K H p ys/\∀l,H l=none->Q (.ref l) (upd H l (.tup ys)))\/(cP X.K H p ys/\Q (.ref p) H))):=by
 intro pins s σ H xs us Q I r h
 obtain⟨p,ys,rfl,h⟩:=h
 obtain⟨u,rfl,rx⟩:=vals1 r
 cases rx
 rcases h with⟨hq,q⟩|⟨hq,q⟩
 ·obtain⟨its,r',pl,hz⟩:=I.list hq
  have hlen:=r'.length
  refine call_tuple_list pl.isList (λh' kp=>?_) (by simp only[List.size_toArray]<;>omega)
  have I1:Inv X pins σ H { s with heap:=h' }:=I.kept (t':=s.toks) kp
  have I2:Inv X pins σ (upd H h'.objs.size (.tup ys)) { s with heap:=h'.push { cls:=.type "tuple",data:=.seq its.toArray } } :=
   I1.laid (t':=s.toks) (λb o e=>Heap.get?_push_of_some _ e) (Nat.le_refl _) (show bI X.prog X.w _ _ _ (.tup ys) from⟨hz,its,r',IsTup.new _ _⟩)
  exact⟨.ref h'.objs.size,_,I2,rfl,q _ (I1.hok.fresh (Nat.le_refl _))⟩
 ·obtain⟨its,r',pl,hz⟩:=I.tuple hq
  exact call_tuple_same pl ⟨.ref p,H,I,rfl,q⟩
def X3(K:PySem.W.Frag)(T:String)(x:V)(H:Hp):Prop:=match x with
 | .str _=>T= "str"
 | .int _=>T= "int"
 | .ref p=>(T= "list" /\∃xs,bZ K H p xs)\/(T= "tuple" /\∃o,K.lookup p=some o/\o.cls= .type "tuple" /\o.dict=none) ∨
   (T= "dict" /\((∃kvs,H p=some (.dK kvs))\/∃kvs,H p=some (.dT kvs)))\/(T= "set" /\∃S n,H p=some (.set S n))
 |_=>False
theorem Jo{pins:List (Addr×Obj)}{σ:St}{H:Hp}{s:Shared}{T:String}{x:V}{v:Value}(I:Inv X pins σ H s)(r:RelV x v)(ty:X3 X.K T x H):
  s.TypeIs v T/\∀a,v= .ref a->∃ob,s.heap.get? a=some ob/\ob.dict=none:=by
 cases x with
 |str z =>
  obtain⟨t,rfl⟩:=r
  cases (show T= "str" from ty)
  exact⟨typeIs_str s z t,λ_ e=>nomatch e⟩
 |int i =>
  obtain⟨t,rfl⟩:=r
  cases (show T= "int" from ty)
  exact⟨typeIs_int s i t,λ_ e=>nomatch e⟩
 |ref p =>
  cases r
  rcases ty with⟨rfl,xs,hq⟩|⟨rfl,o,hk,hc,hd⟩|⟨rfl,hk⟩|⟨rfl,S,n,hk⟩
  ·obtain⟨its,_,pl,_⟩:=I.list hq
   refine⟨pl.isList.typeIs,λa e=>?_⟩
   cases e
   obtain⟨o,n,e,c,hd,_⟩:=pl
   exact⟨o,e,hd⟩
  ·refine⟨⟨o,I.pB p o hk,hc⟩,λa e=>?_⟩
   cases e
   exact⟨o,I.pB _ o hk,hd⟩
  ·have z:∃o,s.heap.get? p=some o/\o.ExactDict:=by
    rcases hk with⟨kvs,hk⟩|⟨kvs,hk⟩
    ·obtain⟨_,_,_,_,o,_,_,e,ex,_⟩:=I.hok p _ hk
     exact⟨o,e,ex⟩
    ·obtain⟨_,_,_,_,o,_,_,e,ex,_⟩:=I.hok p _ hk
     exact⟨o,e,ex⟩
   obtain⟨o,e,ex⟩:=z
   refine⟨⟨o,e,ex.1⟩,λa e2=>?_⟩
   cases e2
   exact⟨o,e,ex.2.1⟩
  ·obtain⟨o,_,_,_,e,ex,_⟩:=I.hok p _ hk
   refine⟨⟨o,e,ex.1⟩,λa e2=>?_⟩
   cases e2
   exact⟨o,e,ex.2.1⟩
 |_=>exact False.elim ty
def Yi(K:PySem.W.Frag)(T:String)(r:V->List V->Hp->VK->Prop)(to:TE):TE:=λσ H Q=>to σ H λx H1=>X3 K T x H1/\r x [] H1 Q
def tBM(K:PySem.W.Frag)(T:String)(r:V->List V->Hp->VK->Prop)(to:TE)(t:TA):TE:=λσ H Q=>to σ H λx H1=>X3 K T x H1/\t σ H1 λxs H2=>r x xs H2 Q
variable{o e:Expr}{es:List Expr}{to:TE}{t:TA}{name:Str}{apos cpos:Pos}{T id:String}{r:V->List V->Hp->VK->Prop}
theorem Kl (pa:PlainAttrs T) (slot:Slot T name id) (hty:typeOf (.builtin id)=pure (.type "method_descriptor")) (hm:Wn X id r) (ho:PE X o to)
  (hbase:attributeBase o name X.env (eval o X.env)=eval o X.env:=by rfl) (hline:(apos.endLine==cpos.line)=true:=by rfl):PE X (.Call (.Attribute o name apos) [] [] cpos) (Yi X.K T r to):=by
 intro pins s σ H Q I h
 refine wpAny_Call_method0_late hbase hline (dw (ho pins s σ H _ I h) λv s1 ⟨x,H1,I1,r1,ty,q1⟩=>?_)
 obtain⟨h1,h2⟩:=Jo I1 r1 ty
 exact⟨T,id,pa,slot,hty,h1,h2,Calls.callWith_builtin rfl (PySem.evalArgs_none (hm pins s1 σ H1 x [] v [] Q I1 r1 .nil q1))⟩
theorem lS (pa:PlainAttrs T) (slot:Slot T name id) (hty:typeOf (.builtin id)=pure (.type "method_descriptor")) (hm:Wn X id r) (ho:PE X o to) (ha:PA X (e::es) t)
  (hbase:attributeBase o name X.env (eval o X.env)=eval o X.env:=by rfl)
  (hfew:((backTo cpos (starEach (e::es) X.env)).all (λx=>!x.1)&&(backToKw cpos (keywordEach [] X.env)).all (λx=>x.1.isSome)
   && decide ((e::es).length+([]:List Keyword).length+(if([]:List Keyword).isEmpty then 0 else 1)<30))=true:=by rfl)
  (hline:(apos.endLine==cpos.line)=true:=by rfl) (hs:starEach (e::es) X.env=(false,eval e X.env)::starEach es X.env:=by rfl) (hplain:(backTo cpos (starEach es X.env)).any (·.1)=false:=by rfl) :
  PE X (.Call (.Attribute o name apos) (e::es) [] cpos) (tBM X.K T r to t):=by
 intro pins s σ H Q I h
 refine wpAny_Call_method_late hbase hfew hline rfl (dw (ho pins s σ H _ I h) λv s1 ⟨x,H1,I1,r1,ty,q1⟩=>?_)
 obtain⟨h1,h2⟩:=Jo I1 r1 ty
 refine⟨T,id,pa,slot,hty,h1,h2,?_⟩
 have hA:=ha cpos pins s1 σ H1 _ I1 q1
 rw[hs]at hA ⊢
 refine Calls.callWith_builtin (by show(false||(backTo cpos (starEach es X.env)).any (·.1))=false;rw[hplain]<;>rfl) (Calls.evalArgs_plain ?_)
 exact dw hA λus s2 ⟨vs,H2,I2,r2,q2⟩=>hm pins s2 σ H2 x vs v us Q I2 r1 r2 q2
end
end L2
namespace L2
open PySem PySem.Spec PyProof.Rows
def MtM(X:Cx)(id:String)(r:V->List V->Hp->VK->Prop):Prop :=
 ∀(pins:List (Addr×Obj)) (s:Shared) (σ:St) (H:Hp) (x:V) (xs:List V) (v:Value) (us:List Value) (Q:VK),Inv X pins σ H s->RelV x v->Vals xs us->r x xs H Q →
  wpAny (model X.prog X.w) X.A (call (.builtin id) (v::us)) (EP X pins σ Q) X.xe s
theorem Vals.one:∀{x:V} {us:List Value},Vals [x] us->∃u,us=[u]/\RelV x u
 |_,_,.cons r .nil=>⟨_,rfl,r⟩
theorem Vals.zero:∀{us:List Value},Vals [] us->us=[]
 |_,.nil=>rfl
theorem Vals.reverse{xs:List V}{us:List Value}(h:Vals xs us):Vals xs.reverse us.reverse:=by
 induction h with
 |nil=>exact .nil
 |cons r t ih=>rw[List.reverse_cons,List.reverse_cons];exact Vals.append ih (.cons r .nil)
section
variable{X:Cx}{pins:List (Addr×Obj)}{σ:St}{H:Hp}{s:Shared}{l b:Addr}{xs ys zs:List V}
theorem Inv.Q8{its its':List Value}{n:Nat}{f:Array Value->Array Value}{t':Nat}(I:Inv X pins σ H s)(hH:H l=some (.lst xs))
  (e:s.heap.get? l=some { cls:=.type "list",data:=.seq its.toArray n }) (hf:f its.toArray=its'.toArray) (hv:Vals ys its') (hz:ys.length<=sizeLine) (ht:s.toks<=t':=by first|exact Nat.le_refl _|exact Nat.le_succ _|assumption|omega) :
  Inv X pins σ (upd H l (.lst ys)) { s with heap:=s.heap.update l (Obj.mapSeq f),toks:=t' }:=by
 have q:=PySem.IsL.update e f
 rw[hf]at q
 refine I.write (x:=l) (e:=l) (by rw[hH];exact trivial) (.inl rfl) (λb' u hb hu=>(Heap.get?_update_other s.heap (Obj.mapSeq f) (Ne.symm hb)).trans hu) ⟨_,q⟩ ?_
 exact⟨hz,its',_,hv,q⟩
theorem Inv.TQ{its:List Value}{t':Nat}(I:Inv X pins σ H s)(hv:Vals ys its)(hz:ys.length<=sizeLine)(ht:s.toks<=t':=by first|exact Nat.le_refl _|exact Nat.le_succ _|assumption|omega):
  Inv X pins σ (upd H s.heap.objs.size (.lst ys)) { s with heap:=s.heap.push { cls:=.type "list",data:=.seq its.toArray },toks:=t' } :=
 I.laid (λ_ _ q=>Heap.get?_push_of_some _ q) (Nat.le_refl _) ⟨hz,its,0,hv,Heap.get?_push_size _ rfl⟩
theorem Inv.fresh(I:Inv X pins σ H s):H s.heap.objs.size=none:=I.hok.fresh (Nat.le_refl _)
theorem Inv.MX(I:Inv X pins σ H s)(hH:H l=some (.lst xs)):xs.length<=sizeLine/\∃(its:List Value) (n:Nat),Vals xs its/\xs.length=its.length/\s.heap.get? l=some { cls:=.type "list",data:=.seq its.toArray n }:=by
 obtain⟨z,its,n,r,e⟩:=I.hok l _ hH
 exact⟨z,its,n,r,r.length,e⟩
theorem Ku{n:Nat}(h:n<=sizeLine):Builtin.List.listTooLong n=false:=by
 unfold Builtin.List.listTooLong
 exact decide_eq_false (by omega)
end
section
variable{X:Cx}
def MD:V->List V->Hp->VK->Prop:=λx vs H Q=>∃l xs y,x= .ref l/\vs=[y]/\H l=some (.lst xs)/\xs.length<sizeLine/\Q .gB (upd H l (.lst (xs++[y])))
theorem cE:MtM X "list.append" MD:=by
 intro pins s σ H x vs v us Q I rx rv h
 obtain⟨l,xs,y,rfl,rfl,hH,hz,q⟩:=h
 cases rx
 obtain⟨u,rfl,ru⟩:=rv.one
 obtain⟨z,its,n,r,hl,e⟩:=I.MX hH
 refine call_meets F.slot_list_append ⟨_,e,rfl⟩ F.entry_list_append (F.args_list_append_2 _ _) (PySem.list_append l its.toArray n u (by rw[List.size_toArray];omega)) ⟨e,?_⟩
 refine⟨.gB,_,I.Q8 (its':=its++[u]) hH e (by simp) (r.append (.cons ru .nil)) ?_,rfl,q⟩
 rw[List.length_append,List.length_singleton]
 omega
def MC:V->List V->Hp->VK->Prop:=λx vs H Q=>∃l b xs zs,x= .ref l/\vs=[.ref b]/\H l=some (.lst xs)/\H b=some (.lst zs)/\xs.length+zs.length<=sizeLine/\Q .gB (upd H l (.lst (xs++zs)))
theorem HJ:MtM X "list.extend" MC:=by
 intro pins s σ H x vs v us Q I rx rv h
 obtain⟨l,b,xs,zs,rfl,rfl,hH,hB,hz,q⟩:=h
 cases rx
 obtain⟨u,rfl,ru⟩:=rv.one
 cases ru
 obtain⟨z,its,n,r,hl,e⟩:=I.MX hH
 obtain⟨z2,its2,n2,r2,hl2,e2⟩:=I.MX hB
 have hsz:its.toArray.size+its2.toArray.size<=sizeLine:=by rw[List.size_toArray,List.size_toArray];omega
 have UQ:¬(!its.toArray.isEmpty&&Builtin.List.listTooLong (its.toArray.size+its2.toArray.size))=true:=by
  rw[Ku hsz,Bool.and_false]
  exact Bool.false_ne_true
 refine call_meets F.slot_list_extend ⟨_,e,rfl⟩ F.entry_list_extend (F.args_list_extend_2 _ _)
  (AutoSeq1.list_extend_list_list_0 l its.toArray n b its2.toArray n2 UQ (by rw[List.size_toArray];omega) (by omega)) ⟨e,e2,?_⟩
 refine⟨.gB,_,I.Q8 (its':=its++its2) hH e (by simp) (r.append r2) ?_,rfl,q⟩
 rw[List.length_append]
 omega
def JV:V->List V->Hp->VK->Prop:=λx vs H Q=>∃l xs,x= .ref l/\vs=[]/\H l=some (.lst xs)/\Q .gB (upd H l (.lst xs.reverse))
theorem xB:MtM X "list.reverse" JV:=by
 intro pins s σ H x vs v us Q I rx rv h
 obtain⟨l,xs,rfl,rfl,hH,q⟩:=h
 cases rx
 have hus:=rv.zero
 subst hus
 obtain⟨z,its,n,r,hl,e⟩:=I.MX hH
 refine call_meets F.slot_list_reverse ⟨_,e,rfl⟩ F.entry_list_reverse (F.args_list_reverse_1 _) (AutoSeq1.list_reverse_list_0 l its.toArray n (by rw[List.size_toArray];omega)) ⟨e,?_⟩
 refine⟨.gB,_,I.Q8 (its':=its.reverse) hH e (by simp) r.reverse ?_,rfl,q⟩
 rw[List.length_reverse]
 omega
end
section
variable{prog:Program}{w:World}{A:Around}{E:Value->Shared->Prop}{s:Shared}
end
section
variable{X:Cx}
end
end L2
namespace L2
open PySem PySem.Spec PyProof.Rows
section
variable{κ:Type}[DecidableEq κ]
def kF(kvs:List (κ×V))(k:κ):Option V:=(kvs.find? λkv=>decide (kv.1=k)).map (·.2)
def putK(kvs:List (κ×V))(k:κ)(v:V):List (κ×V) :=
 if(kvs.any λkv=>decide (kv.1=k))=true then kvs.map (λkv=>if kv.1=k then(kv.1,v)else kv)else kvs++[(k,v)]
theorem gz{p:κ×V}{r:List (κ×V)}{k:κ}(e:p.1=k):kF (p::r) k=some p.2:=by simp[kF,List.find?_cons,e]
theorem gA{p:κ×V}{r:List (κ×V)}{k:κ}(e:¬p.1=k):kF (p::r) k=kF r k:=by simp[kF,List.find?_cons,e]
theorem pS(k:κ):∀kvs:List (κ×V),(kvs.any λkv=>decide (kv.1=k))=(kF kvs k).isSome
 |[]=>rfl
 |p::r=>by
  rw[List.any_cons]
  by_cases e:p.1=k
  ·simp only[gz e,decide_eq_true e,Bool.true_or,Option.isSome_some]
  ·rw[gA e,decide_eq_false e,Bool.false_or];exact pS k r
theorem BY(k j:κ)(y:V):∀kvs:List (κ×V),kF (kvs.map λkv=>if kv.1=k then(kv.1,y)else kv) j=(kF kvs j).map λx=>if j=k then y else x
 |[]=>rfl
 |p::r=>by
  have ih:=BY k j y r
  rw[List.map_cons]
  by_cases h:p.1=k
  ·rw[if_pos h]
   by_cases e:p.1=j
   ·rw[gz (p:=(p.1,y)) e,gz e,Option.map_some,if_pos (e.symm.trans h)]
   ·rw[gA (p:=(p.1,y)) e,gA e,ih]
  ·rw[if_neg h]
   by_cases e:p.1=j
   ·rw[gz (p:=p) e,gz e,Option.map_some,if_neg (λz=>h (e.trans z))]
   ·rw[gA (p:=p) e,gA e,ih]
theorem zB(k j:κ)(y:V):∀kvs:List (κ×V),kF kvs k=none->kF (kvs++[(k,y)]) j=if j=k then some y else kF kvs j
 |[],_=>by
  by_cases e:k=j
  ·rw[if_pos e.symm];exact gz (p:=(k,y)) e
  ·rw[if_neg (λz=>e z.symm)];exact gA (p:=(k,y)) e
 |p::r,hn=>by
  rw[List.cons_append]
  have hk:¬p.1=k:=λz=>by rw[gz z]at hn;cases hn
  rw[gA hk]at hn
  have ih:=zB k j y r hn
  by_cases e:p.1=j
  ·rw[gz e,gz e,if_neg (λz=>hk (e.trans z))]
  ·rw[gA e,gA e,ih]
theorem BX(kvs:List (κ×V))(k j:κ)(y:V):kF (putK kvs k y) j=if j=k then some y else kF kvs j:=by
 unfold putK
 by_cases a:(kvs.any λkv=>decide (kv.1=k))=true
 ·rw[if_pos a,BY]
  rw[pS]at a
  by_cases e:j=k
  ·obtain⟨x,hx⟩:=Option.isSome_iff_exists.mp a
   rw[if_pos e,e,hx,Option.map_some,if_pos rfl]
  ·rw[if_neg e]
   cases kF kvs j with
   |none=>rfl
   |some x=>rw[Option.map_some,if_neg e]
 ·rw[if_neg a]
  refine zB k j y kvs ?_
  rw[pS]at a
  cases q:kF kvs k with
  |none=>rfl
  |some x=>rw[q]at a;exact(a rfl).elim
theorem iw(kvs:List (κ×V))(k:κ)(v:V):(putK kvs k v).length<=kvs.length+1:=by
 unfold putK
 split
 ·rw[List.length_map];omega
 ·rw[List.length_append,List.length_cons,List.length_nil];omega
theorem JX{kvs:List (κ×V)}{k:κ}(v:V)(h:kF kvs k=none):putK kvs k v=kvs++[(k,v)]:=by
 unfold putK
 rw[pS,h]
 exact if_neg (by decide)
theorem nF.qP{o:Option V}{u:Option Value}(r:nF o u):o.isSome=u.isSome:=by
 cases o with
 |none=>cases u with
  |none=>rfl
  |some _=>exact(show False from r).elim
 |some _=>cases u with
  |none=>exact(show False from r).elim
  |some _=>rfl
theorem KV.val{kvs:List (κ×V)}{vs:List (κ×Value)}(r:KV kvs vs)(k:κ):nF (kF kvs k) (valueAt vs k):=by
 unfold KV at r
 induction r with
 |nil=>exact True.intro
 | @cons p q ps qs h t ih =>
  obtain⟨h1,h2⟩:=h
  by_cases e:p.1=k
  ·have e':q.1=k:=h1.symm.trans e
   have b:valueAt (q::qs) k=some q.2:=by simp[valueAt,List.find?_cons,e']
   rw[gz e,b];exact h2
  ·have e':¬q.1=k:=λz=>e (h1.trans z)
   have b:valueAt (q::qs) k=valueAt qs k:=by simp[valueAt,List.find?_cons,e']
   rw[gA e,b];exact ih
theorem KV.any{kvs:List (κ×V)}{vs:List (κ×Value)}(r:KV kvs vs)(k:κ):(kvs.any λkv=>decide (kv.1=k))=vs.any λkv=>decide (kv.1=k):=by
 unfold KV at r
 induction r with
 |nil=>rfl
 |cons h t ih=>rw[List.any_cons,List.any_cons,ih,h.1]
theorem KV.repl{kvs:List (κ×V)}{vs:List (κ×Value)}(r:KV kvs vs)(k:κ){y:V}{u:Value}(ry:RelV y u):
  KV (kvs.map λkv=>if kv.1=k then(kv.1,y)else kv) (vs.map λkv=>if kv.1=k then(kv.1,u)else kv):=by
 unfold KV at r ⊢
 induction r with
 |nil=>exact .nil
 | @cons p q ps qs h t ih =>
  rw[List.map_cons,List.map_cons]
  refine .cons ?_ ih
  obtain⟨h1,h2⟩:=h
  by_cases e:p.1=k
  ·rw[if_pos e,if_pos (h1.symm.trans e)];exact⟨h1,ry⟩
  ·rw[if_neg e,if_neg (λz=>e (h1.trans z))];exact⟨h1,h2⟩
theorem KV.put{kvs:List (κ×V)}{vs:List (κ×Value)}(r:KV kvs vs)(k:κ){y:V}{u:Value}(ry:RelV y u):KV (putK kvs k y) (stored vs k u):=by
 unfold putK stored
 rw[r.any k]
 by_cases e:(vs.any λkv=>decide (kv.1=k))=true
 ·rw[if_pos e,if_pos e];exact r.repl k ry
 ·rw[if_neg e,if_neg e];exact Paired.snoc r ⟨rfl,ry⟩
theorem KV.length{kvs:List (κ×V)}{vs:List (κ×Value)}(r:KV kvs vs):kvs.length=vs.length:=Paired.length r
end
theorem GC{P:Program}{w:World}{k:Key}{u:Value}(r:RelV (kV k) u):(bJ P w).is k u=true:=by
 cases k with
 |inl i=>obtain⟨t,e⟩:=(show ∃t,u=Value.int i t from r);subst e;exact C0 P w i t
 |inr x=>obtain⟨t,e⟩:=(show ∃t,u=Value.str x t from r);subst e;exact qj P w x t
theorem zU{P:Program}{w:World}:∀{ks:List Key} {us:List Value},Vals (ks.map kV) us->ItemsAre (bJ P w) ks us
 |[],_,r=>by rw[List.map_nil]at r;cases r;exact .nil
 |k::ks,_,r=>by
  rw[List.map_cons]at r
  cases r with
  |cons h t=>exact .cons (GC h) (zU t)
abbrev KT(H:Hp):List (List Key×V)->List (List Key×Addr×Value)->Prop:=Paired λp q=>p.1=q.1/\H q.2.1=some (.tup (p.1.map kV))/\RelV p.2 q.2.2
theorem KT.val{H:Hp}{kvs:List (List Key×V)}{xs:List (List Key×Addr×Value)}(r:KT H kvs xs)(k:List Key):nF (kF kvs k) ((atKey xs k).map (·.2)):=by
 induction r with
 |nil=>exact True.intro
 | @cons p q ps qs h t ih =>
  obtain⟨h1,_,h2⟩:=h
  by_cases e:p.1=k
  ·have e':q.1=k:=h1.symm.trans e
   have b:atKey (q::qs) k=some q.2:=by simp[atKey,List.find?_cons,e']
   rw[gz e,b];exact h2
  ·have e':¬q.1=k:=λz=>e (h1.trans z)
   have b:atKey (q::qs) k=atKey qs k:=by simp[atKey,List.find?_cons,e']
   rw[gA e,b];exact ih
theorem KT.repl{H:Hp}{kvs:List (List Key×V)}{xs:List (List Key×Addr×Value)}(r:KT H kvs xs)(k:List Key){y:V}{u:Value}(ry:RelV y u):
  KT H (kvs.map λkv=>if kv.1=k then(kv.1,y)else kv) (xs.map (putAt k u)):=by
 induction r with
 |nil=>exact .nil
 | @cons p q ps qs h t ih =>
  rw[List.map_cons,List.map_cons]
  refine .cons ?_ ih
  obtain⟨h1,h2,h3⟩:=h
  unfold putAt
  by_cases e:p.1=k
  ·rw[if_pos e,if_pos (h1.symm.trans e)];exact⟨h1,h2,ry⟩
  ·rw[if_neg e,if_neg (λz=>e (h1.trans z))];exact⟨h1,h2,h3⟩
theorem KT.put{H:Hp}{kvs:List (List Key×V)}{xs:List (List Key×Addr×Value)}(r:KT H kvs xs)(k:List Key){b:Addr}{y:V}{u:Value}(hb:H b=some (.tup (k.map kV)))(ry:RelV y u):
  KT H (putK kvs k y) (storedH xs k b u):=by
 have e:(kvs.any λkv=>decide (kv.1=k))=(atKey xs k).isSome:=by
  rw[pS,(r.val k).qP,Option.isSome_map]
 unfold putK storedH
 rw[e]
 by_cases q:(atKey xs k).isSome=true
 ·rw[if_pos q,if_pos q];exact r.repl k ry
 ·rw[if_neg q,if_neg q];exact Paired.snoc r ⟨rfl,hb,ry⟩
theorem KT.keeps{H H':Hp}{kvs:List (List Key×V)}{xs:List (List Key×Addr×Value)}(r:KT H kvs xs)(ht:∀b ys,H b=some (.tup ys)->H' b=some (.tup ys)):KT H' kvs xs :=
 Paired.g8 r λ_ _ z=>⟨z.1,ht _ _ z.2.1,z.2.2⟩
section
variable{P:Program}{w:World}{H:Hp}{h:Heap}{a:Addr}
theorem NX{u:HO}(ok:mQ P w H h)(e:Rd H a u):bI P w H h a u:=e.ok ok
theorem GV{kvs:List (Key×V)}(ok:mQ P w H h)(e:Rd H a (.dK kvs)):kvs.length<=sizeLine/\(a==sysModules)=false/\∃vs,KV kvs vs/\h.DictOf (bJ P w) a vs :=
 show bI P w H h a (.dK kvs) from NX ok e
theorem Vc{kvs:List (Key×V)}(ok:mQ P w H h)(e:H a=some (.dK kvs)):kvs.length<=sizeLine/\(a==sysModules)=false/\∃vs,KV kvs vs/\h.DictOf (bJ P w) a vs:=GV ok (.inl e)
theorem uK{ks:List Key}(ok:mQ P w H h)(e:H a=some (.tup (ks.map kV))):(tupleKind (bJ P w)).is h ks a:=by
 obtain⟨_,its,r,o,h1,h2,n,h3⟩:=(show bI P w H h a (.tup (ks.map kV)) from ok a _ e)
 exact⟨o,its.toArray,n,h1,h2,h3,by simpa using zU r⟩
theorem GU{kvs:List (List Key×V)}(ok:mQ P w H h)(e:Rd H a (.dT kvs)):kvs.length<=sizeLine/\(a==sysModules)=false ∧
  ∃xs,KT H kvs xs/\h.DictOfH (tupleKind (bJ P w)) a xs:=by
 obtain⟨z,y,xs,r,o,es,ep,h1,h2,h3,h4,h5⟩:=(show bI P w H h a (.dT kvs) from NX ok e)
 refine⟨z,y,xs,r,o,es,ep,h1,h2,h3,h4,λx hx=>?_,h5⟩
 have all:∀{l:List (List Key×V)} {m:List (List Key×Addr×Value)},KT H l m->∀x∈m,(tupleKind (bJ P w)).is h x.1 x.2.1:=by
  intro l m q
  induction q with
  |nil=>intro x hx;exact nomatch hx
  | @cons p q ps qs hq t ih =>
   intro x hx
   rcases List.mem_cons.mp hx with e|hx
   ·subst e
    exact uK ok (by rw[←hq.1];exact hq.2.1)
   ·exact ih x hx
 exact all r x hx
theorem Vb{kvs:List (List Key×V)}(ok:mQ P w H h)(e:H a=some (.dT kvs)):kvs.length<=sizeLine/\(a==sysModules)=false ∧
  ∃xs,KT H kvs xs/\h.DictOfH (tupleKind (bJ P w)) a xs:=GU ok (.inl e)
end
def pR(H:Hp)(a:Addr)(y:V)(r:Option V):Prop :=
 (∃kvs k,Rd H a (.dK kvs)/\y=kV k/\r=kF kvs k)\/∃kvs k b,Rd H a (.dT kvs)/\y= .ref b/\H b=some (.tup (k.map kV))/\r=kF kvs k
def yl(H:Hp)(a:Addr)(y v:V)(H':Hp):Prop :=
 (∃kvs k,H a=some (.dK kvs)/\y=kV k/\kvs.length<sizeLine/\H'=upd H a (.dK (putK kvs k v))) ∨
 ∃kvs k b,H a=some (.dT kvs)/\y= .ref b/\H b=some (.tup (k.map kV))/\kvs.length<sizeLine/\H'=upd H a (.dT (putK kvs k v))
theorem pR.k{H:Hp}{a:Addr}{kvs:List (Key×V)}{k:Key}(e:H a=some (.dK kvs)):pR H a (kV k) (kF kvs k):=.inl ⟨kvs,k,.inl e,rfl,rfl⟩
theorem pR.t{H:Hp}{a b:Addr}{kvs:List (List Key×V)}{k:List Key}(e:H a=some (.dT kvs))(eb:H b=some (.tup (k.map kV))):pR H a (.ref b) (kF kvs k):=.inr ⟨kvs,k,b,.inl e,rfl,eb,rfl⟩
theorem yl.k{H:Hp}{a:Addr}{kvs:List (Key×V)}{k:Key}{v:V}(e:H a=some (.dK kvs))(hl:kvs.length<sizeLine):yl H a (kV k) v (upd H a (.dK (putK kvs k v))):=.inl ⟨kvs,k,e,rfl,hl,rfl⟩
theorem yl.t{H:Hp}{a b:Addr}{kvs:List (List Key×V)}{k:List Key}{v:V}(e:H a=some (.dT kvs))(eb:H b=some (.tup (k.map kV)))(hl:kvs.length<sizeLine):
  yl H a (.ref b) v (upd H a (.dT (putK kvs k v))):=.inr ⟨kvs,k,b,e,rfl,eb,hl,rfl⟩
section
variable{X:Cx}{pins:List (Addr×Obj)}{σ:St}{H:Hp}{s:Shared}{a:Addr}{y v:V}{u r:Value}{o:Option V}{A:Around}{E:Value->Shared->Prop}
theorem Inv.big(I:Inv X pins σ H s):sysModules<s.heap.objs.size:=by
 have h:mainGlobals<s.heap.objs.size:=(I.mod.glob.keeps I.bk).lt
 exact Nat.lt_trans (by decide) h
theorem Iz{Q:Value->Shared->Prop}(hu:A.units+1<cLine)(I:Inv X pins σ H s)(g:pR H a y (some v))(ry:RelV y u)(h:∀w' s',Inv X pins σ H s'->RelV v w'->Q w' s'):
  wpAny (model X.prog X.w) A (getItem (.ref a) u) Q E s:=by
 rcases g with⟨kvs,k,e,ey,l⟩|⟨kvs,k,b,e,ey,eb,l⟩
 ·subst ey
  obtain⟨z,hd,vs,rel,dd⟩:=GV I.hok e
  obtain⟨w',hw,rw'⟩:=nF.some_of (v:=v) (o:=valueAt vs k) (by rw[l];exact rel.val k)
  exact wpAny_getItem_of (GC ry) dd.mapOf hw (h w' _ (I.tok _) rw')
 ·subst ey
  cases (show u=Value.ref b from ry)
  obtain⟨z,hd,xs,rel,dd⟩:=GU I.hok e
  obtain⟨w',hw,rw'⟩:=nF.some_of (v:=v) (o:=(atKey xs k).map (·.2)) (by rw[l];exact rel.val k)
  obtain⟨p,hp,hp2⟩:=Option.map_eq_some_iff.mp hw
  refine wpAny_getItem_heap (tupleKind_room_in1 hu) (uK I.hok eb) dd hp ?_
  rw[hp2]
  exact h w' _ (I.tok _) rw'
theorem Z0{Q:Value->Shared->Prop}(hu:A.units+1<cLine)(I:Inv X pins σ H s)(g:pR H a y o)(ry:RelV y u)(h:∀s',Inv X pins σ H s'->Q (.bool o.isSome) s'):
  wpAny (model X.prog X.w) A (compareOp .In u (.ref a)) Q E s:=by
 rcases g with⟨kvs,k,e,ey,l⟩|⟨kvs,k,b,e,ey,eb,l⟩
 ·subst ey
  obtain⟨z,hd,vs,rel,dd⟩:=GV I.hok e
  refine wpAny_in_of (GC ry) hd dd.mapOf ?_
  rw[←(rel.val k).qP,←l]
  exact h _ (I.tok _)
 ·subst ey
  cases (show u=Value.ref b from ry)
  obtain⟨z,hd,xs,rel,dd⟩:=GU I.hok e
  refine wpAny_in_heap (tupleKind_room_in1 hu) (uK I.hok eb) hd dd ?_
  have q:=(rel.val k).qP
  rw[Option.isSome_map]at q
  rw[←q,←l]
  exact h _ (I.tok _)
theorem wu{h':Heap}{t':Nat}{ob:HO}(I:Inv X pins σ H s)(mu:Vr (H a))(hs:Heap.SameBut a s.heap h')(he:∃q,h'.get? a=some q)(new:bI X.prog X.w (upd H a ob) h' a ob)(ht:s.toks<=t':=by first|exact Nat.le_refl _|exact Nat.le_succ _|assumption|omega):
  Inv X pins σ (upd H a ob) { s with heap:=h',toks:=t' } :=
 I.write (x:=a) (e:=a) mu (.inl rfl) (λb q hb z=>(hs.2 b hb).trans z) he new
theorem RO{P:Program}{w:World}{H':Hp}{h':Heap}{kvs:List (Key×V)}{vs:List (Key×Value)}(z:kvs.length<=sizeLine)(hd:(a==sysModules)=false)(rel:KV kvs vs)(dd:h'.DictOf (bJ P w) a vs):
  bI P w H' h' a (.dK kvs):=⟨z,hd,vs,rel,dd⟩
theorem Iw{H':Hp}{Q:Unit->Shared->Prop}(hu:A.units+1<cLine)(I:Inv X pins σ H s)(g:yl H a y v H')(ry:RelV y u)(rv:RelV v r)(h:∀s',Inv X pins σ H' s'->Q () s'):
  wpAny (model X.prog X.w) A (setItem (.ref a) u r) Q E s:=by
 rcases g with⟨kvs,k,e,ey,l,eH⟩|⟨kvs,k,b,e,ey,eb,l,eH⟩
 ·subst ey eH
  obtain⟨z,hd,vs,rel,dd⟩:=Vc I.hok e
  have hz:vs.length<=sizeLine:=by rw[←rel.length];exact z
  have hl:(putK kvs k v).length<=sizeLine:=by have:=iw kvs k v;omega
  refine wpAny_setItem_pairs (hsz:=hz) (GC ry) dd λh' Ss hs=>h _ ?_
  have he:∃q,h'.get? a=some q:=let ⟨q,_,_,hq,_⟩:=Ss;⟨q,hq⟩
  exact wu I (by rw[e];exact True.intro) hs he (RO hl hd (rel.put k rv) Ss)
 ·subst ey eH
  cases (show u=Value.ref b from ry)
  obtain⟨z,hd,xs,rel,dd⟩:=Vb I.hok e
  have hz:xs.length<=sizeLine:=by rw[←Paired.length rel];exact z
  have hl:(putK kvs k v).length<=sizeLine:=by have:=iw kvs k v;omega
  refine wpAny_setItem_heap (hsz:=hz) (tupleKind_room_in1 hu) (uK I.hok eb) dd λh' Ss hs=>h _ ?_
  obtain⟨q,es,ep,hq,h2,h3,h4,_,h5⟩:=Ss
  refine wu I (by rw[e];exact True.intro) hs ⟨q,hq⟩ ⟨hl,hd,_,(rel.put k eb rv).keeps λc ys ec=>?_,q,es,ep,hq,h2,h3,h4,h5⟩
  rw[au (qg ec e (λz=>nomatch z))]
  exact ec
end
section
variable{X:Cx}{pins:List (Addr×Obj)}{σ:St}{H:Hp}{s:Shared}{a:Addr}{kvs:List (Key×V)}{k:Key}{u:Value}{A:Around}{E:Value->Shared->Prop}
end
def R6(i:Expr):Prop:=∀ov iv,subscripted i false ov iv=operate [ov,iv] (getItem ov iv)
theorem wg{prog:Program}{w:World}{A:Around}{E:Value->Shared->Prop}{s:Shared}{env:Env}{value slice:Expr}{pos:Pos}{T id:String}{Q:Value->Shared->Prop}
  (hl:typeLookup (.type T) "__getitem__" =pure (some (.builtin id))) (hs:R6 slice)
  (h:wpAny (model prog w) A (eval value env) (λo s₁=>wpAny (model prog w) A (eval slice env) (λi s₂=>s₂.TypeIs o T/\wpAny (model prog w) A (getItem o i) Q E s₂) E s₁) E s) :
  wpAny (model prog w) A (eval (.Subscript value slice pos) env) Q E s:=by
 refine Subscript_ (wpAny_mono h (λo s₁ h₁=>wpAny_mono h₁ (λi s₂ h₂=>?_) λ_ _ x=>x) λ_ _ x=>x)
 obtain⟨hT,h₂⟩:=h₂
 unfold subscriptTail
 refine wpAny_bind ?_
 rw[getitemInPython_of_ne hT.not_modules]
 refine wpAny_bind (wpAny_specialOf hT hl ?_)
 have fin:wpAny (model prog w) A (subscripted slice false o i) (λr s₃=>wpAny (model prog w) A (letTemporaryGo value o r >>= λ_=>pure r) Q E s₃) E s₂:=by
  rw[hs o i]
  exact wpAny_operating (wpAny_mono h₂ (λr s₃ h₃=>wpAny_bind (wpAny_letTemporaryGo (wpAny_pure h₃))) λ_ _ x=>x)
 first
  |exact wpAny_pure (wpAny_bind fin)
  |exact wpAny_bind (wpAny_pure (wpAny_bind fin))
  |exact wpAny_bind fin
theorem DA{X:Cx}{pins:List (Addr×Obj)}{σ:St}{H:Hp}{s:Shared}{a:Addr}{y:V}{o:Option V}(I:Inv X pins σ H s)(g:pR H a y o):s.TypeIs (.ref a) "dict" :=by
 rcases g with⟨kvs,k,e,_,_⟩|⟨kvs,k,b,e,_,_,_⟩
 ·obtain⟨_,_,vs,_,dd⟩:=GV I.hok e
  exact dd.typeIs
 ·obtain⟨_,_,xs,_,dd⟩:=GU I.hok e
  exact dd.typeIs
def SW(td ty:TE):TE:=λσ H Q=>td σ H λx H1=>ty σ H1 λy H2=>∃a v,x= .ref a/\pR H2 a y (some v)/\Q v H2
def Tf(td ty tv:TE):TS:=λD σ H=>tv σ H λv H1=>td σ H1 λx H2=>ty σ H2 λy H3=>∃a H4,x= .ref a/\yl H3 a y v H4/\D.nx σ H4
section
variable{X:Cx}{o i e value:Expr}{pos pos' tpos:Pos}{td ty tv:TE}
theorem lO(hu:X.A.units+1<cLine)(ho:PE X o td)(hi:PE X i ty)(hs:R6 i):PE X (.Subscript o i pos) (SW td ty):=by
 intro pins s σ H Q I h
 refine wg PySem.F.slot_dict_getitem.lookup hs (dw (ho pins s σ H _ I h) λu s1 ⟨x,H1,I1,rx,q1⟩=>dw (hi pins s1 σ H1 _ I1 q1) λiv s2 ⟨y,H2,I2,ry,a,v,ex,g,q2⟩=>?_)
 subst ex
 obtain rfl:u=Value.ref a:=rx
 exact⟨DA I2 g,Iz hu I2 g ry λw' s3 I3 rw'=>⟨v,H2,I3,rw',q2⟩⟩
theorem sS(hu:X.A.units+1<cLine)(ho:PE X o td)(hi:PE X i ty)(hv:PE X value tv)(hs:swapsWith value (some (.Subscript o i pos')) pos.line X.env=pure false):
  PS X (.Assign [.Subscript o i pos'] value pos) (Tf td ty tv):=by
 intro pins s σ H D I h
 refine wpAny_Assign_Subscript (dw (hv pins s σ H _ I h) λr s1 ⟨v,H1,I1,rv,q1⟩=>dw (ho pins s1 σ H1 _ I1 q1) λu s2 ⟨x,H2,I2,rx,q2⟩=>dw (hi pins s2 σ H2 _ I2 q2) λiv s3 ⟨y,H3,I3,ry,a,H4,ex,g,q3⟩=>?_) hs
 subst ex
 obtain rfl:u=Value.ref a:=rx
 exact Iw hu I3 g ry rv λs4 I4=>⟨σ,H4,I4,q3⟩
end
theorem Lu{P:Program}{w:World}{H:Hp}(h:Heap)(hb:sysModules<h.objs.size):bI P w H (h.push { cls:=.type "dict",data:=.dict #[] }) h.objs.size (.dK []) :=
 ⟨Nat.zero_le _,beq_eq_false_iff_ne.mpr (Ne.symm (Nat.ne_of_lt hb)),[],.nil,Heap.DictOf.new h⟩
theorem Ls{P:Program}{w:World}{H:Hp}(h:Heap)(hb:sysModules<h.objs.size):bI P w H (h.push { cls:=.type "dict",data:=.dict #[] }) h.objs.size (.dT []) :=
 ⟨Nat.zero_le _,beq_eq_false_iff_ne.mpr (Ne.symm (Nat.ne_of_lt hb)),[],.nil,_,#[],0,Heap.get?_push_size _ rfl,⟨rfl,rfl,rfl⟩,rfl,rfl,List.nodup_nil⟩
def QB:TE:=λ_ H Q=>∀p,H p=none->Q (.ref p) (upd H p (.dK []))
def QA:TE:=λ_ H Q=>∀p,H p=none->Q (.ref p) (upd H p (.dT []))
section
variable{X:Cx}{pos:Pos}
theorem m8:PE X (.Dict [] [] pos) QB:=λpins s σ H Q I h =>
 wpAny_Dict_empty ⟨.ref s.heap.objs.size,_,I.laid (a:=s.heap.objs.size) (o:=.dK []) (t':=s.toks) (λ_ _ q=>Heap.get?_push_of_some _ q) (Nat.le_refl _) (Lu s.heap I.big),rfl,h _ (I.hok.fresh (Nat.le_refl _))⟩
theorem CI:PE X (.Dict [] [] pos) QA:=λpins s σ H Q I h =>
 wpAny_Dict_empty ⟨.ref s.heap.objs.size,_,I.laid (a:=s.heap.objs.size) (o:=.dT []) (t':=s.toks) (λ_ _ q=>Heap.get?_push_of_some _ q) (Nat.le_refl _) (Ls s.heap I.big),rfl,h _ (I.hok.fresh (Nat.le_refl _))⟩
end
section
variable{X:Cx}{pins:List (Addr×Obj)}{σ:St}{H:Hp}{s:Shared}{a:Addr}{y d:V}{u r:Value}{o:Option V}{A:Around}{E:Value->Shared->Prop}
end
section
variable{X:Cx}{o e f:Expr}{apos cpos:Pos}{td ty tx:TE}
end
section
variable{X:Cx}{pins:List (Addr×Obj)}{σ:St}{H:Hp}{s:Shared}{a:Addr}{kvs:List (Key×V)}{A:Around}{E:Value->Shared->Prop}
end
section
variable{X:Cx}{pins:List (Addr×Obj)}{σ:St}{H:Hp}{s:Shared}{a:Addr}{y:V}{u:Value}{A:Around}{E:Value->Shared->Prop}
end
end L2
namespace Att
open PySem PySem.W PySem.Calls PyProof.Rows
theorem vO{P:Params}{h:Heap}:∀(ns:List Int) (vs:List Value),WellAll P h vs (ns.map WData.int)->IntsAre vs ns:=by
 intro ns
 induction ns with
 |nil =>
  intro vs w
  rw[List.map_nil]at w
  cases w
  exact .nil
 |cons n ns ih =>
  intro vs w
  rw[List.map_cons]at w
  cases w with
  |cons a b =>
   cases a
   exact .cons _ _ (ih _ b)
theorem Ht{l:OpenLaw}{n:Nat}(hn:l.most=some n){P:Params}{h:Heap}{args:List WData}{vals:List Value}
  (hpre:l.row.toRowW.claim.pre args=true) (hwl:WellAll P h vals args) :
  ∃a vs ns,vals=[Value.ref a]/\args=[WData.list (ns.map WData.int)]/\h.get? a=some { cls:=.type "list",data:=.seq vs.toArray }/\IntsAre vs ns/\ns.length<=n:=by
 have hsh:WShape.hasAll [] args [.list .int]=true:=(pre_splitW hpre).1
 have hc:l.pre.holds [] { args:=args }=true:=(pre_splitW hpre).2
 obtain⟨d,r,rfl,h1,h2⟩:=hasAllW_cons hsh
 obtain rfl:=hasAllW_nil h2
 obtain⟨xs,rfl,h3⟩:=hasW_list h1
 obtain⟨ns,rfl⟩:=items_int h3
 have hlen:ns.length<=n:=by
  unfold OpenLaw.pre at hc
  have h4:(WTm.not (.lt (.lit (.int (n:Int))) (.len (.arg 0)))).holds [] { args:=[.list (ns.map .int)] }=true:=by
   have h4:=(holds_andW hc).1
   rw[hn]at h4
   exact h4
  have h5:=condW_of h4 (w_not (w_lt w_lit (w_len_list (w_arg rfl))))
  rw[List.length_map]at h5
  refine Nat.le_of_not_lt λq=>?_
  have q':(n:Int)<((ns.length:Nat):Int):=by omega
  first
   |(rw[decide_eq_true q']at h5;exact absurd h5 (by decide))
   |(simp at h5;omega)
 cases hwl with
 |cons w1 w2 =>
  cases w2
  cases w1 with
  |list ho hall=>exact⟨_,_,ns,rfl,rfl,ho,vO ns _ hall,hlen⟩
theorem Hz(l:OpenLaw)(args:List WData):l.row.toRowW.claim.post args (.bool true) args=true :=
 postW_of (r:=l.row.toRowW) (X:=(true==true))
  (show WShape.has [] (.bool true) .bool=true by first|rfl|decide|simp[WShape.has,WShape.arms,WShape.armsAll])
  (show(WTm.eq .res (.lit (.bool true))).value [] { args:=args,res:=some (.bool true),after:=args }=some (.bool (true==true)) from w_eq_bool (w_res rfl) w_lit) rfl
theorem DI{l:OpenLaw}{n:Nat}{q:Program}{loose:List Str}{XP:(Str->Option Value)->Heap->Prop}{YP:World->Heap->Prop}{d:DefRec}
  (hn:l.most=some n) (hdf:d.params.defaults=[])
  (call:∀(w:World) (s₀ s₁:Shared) (mg mb:Str->Option Value) (fa:Addr) (o:Obj) (pm cd doc:Value) (a:Addr) (vs:List Value) (ns:List Int),
   Ground q loose [] XP w s₀ mg mb s₁.heap->YP w s₁.heap →
   s₁.heap.get? fa=some o->o.data= .func (docDef d.name d.params d.body d.scope pm cd doc)->s₁.heap.CodeRec cd d.name->mg d.name=some (.ref fa) →
   s₁.heap.get? a=some { cls:=.type "list",data:=.seq vs.toArray }->IntsAre vs ns->ns.length<=n->s₁.gens= #[] →
   codeAny (model l.prog w) callerA (.call (.ref fa) ⟨[.ref a],[]⟩) (λr s'=>r= .ok (.ret (.bool true))/\OldK s₁.heap s'.heap/\s'.os=s₁.os/\AllBare s'.gens) s₁) :
  WalkO q loose XP YP l.row.toRowW d [] (λf vs=>PySem.call f vs):=by
 intro w s₀ s₁ mg mb G Y fa o pm cd doc dV kV ho hd hcd hD hmg hg args vals as hpre hlay hrd hwl hlo
 obtain rfl:dV= .none:=Dflts.none hD hdf
 obtain rfl:kV= .none:=Dflts.noKw hD
 obtain⟨a,vs,ns,rfl,rfl,hobj,hints,hlen⟩:=Ht hn hpre hwl
 refine enter_call (codeAny_mono (call w s₀ s₁ mg mb fa o pm cd doc a vs ns G Y ho (fd_plain hd) hcd hmg hobj hints hlen hg) λr s' hq=>?_)
 obtain⟨rfl,h2,h3,h4⟩:=hq
 exact⟨.inl ⟨.bool true,.bool true,[],rfl,λ_=>rfl,.bool true,Hz l _,λ_=>⟨List.Pairwise.nil,λ_ hm=>(nomatch hm)⟩⟩,h2,h3,h4⟩
section
variable{prog:Program}{w:World}{A:Around}{E:Value->Shared->Prop}{s:Shared}{K:Frag}
end
end Att
namespace L2
open PySem PySem.Spec PyProof.Rows
theorem zA:∀{vs:List Value} {ns:List Int},IntsAre vs ns->Vals (ns.map V.int) vs
 |_,_,.nil=>.nil
 |_,_,.cons n t h=>.cons ⟨t,rfl⟩ (zA h)
end L2
namespace L2
open PySem PySem.Spec PyProof.Rows
end L2
namespace L2
open PySem PySem.Spec PyProof.Rows
def inClass(s:Stmt)(j:Nat):Stmt:=match s with
 | .ClassDef _ _ _ body _ _ _ _ _ _ _=>body.getD j (.Pass ⟨0,0,0,0⟩)
 |_=>.Pass ⟨0,0,0,0⟩
def fP(s:Stmt):Arguments:=match s with
 | .FunctionDef _ a _ _ _ _ _ _ _ _=>a
 |_=>{ posonlyargs:=[],args:=[],vararg:=none,kwonlyargs:=[],kw_defaults:=[],kwarg:=none,defaults:=[] }
def c6(s:Stmt):List Stmt:=match s with
 | .FunctionDef _ _ b _ _ _ _ _ _ _=>b
 |_=>[]
def ay(s:Stmt):Scope:=match s with
 | .FunctionDef _ _ _ _ _ _ sc _ _ _=>sc
 |_=>{ kind:=.function,names:=[],isGenerator:=false,isCoroutine:=false }
abbrev ck:IX:=λ_ _ _ _ _ _=>False
abbrev E0:XK:=λ_ _ _=>False
theorem aO{X:Cx}:Passes ck X E0:=λ_ _ _ _ _ _ _ h=>h.elim
structure Ja(K:PySem.W.Frag)(x qual:Str)(st:Stmt)(f:Addr)(fd:FuncData):Prop where
 ex:∃(oc:Value) (od:Option Addr) (dV kV doc pm:Value) (an:Option Addr) (cdv ct:Value) (osl:Array (Option Value)),
  fd=PySem.W.fnOf x qual (fP st) (c6 st) (ay st) dV kV doc pm an cdv ct/\K.lookup f=some ⟨oc,od,.func fd,osl⟩/\PySem.W.codeIn K cdv qual=true
 kp:PySem.W.keepIn K (.ref f)=true
section
variable{P:Program}{w:World}{K:PySem.W.Frag}{mg:Str->Option Value}{base:Heap}
theorem Ja.ok{x qual:Str}{st:Stmt}{f:Addr}{fd:FuncData}{N ps:List Str}{k:Nat}{sp:Sp}(F:Ja K x qual st f fd)(S:aH N ps (ay st))(len:∀vs H Q E,sp vs H Q E->vs.length=ps.length)
  (hbody:∀(cdv:Value) (A:Around) (outer:List Env) (s:Shared) (H:Hp) (vs:List V) (Q:VK) (E:XK),jS k (A.deeper (envOfC qual (ay st) s.heap.objs.size f cdv))->sp vs H Q E →
   ∃t,Ak (tW ck P w K mg base N qual (ay st) f cdv A outer s H E).Q3 (c6 st) t/\t { nx:=λ_ H'=>Q .gB H',rt:=Q } (start N vs) H):aJ P w K mg base ck (k+1) f fd ps sp:=by
 obtain⟨oc,od,dV,kV,doc,pm,an,cdv,ct,osl,rfl,lk,hcd⟩:=F.ex
 refine Lk lk hcd S len λA outer s H vs Q E hr D7=>?_
 obtain⟨t,h,q⟩:=hbody cdv A outer s H vs Q E hr D7
 exact⟨t,h.Q3,q⟩
theorem uO{x qual:Str}{st:Stmt}{f:Addr}{oc:Value}{od an:Option Addr}{osl:Array (Option Value)}{dV kV doc pm cdv ct:Value}(l:K.lookup f=some ⟨oc,od,.func (PySem.W.fnOf x qual (fP st) (c6 st) (ay st) dV kV doc pm an cdv ct),osl⟩)
  (c:PySem.W.codeIn K cdv qual=true) (k:PySem.W.keepIn K (.ref f)=true):Ja K x qual st f (PySem.W.fnOf x qual (fP st) (c6 st) (ay st) dV kV doc pm an cdv ct):=⟨⟨oc,od,dV,kV,doc,pm,an,cdv,ct,osl,rfl,l,c⟩,k⟩
end
theorem kJ{A:Around}{k:Nat}(hr:jS k A):A.units+1<cLine:=Nat.lt_of_le_of_lt (Nat.add_le_add_left (by decide:1<=64) _) hr.units
section
variable{X:Cx}
theorem pv (i:Nat) {x:Str} {pos:Pos} (hN:X.N[i]? =some x:=by rfl) (hv:Wm X.env.scope x:=by first|exact Or.inl rfl|exact Or.inr (Or.inl rfl)|exact Or.inr (Or.inr rfl)) (hd:(x==("__debug__" :Str))=false:=by decide)
  (hcd:(x==("__classdict__" :Str))=false:=by decide):PE X (.Name x pos) (SH i):=QW hN hv hd hcd
end
theorem kI{A B:Prop}(h:B):if false=true then A else B:=by
 rw[if_neg Bool.false_ne_true]
 exact h
theorem pC{A B:Prop}(h:A):if true=true then A else B:=by
 rw[if_pos rfl]
 exact h
def ai(H H':Hp):Prop:=∀b o,H b=some o->H' b=some o
theorem ai.refl(H:Hp):ai H H:=λ_ _ h=>h
theorem ai.trans{H H1 H2:Hp}(a:ai H H1)(b:ai H1 H2):ai H H2:=λc o h=>b c o (a c o h)
theorem ai.free{H H':Hp}(e:ai H H'){l:Addr}(h:H' l=Option.none):H l=Option.none:=by
 cases q:H l with
 |none=>rfl
 |some o =>
  rw[e l o q]at h
  cases h
theorem ai.seq{K:PySem.W.Frag}{H H':Hp}{a:Addr}{xs:List V}(e:ai H H')(h:bZ K H a xs):bZ K H' a xs:=by
 rcases h with(h|⟨o,h⟩)|h
 ·exact .inl (.inl (e _ _ h))
 ·exact .inl (.inr ⟨o,e _ _ h⟩)
 ·exact .inr h
section
variable{κ:Type}[DecidableEq κ]
end
end L2
namespace GP
theorem M3{α:Type}:∀{l:List α},l.length=1->∃a,l=[a]
 |[a],_=>⟨a,rfl⟩
theorem Df{α:Type}{n:Nat}:∀{l:List α},l.length=n+1->∃a r,l=a::r/\r.length=n
 |a::r,h=>⟨a,r,rfl,Nat.succ.inj h⟩
theorem Rb{α:Type}{l:List α}(h:l.length=2):∃a b,l=[a,b]:=by
 obtain⟨a,r,rfl,k⟩:=Df h
 obtain⟨b,rfl⟩:=M3 k
 exact⟨a,b,rfl⟩
theorem KY{α:Type}{l:List α}(h:l.length=3):∃a b c,l=[a,b,c]:=by
 obtain⟨a,r,rfl,k⟩:=Df h
 obtain⟨b,c,rfl⟩:=Rb k
 exact⟨a,b,c,rfl⟩
theorem M1{α:Type}{l:List α}(h:l.length=4):∃a b c d,l=[a,b,c,d]:=by
 obtain⟨a,r,rfl,k⟩:=Df h
 obtain⟨b,c,d,rfl⟩:=KY k
 exact⟨a,b,c,d,rfl⟩
theorem KW{α:Type}{l:List α}(h:l.length=5):∃a b c d e,l=[a,b,c,d,e]:=by
 obtain⟨a,r,rfl,k⟩:=Df h
 obtain⟨b,c,d,e,rfl⟩:=M1 k
 exact⟨a,b,c,d,e,rfl⟩
theorem TR{α:Type}{l:List α}(h:l.length=6):∃a b c d e f,l=[a,b,c,d,e,f]:=by
 obtain⟨a,r,rfl,k⟩:=Df h
 obtain⟨b,c,d,e,f,rfl⟩:=KW k
 exact⟨a,b,c,d,e,f,rfl⟩
end GP
namespace L2
open PySem PySem.Spec PyProof.Rows
section
variable{X:Cx}
theorem z9:∀{bs:List Bool} {us:List Value},Vals (bs.map V.bl) us->∀(i:Nat) (v:Value),us[i]? =some v->∃b,bs[i]? =some b/\v= .bool b
 |[],_,r,i,v,e=>by
  cases r
  simp at e
 |b::bs,_,r,i,v,e=>by
  cases r with
  |cons r1 r2 =>
   cases i with
   |zero =>
    simp at e
    subst e
    exact⟨b,rfl,r1⟩
   |succ i =>
    obtain⟨c,h1,h2⟩:=z9 r2 i v (by simpa using e)
    exact⟨c,by simpa using h1,h2⟩
theorem Ex(bs:List Bool):((List.range bs.length).all λi=>(bs[i]?).getD true)=bs.all id:=by
 rw[Bool.eq_iff_iff,List.all_eq_true,List.all_eq_true]
 constructor
 ·intro h b hb
  obtain⟨i,hi,rfl⟩:=List.getElem_of_mem hb
  have:=h i (List.mem_range.mpr hi)
  simpa only[List.getElem?_eq_getElem hi,Option.getD_some,id]using this
 ·intro h i hi
  have hi':=List.mem_range.mp hi
  simpa only[List.getElem?_eq_getElem hi',Option.getD_some,id]using h _ (List.getElem_mem hi')
theorem vp(hc:X.calm=true):nE X (.builtin "all") (λxs H Q=>∃(l:Addr) (bs:List Bool),xs=[.ref l]/\bZ X.K H l (bs.map V.bl)/\Q (.bl (bs.all id)) H):=by
 intro pins s σ H xs us Q I r h
 obtain⟨l,bs,rfl,hl,q⟩:=h
 obtain⟨u,rfl,ru⟩:=vals1 r
 cases ru
 obtain⟨its,rv,p,hz⟩:=I.list hl
 have pl:s.heap.IsList l its.toArray:=p.isList
 have hlt:l<s.heap.objs.size:=by obtain⟨_,e,_⟩:=pl;exact Heap.lt_size e
 have hlen:bs.length=its.length:=by rw[←rv.length,List.length_map]
 refine TK.bS (Nat.le_refl s.toks) ?_
 refine call_all_walk (wpAny_pyIter_list pl ?_)
 refine⟨s.heap.objs.size,[s.heap.objs.size,l],[s.heap.objs.size],its.toArray.size,_,_,λi=>(bs[i]?).getD true,rfl,Walks.list (A:=X.A.in1) (I.ok.hd hc) _ l (Nat.ne_of_lt hlt) its.toArray,
  ⟨⟨_,Heap.get?_push_size _ rfl,rfl,rfl⟩,pl.push _⟩,λi v s' Q' E' hP hQ=>?_,λh' tk hk hup=>?_⟩
 ·obtain⟨b,e,rfl⟩:=z9 rv i v (by simpa using hP)
  simp only[e,Option.getD_some]at hQ
  exact wpAny_truthy_bool hQ
 ·have e:((List.range its.toArray.size).all λi=>(bs[i]?).getD true)=bs.all id:=by
   rw[List.size_toArray,←hlen];exact Ex bs
  rw[e]
  refine⟨.bl (bs.all id),H,I.kept (t':=tk) (λb x e=>hk b x (λhm=>?_) (Heap.get?_push_of_some _ e)),rfl,q⟩
  rw[List.mem_singleton.mp hm]at e
  exact Nat.lt_irrefl _ (Heap.lt_size e)
end
theorem Gq{X:Cx}{K':PySem.W.Frag}{es:List Expr}{k:Nat}{t:Oz}{n:Nat}{pos:Pos}(hK:X.K=K')(hc:X.calm=true)(h:Vo X es t)
  (hn:(assignEach es X.env).length=n:=by rfl) (hst:(assignEach es X.env).findIdx? (·.1)=none:=by rfl):PG X (.Tuple es k pos) (U7 K' n t):=by
 subst hK
 exact m7 hc h hn hst
def Yd(t u:TS):TS:=λD σ H=>∃Mid:St->Hp->Prop,t { D with nx:=Mid } σ H/\∀ σ' H',Mid σ' H'->u D σ' H'
theorem bE{X:Cx}{st:Stmt}{rest:List Stmt}{t u:TS}(h1:PS X st t)(h2:Ak X rest u):Ak X (st::rest) (Yd t u):=by
 intro pins s σ H D I h
 obtain⟨Mid,h,hm⟩:=h
 refine wpAny_execs_cons (dw (h1 pins s σ H { D with nx:=Mid } I h) λf s1 q=>?_)
 cases f with
 |next =>
  obtain⟨σ',H',I',q⟩:=q
  exact h2 pins s1 σ' H' D I' (hm σ' H' q)
 |ret v=>exact q
 |brk=>exact q
 |cont=>exact q
def jt(X:Cx)(scope:Scope)(cl:List (Str×Addr))(C:Addr)(N:List Str)(s:Shared)(H:Hp)(ex:List Addr)(pn:List (Addr×Obj))(E:Value->Shared->Prop):Cx :=
 { X with N:=N,s₀:=s,H₀:=H,env:=compEnvC scope cl C X.env,outer:=X.stack,ex:=ex,fn:=λx=>scope.names.lookup x==some .cell,pn:=pn,xe:=E }
structure dm(X:Cx)(scope:Scope)(cl:List (Str×Addr))(N:List Str)(oA:St->St):Prop where
 clos:closureFor scope X.env=pure cl
 kind:scope.kind= .function
 cell:∀y∈scope.names,y.2= .cell->cl.lookup y.1=none
 names:∀y∈scope.names,y.2= .local->scope.names.lookup y.1=some .local
 sub:∀x c,cl.lookup x=some c->X.env.cells.lookup x=some c
 has:∀x,((relabel scope X.env).names.lookup x=some .cell\/(relabel scope X.env).names.lookup x=some .free)->scope.names.lookup x=some .cell\/∃c,cl.lookup x=some c
 len:∀ σ,(oA σ).length=N.length
 fv:∀(σ:St) (i:Nat) (x:Str) (v:V),N[i]? =some x->(oA σ)[i]? =some (some v)->Wm (relabel scope X.env) x →
  ∃(j:Nat) (c:Addr),X.N[j]? =some x/\σ[j]? =some (some v)/\X.env.kindOf x=some .cell/\((relabel scope X.env).names.lookup x=some .cell\/(relabel scope X.env).names.lookup x=some .free)/\cl.lookup x=some c
structure L6(cl Ba:List (Str×Addr))(scope:Scope)(n:Nat)(h₁:Heap):Prop where
 look:∀x c,Ba.lookup x=some c->(n<c/\h₁.IsCell c none)\/cl.lookup x=some c
 inj:∀x y c,n<c->Ba.lookup x=some c->Ba.lookup y=some c->(∀x,cl.lookup x≠some c)->x=y
 keep:∀x c,cl.lookup x=some c->Ba.lookup x=some c
 own:∀x,scope.names.lookup x=some .cell->∃c,Ba.lookup x=some c
theorem gZ:∀(names:List (Str×NameKind)) (n:Nat) (acc:List (Str×Addr)),cellsFrom n names acc=cellsFrom n names []++acc
 |[],_,_=>rfl
 |(y,k)::r,n,acc=>by
  unfold cellsFrom
  split
  ·rw[gZ r _ ((y,n)::acc),gZ r _ [(y,n)],List.append_assoc];rfl
  ·exact gZ r n acc
theorem oq:∀(names:List (Str×NameKind)) (n:Nat) (acc:List (Str×Addr)) (x:Str) (c:Addr),(x,c)∈cellsFrom n names acc->(x,NameKind.cell)∈names\/(x,c)∈acc
 |[],_,_,_,_,h=>.inr h
 |(y,k)::r,n,acc,x,c,h=>by
  unfold cellsFrom at h
  split at h
  next hk =>
   rcases oq r _ _ x c h with z|z
   ·exact .inl (List.mem_cons_of_mem _ z)
   ·rcases List.mem_cons.mp z with e|e
    ·cases e
     have hk':k= .cell:=by simpa using hk
     rw[hk']
     exact .inl List.mem_cons_self
    ·exact .inr e
  next=>exact(oq r _ _ x c h).imp (List.mem_cons_of_mem _) id
theorem DF{X:Cx}{scope:Scope}{cl:List (Str×Addr)}{N:List Str}{oA:St->St}(S:dm X scope cl N oA){M:Model}{A:Around}{E:Value->Shared->Prop}{s:Shared}{Q:Env->Shared->Prop}
  (h:∀Ba h₁,L6 cl Ba scope s.heap.objs.size h₁->h₁.Ns s.heap.objs.size (λ_=>none)->(∀b o,s.heap.get? b=some o->h₁.get? b=some o)->Q { compEnvC scope Ba s.heap.objs.size X.env with scope:=scope } { s with heap:=h₁ }) :
  wpAny M A (newFunctionEnv scope X.env.globals cl [] X.env.qual none .none (some X.env)) Q E s:=by
 simp only[newFunctionEnv,Option.isSome_some,if_true]
 refine wpAny_bind (wpAny_alloc ?_)
 refine wpAny_bind (wpAny_layCells _ (λname kind cells=>by cases hkc:kind==NameKind.cell<;>simp[hkc]) _ _ _ _ ?_)
 have hz:(s.heap.push { cls:=.type "dict",data:=.dict #[] }).objs.size=s.heap.objs.size+1:=Heap.size_push ..
 have ok:=cellsFrom_ok scope.names (s.heap.push { cls:=.type "dict",data:=.dict #[] }) (s.heap.objs.size+1) [] ⟨λ_ _ hm=>(nomatch hm),List.Pairwise.nil⟩ (by rw[hz];exact Nat.le_refl _)
 simp only[List.forIn_nil]
 refine wpAny_bind (wpAny_pure (wpAny_pure (h (cellsFrom (s.heap.push { cls:=.type "dict",data:=.dict #[] }).objs.size scope.names cl) _ ⟨λx c e=>?_,λx y c _ ex ey hn=>?_,λx c e=>?_,λx e=>?_⟩ ((Heap.Ns.new s.heap (.type "dict")).keeps λb o e=>pushCells_keeps _ _ _ _ e) λb o e=>pushCells_keeps _ _ _ _ (Heap.get?_push_of_some _ e))))
 ·rw[gZ,List.lookup_append]at e
  cases q:(cellsFrom (s.heap.push { cls:=.type "dict",data:=.dict #[] }).objs.size scope.names []).lookup x with
  |none=>rw[q]at e;exact .inr e
  |some d =>
   rw[q]at e
   cases e
   exact .inl ((ok.empty x c (mem_of_lookup q)).symm)
 ·rw[gZ,List.lookup_append]at ex ey
  cases qx:(cellsFrom (s.heap.push { cls:=.type "dict",data:=.dict #[] }).objs.size scope.names []).lookup x with
  |none=>rw[qx]at ex;exact absurd ex (hn x)
  |some d =>
   rw[qx]at ex
   cases ex
   cases qy:(cellsFrom (s.heap.push { cls:=.type "dict",data:=.dict #[] }).objs.size scope.names []).lookup y with
   |none=>rw[qy]at ey;exact absurd ey (hn y)
   |some d =>
    rw[qy]at ey
    cases ey
    exact name_of_addr ok.apart (mem_of_lookup qx) (mem_of_lookup qy)
 ·rw[gZ,List.lookup_append]
  cases q:(cellsFrom (s.heap.push { cls:=.type "dict",data:=.dict #[] }).objs.size scope.names []).lookup x with
  |none=>exact e
  |some d =>
   rcases oq _ _ _ _ _ (mem_of_lookup q)with z|z
   ·rw[S.cell _ z rfl]at e;cases e
   ·cases z
 ·exact Option.isSome_iff_exists.mp (PySem.W.cellsFrom_some _ _ _ (.inl e))
theorem dm.plain{X:Cx}{scope:Scope}{N:List Str}(hfree:∀x∈scope.names,x.2≠ .free)(kind:scope.kind= .function)(_:∀y∈scope.names,y.2= .cell->(y.1,NameKind.free)∉scope.names)
  (names:∀y∈scope.names,y.2= .local->scope.names.lookup y.1=some .local):dm X scope [] N (λ_=>List.replicate N.length none):=by
 have hr:(relabel scope X.env).names=scope.names:=by
  unfold relabel
  exact map_eq_self λx hx=>by
   obtain⟨n,k⟩:=x
   have:(k==NameKind.free)=false:=by simpa using hfree _ hx
   simp[this]
 refine⟨closureFor_none hfree,kind,λ_ _ _=>rfl,names,λx c e=>by simp at e,λx hx=>?_,λσ=>List.length_replicate,λσ i x v _ e _=>?_⟩
 ·rw[hr]at hx
  rcases hx with hx|hx
  ·exact .inl hx
  ·exact absurd rfl (hfree _ (PySem.mem_of_lookup hx))
 ·rw[List.getElem?_replicate]at e
  split at e
  ·cases e
  ·cases e
def oR(look:Str->Option Addr):List (Str×NameKind)->List (Str×Addr)->List (Str×Addr)
 |[],acc=>acc
 |(n,k)::r,acc=>if(k==NameKind.free)=true then(match look n with|some a=>oR look r ((n,a)::acc)|none=>oR look r acc)else oR look r acc
theorem pI{env:Env}:∀(names:List (Str×NameKind)) (acc:List (Str×Addr)),(∀x∈names,x.2= .free->∃a,env.cells.lookup x.1=some a) →
  (forIn names acc (λ(x:Str×NameKind) (r:List (Str×Addr))=>match x with|(name,kind)=>if(kind==NameKind.free)=true then do let c ←cellOf env name;pure (ForInStep.yield ((name,c)::r))else pure (ForInStep.yield r)):Sem (List (Str×Addr)))=pure (oR (env.cells.lookup ·) names acc)
 |[],acc,_=>rfl
 |(n,k)::r,acc,h=>by
  rw[List.forIn_cons]
  dsimp only
  unfold oR
  by_cases hk:(k==NameKind.free)=true
  ·obtain⟨a,ha⟩:=h (n,k) List.mem_cons_self (by simpa using hk)
   have ha':env.cells.lookup n=some a:=ha
   rw[if_pos hk,if_pos hk,ha']
   have hc:cellOf env n=pure a:=by unfold cellOf;rw[ha']
   rw[hc]
   exact pI r _ λx hx=>h x (List.mem_cons_of_mem _ hx)
  ·rw[if_neg hk,if_neg hk]
   exact pI r _ λx hx=>h x (List.mem_cons_of_mem _ hx)
theorem tX{look:Str->Option Addr}:∀(names:List (Str×NameKind)) (acc:List (Str×Addr)),(∀x c,acc.lookup x=some c->look x=some c)->∀x c,(oR look names acc).lookup x=some c->look x=some c
 |[],acc,h=>h
 |(n,k)::r,acc,h=>by
  unfold oR
  by_cases hk:(k==NameKind.free)=true
  ·rw[if_pos hk]
   cases e:look n with
   |none=>exact tX r acc h
   |some a =>
    refine tX r _ λx c q=>?_
    rw[List.lookup_cons]at q
    by_cases hx:(x==n)=true
    ·rw[hx]at q
     have:x=n:=by simpa using hx
     rw[this,e]
     exact q
    ·have hx':(x==n)=false:=by simpa using hx
     rw[hx']at q
     exact h x c q
  ·rw[if_neg hk]
   exact tX r acc h
theorem pJ{look:Str->Option Addr}:∀(names:List (Str×NameKind)) (acc:List (Str×Addr)) (x:Str),(∃c,acc.lookup x=some c)->∃c,(oR look names acc).lookup x=some c
 |[],_,_,h=>h
 |(n,k)::r,acc,x,h=>by
  unfold oR
  by_cases hk:(k==NameKind.free)=true
  ·rw[if_pos hk]
   cases e:look n with
   |none=>exact pJ r acc x h
   |some a =>
    refine pJ r _ x ?_
    rw[List.lookup_cons]
    cases hx:x==n with
    |true=>exact⟨a,rfl⟩
    |false=>exact h
  ·rw[if_neg hk]
   exact pJ r acc x h
theorem qw{look:Str->Option Addr}:∀(names:List (Str×NameKind)) (acc:List (Str×Addr)) (x:Str),(x,NameKind.free)∈names->(∃a,look x=some a)->∃c,(oR look names acc).lookup x=some c
 |[],_,_,h,_=>by cases h
 |(n,k)::r,acc,x,h,ha=>by
  unfold oR
  rcases List.mem_cons.mp h with e|e
  ·obtain⟨a,ha⟩:=ha
   have e1:x=n:=congrArg Prod.fst e
   have e2:k=NameKind.free:=(congrArg Prod.snd e).symm
   subst e1 e2
   rw[if_pos (by decide),ha]
   refine pJ r _ x ⟨a,?_⟩
   rw[List.lookup_cons]
   simp
  ·by_cases hk:(k==NameKind.free)=true
   ·rw[if_pos hk]
    cases e2:look n with
    |none=>exact qw r acc x e ha
    |some a=>exact qw r _ x e ha
   ·rw[if_neg hk]
    exact qw r acc x e ha
theorem tY{look:Str->Option Addr}:∀(names:List (Str×NameKind)) (acc:List (Str×Addr)) (x:Str) (c:Addr),(oR look names acc).lookup x=some c->(x,NameKind.free)∈names\/acc.lookup x=some c
 |[],_,_,_,h=>.inr h
 |(n,k)::r,acc,x,c,h=>by
  unfold oR at h
  by_cases hk:(k==NameKind.free)=true
  ·rw[if_pos hk]at h
   cases e:look n with
   |none=>rw[e]at h;exact(tY r acc x c h).imp (List.mem_cons_of_mem _) id
   |some a =>
    rw[e]at h
    rcases tY r _ x c h with z|z
    ·exact .inl (List.mem_cons_of_mem _ z)
    ·rw[List.lookup_cons]at z
     cases hx:x==n with
     |true =>
      have e1:x=n:=by simpa using hx
      have e2:k= .free:=by simpa using hk
      rw[e1,e2]
      exact .inl List.mem_cons_self
     |false=>rw[hx]at z;exact .inr z
  ·rw[if_neg hk]at h
   exact(tY r acc x c h).imp (List.mem_cons_of_mem _) id
theorem o7{env:Env}:∀{names:List (Str×NameKind)} {x:Str} {k:NameKind},
  (names.map λ(n,k)=>if(k==NameKind.free&&env.scope.kind== .function&&env.kindOf n==some .cell)then(n,NameKind.cell)else(n,k)).lookup x=some k →
  (k= .cell\/k= .free)->names.lookup x=some .cell\/(x,NameKind.free)∈names
 |[],_,_,h,_=>by simp at h
 |(n,j)::r,x,k,h,hk=>by
  rw[List.map_cons,List.lookup_cons]at h
  rw[List.lookup_cons]
  by_cases hj:(j==NameKind.free&&env.scope.kind== .function&&env.kindOf n==some .cell)=true
  ·simp only[hj,if_true]at h
   by_cases hx:(x==n)=true
   ·have e:x=n:=by simpa using hx
    have ej:j= .free:=by
     rw[Bool.and_eq_true,Bool.and_eq_true]at hj
     simpa using hj.1.1
    rw[e,←ej]
    exact .inr List.mem_cons_self
   ·have hx':(x==n)=false:=by simpa using hx
    rw[hx']at h ⊢
    exact(o7 h hk).imp id (List.mem_cons_of_mem _)
  ·simp only[hj]at h
   by_cases hx:(x==n)=true
   ·have e:x=n:=by simpa using hx
    rw[e]at h
    simp at h
    subst h
    rw[hx]
    rcases hk with q|q
    ·rw[q];exact .inl rfl
    ·rw[e,←q]
     exact .inr List.mem_cons_self
   ·have hx':(x==n)=false:=by simpa using hx
    simp[hx']at h
    rw[hx']
    exact(o7 (by simpa using h) hk).imp id (List.mem_cons_of_mem _)
def VQ(nt:Nat)(ix:List Nat)(σ:St):St:=List.replicate nt none++ix.map λj=>(σ[j]?).join
theorem dm.free{X:Cx}{scope:Scope}{N:List Str}{nt:Nat}{ix:List Nat}(kind:scope.kind= .function)(cell:∀y∈scope.names,y.2= .cell->(y.1,NameKind.free)∉scope.names)
  (names:∀y∈scope.names,y.2= .local->scope.names.lookup y.1=some .local) (hf:∀y∈scope.names,y.2= .free->X.env.kindOf y.1=some .cell)
  (hl:N.length=nt+ix.length) (hx:∀(k j:Nat),ix[k]? =some j->∃x,N[nt+k]? =some x/\X.N[j]? =some x/\(x,NameKind.free)∈scope.names/\(relabel scope X.env).names.lookup x=some .cell) (ok:X.Ok) :
  ∃cl,dm X scope cl N (VQ nt ix):=by
 have hcl:∀y∈scope.names,y.2= .free->∃a,X.env.cells.lookup y.1=some a:=λy hy hk=>ok.has y.1 (.inl (hf y hy hk))
 refine⟨oR (X.env.cells.lookup ·) scope.names [],?_,kind,λy hy hk=>?_,names,tX scope.names [] (λx c e=>by simp at e),λx h=>?_,λσ=>?_,λσ i x v e1 e2 e3=>?_⟩
 ·have z:=pI scope.names [] hcl
  unfold closureFor
  dsimp only
  rw[z]
  rfl
 ·cases q:(oR (X.env.cells.lookup ·) scope.names []).lookup y.1 with
  |none=>rfl
  |some c =>
   rcases tY _ _ _ _ q with z|z
   ·exact absurd z (cell y hy hk)
   ·cases z
 ·have hm:scope.names.lookup x=some .cell\/(x,NameKind.free)∈scope.names:=by
   rcases h with h|h
   ·exact o7 h (.inl rfl)
   ·exact o7 h (.inr rfl)
  exact hm.imp id λhm=>qw scope.names [] x hm (hcl _ hm rfl)
 ·unfold VQ
  rw[List.length_append,List.length_replicate,List.length_map,hl]
 ·unfold VQ at e2
  by_cases hi:i<nt
  ·rw[List.getElem?_append_left (by rw[List.length_replicate];exact hi),List.getElem?_replicate]at e2
   split at e2
   ·cases e2
   ·cases e2
  ·rw[List.getElem?_append_right (by rw[List.length_replicate];omega),List.length_replicate,List.getElem?_map]at e2
   cases ej:ix[i-nt]? with
   |none=>rw[ej]at e2;cases e2
   |some j =>
    rw[ej]at e2
    have Wk:(σ[j]?).join=some v:=Option.some.inj e2
    obtain⟨x',n1,n2,n3,n4⟩:=hx (i-nt) j ej
    rw[show nt+(i-nt)=i by omega,e1]at n1
    cases n1
    obtain⟨c,hc⟩:=qw (look:=(X.env.cells.lookup ·)) scope.names [] x n3 (hcl _ n3 rfl)
    refine⟨j,c,n2,?_,hf _ n3 rfl,.inl n4,hc⟩
    cases es:σ[j]? with
    |none=>rw[es]at Wk;cases Wk
    |some o=>rw[es]at Wk;rw[show o=some v from Wk]
def Kp(a b:St):Prop:=∀(i:Nat) (v:V),a[i]? =some (some v)->b[i]? =some (some v)
theorem Kp.rep(n:Nat)(b:St):Kp (List.replicate n none) b:=λi v e=>by
 rw[List.getElem?_replicate]at e
 split at e
 ·cases e
 ·cases e
def Jv(wi:TI)(g:TG)(te:TE)(oA:St->St):TE:=λσ H Q=>wi σ H λJ H1=>∀l,H1 l=none->∃W:Nat->Nat->List V->Hp->Prop,(∃m,W 0 m [] (upd H1 l (.lst []))) ∧
 ∀i m ys H2,W i m ys H2->(J.stop i H2/\Q (.ref l) H2) ∨
  (J.go i H2/\∀x H3,J.zq i H2 x H3->g x (oA σ) H3 λzp H4=>Kp (oA σ) zp/\te zp H4 λy H5=>H5 l=some (.lst ys)/\ys.length<sizeLine/\∃m',m'<m/\W (i+1) m' (ys++[y]) (upd H5 l (.lst (ys++[y]))))
theorem Inv.Jk{X:Cx}{pins:List (Addr×Obj)}{σ:St}{H:Hp}{s:Shared}(I:Inv X pins σ H s):Inv X [] σ H s:=I.AF λ_ hp=>nomatch hp
theorem mQ.but{P:Program}{w:World}{H:Hp}{h h':Heap}{C:Addr}(x:mQ P w H h)(hC:H C=none)(sb:Heap.SameBut C h h'):mQ P w H h':=λb u e =>
 (x b u e).stay (λc v hc q=>(sb.2 c (by
  rintro rfl
  rcases hc with z|z
  ·rw[z,e]at hC;cases hC
  ·rw[hC]at z;cases z)).trans q) (λ_ q=>q) λ_ _ q=>q
section
variable{X:Cx}{pins:List (Addr×Obj)}{σ:St}{H:Hp}{s:Shared}{scope:Scope}{cl:List (Str×Addr)}{N:List Str}{oA:St->St}{fp:List Addr}{h₁:Heap}{m:Str->Option Value}{E:Value->Shared->Prop}
theorem Dj{Ba:List (Str×Addr)}(S:dm X scope cl N oA)(G:L6 cl Ba scope s.heap.objs.size h₁)(I:Inv X pins σ H s)(hf:∀b∈fp,pL X pins H b/\b<s.heap.objs.size)(kp:∀b o,s.heap.get? b=some o->h₁.get? b=some o)(hns:h₁.Ns s.heap.objs.size m)(t':Nat)(ht:s.toks<=t':=by first|exact Nat.le_refl _|exact Nat.le_succ _|assumption|omega):
  Inv (jt X scope Ba s.heap.objs.size N s H fp (X.pn++pins) E) [] (oA σ) H { s with heap:=h₁,toks:=t' }:=by
 have Tw:∀b,b≠X.env.locals->b∉X.fs->b∉frs X.stack:=λb h1 h2 z=>by
  rcases List.mem_cons.mp (I.rO b z)with q|q
  ·exact h1 q
  ·exact h2 q
 have Ny:∀x c,cl.lookup x=some c->c<s.heap.objs.size:=λx c e=>by
  obtain⟨v,o,ho,_⟩:=I.cell x c (S.sub x c e)
  exact Heap.lt_size ho
 refine⟨⟨I.mod,S.kind,I.ok.glob,I.ok.blt,Nat.le_refl _,λx y c a b=>?_,λx h=>(S.has x h).elim (G.own x) λ⟨c,e⟩=>⟨c,G.keep x c e⟩,λx c z e=>?_,I.ok.hd,I.ok.frames,.inl rfl,λb hb=>?_,I.bs,Nat.le_trans I.ok.LG I.sz,λb o e hb=>?_,λb hb=>?_,I.stack,I.Ar,I.tk⟩,
  rfl,I.bare,Un.kept kp,⟨m,hns,λi x v e1 e2 e3=>?_⟩,λx c e=>?_,I.hok.fresh (Nat.le_refl _),λx c e=>(G.look x c e).elim (λz=>I.hok.fresh (Nat.le_of_lt z.1)) λz=>I.jA x c (S.sub x c z),λp hp=>?_,I.hok.kept kp,S.len σ,ht⟩
 ·by_cases hc:s.heap.objs.size<c
  ·exact G.inj x y c hc a b λz e=>Nat.lt_asymm hc (Ny z c e)
  ·exact I.ok.inj x y c (S.sub x c ((G.look x c a).elim (λz=>absurd z.1 hc) id)) (S.sub y c ((G.look y c b).elim (λz=>absurd z.1 hc) id))
 ·rcases G.look x c e with q|q
  ·exact Nat.le_of_lt q.1
  ·have z2:(scope.names.lookup x==some NameKind.cell)=true:=z
   have z':scope.names.lookup x=some .cell:=by simpa using z2
   rw[S.cell _ (mem_of_lookup z') rfl]at q
   cases q
 ·obtain⟨⟨_,_,_,_,f4,_⟩,lt⟩:=hf b hb
  exact⟨Nat.ne_of_lt lt,λx c e=>(G.look x c e).elim (λz=>Nat.ne_of_gt (Nat.lt_trans lt z.1)) λz=>f4 x c (S.sub x c z)⟩
 ·obtain⟨⟨f0,_,_,f3,_⟩,_⟩:=hf b hb
  rcases f3 with z|z
  ·exact I.ok.ER b o e z
  ·exact absurd (Nat.lt_of_lt_of_le (Heap.lt_size e) (Nat.le_trans I.ok.LG z)) (Nat.lt_irrefl _)
 ·obtain⟨⟨_,f1,f2,_⟩,_⟩:=hf b hb
  exact Tw b f1 f2
 ·obtain⟨j,c,n1,n2,n3,n4,n5⟩:=S.fv σ i x v e1 e2 e3
  obtain⟨mX,_,hl⟩:=I.loc
  obtain⟨u,r,l⟩:=hl j x v n1 n2 (.inr (.inl n3))
  refine⟨u,r,.inr ⟨n4,c,G.keep x c n5,?_⟩⟩
  rcases l with⟨k,_⟩|⟨_,c',ec,o,ho,hd⟩
  ·have k':X.env.scope.names.lookup x=some .local:=k
   have n3':X.env.scope.names.lookup x=some .cell:=n3
   rw[k']at n3';cases n3'
  ·have q:=S.sub x c n5
   rw[q]at ec;cases ec
   exact⟨o,kp _ _ ho,hd⟩
 ·rcases G.look x c e with z|z
  ·exact⟨none,z.2⟩
  ·obtain⟨v,o,ho,hd⟩:=I.cell x c (S.sub x c z)
   exact⟨v,o,kp _ _ ho,hd⟩
 ·have V5:p∈X.pn++pins:=by
   rcases List.mem_append.mp hp with z|z
   ·exact z
   ·cases z
  obtain⟨a,b,c,d,e⟩:=I.pin p V5
  exact⟨kp _ _ a,b,Nat.ne_of_lt (Heap.lt_size a),Tw _ c d,e⟩
end
end L2
namespace L2
open PySem PySem.Spec PyProof.Rows
inductive Cp where
 |lst (a:Addr)|tup (a:Addr)|txt (x:Str)
def eK(x:Str):List V:=x.cps.toList.map λc=>V.str ⟨#[c]⟩
def Cp.val:Cp->V
 | .lst a=>.ref a
 | .tup a=>.ref a
 | .txt x=>.str x
def Cp.at(K:PySem.W.Frag)(H:Hp):Cp->List V->Prop
 | .lst a=>bZ K H a
 | .tup a=>cP K H a
 | .txt x=>λxs=>xs=eK x
def Cp.D6(h:Heap)(it:Addr)(i:Nat):Cp->Prop
 | .lst a=>h.IsListIter it a i
 | .tup a=>h.IsTupleIter it a i
 | .txt x=>∃t,h.IsStrIter it (strIterType x) x t i
def Cp.src(h:Heap):Cp->List V->Prop
 | .lst a=>λxs=>∃its,Vals xs its/\h.IsList a its.toArray
 | .tup a=>λxs=>∃its,Vals xs its/\h.IsTuple a its.toArray
 | .txt x=>λxs=>xs=eK x
def Cp.off(b:Addr):Cp->Prop
 | .lst a=>a≠b
 | .tup a=>a≠b
 | .txt _=>True
section
variable{X:Cx}{pins:List (Addr×Obj)}{σ:St}{H:Hp}{s:Shared}{c d:Cp}{xs ys:List V}
theorem Cp.oV(I:Inv X pins σ H s)(h:c.at X.K H xs):c.src s.heap xs:=by
 cases c with
 |lst a=>obtain⟨its,r,p,_⟩:=I.list h;exact⟨its,r,p.isList⟩
 |tup a=>obtain⟨its,r,p,_⟩:=I.tuple h;exact⟨its,r,p⟩
 |txt x=>exact h
theorem Cp.Fz(I:Inv X pins σ H s)(h:c.at X.K H xs)(h':c.at X.K H ys):xs=ys:=by
 cases c with
 |lst a=>exact I.xK h h'
 |tup a=>exact I.zD h h'
 |txt x=>exact(show xs=eK x from h).trans (show ys=eK x from h').symm
theorem Cp.oh {h:Heap} {b:Addr} {o:Obj} {T:String} (hs:c.src h xs) (hb:h.get? b=some o) (hc:o.cls= .type T) (n1:T≠ "list") (n2:T≠ "tuple"):c.off b:=by
 cases c with
 |lst a =>
  obtain⟨its,_,o',ho,hc',_⟩:=hs
  intro e
  rw[e,hb]at ho
  cases ho
  rw[hc]at hc'
  injection hc' with q
  exact n1 q
 |tup a =>
  obtain⟨its,_,o',ho,hc',_⟩:=hs
  intro e
  rw[e,hb]at ho
  cases ho
  rw[hc]at hc'
  injection hc' with q
  exact n2 q
 |txt x=>trivial
theorem Cp.Gy{h:Heap}{b:Addr}(hs:c.src h xs)(hb:h.objs.size<=b):c.off b:=by
 cases c with
 |lst a =>
  obtain⟨its,_,o',ho,_⟩:=hs
  exact Nat.ne_of_lt (Nat.lt_of_lt_of_le (Heap.lt_size ho) hb)
 |tup a =>
  obtain⟨its,_,o',ho,_⟩:=hs
  exact Nat.ne_of_lt (Nat.lt_of_lt_of_le (Heap.lt_size ho) hb)
 |txt x=>trivial
theorem Cp.lC{h h':Heap}{b:Addr}(hs:c.src h xs)(hx:Heap.ExtBut b h h')(ho:c.off b):c.src h' xs:=by
 cases c with
 |lst a=>obtain⟨its,r,p⟩:=hs;exact⟨its,r,p.extBut hx ho⟩
 |tup a=>obtain⟨its,r,p⟩:=hs;exact⟨its,r,p.extBut hx ho⟩
 |txt x=>exact hs
theorem Cp.JB{h h':Heap}(hs:c.src h xs)(hx:∀b o,h.get? b=some o->h'.get? b=some o):c.src h' xs:=by
 cases c with
 |lst a=>obtain⟨its,r,o,ho,q⟩:=hs;exact⟨its,r,o,hx _ _ ho,q⟩
 |tup a=>obtain⟨its,r,o,ho,q⟩:=hs;exact⟨its,r,o,hx _ _ ho,q⟩
 |txt x=>exact hs
theorem Cp.ki{h:Heap}{it:Addr}{i:Nat}(q:c.D6 h it i):∃o T vs,h.get? it=some o/\o.cls= .type T/\o.data= .fields vs/\T≠ "list" /\T≠ "tuple" :=by
 cases c with
 |lst a=>obtain⟨o,ho,hc,hd⟩:=q;exact⟨o,_,_,ho,hc,hd,by decide,by decide⟩
 |tup a=>obtain⟨o,ho,hc,hd⟩:=q;exact⟨o,_,_,ho,hc,hd,by decide,by decide⟩
 |txt x =>
  obtain⟨t,o,ho,hc,hd⟩:=q
  refine⟨o,_,_,ho,hc,hd,?_,?_⟩
  ·unfold strIterType;split<;>decide
  ·unfold strIterType;split<;>decide
theorem Cp.je{h h':Heap}{it:Addr}{i:Nat}(q:c.D6 h it i)(e:∀o,h.get? it=some o->h'.get? it=some o):c.D6 h' it i:=by
 cases c with
 |lst a=>obtain⟨o,ho,r⟩:=q;exact⟨o,e _ ho,r⟩
 |tup a=>obtain⟨o,ho,r⟩:=q;exact⟨o,e _ ho,r⟩
 |txt x=>obtain⟨t,o,ho,r⟩:=q;exact⟨t,o,e _ ho,r⟩
end
section
variable{prog:Program}{w:World}{A:Around}{E:Value->Shared->Prop}{s:Shared}{c d:Cp}{xs ys:List V}
theorem tE{it t:Addr}{i:Nat}{items}{x:Value}{Q:Value->Shared->Prop}(hit:s.heap.IsTupleIter it t i)
  (ht:s.heap.IsTuple t items) (hx:items[i]? =some x)
  (hQ:∀h',h'.IsTupleIter it t (i+1)->Heap.SameBut it s.heap h'->Q x { s with heap:=h' }) :
  wpAny (model prog w) A (Builtin.SmallTypes.nextOf (.ref it)) Q E s:=by
 obtain⟨o,ho,hc,hd⟩:=id hit
 obtain⟨ol,BU,_,nl,hdl⟩:=ht
 unfold Builtin.SmallTypes.nextOf
 refine wpAny_bind (wpAny_callSpecial?_slot (name:=Str.ofString "__next__") hit.typeIs F.slot_tuple_iterator_next
  (wpAny_call_entry F.slot_tuple_iterator_next hit.typeIs F.entry_tuple_iterator_next ?_ (F.args_tuple_iterator_next_1 _)))
 show wpAny _ _ (field (.ref it) 0 >>= _) _ _ s
 refine wpAny_bind (wpAny_field ho hd (x:=.ref t) rfl ?_)
 show wpAny _ _ (if(Value.ref t==Value.none)=true then _ else _) _ _ s
 rw[if_neg (show ¬((Value.ref t==Value.none)=true) from Bool.false_ne_true)]
 show wpAny _ _ (field (.ref it) 1 >>= _) _ _ s
 refine wpAny_bind (wpAny_field ho hd (x:=.int i 0) rfl ?_)
 show wpAny _ _ (seqItems? (.ref t) >>= _) _ _ s
 refine wpAny_bind (wpAny_seqItems BU hdl ?_)
 simp only[Int.toNat_natCast,hx]
 refine wpAny_bind (wpAny_setField ho hd (by simp) (wpAny_pure ⟨x,rfl,wpAny_pure (hQ _ ?_ (Heap.SameBut.update ..))⟩))
 exact⟨_,Heap.get?_update_self _ ho (Obj.isFreed_of_fields (Obj.data_mapFields hd _)),(Obj.cls_mapFields ..).trans hc,by
  rw[Obj.data_mapFields hd];simp[rawInt]⟩
theorem uE{it t:Addr}{i:Nat}{items}{Q:Value->Shared->Prop}(hh:A.handled=none)
  (hit:s.heap.IsTupleIter it t i) (ht:s.heap.IsTuple t items) (hx:items[i]? =none)
  (hE:∀h' e,Heap.ExtBut it s.heap h'->(∃o,h'.get? e=some o/\o.cls= .type "StopIteration")->E (.ref e) { s with heap:=h' }) :
  wpAny (model prog w) A (Builtin.SmallTypes.nextOf (.ref it)) Q E s:=by
 obtain⟨o,ho,hc,hd⟩:=id hit
 obtain⟨ol,BU,_,nl,hdl⟩:=ht
 unfold Builtin.SmallTypes.nextOf
 refine wpAny_bind (wpAny_callSpecial?_slot (name:=Str.ofString "__next__") hit.typeIs F.slot_tuple_iterator_next
  (wpAny_call_entry F.slot_tuple_iterator_next hit.typeIs F.entry_tuple_iterator_next ?_ (F.args_tuple_iterator_next_1 _)))
 show wpAny _ _ (field (.ref it) 0 >>= _) _ _ s
 refine wpAny_bind (wpAny_field ho hd (x:=.ref t) rfl ?_)
 show wpAny _ _ (if(Value.ref t==Value.none)=true then _ else _) _ _ s
 rw[if_neg (show ¬((Value.ref t==Value.none)=true) from Bool.false_ne_true)]
 show wpAny _ _ (field (.ref it) 1 >>= _) _ _ s
 refine wpAny_bind (wpAny_field ho hd (x:=.int i 0) rfl ?_)
 show wpAny _ _ (seqItems? (.ref t) >>= _) _ _ s
 refine wpAny_bind (wpAny_seqItems BU hdl ?_)
 simp only[Int.toNat_natCast,hx]
 refine wpAny_bind (wpAny_rule (wpAny_bind (wpAny_setField ho hd (by simp) ?_)))
 show wpAny _ _ (newExc (.type "StopIteration") [] >>= _) _ _ _
 refine wpAny_bind ?_
 simp only[newExc,newTuple]
 refine wpAny_bind (wpAny_newObj_type ?_ (by size_fits))
 refine wpAny_bind (m:=firstArgMember _ _) (wpAny_of_eq (a:=Value.none) (by first|rfl|(simp only[firstArgMember];rfl)) ?_)
 refine wpAny_newObj_type ?_ (by size_fits)
 simp only[raiseNew]
 refine wpAny_bind (wpAny_handled ?_)
 first|rw[show A.in1.handled=none from hh]|rw[hh]
 refine wpAny_bind (wpAny_pure (wpAny_throw ?_))
 exact hE _ _ (((Heap.SameBut.update ..).extBut.push _).push _) ⟨_,Heap.get?_push_size _ rfl,rfl⟩
theorem signs_get{x:Str}{i:Nat}{v:V}(h:(eK x)[i]? =some v):∃k,x.cps[i]? =some k/\v= .str ⟨#[k]⟩:=by
 unfold eK at h
 rw[List.getElem?_map]at h
 cases e:x.cps.toList[i]? with
 |none=>rw[e]at h;cases h
 |some k =>
  rw[e]at h
  exact⟨k,by simpa using e,(Option.some.inj h).symm⟩
theorem Hs{x:Str}{i:Nat}(h:(eK x)[i]? =none):x.cps[i]? =none:=by
 unfold eK at h
 rw[List.getElem?_map]at h
 cases e:x.cps.toList[i]? with
 |none=>simpa using e
 |some k=>rw[e]at h;cases h
theorem Cp.item{it:Addr}{i:Nat}{x:V}{Q:Value->Shared->Prop}(hit:c.D6 s.heap it i)(hs:c.src s.heap xs)(hx:xs[i]? =some x)
  (hQ:∀u h' tk,RelV x u->c.D6 h' it (i+1)->Heap.SameBut it s.heap h'->Q u { s with heap:=h',toks:=tk }) :
  wpAny (model prog w) A (Builtin.SmallTypes.nextOf (.ref it)) Q E s:=by
 cases c with
 |lst a =>
  obtain⟨its,r,p⟩:=hs
  obtain⟨u,hu,ru⟩:=r.get hx
  exact wpAny_nextOf_list_item hit p (x:=u) (by simpa using hu) λh' q sb=>hQ u h' s.toks ru q sb
 |tup a =>
  obtain⟨its,r,p⟩:=hs
  obtain⟨u,hu,ru⟩:=r.get hx
  exact tE hit p (x:=u) (by simpa using hu) λh' q sb=>hQ u h' s.toks ru q sb
 |txt x' =>
  obtain⟨t,q⟩:=hit
  rw[show xs=eK x' from hs]at hx
  obtain⟨k,hk,rfl⟩:=signs_get hx
  unfold strIterType at q
  by_cases ha:(x'.cps.all (·<128))=true
  ·rw[if_pos ha]at q
   exact wpAny_nextOf_ascii_item q hk λh' q' sb=>hQ _ h' _ ⟨_,rfl⟩ ⟨t,by unfold strIterType;rw[if_pos ha];exact q'⟩ sb
  ·rw[if_neg ha]at q
   exact wpAny_nextOf_wide_item q hk λh' q' sb=>hQ _ h' _ ⟨_,rfl⟩ ⟨t,by unfold strIterType;rw[if_neg ha];exact q'⟩ sb
theorem Cp.fin{it:Addr}{i:Nat}{Q:Value->Shared->Prop}(hh:A.handled=none)(hit:c.D6 s.heap it i)(hs:c.src s.heap xs)(hx:xs[i]? =none)
  (hE:∀h' e,Heap.ExtBut it s.heap h'->(∃o,h'.get? e=some o/\o.cls= .type "StopIteration")->E (.ref e) { s with heap:=h' }) :
  wpAny (model prog w) A (Builtin.SmallTypes.nextOf (.ref it)) Q E s:=by
 cases c with
 |lst a =>
  obtain⟨its,r,p⟩:=hs
  exact wpAny_nextOf_list_end hh hit p (by simpa using r.none_of hx) hE
 |tup a =>
  obtain⟨its,r,p⟩:=hs
  exact uE hh hit p (by simpa using r.none_of hx) hE
 |txt x' =>
  obtain⟨t,q⟩:=hit
  rw[show xs=eK x' from hs]at hx
  have hk:=Hs hx
  unfold strIterType at q
  by_cases ha:(x'.cps.all (·<128))=true
  ·rw[if_pos ha]at q
   exact wpAny_nextOf_ascii_end hh q hk hE
  ·rw[if_neg ha]at q
   exact wpAny_nextOf_wide_end hh q hk hE
structure xY(z TI TO i1 i2:Addr):Prop where
 TIz:TI≠z
 TOz:TO≠z
 i1z:i1≠z
 i2z:i2≠z
 TITO:TI≠TO
 TIi1:TI≠i1
 TIi2:TI≠i2
 TOi1:TO≠i1
 TOi2:TO≠i2
 i12:i1≠i2
structure G6(h:Heap)(z TI TO i1 i2:Addr)(c d:Cp)(f0:Value)(i:Nat):Prop where
 zz:IsZip h z TI TO f0
 ti:IsPair h TI (.ref i1) (.ref i2)
 to:∃a b,IsPair h TO a b
 h1:c.D6 h i1 i
 h2:d.D6 h i2 i
 c1:c.off TO
 c2:d.off TO
theorem Jb{z TI TO i1 i2:Addr}{i:Nat}{x y:V}{Q:Option Value->Shared->Prop}(D:xY z TI TO i1 i2)(Z:G6 s.heap z TI TO i1 i2 c d .none i)
  (sc:c.src s.heap xs) (sd:d.src s.heap ys) (hx:xs[i]? =some x) (hy:ys[i]? =some y)
  (hQ:∀u v h' tk,RelV x u->RelV y v->G6 h' z TI TO i1 i2 c d (rawInt s.heap.objs.size) (i+1)->IsPair h' s.heap.objs.size u v →
   (∀b o,b≠z->b≠TO->b≠i1->b≠i2->s.heap.get? b=some o->h'.get? b=some o)->Q (some (.ref s.heap.objs.size)) { s with heap:=h',toks:=tk }) :
  wpAny (model prog w) A (pyNext (.ref z)) Q E s:=by
 obtain⟨hz,hTI,⟨a,b,hTO⟩,h1,h2,c1,c2⟩:=id Z
 have hT:s.TypeIs (.ref z) "zip" :=⟨_,hz,rfl⟩
 obtain⟨Yy,T1,_,hi1,Vh,_,TL,N4⟩:=Cp.ki h1
 obtain⟨oi2,T2,_,hi2,ci2,_,n21,n22⟩:=Cp.ki h2
 have cz:c.off z:=Cp.oh sc hz rfl (by decide) (by decide)
 have dz:d.off z:=Cp.oh sd hz rfl (by decide) (by decide)
 have ci:c.off i1:=Cp.oh sc hi1 Vh TL N4
 have di:d.off i1:=Cp.oh sd hi1 Vh TL N4
 unfold pyNext
 refine wpAny_bind (wpAny_attempt (wpAny_callSpecial?_slot (name:=Str.ofString "__next__") hT F.slot_zip_next
  (wpAny_call_entry F.slot_zip_next hT F.entry_zip_next ?_ (F.args_zip_next_1 _))))
 show wpAny _ _ (field (.ref z) 2 >>= _) _ _ _
 refine wpAny_bind (wpAny_field hz rfl (x:=.bool false) rfl ?_)
 show wpAny _ _ (field (.ref z) 3 >>= _) _ _ _
 refine wpAny_bind (wpAny_field hz rfl (x:=.ref TI) rfl ?_)
 refine wpAny_bind (wpAny_seqItems hTI rfl ?_)
 show wpAny _ _ (Builtin.SmallTypes.ownedTupleIsFree (.ref z) >>= _) _ _ _
 refine wpAny_bind ?_
 unfold Builtin.SmallTypes.ownedTupleIsFree
 refine wpAny_bind (wpAny_field hz rfl (x:=.none) rfl (wpAny_pure ?_))
 simp only[if_true]
 refine wpAny_bind (wpAny_rule ?_)
 refine wpAny_bind (wpAny_field hz rfl (x:=.ref TO) rfl ?_)
 refine wpAny_bind (wpAny_setField_rec hz (by simp) λh₁ vg hs₁=>?_)
 replace vg:IsZip h₁ z TI TO .ellipsis:=vg
 refine wpAny_bind ?_
 simp only[List.zipIdx_cons,List.zipIdx_nil,List.forIn_cons,List.forIn_nil]
 refine wpAny_bind (wpAny_bind (wpAny_onRaise ?_))
 show wpAny _ _ (Builtin.SmallTypes.nextOf (.ref i1) >>= _) _ _ _
 refine wpAny_bind (Cp.item (c:=c) (Cp.je h1 λo e=>hs₁.extBut _ _ D.i1z e) (Cp.lC sc hs₁.extBut cz) hx λu h₂ tk₂ ru Ot hs₂=>wpAny_pure ?_)
 have xO:IsPair h₂ TO a b:=hs₂.extBut _ _ D.TOi1 (hs₁.extBut _ _ D.TOz hTO)
 refine wpAny_bind (wpAny_seqItems xO rfl ?_)
 refine wpAny_bind (wpAny_updateSeq_pair xO λh₃ A3 nW=>?_)
 replace A3:IsPair h₃ TO u b:=A3
 refine wpAny_bind (wpAny_letGo (wpAny_pure ?_))
 refine wpAny_bind (wpAny_bind (wpAny_onRaise ?_))
 show wpAny _ _ (Builtin.SmallTypes.nextOf (.ref i2) >>= _) _ _ _
 refine wpAny_bind (Cp.item (c:=d) (Cp.je h2 λo e=>nW.extBut _ _ D.TOi2.symm (hs₂.extBut _ _ D.i12.symm (hs₁.extBut _ _ D.i2z e))) (Cp.lC (Cp.lC (Cp.lC sd hs₁.extBut dz) hs₂.extBut di) nW.extBut c2) hy λv h₄ tk₄ rv U5 vj=>wpAny_pure ?_)
 have Lf:IsPair h₄ TO u b:=vj.extBut _ _ D.TOi2 A3
 refine wpAny_bind (wpAny_seqItems Lf rfl ?_)
 refine wpAny_bind (wpAny_updateSeq_pair Lf λh₅ A2 vh=>?_)
 replace A2:IsPair h₅ TO u v:=A2
 refine wpAny_bind (wpAny_letGo (wpAny_pure (wpAny_pure ?_)))
 refine wpAny_bind (wpAny_seqItems A2 rfl ?_)
 refine wpAny_bind (wpAny_newTuple ?_)
 have hsz:h₅.objs.size=s.heap.objs.size:=by rw[vh.1,vj.1,nW.1,hs₂.1,hs₁.1]
 have Oa:IsZip h₅ z TI TO .ellipsis:=vh.extBut _ _ D.TOz.symm (vj.extBut _ _ D.i2z.symm (nW.extBut _ _ D.TOz.symm (hs₂.extBut _ _ D.i1z.symm vg)))
 have Ol:∀e o,e≠z->e≠TO->e≠i1->e≠i2->s.heap.get? e=some o->h₅.get? e=some o:=λe o e1 e2 e3 e4 q =>
  vh.extBut _ _ e2 (vj.extBut _ _ e4 (nW.extBut _ _ e2 (hs₂.extBut _ _ e3 (hs₁.extBut _ _ e1 q))))
 have U6:c.D6 h₅ i1 (i+1):=Cp.je Ot λo e=>vh.extBut _ _ D.TOi1.symm (vj.extBut _ _ D.i12 (nW.extBut _ _ D.TOi1.symm e))
 have U4:d.D6 h₅ i2 (i+1):=Cp.je U5 λo e=>vh.extBut _ _ D.TOi2.symm e
 have Uz:z<h₅.objs.size:=Heap.lt_size Oa
 show wpAny _ _ (Builtin.SmallTypes.ownedTupleHandOut (.ref z) (.ref h₅.objs.size) >>= _) _ _ _
 refine wpAny_bind ?_
 unfold Builtin.SmallTypes.ownedTupleHandOut
 have Uy:IsZip (h₅.push { cls:=.type "tuple",data:=.seq #[u,v] }) z TI TO .ellipsis:=Heap.get?_push_of_some _ Oa
 refine wpAny_bind (wpAny_setField_rec Uy (by simp) λY5 K4 Og=>?_)
 replace K4:IsZip Y5 z TI TO (rawInt h₅.objs.size):=K4
 refine wpAny_setField_rec K4 (by simp) λNd GI Oe=>?_
 replace GI:IsZip Nd z TI TO (rawInt h₅.objs.size):=GI
 have up:∀e o,e≠z->h₅.get? e=some o->Nd.get? e=some o:=λe o e1 q=>Oe.extBut _ _ e1 (Og.extBut _ _ e1 (Heap.get?_push_of_some _ q))
 have Oq:IsPair Nd h₅.objs.size u v:=Oe.extBut _ _ (Nat.ne_of_gt Uz) (Og.extBut _ _ (Nat.ne_of_gt Uz) (Heap.get?_push_size _ rfl))
 rw[hsz]at GI Oq
 refine wpAny_pure ⟨_,rfl,wpAny_pure ?_⟩
 show Q (some (.ref h₅.objs.size)) _
 rw[hsz]
 exact hQ u v Nd _ ru rv ⟨GI,up _ _ D.TIz (Ol _ _ D.TIz D.TITO D.TIi1 D.TIi2 hTI),⟨_,_,up _ _ D.TOz A2⟩,Cp.je U6 λo e=>up _ o D.i1z e,Cp.je U4 λo e=>up _ o D.i2z e,c1,c2⟩ Oq
  λe o e1 e2 e3 e4 q=>up e o e1 (Ol e o e1 e2 e3 e4 q)
theorem Mh{z TI TO i1 i2:Addr}{i:Nat}{Q:Option Value->Shared->Prop}(hh:A.handled=none)(D:xY z TI TO i1 i2)(Z:G6 s.heap z TI TO i1 i2 c d .none i)
  (sc:c.src s.heap xs) (sd:d.src s.heap ys) (hend:xs[i]? =none\/ys[i]? =none)
  (hQ:∀h' tk,(∀b o,b≠z->b≠TO->b≠i1->b≠i2->s.heap.get? b=some o->h'.get? b=some o)->Q none { s with heap:=h',toks:=tk }) :
  wpAny (model prog w) A (pyNext (.ref z)) Q E s:=by
 obtain⟨hz,hTI,⟨a,b,hTO⟩,h1,h2,c1,c2⟩:=id Z
 have hT:s.TypeIs (.ref z) "zip" :=⟨_,hz,rfl⟩
 obtain⟨Yy,T1,_,hi1,Vh,_,TL,N4⟩:=Cp.ki h1
 have cz:c.off z:=Cp.oh sc hz rfl (by decide) (by decide)
 have dz:d.off z:=Cp.oh sd hz rfl (by decide) (by decide)
 have ci:c.off i1:=Cp.oh sc hi1 Vh TL N4
 have di:d.off i1:=Cp.oh sd hi1 Vh TL N4
 have stop:∀(h':Heap) (e:Addr) (tk:Nat),(∃o,h'.get? e=some o/\o.cls= .type "StopIteration")->(∀b o,b≠z->b≠TO->b≠i1->b≠i2->s.heap.get? b=some o->h'.get? b=some o) →
   wpAny (model prog w) A (isInstance (.ref e) (.type "StopIteration") >>= λb=>if b=true then pure (none:Option Value)else throw (.ref e)) Q E { s with heap:=h',toks:=tk }:=by
  intro h' e tk he hk
  obtain⟨o,ho,hc⟩:=he
  refine wpAny_bind (wpAny_isInstance (T:= "StopIteration") (b:=true) ⟨o,ho,hc⟩ isSubtype_stop ?_)
  exact wpAny_pure (hQ _ _ hk)
 unfold pyNext
 refine wpAny_bind (wpAny_attempt (wpAny_callSpecial?_slot (name:=Str.ofString "__next__") hT F.slot_zip_next
  (wpAny_call_entry F.slot_zip_next hT F.entry_zip_next ?_ (F.args_zip_next_1 _))))
 show wpAny _ _ (field (.ref z) 2 >>= _) _ _ _
 refine wpAny_bind (wpAny_field hz rfl (x:=.bool false) rfl ?_)
 show wpAny _ _ (field (.ref z) 3 >>= _) _ _ _
 refine wpAny_bind (wpAny_field hz rfl (x:=.ref TI) rfl ?_)
 refine wpAny_bind (wpAny_seqItems hTI rfl ?_)
 show wpAny _ _ (Builtin.SmallTypes.ownedTupleIsFree (.ref z) >>= _) _ _ _
 refine wpAny_bind ?_
 unfold Builtin.SmallTypes.ownedTupleIsFree
 refine wpAny_bind (wpAny_field hz rfl (x:=.none) rfl (wpAny_pure ?_))
 simp only[if_true]
 refine wpAny_bind (wpAny_rule ?_)
 refine wpAny_bind (wpAny_field hz rfl (x:=.ref TO) rfl ?_)
 refine wpAny_bind (wpAny_setField_rec hz (by simp) λh₁ vg hs₁=>?_)
 replace vg:IsZip h₁ z TI TO .ellipsis:=vg
 refine wpAny_bind ?_
 simp only[List.zipIdx_cons,List.zipIdx_nil,List.forIn_cons,List.forIn_nil]
 refine wpAny_bind (wpAny_bind (wpAny_onRaise ?_))
 show wpAny _ _ (Builtin.SmallTypes.nextOf (.ref i1) >>= _) _ _ _
 cases hx:xs[i]? with
 |none =>
  refine wpAny_bind (Cp.fin (c:=c) hh (Cp.je h1 λo e=>hs₁.extBut _ _ D.i1z e) (Cp.lC sc hs₁.extBut cz) hx λh₂ e hs₂ he=>?_)
  obtain⟨oe,Ry,hce⟩:=he
  have Oc:IsZip h₂ z TI TO .ellipsis:=hs₂ _ _ D.i1z.symm vg
  have Zz:e≠z:=λx=>by subst x;rw[Oc]at Ry;cases Ry;simp at hce
  refine wpAny_setField_rec Oc (by simp) λh₃ _ nW=>?_
  exact stop h₃ e _ ⟨oe,nW.extBut _ _ Zz Ry,hce⟩ λk o c1 _ c3 _ x=>nW.extBut _ _ c1 (hs₂ _ _ c3 (hs₁.extBut _ _ c1 x))
 |some x =>
  have hy:ys[i]? =none:=by rcases hend with h|h;rw[hx]at h;cases h;exact h
  refine wpAny_bind (Cp.item (c:=c) (Cp.je h1 λo e=>hs₁.extBut _ _ D.i1z e) (Cp.lC sc hs₁.extBut cz) hx λu h₂ tk₂ ru Ot hs₂=>wpAny_pure ?_)
  have xO:IsPair h₂ TO a b:=hs₂.extBut _ _ D.TOi1 (hs₁.extBut _ _ D.TOz hTO)
  refine wpAny_bind (wpAny_seqItems xO rfl ?_)
  refine wpAny_bind (wpAny_updateSeq_pair xO λh₃ A3 nW=>?_)
  refine wpAny_bind (wpAny_letGo (wpAny_pure ?_))
  refine wpAny_bind (wpAny_bind (wpAny_onRaise ?_))
  show wpAny _ _ (Builtin.SmallTypes.nextOf (.ref i2) >>= _) _ _ _
  refine wpAny_bind (Cp.fin (c:=d) hh (Cp.je h2 λo e=>nW.extBut _ _ D.TOi2.symm (hs₂.extBut _ _ D.i12.symm (hs₁.extBut _ _ D.i2z e))) (Cp.lC (Cp.lC (Cp.lC sd hs₁.extBut dz) hs₂.extBut di) nW.extBut c2) hy λh₄ e vj he=>?_)
  obtain⟨oe,Ry,hce⟩:=he
  have Ob:IsZip h₄ z TI TO .ellipsis:=vj _ _ D.i2z.symm (nW.extBut _ _ D.TOz.symm (hs₂.extBut _ _ D.i1z.symm vg))
  have Zz:e≠z:=λx=>by subst x;rw[Ob]at Ry;cases Ry;simp at hce
  refine wpAny_setField_rec Ob (by simp) λh₅ _ vh=>?_
  exact stop h₅ e _ ⟨oe,vh.extBut _ _ Zz Ry,hce⟩ λk o c1 c2 c3 c4 x=>vh.extBut _ _ c1 (vj _ _ c4 (nW.extBut _ _ c2 (hs₂.extBut _ _ c3 (hs₁.extBut _ _ c1 x))))
def Cp.dB(t:Tok):Cp->Obj
 | .lst a=>{ cls:=.type "list_iterator",data:=.fields #[.ref a,.int 0 0] }
 | .tup a=>{ cls:=.type "tuple_iterator",data:=.fields #[.ref a,.int 0 0] }
 | .txt x=>{ cls:=.type (strIterType x),data:=.fields #[.str x t,.int 0 0] }
def Cp.value(t:Tok):Cp->Value
 | .lst a=>.ref a
 | .tup a=>.ref a
 | .txt x=>.str x t
theorem Cp.value_of{u:Value}(r:RelV c.val u):∃t,u=c.value t:=by
 cases c with
 |lst a=>exact⟨0,r⟩
 |tup a=>exact⟨0,r⟩
 |txt x=>exact r
theorem Cp.iter{t:Tok}{Q:Value->Shared->Prop}(hs:c.src s.heap xs)(hQ:Q (.ref s.heap.objs.size) { s with heap:=s.heap.push (c.dB t) }):wpAny (model prog w) A (pyIter (c.value t)) Q E s:=by
 cases c with
 |lst a=>obtain⟨its,_,p⟩:=hs;exact wpAny_pyIter_list p hQ
 |tup a=>obtain⟨its,_,p⟩:=hs;exact wpAny_pyIter_tuple p hQ
 |txt x=>exact wpAny_pyIter_strU hQ
theorem Cp.GF{t:Tok}{h:Heap}{it:Addr}(e:h.get? it=some (c.dB t)):c.D6 h it 0:=by
 cases c with
 |lst a=>exact⟨_,e,rfl,rfl⟩
 |tup a=>exact⟨_,e,rfl,rfl⟩
 |txt x=>exact⟨t,_,e,rfl,rfl⟩
abbrev VL(h:Heap)(o1:Obj):Heap:=h.push o1
abbrev VJ(h:Heap)(o1 o2:Obj):Heap:=(VL h o1).push o2
abbrev VI(h:Heap)(o1 o2:Obj):Heap:=(VJ h o1 o2).push { cls:=.type "tuple",data:=.seq #[.ref h.objs.size,.ref (VL h o1).objs.size] }
abbrev VH(h:Heap)(o1 o2:Obj):Heap:=(VI h o1 o2).push { cls:=.type "tuple",data:=.seq #[.none,.none] }
abbrev Sb(h:Heap)(o1 o2:Obj):Heap:=(VH h o1 o2).push { cls:=.type "zip",data:=.fields #[.none,.bool false,.bool false,.ref (VJ h o1 o2).objs.size,.ref (VI h o1 o2).objs.size] }
theorem HW(c d:Cp)(t1 t2:Tok)(xs ys:List V):
  Meets (Builtin.«zip.__new__» ⟨[.type "zip",c.value t1,d.value t2],[]⟩) (λ_ R s=>c.src s.heap xs/\d.src s.heap ys ∧
   R (.ok (.ret (.ref (VH s.heap (c.dB t1) (d.dB t2)).objs.size))) { s with heap:=Sb s.heap (c.dB t1) (d.dB t2) }) :=
 .of_wp λprog w A R s h=>by
  obtain⟨hp,g,dd,tk,os⟩:=s;obtain⟨hl1,hl2,h⟩:=h
  have hsub:=sub_zip
  have ZM:c.src (Shared.heap ⟨hp,g,dd,tk,os⟩) xs:=hl1
  have ZL:d.src (Shared.heap ⟨hp.push (c.dB t1),g,dd,tk,os⟩) ys:=Cp.JB hl2 λb o e=>Heap.get?_push_of_some _ e
  wp_walk using Cp.iter (t:=t1) ZM,Cp.iter (t:=t2) ZL
  exact⟨_,rfl,h⟩
theorem IA{t1 t2:Tok}{Q:Value->Shared->Prop}(sc:c.src s.heap xs)(sd:d.src s.heap ys)
  (h:∀h',IsZip h' (s.heap.objs.size+4) (s.heap.objs.size+2) (s.heap.objs.size+3) .none->IsPair h' (s.heap.objs.size+2) (.ref s.heap.objs.size) (.ref (s.heap.objs.size+1)) →
   IsPair h' (s.heap.objs.size+3) .none .none->c.D6 h' s.heap.objs.size 0->d.D6 h' (s.heap.objs.size+1) 0->(∀b o,s.heap.get? b=some o->h'.get? b=some o)->Q (.ref (s.heap.objs.size+4)) { s with heap:=h' }) :
  wpAny (model prog w) A (call (.type "zip") [c.value t1,d.value t2]) Q E s:=by
 refine callType_new F.called_zip (by decide) (F.typeCall_zip_2 _ _) (F.newCall_zip_2 _ _) (λobj=>F.args_object_init_3 obj _ _) F.entry_zip_new
  (HW c d t1 t2 xs ys) ⟨sc,sd,?_⟩
 have z1:(VL s.heap (c.dB t1)).objs.size=s.heap.objs.size+1:=Heap.size_push ..
 have z2:(VJ s.heap (c.dB t1) (d.dB t2)).objs.size=s.heap.objs.size+2:=by rw[Heap.size_push,z1]
 have z3:(VI s.heap (c.dB t1) (d.dB t2)).objs.size=s.heap.objs.size+3:=by rw[Heap.size_push,z2]
 have z4:(VH s.heap (c.dB t1) (d.dB t2)).objs.size=s.heap.objs.size+4:=by rw[Heap.size_push,z3]
 have it1:(c.dB t1).isFreed=false:=by cases c<;>rfl
 have it2:(d.dB t2).isFreed=false:=by cases d<;>rfl
 have g5:(Sb s.heap (c.dB t1) (d.dB t2)).get? (VH s.heap (c.dB t1) (d.dB t2)).objs.size=some _:=Heap.get?_push_size _ rfl
 have g4:(Sb s.heap (c.dB t1) (d.dB t2)).get? (VI s.heap (c.dB t1) (d.dB t2)).objs.size=some _:=Heap.get?_push_of_some _ (Heap.get?_push_size _ rfl)
 have g3:(Sb s.heap (c.dB t1) (d.dB t2)).get? (VJ s.heap (c.dB t1) (d.dB t2)).objs.size=some _:=Heap.get?_push_of_some _ (Heap.get?_push_of_some _ (Heap.get?_push_size _ rfl))
 have g2:(Sb s.heap (c.dB t1) (d.dB t2)).get? (VL s.heap (c.dB t1)).objs.size=some _:=Heap.get?_push_of_some _ (Heap.get?_push_of_some _ (Heap.get?_push_of_some _ (Heap.get?_push_size _ it2)))
 have g1:(Sb s.heap (c.dB t1) (d.dB t2)).get? s.heap.objs.size=some _:=Heap.get?_push_of_some _ (Heap.get?_push_of_some _ (Heap.get?_push_of_some _ (Heap.get?_push_of_some _ (Heap.get?_push_size _ it1))))
 show _/\_
 rw[z2,z3,z4]at g5
 rw[z1,z2]at g3
 rw[z3]at g4
 rw[z1]at g2
 rw[z4]
 exact⟨⟨_,g5,rfl⟩,h _ g5 g3 g4 (Cp.GF g1) (Cp.GF g2) λb o x =>
  Heap.get?_push_of_some _ (Heap.get?_push_of_some _ (Heap.get?_push_of_some _ (Heap.get?_push_of_some _ (Heap.get?_push_of_some _ x))))⟩
end
section
variable{X:Cx}{pins:List (Addr×Obj)}{σ:St}{H:Hp}{s:Shared}
theorem Inv.moved{h':Heap}{t':Nat}{ch:List Addr}(I:Inv X pins σ H s)(k:∀b o,b∉ch->s.heap.get? b=some o->h'.get? b=some o)(hf:∀b∈ch,pL X pins H b)(ht:s.toks<=t':=by first|exact Nat.le_refl _|exact Nat.le_succ _|assumption|omega):Inv X pins σ H { s with heap:=h',toks:=t' }:=by
 have N3:∀b u,H b=some u->b∉ch:=λb u e z=>by rw[(hf b z).1]at e;cases e
 refine I.step (g':=s.gens) (d':=s.drawn) (ch:=ch) (λb hb=>?_) (λb o _ _ hc e _=>k b o hc e) (λb o _ _ hc e _=>⟨o.slots,k b o hc e⟩) (λ_ _ _ _ n=>n)
  (λb o hc e=>⟨o,k b o hc e⟩) (λ_ _ e=>e) (λ_ _ _ e=>e) (λb ps e=>⟨#[],by rw[e];simp⟩) (λm hm=>?_) (λb u e=>?_) I.bare (Nat.le_trans I.up ht)
 ·obtain⟨_,h1,_,h3,h4,h5⟩:=hf b hb
  exact⟨h3,h1,h4,h5⟩
 ·obtain⟨o,es,ep,ho,r⟩:=hm
  exact⟨o,es,ep,k _ o (λz=>(hf _ z).2.1 rfl) ho,r⟩
 ·refine(I.hok b u e).stay (λc v hc q=>k c v ?_ q) (λ_ q=>q) λ_ _ q=>q
  rcases hc with z|z
  ·rw[z];exact N3 b u e
  ·exact N3 c _ z
theorem Inv.Js{a:Addr}{o:HO}(I:Inv X pins σ H s)(hf:pL X pins H a)(new:bI X.prog X.w (upd H a o) s.heap a o):Inv X pins σ (upd H a o) s:=by
 have hn:=hf.1
 have e:s={ s with heap:=s.heap,gens:=s.gens,drawn:=s.drawn,toks:=s.toks }:=rfl
 rw[e]
 refine I.step (ch:=[a]) (λb hb=>?_) (λ_ _ _ _ _ e _=>e) (λ_ o _ _ _ e _=>⟨o.slots,e⟩) (λb _ hc _ n=>?_)
  (λ_ o _ e=>⟨o,e⟩) (λb _ e=>?_) (λb _ _ e=>?_) (λb ps e=>⟨#[],?_⟩) (λ_ hm=>hm) (λb u q=>?_) I.bare I.up
 ·have eb:b=a:=by simpa using hb
  subst eb
  obtain⟨_,h1,_,h3,h4,h5⟩:=hf
  exact⟨h3,h1,h4,h5⟩
 ·rw[au (λz=>hc (by simp[z]))];exact n
 ·rw[au (aM e hn)];exact e
 ·rw[au (aM e hn)];exact e
 ·rw[au (aM e hn),e];simp
 ·by_cases hb:b=a
  ·subst hb;rw[af]at q;cases q;exact new
  ·rw[au hb]at q
   exact(I.hok b u q).stay (λc v _ r=>r) (λc r=>by rw[au (aM r hn)];exact r) λc xs r=>by rw[au (aM r hn)];exact r
def Vv(K:PySem.W.Frag)(c d:Cp):It :=
 ⟨λi H=>∃xs ys x y,c.at K H xs/\d.at K H ys/\xs[i]? =some x/\ys[i]? =some y,
  λi H v H'=>∃p x y,v= .ref p/\H p=none/\H'=upd H p (.tup [x,y])/\∀xs ys,c.at K H xs->d.at K H ys->xs[i]? =some x/\ys[i]? =some y,
  λi H=>∃xs ys,c.at K H xs/\d.at K H ys/\(xs.length<=i\/ys.length<=i)⟩
theorem Jp{P:Program}{w:World}{K:PySem.W.Frag}{elts:List Expr}{k:Nat}{pos:Pos}{c d:Cp}{z TI TO i1 i2:Addr}(D:xY z TI TO i1 i2):
  Turn P w K (.Tuple elts k pos) (Vv K c d) [z,TI,TO,i1,i2] z (λi h=>G6 h z TI TO i1 i2 c d .none i) where
 mem:=by simp
 obj:=λi h Z b hb=>by
  obtain⟨hz,hTI,⟨a,b',hTO⟩,h1,h2,_,_⟩:=Z
  obtain⟨Yy,T1,v1,hi1,_,d1,_⟩:=Cp.ki h1
  obtain⟨oi2,T2,v2,hi2,_,d2,_⟩:=Cp.ki h2
  simp only[List.mem_cons,List.not_mem_nil,or_false]at hb
  rcases hb with rfl|rfl|rfl|rfl|rfl
  ·exact⟨_,hz,λv q=>by cases q⟩
  ·exact⟨_,hTI,λv q=>by cases q⟩
  ·exact⟨_,hTO,λv q=>by cases q⟩
  ·exact⟨_,hi1,λv q=>by rw[d1]at q;cases q⟩
  ·exact⟨_,hi2,λv q=>by rw[d2]at q;cases q⟩
 keep:=λi h h' Z kp=>by
  obtain⟨hz,hTI,⟨a,b',hTO⟩,h1,h2,o1,o2⟩:=Z
  exact⟨kp z (by simp) _ hz,kp TI (by simp) _ hTI,⟨a,b',kp TO (by simp) _ hTO⟩,Cp.je h1 λo e=>kp i1 (by simp) o e,Cp.je h2 λo e=>kp i2 (by simp) o e,o1,o2⟩
 item:=by
  intro X hP hw hK hc i pins s σ H E I hf Z hg
  subst hP hw hK
  obtain⟨xs,ys,x,y,hx,hy,ex,ey⟩:=hg
  have sc:=Cp.oV I hx
  have sd:=Cp.oV I hy
  refine TK.bS (Nat.le_refl s.toks) (Jb D Z sc sd ex ey λu v h' tk ru rv Z' hp kk hup=>⟨_,rfl,?_⟩)
  refine wpAny_letOwnedTupleGo_zip Z'.zz λh'' Y7 sb=>?_
  have hnz:s.heap.objs.size≠z:=Nat.ne_of_gt (Heap.lt_size Z.zz)
  have k2:∀b o,b∉[z,TI,TO,i1,i2]->s.heap.get? b=some o->h''.get? b=some o:=λb o hb e=>by
   simp only[List.mem_cons,List.not_mem_nil,or_false,not_or]at hb
   exact sb.extBut _ _ hb.1 (kk b o hb.1 hb.2.2.1 hb.2.2.2.1 hb.2.2.2.2 e)
  have I1:Inv X pins σ H { s with heap:=h'',toks:=tk }:=I.moved k2 hf
  have hn:H s.heap.objs.size=none:=I.fresh
  have U9:pL X pins H s.heap.objs.size:=I.sC (Nat.le_refl _) hn
  have hp2:IsPair h'' s.heap.objs.size u v:=sb.extBut _ _ hnz hp
  have I2:Inv X pins σ (upd H s.heap.objs.size (.tup [x,y])) { s with heap:=h'',toks:=tk } :=
   I1.Js U9 ⟨by show 2<=sizeLine;decide,[u,v],.cons ru (.cons rv .nil),⟨_,hp2,rfl,_,rfl⟩⟩
  refine⟨.ref s.heap.objs.size,_,I2,rfl,⟨_,x,y,rfl,hn,rfl,λxs' ys' hx' hy'=>?_⟩,?_,λb hb=>?_⟩
  ·rw[Cp.Fz I hx' hx,Cp.Fz I hy' hy];exact⟨ex,ey⟩
  ·obtain⟨_,hTI,⟨a,b',hTO⟩,h1,h2,o1,o2⟩:=Z'
   exact⟨Y7,sb.extBut _ _ D.TIz hTI,⟨a,b',sb.extBut _ _ D.TOz hTO⟩,Cp.je h1 λo e=>sb.extBut _ _ D.i1z e,Cp.je h2 λo e=>sb.extBut _ _ D.i2z e,o1,o2⟩
  ·have lt:b<s.heap.objs.size:=by
    obtain⟨hz,hTI,⟨a,b',hTO⟩,h1,h2,_,_⟩:=Z
    obtain⟨Yy,T1,v1,hi1,_,d1,_⟩:=Cp.ki h1
    obtain⟨oi2,T2,v2,hi2,_,d2,_⟩:=Cp.ki h2
    simp only[List.mem_cons,List.not_mem_nil,or_false]at hb
    rcases hb with rfl|rfl|rfl|rfl|rfl
    ·exact Heap.lt_size hz
    ·exact Heap.lt_size hTI
    ·exact Heap.lt_size hTO
    ·exact Heap.lt_size hi1
    ·exact Heap.lt_size hi2
   rw[au (Nat.ne_of_lt lt)]
   exact(hf b hb).1
 done:=by
  intro X hP hw hK hc i pins s σ H E I hf Z hg
  subst hP hw hK
  obtain⟨xs,ys,hx,hy,he⟩:=hg
  refine TK.bS (Nat.le_refl s.toks) (Mh (I.ok.hd hc) D Z (Cp.oV I hx) (Cp.oV I hy) (he.imp (λq=>List.getElem?_eq_none q) λq=>List.getElem?_eq_none q) λh' tk kk hup=>⟨rfl,?_⟩)
  exact I.moved (λb o hb e=>by
   simp only[List.mem_cons,List.not_mem_nil,or_false,not_or]at hb
   exact kk b o hb.1 hb.2.2.1 hb.2.2.2.1 hb.2.2.2.2 e) hf
 self:=λ_ _ _ _ _ Z h=>wpAny_pyIter_zip Z.zz h
theorem D9(n:Nat):xY (n+4) (n+2) (n+3) n (n+1):=by
 have ne:∀{a b:Nat},a<b->a≠b:=λh=>Nat.ne_of_lt h
 exact⟨ne (by omega),ne (by omega),ne (by omega),ne (by omega),ne (by omega),(ne (by omega)).symm,(ne (by omega)).symm,(ne (by omega)).symm,(ne (by omega)).symm,ne (by omega)⟩
def YZ(K:PySem.W.Frag)(ta:TA):TI:=λσ H R=>ta σ H λvs H1=>∃c d xs ys,vs=[c.val,d.val]/\c.at K H1 xs/\d.at K H1 ys/\R (Vv K c d) H1
theorem EC {a b:Expr} {ta:TA} {p pos:Pos} {elts:List Expr} {k:Nat} {tpos:Pos} (hc:X.calm=true) (hg:Gl X "zip") (hm:X.mg "zip" =none) (ha:PA X [a,b] ta)
  (hs:starEach [a,b] X.env=[(false,eval a X.env),(false,eval b X.env)]:=by rfl) (hs2:starEach [b] X.env=[(false,eval b X.env)]:=by rfl) :
  PI X (.Tuple elts k tpos) (.Call (.Name "zip" p) [a,b] [] pos) (YZ X.K ta):=by
 intro pins s σ H R I h
 refine Call_ (om I hg hm boot_zip (PyProof.Rows.callWith_type1 (dw (ha pos pins s σ H _ I h) λus s1 ⟨vs,H1,I1,r1,q1⟩=>?_) (by rw[hs,hs2]) (by rw[hs2];rfl)))
 obtain⟨c,d,xs,ys,e,hx,hy,q⟩:=q1
 subst e
 obtain⟨u,v,rfl,ru,rv⟩:=vals2 r1
 obtain⟨t1,rfl⟩:=Cp.value_of ru
 obtain⟨t2,rfl⟩:=Cp.value_of rv
 have sc:=Cp.oV I1 hx
 have sd:=Cp.oV I1 hy
 refine IA sc sd λh' hz hTI hTO h1 h2 kk=>wpAny_pyIter_zip hz ?_
 have D:xY (s1.heap.objs.size+4) (s1.heap.objs.size+2) (s1.heap.objs.size+3) s1.heap.objs.size (s1.heap.objs.size+1) :=
  D9 _
 refine⟨_,[s1.heap.objs.size+4,s1.heap.objs.size+2,s1.heap.objs.size+3,s1.heap.objs.size,s1.heap.objs.size+1],_,_,H1,rfl,I1.kept (t':=s1.toks) kk,Jp D,
  ⟨hz,hTI,⟨_,_,hTO⟩,h1,h2,Cp.Gy sc (Nat.le_add_right _ 3),Cp.Gy sd (Nat.le_add_right _ 3)⟩,λb hb=>?_,q⟩
 have le:s1.heap.objs.size<=b:=by
  simp only[List.mem_cons,List.not_mem_nil,or_false]at hb
  rcases hb with rfl|rfl|rfl|rfl|rfl
  ·exact Nat.le_add_right _ _
  ·exact Nat.le_add_right _ _
  ·exact Nat.le_add_right _ _
  ·exact Nat.le_refl _
  ·exact Nat.le_add_right _ _
 exact I1.sC le (I1.hok.fresh le)
end
end L2
namespace L2
open PySem PySem.Spec PyProof.Rows
def Vx(x:Str):It:=⟨λi _=>i<x.cps.size,λi H v H'=>H'=H/\∃k,x.cps[i]? =some k/\v= .str ⟨#[k]⟩,λi _=>x.cps.size<=i⟩
section
variable{prog:Program}{w:World}{A:Around}{E:Value->Shared->Prop}{s:Shared}
theorem pM{it:Addr}{x:Str}{t:Tok}{i k:Nat}{Q:Option Value->Shared->Prop}(hit:s.heap.IsStrIter it (strIterType x) x t i)(hx:x.cps[i]? =some k)
  (hQ:∀h',h'.IsStrIter it (strIterType x) x t (i+1)->Heap.SameBut it s.heap h'->Q (some (.str ⟨#[k]⟩ s.toks)) { s with heap:=h',toks:=s.toks+1 }):wpAny (model prog w) A (pyNext (.ref it)) Q E s:=by
 unfold strIterType at hit hQ
 by_cases ha:(x.cps.all (·<128))=true
 ·rw[if_pos ha]at hit hQ
  exact wpAny_pyNext_ascii_item hit hx hQ
 ·rw[if_neg ha]at hit hQ
  exact wpAny_pyNext_wide_item hit hx hQ
theorem qc{it:Addr}{x:Str}{t:Tok}{i:Nat}{Q:Option Value->Shared->Prop}(hh:A.handled=none)(hit:s.heap.IsStrIter it (strIterType x) x t i)(hx:x.cps[i]? =none)
  (hQ:∀h',Heap.ExtBut it s.heap h'->Q none { s with heap:=h' }):wpAny (model prog w) A (pyNext (.ref it)) Q E s:=by
 unfold strIterType at hit
 by_cases ha:(x.cps.all (·<128))=true
 ·rw[if_pos ha]at hit
  exact wpAny_pyNext_ascii_end hh hit hx hQ
 ·rw[if_neg ha]at hit
  exact wpAny_pyNext_wide_end hh hit hx hQ
theorem qe{it:Addr}{x:Str}{t:Tok}{i:Nat}{Q:Value->Shared->Prop}(hit:s.heap.IsStrIter it (strIterType x) x t i)(h:Q (.ref it) s):wpAny (model prog w) A (pyIter (.ref it)) Q E s:=by
 unfold strIterType at hit
 by_cases ha:(x.cps.all (·<128))=true
 ·rw[if_pos ha]at hit
  exact wpAny_pyIter_striter_ascii hit h
 ·rw[if_neg ha]at hit
  exact wpAny_pyIter_striter_wide hit h
end
theorem uv(x:Str):["enumerate","zip","dict_itemiterator","dict_reverseitemiterator","odict_iterator","itertools.zip_longest","itertools.pairwise"].contains (strIterType x)=false:=by
 unfold strIterType
 split<;>decide
theorem B0{P:Program}{w:World}{K:PySem.W.Frag}{tg:Expr}(x:Str)(t:Tok)(it:Addr):Turn P w K tg (Vx x) [it] it (λi h=>h.IsStrIter it (strIterType x) x t i) where
 mem:=by simp
 obj:=λi h st b hb=>by
  have e:b=it:=by simpa using hb
  subst e
  obtain⟨o,e,c,d⟩:=st
  exact⟨o,e,λv z=>by rw[d]at z;cases z⟩
 keep:=λi h h' st k=>by
  obtain⟨o,e,r⟩:=st
  exact⟨o,k it (by simp) o e,r⟩
 item:=by
  intro X hP hw hK hc i pins s σ H E I hf st hg
  subst hP hw hK
  have hi:i<x.cps.size:=hg
  obtain⟨f0,f1,f2,f3,f4,f5⟩:=hf it (by simp)
  refine pM st (k:=x.cps[i]) (by simp[hi]) λh' st' sb=>?_
  have I1:Inv X pins σ H { s with heap:=h',toks:=s.toks+1 }:=I.turned (λb o hb e=>(sb.2 b hb).trans e) f0 f1 f3 f4 f5
  obtain⟨o,e,c,d⟩:=id st'
  exact⟨_,rfl,zW (s:={ s with heap:=h',toks:=s.toks+1 }) e c d (uv x) ⟨.str ⟨#[x.cps[i]]⟩,H,I1,⟨_,rfl⟩,⟨rfl,_,by simp[hi],rfl⟩,st',λb hb=>(hf b hb).1⟩⟩
 done:=by
  intro X hP hw hK hc i pins s σ H E I hf st hg
  subst hP hw hK
  have hi:x.cps.size<=i:=hg
  obtain⟨f0,f1,f2,f3,f4,f5⟩:=hf it (by simp)
  exact qc (I.ok.hd hc) st (by simp[hi]) λh' eb=>⟨rfl,I.turned (t':=s.toks) (λb o hb e=>eb b o hb e) f0 f1 f3 f4 f5⟩
 self:=λ_ _ _ _ _ st h=>qe st h
section
variable{X:Cx}{tg:Expr}
def Y0(tl:TE):TI:=λσ H R=>tl σ H λv H1=>∃x,v= .str x/\R (Vx x) H1
theorem ED{l:Expr}{tl:TE}(hl:PE X l tl):PI X tg l (Y0 tl):=by
 intro pins s σ H R I h
 refine dw (hl pins s σ H _ I h) λv s1 ⟨y,H1,I1,r1,q1⟩=>?_
 obtain⟨x,e,q⟩:=q1
 subst e
 obtain⟨t,rfl⟩:=r1
 refine wpAny_pyIter_strU ?_
 refine⟨s1.heap.objs.size,[s1.heap.objs.size],_,_,H1,rfl,I1.kept (t':=s1.toks) λb o e=>Heap.get?_push_of_some _ e,B0 x t _,⟨_,Heap.get?_push_size _ rfl,rfl,rfl⟩,λb hb=>?_,q⟩
 have e:b=s1.heap.objs.size:=by simpa using hb
 subst e
 exact I1.sC (Nat.le_refl _) (I1.hok.fresh (Nat.le_refl _))
theorem Np{x:Str}{g:TG}{tb:TS}{D:Ends}{σ:St}{H:Hp}(Pv:Nat->St->Hp->Prop)(h0:Pv 0 σ H)
  (hs:∀i k σ H,x.cps[i]? =some k->Pv i σ H->g (.str ⟨#[k]⟩) σ H λσ2 H2=>tb { D with nx:=Pv (i+1),ct:=Pv (i+1),bk:=D.nx } σ2 H2) (hd:∀ σ H,Pv x.cps.size σ H->D.nx σ H) :
  ∃W:Nat->Nat->St->Hp->Prop,(∃m,W 0 m σ H)/\∀i m σ H,W i m σ H →
   ((Vx x).stop i H/\D.nx σ H)\/((Vx x).go i H/\∃N:St->Hp->Prop,(∀ σ' H',N σ' H'->∃m',m'<m/\W (i+1) m' σ' H')/\∀y H',(Vx x).zq i H y H'->g y σ H' λσ2 H2=>tb { D with nx:=N,ct:=N,bk:=D.nx } σ2 H2):=by
 refine⟨λi m σ H=>m=x.cps.size-i/\i<=x.cps.size/\Pv i σ H,⟨x.cps.size,by simp,Nat.zero_le _,h0⟩,?_⟩
 rintro i m σ H ⟨rfl,hi,p⟩
 by_cases hlt:i<x.cps.size
 ·refine .inr ⟨hlt,Pv (i+1),λσ' H' p'=>⟨x.cps.size-(i+1),by omega,rfl,hlt,p'⟩,λy H' q=>?_⟩
  obtain⟨e,k,ek,rfl⟩:=q
  subst e
  exact hs i k σ _ ek p
 ·have e:i=x.cps.size:=by omega
  subst e
  exact .inl ⟨Nat.le_refl _,hd σ H p⟩
theorem GN{K:PySem.W.Frag}{c d:Cp}{xs ys:List V}{g:TG}{tb:TS}{D:Ends}{σ:St}{H:Hp}(Pv:Nat->St->Hp->Prop)(h0:Pv 0 σ H)(hl:∀i σ H,i<=min xs.length ys.length->Pv i σ H->c.at K H xs/\d.at K H ys)
  (hs:∀i x y p σ H,xs[i]? =some x->ys[i]? =some y->H p=none->Pv i σ H->g (.ref p) σ (upd H p (.tup [x,y])) λσ2 H2=>tb { D with nx:=Pv (i+1),ct:=Pv (i+1),bk:=D.nx } σ2 H2)
  (hd:∀ σ H,Pv (min xs.length ys.length) σ H->D.nx σ H) :
  ∃W:Nat->Nat->St->Hp->Prop,(∃m,W 0 m σ H)/\∀i m σ H,W i m σ H →
   ((Vv K c d).stop i H/\D.nx σ H)\/((Vv K c d).go i H/\∃N:St->Hp->Prop,(∀ σ' H',N σ' H'->∃m',m'<m/\W (i+1) m' σ' H')/\∀y H',(Vv K c d).zq i H y H'->g y σ H' λσ2 H2=>tb { D with nx:=N,ct:=N,bk:=D.nx } σ2 H2):=by
 refine⟨λi m σ H=>m=min xs.length ys.length-i/\i<=min xs.length ys.length/\Pv i σ H,⟨min xs.length ys.length,by simp,Nat.zero_le _,h0⟩,?_⟩
 rintro i m σ H ⟨rfl,hi,p⟩
 obtain⟨zx,zy⟩:=hl i σ H hi p
 by_cases hlt:i<min xs.length ys.length
 ·have h1:i<xs.length:=by omega
  have h2:i<ys.length:=by omega
  refine .inr ⟨⟨xs,ys,xs[i],ys[i],zx,zy,by simp[h1],by simp[h2]⟩,Pv (i+1),λσ' H' p'=>⟨min xs.length ys.length-(i+1),by omega,rfl,hlt,p'⟩,λv H' q=>?_⟩
  obtain⟨a,x,y,rfl,ha,rfl,e⟩:=q
  obtain⟨e1,e2⟩:=e xs ys zx zy
  exact hs i x y a σ H e1 e2 ha p
 ·have e:i=min xs.length ys.length:=by omega
  subst e
  refine .inl ⟨⟨xs,ys,zx,zy,?_⟩,hd σ H p⟩
  rcases Nat.le_total xs.length ys.length with q|q
  ·exact .inl (by rw[Nat.min_eq_left q];exact Nat.le_refl _)
  ·exact .inr (by rw[Nat.min_eq_right q];exact Nat.le_refl _)
end
end L2
namespace L2
open PySem PySem.Spec PyProof.Rows
def Cp.adr:Cp->List Addr
 | .lst a=>[a]
 | .tup a=>[a]
 | .txt _=>[]
theorem Cp.MO{c:Cp}{b:Addr}(h:c.off b):b∉c.adr:=by
 cases c with
 |lst a =>
  intro z
  have q:b=a:=by simpa[Cp.adr]using z
  exact h q.symm
 |tup a =>
  intro z
  have q:b=a:=by simpa[Cp.adr]using z
  exact h q.symm
 |txt x=>intro z;cases z
theorem Cp.Mw{c:Cp}{xs:List V}{h h':Heap}(hs:c.src h xs)(k:∀b∈c.adr,∀o,h.get? b=some o->h'.get? b=some o):c.src h' xs:=by
 cases c with
 |lst a=>obtain⟨its,r,o,ho,q⟩:=hs;exact⟨its,r,o,k a (by simp[Cp.adr]) _ ho,q⟩
 |tup a=>obtain⟨its,r,o,ho,q⟩:=hs;exact⟨its,r,o,k a (by simp[Cp.adr]) _ ho,q⟩
 |txt x=>exact hs
theorem Cp.draws{prog:Program}{w:World}{A:Around}{c:Cp}{xs:List V}(hh:A.handled=none)(it:Addr):
  Draws prog w A it (it::c.adr) xs.length (λi v=>∃x,xs[i]? =some x/\RelV x v) (λi h=>c.D6 h it i/\c.src h xs) where
 live:=λi h st=>by
  obtain⟨o,_,_,ho,_⟩:=Cp.ki st.1
  exact⟨o,ho⟩
 frame:=λi h h' st k=>⟨Cp.je st.1 λo e=>k it (by simp) o e,Cp.Mw st.2 λb hb o e=>k b (List.mem_cons_of_mem _ hb) o e⟩
 item:=λi s Q E hi st hQ=>by
  obtain⟨o,T,_,ho,hc,_,n1,n2⟩:=Cp.ki st.1
  have off:c.off it:=Cp.oh st.2 ho hc n1 n2
  refine Cp.item st.1 st.2 (x:=xs[i]) (by simp[hi]) λu h' tk ru q sb=>?_
  exact hQ u h' tk ⟨_,by simp[hi],ru⟩ ⟨q,Cp.lC st.2 sb.extBut off⟩ sb
 done:=λs Q E st hE=>Cp.fin hh st.1 st.2 (by simp) hE
def Vz(K:PySem.W.Frag)(c:Cp):It :=
 ⟨λi H=>∃xs x,c.at K H xs/\xs[i]? =some x,
  λi H v H'=>∃p x,v= .ref p/\H p=none/\H'=upd H p (.tup [.int (i:Int),x])/\∀xs,c.at K H xs->xs[i]? =some x,
  λi H=>∃xs,c.at K H xs/\xs.length<=i⟩
theorem Ho{P:Program}{w:World}{K:PySem.W.Frag}{elts:List Expr}{k:Nat}{pos:Pos}{c:Cp}{e it:Addr}(hei:e≠it):
  Turn P w K (.Tuple elts k pos) (Vz K c) [e,it] e (λi h=>(∃old,IsEnum h e it i old)/\c.D6 h it i) where
 mem:=by simp
 obj:=λi h Z b hb=>by
  obtain⟨⟨old,he⟩,hi⟩:=Z
  obtain⟨o,_,vs,ho,_,d,_⟩:=Cp.ki hi
  simp only[List.mem_cons,List.not_mem_nil,or_false]at hb
  rcases hb with rfl|rfl
  ·exact⟨_,he,λv q=>by cases q⟩
  ·exact⟨_,ho,λv q=>by rw[d]at q;cases q⟩
 keep:=λi h h' Z kp=>by
  obtain⟨⟨old,he⟩,hi⟩:=Z
  exact⟨⟨old,kp e (by simp) _ he⟩,Cp.je hi λo q=>kp it (by simp) o q⟩
 item:=by
  intro X hP hw hK hc i pins s σ H E I hf Z hg
  subst hP hw hK
  obtain⟨xs,x,hx,ex⟩:=hg
  obtain⟨⟨old,he⟩,hi⟩:=id Z
  have sc:=Cp.oV I hx
  have Yz:c.off e:=Cp.oh sc he rfl (by decide) (by decide)
  have hlt:i<xs.length:=(List.getElem?_eq_some_iff.mp ex).1
  have hh:X.A.in1.handled=none:=I.ok.hd hc
  refine TK.bS (Nat.le_refl s.toks) (wpAny_pyNext_enum_itemD (Cp.draws (c:=c) (xs:=xs) hh it) he ⟨hi,sc⟩ hlt hei (λz=>?_) λu h' tk hP ho st' hT hsz kk hup=>⟨_,rfl,?_⟩)
  ·rcases List.mem_cons.mp z with q|q
   ·exact hei q
   ·exact Cp.MO Yz q
  ·obtain⟨x',ex',ru⟩:=hP
   rw[ex]at ex'
   cases ex'
   refine wpAny_letOwnedTupleGo_enum ho λh'' RH sb=>?_
   have hne:s.heap.objs.size≠e:=Nat.ne_of_gt (Heap.lt_size he)
   have k2:∀b o,b∉[e,it]->s.heap.get? b=some o->h''.get? b=some o:=λb o hb q=>by
    simp only[List.mem_cons,List.not_mem_nil,or_false,not_or]at hb
    exact sb.extBut _ _ hb.1 (kk b o hb.1 hb.2 q)
   have I1:Inv X pins σ H { s with heap:=h'',toks:=tk+1 }:=I.moved k2 hf (by have z:s.toks<=tk+1:=hup;exact z)
   have hn:H s.heap.objs.size=none:=I.fresh
   have U9:pL X pins H s.heap.objs.size:=I.sC (Nat.le_refl _) hn
   have hp2:h''.get? s.heap.objs.size=some { cls:=.type "tuple",data:=.seq #[.int i tk,u] }:=sb.extBut _ _ hne hT
   have I2:Inv X pins σ (upd H s.heap.objs.size (.tup [.int (i:Int),x])) { s with heap:=h'',toks:=tk+1 } :=
    I1.Js U9 ⟨by show 2<=sizeLine;decide,[.int i tk,u],.cons ⟨_,rfl⟩ (.cons ru .nil),⟨_,hp2,rfl,_,rfl⟩⟩
   refine⟨.ref s.heap.objs.size,_,I2,rfl,⟨_,x,rfl,hn,rfl,λxs' hx'=>?_⟩,⟨⟨_,RH⟩,Cp.je st'.1 λo q=>sb.extBut _ _ (Ne.symm hei) q⟩,λb hb=>?_⟩
   ·rw[Cp.Fz I hx' hx];exact ex
   ·obtain⟨o,_,vs,hoi,_⟩:=Cp.ki hi
    have lt:b<s.heap.objs.size:=by
     have hb':=hb
     simp only[List.mem_cons,List.not_mem_nil,or_false]at hb'
     rcases hb' with rfl|rfl
     ·exact Heap.lt_size he
     ·exact Heap.lt_size hoi
    rw[au (Nat.ne_of_lt lt)]
    exact(hf b hb).1
 done:=by
  intro X hP hw hK hc i pins s σ H E I hf Z hg
  subst hP hw hK
  obtain⟨xs,hx,hle⟩:=hg
  obtain⟨⟨old,he⟩,hi⟩:=Z
  have hh:X.A.in1.handled=none:=I.ok.hd hc
  have hT:s.TypeIs (.ref e) "enumerate" :=⟨_,he,rfl⟩
  unfold pyNext
  refine wpAny_bind (wpAny_attempt (wpAny_callSpecial?_slot (name:=Str.ofString "__next__") hT F.slot_enumerate_next
   (wpAny_call_entry F.slot_enumerate_next hT F.entry_enumerate_next ?_ (F.args_enumerate_next_1 _))))
  show wpAny _ _ (field (.ref e) 2 >>= _) _ _ _
  refine wpAny_bind (wpAny_field he rfl (x:=.ref it) rfl ?_)
  refine wpAny_bind (Cp.fin hh hi (Cp.oV I hx) (List.getElem?_eq_none hle) λh' y eb hy=>?_)
  obtain⟨o,ho,hcl⟩:=hy
  refine wpAny_bind (wpAny_isInstance (T:= "StopIteration") (b:=true) ⟨o,ho,hcl⟩ isSubtype_stop ?_)
  refine wpAny_pure ⟨rfl,I.moved (t':=s.toks) (ch:=[e,it]) (λb o hb q=>eb b o ?_ q) hf⟩
  simp only[List.mem_cons,List.not_mem_nil,or_false,not_or]at hb
  exact hb.2
 self:=λ_ _ _ _ _ Z h=>by
  obtain⟨⟨old,he⟩,_⟩:=Z
  exact wpAny_pyIter_enum he h
section
variable{prog:Program}{w:World}{A:Around}{E:Value->Shared->Prop}{s:Shared}
set_option maxHeartbeats 1000000 in
theorem xG(l:Addr)(items:Array Value)(n:Nat)(dct:Option Addr)(sl:Array (Option Value)):
  Meets (Builtin.«enumerate.__new__» ⟨[.type "enumerate",.ref l],[]⟩) (λ_ R s=>s.heap.get? l=some { cls:=.type "tuple",dict:=dct,data:=.seq items n,slots:=sl } ∧
   R (.ok (.ret (.ref (s.heap.push { cls:=.type "tuple_iterator",data:=.fields #[.ref l,.int 0 0] }).objs.size)))
    { s with heap:=(s.heap.push { cls:=.type "tuple_iterator",data:=.fields #[.ref l,.int 0 0] }).push { cls:=.type "enumerate",data:=.fields #[.none,.bool false,.ref s.heap.objs.size,rawInt 0,.none,.none] } }) :=
 .of_wp λprog w A R s h=>by
  obtain⟨hp,g,d,tk,os⟩:=s;obtain⟨hl,h⟩:=h
  have hsub:=sub_enumerate
  have hL:Heap.IsTuple (Shared.heap ⟨hp,g,d,tk,os⟩) l items:=⟨_,hl,rfl,n,rfl⟩
  wp_walk using AutoSeq1.wpAny_loadPart' hl
  refine wpAny_stack_any λst=>wpAny_pure ?_
  split
  ·rename_i c _ _ _ _ _
   cases (c==Value.type "enumerate")
   ·wp_walk using AutoSeq1.wpAny_loadPart' hl,wpAny_pyIter_tuple hL
    exact⟨_,rfl,h⟩
   ·wp_walk using AutoSeq1.wpAny_loadPart' hl,wpAny_pyIter_tuple hL
    exact⟨_,rfl,h⟩
  ·wp_walk using AutoSeq1.wpAny_loadPart' hl,wpAny_pyIter_tuple hL
   exact⟨_,rfl,h⟩
theorem yU{l:Addr}{items:Array Value}{Q:Value->Shared->Prop}(hL:s.heap.IsTuple l items)
  (h:∀h',IsEnum h' (s.heap.objs.size+1) s.heap.objs.size 0 .none->h'.IsTupleIter s.heap.objs.size l 0 →
   (∀b o,s.heap.get? b=some o->h'.get? b=some o)->Q (.ref (s.heap.objs.size+1)) { s with heap:=h' }) :
  wpAny (model prog w) A (call (.type "enumerate") [.ref l]) Q E s:=by
 obtain⟨⟨c,dct,dt,sl⟩,hl,hc,n,hd⟩:=hL
 replace hc:c= .type "tuple" :=hc
 replace hd:dt= .seq items n:=hd
 subst hc hd
 refine callType_new F.called_enumerate (by decide) (F.typeCall_enumerate_1 _) (F.newCall_enumerate_1 _) (λobj=>F.args_object_init_2 obj _) F.entry_enumerate_new
  (xG l items n dct sl) ⟨hl,?_⟩
 have hz:(s.heap.push { cls:=.type "tuple_iterator",data:=.fields #[.ref l,.int 0 0] }).objs.size=s.heap.objs.size+1:=Heap.size_push ..
 show _/\_
 rw[hz]
 have he:IsEnum ((s.heap.push { cls:=.type "tuple_iterator",data:=.fields #[.ref l,.int 0 0] }).push
   { cls:=.type "enumerate",data:=.fields #[.none,.bool false,.ref s.heap.objs.size,rawInt 0,.none,.none] }) (s.heap.objs.size+1) s.heap.objs.size 0 .none:=by
  have:=Heap.get?_push_size (s.heap.push { cls:=.type "tuple_iterator",data:=.fields #[.ref l,.int 0 0] })
   (o:={ cls:=.type "enumerate",data:=.fields #[.none,.bool false,.ref s.heap.objs.size,rawInt 0,.none,.none] }) rfl
  rw[hz]at this;exact this
 exact⟨⟨_,he,rfl⟩,h _ he ⟨_,Heap.get?_push_of_some _ (Heap.get?_push_size _ rfl),rfl,rfl⟩ λb o x=>Heap.get?_push_of_some _ (Heap.get?_push_of_some _ x)⟩
theorem Fx{c:Cp}{xs:List V}{t:Tok}{Q:Value->Shared->Prop}(sc:c.src s.heap xs)
  (h:∀h',IsEnum h' (s.heap.objs.size+1) s.heap.objs.size 0 .none->c.D6 h' s.heap.objs.size 0->(∀b o,s.heap.get? b=some o->h'.get? b=some o)->Q (.ref (s.heap.objs.size+1)) { s with heap:=h' }) :
  wpAny (model prog w) A (call (.type "enumerate") [c.value t]) Q E s:=by
 cases c with
 |lst a=>obtain⟨its,_,p⟩:=sc;exact call_enumerate_list p λh' a b _ k=>h h' a b k
 |tup a=>obtain⟨its,_,p⟩:=sc;exact yU p λh' a b k=>h h' a b k
 |txt x=>exact call_enumerate_str λh' a b _ k=>h h' a ⟨t,b⟩ k
end
section
variable{X:Cx}
def Ux(K:PySem.W.Frag)(ta:TA):TI:=λσ H R=>ta σ H λvs H1=>∃c xs,vs=[c.val]/\c.at K H1 xs/\R (Vz K c) H1
theorem wk {a:Expr} {ta:TA} {p pos:Pos} {elts:List Expr} {k:Nat} {tpos:Pos} (hg:Gl X "enumerate") (hm:X.mg "enumerate" =none) (ha:PA X [a] ta)
  (hs:starEach [a] X.env=[(false,eval a X.env)]:=by rfl):PI X (.Tuple elts k tpos) (.Call (.Name "enumerate" p) [a] [] pos) (Ux X.K ta):=by
 intro pins s σ H R I h
 refine Call_ (om I hg hm boot_enumerate (PyProof.Rows.callWith_type1 (dw (ha pos pins s σ H _ I h) λus s1 ⟨vs,H1,I1,r1,q1⟩=>?_) hs rfl))
 obtain⟨c,xs,e,hx,q⟩:=q1
 subst e
 obtain⟨u,rfl,ru⟩:=vals1 r1
 obtain⟨t,rfl⟩:=Cp.value_of ru
 have sc:=Cp.oV I1 hx
 refine Fx sc λh' he hi kk=>wpAny_pyIter_enum he ?_
 have hei:s1.heap.objs.size+1≠s1.heap.objs.size:=Nat.ne_of_gt (Nat.lt_succ_self _)
 refine⟨_,[s1.heap.objs.size+1,s1.heap.objs.size],_,_,H1,rfl,I1.kept (t':=s1.toks) kk,Ho hei,⟨⟨_,he⟩,hi⟩,λb hb=>?_,q⟩
 have le:s1.heap.objs.size<=b:=by
  simp only[List.mem_cons,List.not_mem_nil,or_false]at hb
  rcases hb with rfl|rfl
  ·exact Nat.le_add_right _ _
  ·exact Nat.le_refl _
 exact I1.sC le (I1.hok.fresh le)
theorem tT{K:PySem.W.Frag}{c:Cp}{xs:List V}{g:TG}{tb:TS}{D:Ends}{σ:St}{H:Hp}(Pv:Nat->St->Hp->Prop)(h0:Pv 0 σ H)(hl:∀i σ H,i<=xs.length->Pv i σ H->c.at K H xs)
  (hs:∀(i:Nat) x p σ H,xs[i]? =some x->H p=none->Pv i σ H->g (.ref p) σ (upd H p (.tup [.int (i:Int),x])) λσ2 H2=>tb { D with nx:=Pv (i+1),ct:=Pv (i+1),bk:=D.nx } σ2 H2)
  (hd:∀ σ H,Pv xs.length σ H->D.nx σ H) :
  ∃W:Nat->Nat->St->Hp->Prop,(∃m,W 0 m σ H)/\∀i m σ H,W i m σ H →
   ((Vz K c).stop i H/\D.nx σ H)\/((Vz K c).go i H/\∃N:St->Hp->Prop,(∀ σ' H',N σ' H'->∃m',m'<m/\W (i+1) m' σ' H')/\∀y H',(Vz K c).zq i H y H'->g y σ H' λσ2 H2=>tb { D with nx:=N,ct:=N,bk:=D.nx } σ2 H2):=by
 refine⟨λi m σ H=>m=xs.length-i/\i<=xs.length/\Pv i σ H,⟨xs.length,by simp,Nat.zero_le _,h0⟩,?_⟩
 rintro i m σ H ⟨rfl,hi,p⟩
 have zx:=hl i σ H hi p
 by_cases hlt:i<xs.length
 ·refine .inr ⟨⟨xs,xs[i],zx,by simp[hlt]⟩,Pv (i+1),λσ' H' p'=>⟨xs.length-(i+1),by omega,rfl,hlt,p'⟩,λv H' q=>?_⟩
  obtain⟨a,x,rfl,ha,rfl,e⟩:=q
  exact hs i x a σ H (e xs zx) ha p
 ·have e:i=xs.length:=by omega
  subst e
  exact .inl ⟨⟨xs,zx,Nat.le_refl _⟩,hd σ H p⟩
end
end L2
namespace L2
open PySem PySem.Spec PyProof.Rows
set_option maxRecDepth 100000
def met(val:Nat->Str)(i:Nat):List Str:=((List.range i).map val).foldl step_dedup []
theorem xE(val:Nat->Str):met val 0=[]:=rfl
theorem qk(val:Nat->Str)(i:Nat):met val (i+1)=step_dedup (met val i) (val i):=by
 unfold met;rw[List.range_succ,List.map_append,List.foldl_append];rfl
theorem rz(val:Nat->Str):∀i,(met val i).length<=i
 | 0=>by rw[xE];exact Nat.le_refl _
 |i+1=>by
  rw[qk]
  have ih:=rz val i
  unfold step_dedup
  split
  ·omega
  ·rw[List.length_append,List.length_singleton];omega
theorem tG(σ:List Str)(v k:Str):(step_dedup σ v).any (·==k)=(σ.any (·==k)||decide (k=v)):=by
 unfold step_dedup
 by_cases h:σ.any (·==v)=true
 ·rw[if_pos h]
  by_cases e:k=v
  ·subst e;rw[h];simp
  ·simp[e]
 ·rw[if_neg h,List.any_append]
  by_cases e:k=v
  ·subst e;simp
  ·have hb:(v==k)=false:=by simpa[beq_iff_eq]using(λh':v=k=>e h'.symm)
   simp[hb,e]
theorem pO(σ:List Str)(v:Str):(step_dedup σ v).length=if σ.any (·==v)then σ.length else σ.length+1:=by
 unfold step_dedup;split<;>simp
section
variable{prog:Program}{w:World}{A:Around}{R:Result->Shared->Prop}{I:Addr}{fp wr:List Addr}{G:Array GenState->Array GenState->Prop}{n:Nat}{P:Nat->Value->Prop}{St:Nat->Shared->Prop}
theorem Ay(W:WalksS prog w A.in1 I fp wr G n P St)(S:Addr)(hSf:S∉fp)(val:Nat->Str)(hval:∀i v,P i v->∃t,v= .str (val i) t)(hb:n+1<scanBound):
  ∀(k i:Nat) (s:Shared),n-i=k->i<=n->St i s->s.heap.SetOf (strKind prog w) S (λk'=>(met val i).any (·==k')) (met val i).length →
   (∀s',Moved (S::wr) G s s'->s'.heap.SetOf (strKind prog w) S (λk'=>(met val n).any (·==k')) (met val n).length->R (.ok (.ret .none)) s') →
   codeAny (model prog w) A (.builtin "set.update.loop" ⟨[.ref S,.ref I],[]⟩) R s:=by
 have hSw:S∉wr:=λh=>hSf (W.sub _ h)
 have hsub:∀b∈wr,b∈S::wr:=λb hb=>List.mem_cons_of_mem _ hb
 intro k
 induction k with
 |zero =>
  intro i s hk hi hst hS hR
  have hin:i=n:=by omega
  subst hin
  refine codeAny_builtin PyProof.Rows.F.entry_set_update_loop ?_
  rw[Around.under_plainId PyProof.Rows.F.plain_set_update_loop _]
  show wpAny _ A.in1 (pyNext (.ref I) >>= _) _ _ s
  refine wpAny_bind (W.done s _ _ hst λs' hm=>?_)
  show wpAny _ A.in1 (ret Value.none) _ _ s'
  exact wpAny_pure (hR s' (hm.mono hsub) (by
   obtain⟨o,es,ep,t,ho,rest⟩:=hS
   exact⟨o,es,ep,t,hm.heap S _ hSw ho,rest⟩))
 |succ k ih =>
  intro i s hk hi hst hS hR
  have hlt:i<n:=by omega
  refine codeAny_builtin PyProof.Rows.F.entry_set_update_loop ?_
  rw[Around.under_plainId PyProof.Rows.F.plain_set_update_loop _]
  show wpAny _ A.in1 (pyNext (.ref I) >>= _) _ _ s
  refine wpAny_bind (W.item i s _ _ hlt hst λv s' hP Zd hm=>?_)
  obtain⟨t,rfl⟩:=hval i v hP
  have hS':s'.heap.SetOf (strKind prog w) S (λk'=>(met val i).any (·==k')) (met val i).length:=by
   obtain⟨o,es,ep,tb,ho,rest⟩:=hS
   exact⟨o,es,ep,tb,hm.heap S _ hSw ho,rest⟩
  show wpAny _ A.in1 (holding [Value.str (val i) t] (setAdd S (.str (val i) t)) >>= _) _ _ s'
  refine wpAny_bind (wpAny_holding ?_)
  unfold setAdd
  refine wpAny_holding ?_
  refine wpAny_bind ((strKind prog w).pyHash (k:=val i) (strKind_is _ _ _ _) ?_)
  have hroom:(met val i).length+1<scanBound:=by have:=rz val i;omega
  refine wpAny_setAddHashed_of (knd:=strKind prog w) (s:={ s' with toks:=s'.toks+1 }) (strKind_is _ _ _ _) rfl hS' hroom λh' Oh ZG=>?_
  have hSi:h'.SetOf (strKind prog w) S (λk'=>(met val (i+1)).any (·==k')) (met val (i+1)).length :=
   SetOf_congr ZG (λk'=>by rw[qk,tG]) (by rw[qk,pO])
  refine wpAny_pure ⟨plainId_quiet PyProof.Rows.F.plain_set_update_loop _,ih (i+1) _ (by omega) hlt (W.frame _ s' _ _ Zd (Nat.le_succ _) λb hb o e=>?_) hSi λs'' Zp ZH=>?_⟩
  ·rw[Oh.2 b (λh:b=S=>hSf (by rw[←h];exact hb))];exact e
  ·refine hR s'' (Moved.trans W.gtrans ((hm.mono hsub).then_heap (Nat.le_succ _) λb o hb e=>?_) Zp) ZH
   rw[Oh.2 b (λh:b=S=>hb (by rw[h];exact List.mem_cons_self))];exact e
end
def mj(x:Str)(i:Nat):Str:=⟨#[x.cps.getD i 0]⟩
theorem Hj{prog:Program}{w:World}{A:Around}(hh:A.handled=none)(I:Addr)(x:Str)(t:Tok):
  Walks prog w A I [I] [I] x.cps.size (λi v=>∃u,v= .str (mj x i) u) (λi h=>h.IsStrIter I (strIterType x) x t i) where
 sub:=λ_ hb=>hb
 frame:=λ_ _ _ st hk=>let ⟨o,ho,r⟩:=st;⟨o,hk I (by simp) o ho,r⟩
 item:=λi s Q E hi st hQ=>by
  refine pM st (k:=x.cps.getD i 0) (by simp[hi]) λh' Ih hs'=>?_
  exact hQ _ h' (s.toks+1) ⟨_,rfl⟩ Ih λb o hb e=>hs'.extBut b o (λh=>hb (by simp[h])) e
 done:=λs Q E st hQ=>qc hh st (by simp) λh' he'=>hQ h' s.toks λb o hb e=>he' b o (λh=>hb (by simp[h])) e
 self:=λ_ _ _ _ st hQ=>qe st hQ
theorem Aq:isSubtype (.type "str") (.type "set")=pure false:=by rw[isSubtype_type];kernel_rfl
theorem rN:isSubtype (.type "str") (.type "frozenset")=pure false:=by rw[isSubtype_type];kernel_rfl
section
variable{prog:Program}{w:World}{A:Around}{E:Value->Shared->Prop}{s:Shared}
set_option maxHeartbeats 3200000 in
theorem Bc{x:Str}{t:Tok}{Q:Value->Shared->Prop}(hh:A.handled=none)(hb:x.cps.size+1<scanBound)
  (h:∀(h':Heap) (tk:Nat),h'.SetOf (strKind prog w) s.heap.objs.size (λk'=>(met (mj x) x.cps.size).any (·==k')) (met (mj x) x.cps.size).length →
   (∀b o,b<s.heap.objs.size->s.heap.get? b=some o->h'.get? b=some o)->Q (.ref s.heap.objs.size) { s with heap:=h',toks:=tk }) :
  wpAny (model prog w) A (call (.type "set") [.str x t]) Q E s:=by
 obtain⟨c,tl,acM⟩:=F.called_set.mro
 have hmade:=F.called_set.made
 have hsub:=F.called_set.sub
 refine wpAny_call (codeAny_of_tree ?_)
 show wpAny _ _ (callAny (.type "set") _) _ _ _
 refine wpAny_pure ⟨Code.quiet_builtin _ (by decide +kernel),codeAny_builtin F.entry_type_call ?_⟩
 rw[Around.under_plain (weight_type_call_type "set" [.str x t] []) rfl]
 have h1:=F.called_set.notType
 have h2:=F.called_set.canCreate
 have hct:=F.typeCall_set_1 (.str x t)
 repeat (any_goals (first|assumption|wp_step))
 refine codeAny_mono (code_set_new_1 (.str x t) (E:=E) (Q₁:=λobj s₁=>∃led:Bool,obj= .ref s.heap.objs.size/\s₁={ s with heap:=s.heap.push { cls:=.type "set",dict:=none,data:=.set #[] 0 (.fresh 0 0 led) } }) λled=>⟨led,rfl,rfl⟩) λr s₁ hr=>?_
 cases r with
 |error e=>exact hr
 |ok fl =>
  cases fl with
  |ret obj =>
   obtain⟨led,rfl,rfl⟩:=hr
   have hS:(s.heap.push { cls:=.type "set",dict:=none,data:=.set #[] 0 (.fresh 0 0 led) }).get? s.heap.objs.size=some { cls:=.type "set",dict:=none,data:=.set #[] 0 (.fresh 0 0 led) }:=Heap.get?_push_size _ rfl
   have hT:Shared.TypeIs { s with heap:=s.heap.push { cls:=.type "set",dict:=none,data:=.set #[] 0 (.fresh 0 0 led) } } (.ref s.heap.objs.size) "set" :=⟨_,hS,rfl⟩
   have hli:=F.called_set.init.lookup
   have hbi:=F.called_set.init.bind (.ref s.heap.objs.size)
   repeat (any_goals (first|assumption|wp_step))
   refine codeAny_mono (codeAny_call_builtin (R:=wants (λr s₂=>r= .none/\∃h' tk,s₂={ s with heap:=h',toks:=tk } ∧
     h'.SetOf (strKind prog w) s.heap.objs.size (λk'=>(met (mj x) x.cps.size).any (·==k')) (met (mj x) x.cps.size).length ∧
     (∀b o,b<s.heap.objs.size->s.heap.get? b=some o->h'.get? b=some o)) E) F.called_set.init.plain F.entry_set_init (check_set_init_1 hT ?_)) λr₂ s₂ K7=>?_
   ·have acD:=Aq
    have acE:=rN
    have hne:(Value.type "str" ==Value.type "dict")=false:=by decide
    unfold Builtin.«set.__init__» noKeywords Builtin.Frozenset.updateFrom
    generalize hPI:pyIter=PI
    wp_walk
    subst hPI
    refine wpAny_pyIter_strU ?_
    refine wpAny_bind (wpAny_runValue ?_)
    have hh3:A.in1.in1.in1.handled=none:=by simp[hh]
    have hSf:s.heap.objs.size∉[(s.heap.push { cls:=.type "set",dict:=none,data:=.set #[] 0 (.fresh 0 0 led) }).objs.size]:=by
     rw[Heap.size_push];simp only[List.mem_singleton]
     exact Nat.ne_of_lt (Nat.lt_succ_self _)
    refine Ay ((Hj hh3 _ x t).toS) s.heap.objs.size hSf (mj x) (λi v hv=>hv) hb (x.cps.size-0) 0 _ (by omega) (Nat.zero_le _)
     ⟨_,Heap.get?_push_size _ rfl,rfl,rfl⟩ ?hS0 ?hR
    case hS0 =>
     have hget:((s.heap.push { cls:=.type "set",dict:=none,data:=.set #[] 0 (.fresh 0 0 led) }).push { cls:=.type (strIterType x),data:=.fields #[.str x t,.int 0 0] }).get? s.heap.objs.size
       = some { cls:=.type "set",dict:=none,data:=.set #[] 0 (.fresh 0 0 led) }:=Heap.get?_push_of_some _ hS
     exact SetOf_congr ((setObjOf_fresh (knd:=strKind prog w) led).setOf hget (by unfold scanBound;omega)) (λ_=>rfl) rfl
    case hR =>
     intro s' hm hS'
     obtain⟨h',g',d',tk',os'⟩:=s'
     have eg:g'=s.gens:=hm.gens
     have ed:d'=s.drawn:=hm.drawn
     have eo:os'=s.os:=hm.os
     subst eg;subst ed;subst eo
     show wpAny _ _ _ _ _ _
     refine wpAny_pure ?_
     show wpAny _ _ (ret Value.none) _ _ _
     refine wpAny_pure ⟨rfl,h',tk',rfl,hS',λb o hb e=>?_⟩
     have hb1:b≠s.heap.objs.size:=Nat.ne_of_lt hb
     have hb2:b≠(s.heap.push { cls:=.type "set",dict:=none,data:=.set #[] 0 (.fresh 0 0 led) }).objs.size:=by
      rw[Heap.size_push];exact Nat.ne_of_lt (Nat.lt_succ_of_lt hb)
     exact hm.heap b o (by simp only[List.mem_cons,List.mem_singleton,List.not_mem_nil,or_false,not_or];exact⟨hb1,hb2⟩) (Heap.get?_push_of_some _ (Heap.get?_push_of_some _ e))
   ·cases r₂ with
    |error e=>exact K7
    |ok Va =>
     cases Va with
     |ret r =>
      obtain⟨rfl,h',tk,rfl,hS',hk'⟩:=K7
      repeat (any_goals (first|assumption|wp_step))
      exact h _ _ hS' hk'
     |_=>exact K7.elim
  |_=>exact hr.elim
end
end L2
namespace L2
open PySem PySem.Spec PyProof.Rows
def S8(P:Program)(w:World)(a:Addr)(n:Nat):HO:=.ext λh=>∃S,h.SetOf (strKind P w) a S n
section
variable{X:Cx}
theorem IB(hc:X.calm=true):nE X (.type "set") (λxs H Q=>∃x,xs=[.str x]/\x.cps.size+1<scanBound/\∀p,H p=none->Q (.ref p) (upd H p (S8 X.prog X.w p (met (mj x) x.cps.size).length))):=by
 intro pins s σ H xs us Q I r h
 obtain⟨x,rfl,hb,q⟩:=h
 obtain⟨u,rfl,t,rfl⟩:=vals1 r
 refine TK.bS (Nat.le_refl s.toks) (Bc (I.ok.hd hc) hb λh' tk hS kk hup=>?_)
 have hn:H s.heap.objs.size=none:=I.fresh
 have k:∀b o,s.heap.get? b=some o->h'.get? b=some o:=λb o e=>kk b o (Heap.lt_size e) e
 refine⟨.ref s.heap.objs.size,_,I.laid (t':=tk) k (Nat.le_refl _) ?_,rfl,q _ hn⟩
 refine⟨⟨_,hS⟩,?_,λh1 h2 p e=>?_⟩
 ·obtain⟨o,_,_,_,ho,_⟩:=hS
  exact⟨o,ho⟩
 ·obtain⟨S,o,es,ep,t,ho,rest⟩:=p
  exact⟨S,o,es,ep,t,e o ho,rest⟩
theorem yT:nE X (.builtin "len") (λxs H Q=>∃p n,xs=[.ref p]/\H p=some (S8 X.prog X.w p n)/\Q (.int (n:Nat)) H):=by
 intro pins s σ H xs us Q I r h
 obtain⟨p,n,rfl,hp,q⟩:=h
 obtain⟨u,rfl,ru⟩:=vals1 r
 cases ru
 obtain⟨⟨S,o,es,ep,t,ho,hex,hd,_,_,hz,hf,hn⟩,_⟩:=I.hok p _ hp
 subst hn
 have:es.size<4096:=hz
 exact call_len_set ho hex hd hf (by omega) ⟨.int es.size,H,I.tok _,⟨_,rfl⟩,q⟩
def Bg(i:Int):Prop:=i.natAbs<2 ^ 9000
theorem Bg.log{i:Int}(h:Bg i):i.natAbs.log2<9000:=by
 rcases Nat.eq_zero_or_pos i.natAbs with h0|hp
 ·rw[h0];decide
 ·exact(Nat.log2_lt (by omega)).mpr h
theorem Bg.bits{i:Int}(h:Bg i):Builtin.Int.intBits i<=2 ^ 20:=by
 have:=h.log
 unfold Builtin.Int.intBits
 split
 ·exact Nat.zero_le _
 ·exact Nat.le_trans (show i.natAbs.log2+1<=9000 by omega) (by decide)
theorem MM:ud X (binaryOp .Mult) (rI (λi j=>Bg i/\Bg j) λi j=>.int (i*j)):=Tt λ_ _ _ _ _ _ _ hc q=>mul_int q (IntMulOk.of_bits hc.1.bits hc.2.bits)
end
end L2
namespace L2
open PySem PySem.Spec PyProof.Rows
def Wq(K:PySem.W.Frag)(c:Cp):It :=
 ⟨λi H=>∃xs x,c.at K H xs/\xs[i]? =some x,λi H x H'=>H'=H/\∀xs,c.at K H xs->xs[i]? =some x,λi H=>∃xs,c.at K H xs/\xs.length<=i⟩
theorem Turn.conv{P:Program}{w:World}{K:PySem.W.Frag}{tg:Expr}{J J':It}{fp:List Addr}{it:Addr}{tn:Nat->Heap->Prop}(T:Turn P w K tg J fp it tn)
  (hg:∀i H,J'.go i H->J.go i H) (hy:∀i H x H',J.zq i H x H'->J'.zq i H x H') (hs:∀i H,J'.stop i H->J.stop i H):Turn P w K tg J' fp it tn where
 mem:=T.mem
 obj:=T.obj
 keep:=T.keep
 item:=λX hP hw hK hc i pins s σ H E I hf st g=>wpAny_mono (T.item X hP hw hK hc i pins s σ H E I hf st (hg i H g)) (λr s1 ⟨u,hr,h⟩=>⟨u,hr,wpAny_mono h (λ_ s2 ⟨x,H',I',r',y,t',n'⟩=>⟨x,H',I',r',hy i H x H' y,t',n'⟩) λ_ _ z=>z⟩) λ_ _ z=>z
 done:=λX hP hw hK hc i pins s σ H E I hf st g=>T.done X hP hw hK hc i pins s σ H E I hf st (hs i H g)
 self:=T.self
theorem signs_length(x:Str):(eK x).length=x.cps.size:=by simp[eK]
theorem signs_at{x:Str}{i k:Nat}(h:x.cps[i]? =some k):(eK x)[i]? =some (.str ⟨#[k]⟩):=by
 unfold eK
 rw[List.getElem?_map]
 have e:x.cps.toList[i]? =some k:=by simpa using h
 rw[e]
 rfl
section
variable{X:Cx}{tg:Expr}
def iCp(K:PySem.W.Frag)(tl:TE):TI:=λσ H R=>tl σ H λv H1=>∃c xs,v=Cp.val c/\c.at K H1 xs/\R (Wq K c) H1
theorem zP{l:Expr}{tl:TE}(hl:PE X l tl):PI X tg l (iCp X.K tl):=by
 intro pins s σ H R I h
 refine dw (hl pins s σ H _ I h) λv s1 ⟨y,H1,I1,r1,q1⟩=>?_
 obtain⟨c,xs,e,hq,q⟩:=q1
 subst e
 have ZT:∀b∈[s1.heap.objs.size],pL X pins H1 b:=λb hb=>by
  have e:b=s1.heap.objs.size:=by simpa using hb
  subst e
  exact I1.sC (Nat.le_refl _) (I1.hok.fresh (Nat.le_refl _))
 cases c with
 |lst a =>
  cases (show v=Value.ref a from r1)
  obtain⟨its,rv,p,hz⟩:=I1.list hq
  refine wpAny_pyIter_list p.isList ?_
  exact⟨s1.heap.objs.size,[s1.heap.objs.size],_,_,H1,rfl,I1.kept (t':=s1.toks) λb o e=>Heap.get?_push_of_some _ e,zC a _,⟨_,Heap.get?_push_size _ rfl,rfl,rfl⟩,ZT,q⟩
 |tup a =>
  cases (show v=Value.ref a from r1)
  obtain⟨its,rv,p,hz⟩:=I1.tuple hq
  refine wpAny_pyIter_tuple (show s1.heap.IsTuple a its.toArray from p) ?_
  exact⟨s1.heap.objs.size,[s1.heap.objs.size],_,_,H1,rfl,I1.kept (t':=s1.toks) λb o e=>Heap.get?_push_of_some _ e,wN a _,⟨_,Heap.get?_push_size _ rfl,rfl,rfl⟩,ZT,q⟩
 |txt x =>
  obtain⟨t,rfl⟩:=(show ∃t,v=Value.str x t from r1)
  refine wpAny_pyIter_strU ?_
  refine⟨s1.heap.objs.size,[s1.heap.objs.size],_,_,H1,rfl,I1.kept (t':=s1.toks) λb o e=>Heap.get?_push_of_some _ e,(B0 x t _).conv ?_ ?_ ?_,⟨_,Heap.get?_push_size _ rfl,rfl,rfl⟩,ZT,q⟩
  ·rintro i H ⟨xs,y,hx,e⟩
   rw[show xs=eK x from hx]at e
   have:=(List.getElem?_eq_some_iff.mp e).1
   rw[signs_length]at this
   exact this
  ·rintro i H y H' ⟨rfl,k,e,rfl⟩
   refine⟨rfl,λxs hx=>?_⟩
   rw[show xs=eK x from hx]
   exact signs_at e
  ·rintro i H ⟨xs,hx,e⟩
   rw[show xs=eK x from hx,signs_length]at e
   exact e
theorem Ff{K:PySem.W.Frag}{c:Cp}{xs:List V}{g:TG}{tb:TS}{D:Ends}{σ:St}{H:Hp}(Pv:Nat->St->Hp->Prop)(h0:Pv 0 σ H)(hl:∀i σ H,i<=xs.length->Pv i σ H->c.at K H xs)
  (hs:∀i x σ H,xs[i]? =some x->Pv i σ H->g x σ H λσ2 H2=>tb { D with nx:=Pv (i+1),ct:=Pv (i+1),bk:=D.nx } σ2 H2) (hd:∀ σ H,Pv xs.length σ H->D.nx σ H) :
  ∃W:Nat->Nat->St->Hp->Prop,(∃m,W 0 m σ H)/\∀i m σ H,W i m σ H →
   ((Wq K c).stop i H/\D.nx σ H)\/((Wq K c).go i H/\∃N:St->Hp->Prop,(∀ σ' H',N σ' H'->∃m',m'<m/\W (i+1) m' σ' H')/\∀x H',(Wq K c).zq i H x H'->g x σ H' λσ2 H2=>tb { D with nx:=N,ct:=N,bk:=D.nx } σ2 H2):=by
 refine⟨λi m σ H=>m=xs.length-i/\i<=xs.length/\Pv i σ H,⟨xs.length,by simp,Nat.zero_le _,h0⟩,?_⟩
 rintro i m σ H ⟨rfl,hi,p⟩
 have q:=hl i σ H hi p
 by_cases hlt:i<xs.length
 ·refine .inr ⟨⟨xs,xs[i],q,by simp[hlt]⟩,Pv (i+1),λσ' H' p'=>⟨xs.length-(i+1),by omega,rfl,hlt,p'⟩,λx H' y=>?_⟩
  obtain⟨e,y⟩:=y
  subst e
  exact hs i x σ _ (y xs q) p
 ·have e:i=xs.length:=by omega
  subst e
  exact .inl ⟨⟨xs,q,Nat.le_refl _⟩,hd σ H p⟩
end
end L2
namespace sJ
def lo(a b:Int):Int×Int:=(a / (Int.gcd a b:Int),b / (Int.gcd a b:Int))
theorem pF(a:Int){b:Int}(hb:0<b):0<(Int.gcd a b:Int):=by
 have:0<Int.gcd a b:=Int.gcd_pos_of_ne_zero_right a (by omega)
 omega
theorem Fc(a:Int){b:Int}(hb:0<b):(Int.gcd a b:Int)<=b:=Int.le_of_dvd hb (Int.gcd_dvd_right ..)
theorem KP(a:Int){b:Int}(hb:0<b):0<(lo a b).2 :=
 Int.ediv_pos_of_pos_of_dvd hb (Int.le_of_lt (pF a hb)) (Int.gcd_dvd_right ..)
theorem lo_le(a:Int){b:Int}(hb:0<b):(lo a b).2<=b:=by
 have h:=pF a hb
 exact Int.ediv_le_self _ (Int.le_of_lt hb)
theorem KQ(a:Int){b:Int}(hb:0<b):Int.gcd (lo a b).1 (lo a b).2=1 :=
 Int.gcd_ediv_gcd_ediv_gcd (Int.gcd_pos_of_ne_zero_right a (by omega))
theorem E5(a b:Int):(lo a b).1*(Int.gcd a b:Int)=a:=Int.ediv_mul_cancel (Int.gcd_dvd_left ..)
theorem KL(a b:Int):(lo a b).2*(Int.gcd a b:Int)=b:=Int.ediv_mul_cancel (Int.gcd_dvd_right ..)
theorem KR(a b:Int):(lo a b).1*b=a*(lo a b).2:=by
 have h1:=E5 a b
 have h2:=KL a b
 generalize (lo a b).1=x at *
 generalize (lo a b).2=y at *
 generalize (Int.gcd a b:Int)=g at *
 rw[←h1,←h2,Int.mul_assoc,Int.mul_comm y g]
theorem Lg(a b:Int):Int.gcd b (a % b)=Int.gcd a b:=by
 have e:a=a % b+b*(a / b):=(Int.emod_add_mul_ediv a b).symm
 have h:Int.gcd (a % b+b*(a / b)) b=Int.gcd (a % b) b:=Int.gcd_add_mul_left_left ..
 rw[←e]at h
 rw[h,Int.gcd_comm]
theorem Nl(a:Int):(if a<0 then -a else a)=(Int.gcd a 0:Int):=by
 rw[Int.gcd_zero_right]
 split<;>omega
end sJ
namespace GP
open PySem L2 sJ
abbrev cu:=Int×Int
def kD(f:cu):cu:=lo f.1 f.2
theorem ai.upd{H:Hp}{q:Addr}{o:HO}(h:H q=none):ai H (L2.upd H q o):=λb u e=>by rw[au (aM e h)];exact e
theorem ai.at{H H2:Hp}{t:Addr}{o:HO}(e:ai H H2)(h:H t=none):ai H (L2.upd H2 t o):=λb u q=>by rw[au (aM q h)];exact e b u q
theorem ai.tup{K:PySem.W.Frag}{H H':Hp}{a:Addr}{xs:List V}(e:ai H H')(h:cP K H a xs):cP K H' a xs:=by
 rcases h with(h|⟨o,h⟩)|h
 ·exact .inl (.inl (e _ _ h))
 ·exact .inl (.inr ⟨o,e _ _ h⟩)
 ·exact .inr h
theorem ai.cp{K:PySem.W.Frag}{H H':Hp}{c:Cp}{xs:List V}(e:ai H H')(h:c.at K H xs):c.at K H' xs:=by
 cases c with
 |lst a=>exact ai.seq e h
 |tup a=>exact ai.tup e h
 |txt x=>exact h
def ku(K:PySem.W.Frag)(H:Hp)(p:Addr)(f:cu):Prop:=cP K H p [.int f.1,.int f.2]
theorem ku.same{K:PySem.W.Frag}{H H':Hp}{p:Addr}{f:cu}(e:ai H H')(h:ku K H p f):ku K H' p f:=ai.tup e h
def kj(K:PySem.W.Frag)(H:Hp)(c:Cp)(fs:List cu):Prop:=∃ps:List Addr,c.at K H (ps.map V.ref)/\Paired (ku K H) ps fs
theorem kj.same{K:PySem.W.Frag}{H H':Hp}{c:Cp}{fs:List cu}(e:ai H H')(h:kj K H c fs):kj K H' c fs:=by
 obtain⟨ps,a,b⟩:=h
 exact⟨ps,ai.cp e a,Paired.g8 b λ_ _ z=>z.same e⟩
def OC(K:PySem.W.Frag)(H:Hp)(c:Cp)(rows:List (List cu)):Prop:=∃cs:List Cp,c.at K H (cs.map Cp.val)/\Paired (kj K H) cs rows
theorem Paired.at{α β:Type}{F:α->β->Prop}:∀{l₁:List α} {l₂:List β} {i:Nat} {x:α},Paired F l₁ l₂->l₁[i]? =some x->∃y,l₂[i]? =some y/\F x y
 |_,_,i,_,.nil,e=>by simp at e
 |_,_,0,_,.cons r _,e=>by simp at e;subst e;exact⟨_,rfl,r⟩
 |_,_,i+1,x,.cons _ t,e=>by
  obtain⟨y,h1,h2⟩:=Paired.at (i:=i) (x:=x) t (by simpa using e)
  exact⟨y,by simpa using h1,h2⟩
theorem Paired.len{α β:Type}{F:α->β->Prop}{l₁:List α}{l₂:List β}(h:Paired F l₁ l₂):l₁.length=l₂.length:=Paired.length h
theorem Paired.snoc{α β:Type}{F:α->β->Prop}{x:α}{y:β}:∀{l₁:List α} {l₂:List β},Paired F l₁ l₂->F x y->Paired F (l₁++[x]) (l₂++[y])
 |_,_,.nil,h=>.cons h .nil
 |_,_,.cons r t,h=>.cons r (Paired.snoc t h)
theorem take_snoc{α:Type}{l:List α}{i:Nat}{x:α}(h:l[i]? =some x):l.take (i+1)=l.take i++[x]:=by
 rw[List.take_add_one,h];rfl
theorem rB{α β:Type}{l:List α}{f:α->β}{i:Nat}{x:α}(h:l[i]? =some x):(l.map f).take (i+1)=(l.map f).take i++[f x]:=take_snoc (by rw[List.getElem?_map,h];rfl)
theorem uM{i j:Int}{A B:Prop}(h1:i≠j->A)(h2:i=j->B):if(!decide (V.int i=V.int j))=true then A else B:=by
 by_cases h:i=j
 ·rw[mP,if_neg (by simp[h])];exact h2 h
 ·rw[mP,if_pos (by simp[h])];exact h1 h
theorem qo{i j:Int}{A B:Prop}(h1:i=j->A)(h2:i≠j->B):if(decide (V.int i=V.int j))=true then A else B:=by
 by_cases h:i=j
 ·rw[mP,if_pos (by simp[h])];exact h1 h
 ·rw[mP,if_neg (by simp[h])];exact h2 h
theorem dF{p:Prop}[Decidable p]{A B:Prop}(h1:p->A)(h2:¬p->B):if(decide p)=true then A else B:=by
 by_cases h:p
 ·rw[if_pos (decide_eq_true h)];exact h1 h
 ·rw[if_neg (by rw[decide_eq_false h];exact Bool.false_ne_true)];exact h2 h
theorem zV{A B:Prop}(h:A):if(!false)=true then A else B:=by
 rw[if_pos (show(!false)=true from rfl)];exact h
theorem ve{A B:Prop}(h:B):if(!true)=true then A else B:=by
 rw[if_neg (by decide)];exact h
structure Dn(K:PySem.W.Frag)(mg:Str->Option Value)(x:Str)(st:Stmt)(ps:List Str)(f:Addr)(fd:FuncData):Prop where
 fn:Ja K x x st f fd
 b:Binds K fd ps []
 m:mg x=some (.ref f)
def Ge:Sp:=λvs H Q _=>∃a b:Int,vs=[.int a,.int b]/\0<=b/\Q (.int (Int.gcd a b)) H
def lm(a b:Int):Int:=a / (Int.gcd a b:Int)*b
def NT(K:PySem.W.Frag):Sp:=λvs H Q _=>∃(p:Addr) (f:cu),vs=[.ref p]/\ku K H p f/\0<f.2/\f.2<1073741824 ∧
 ∀q,H q=none->Q (.ref q) (L2.upd H q (.tup [.int (kD f).1,.int (kD f).2]))
def DU(f:cu):Prop:=1<=f.2/\f.2<1073741824
def rQ(K:PySem.W.Frag):Sp:=λvs H Q _=>∃(p:Addr) (f:cu),vs=[.ref p]/\ku K H p f/\DU f ∧
 ∀q,H q=none->Q (.ref q) (L2.upd H q (.tup [.int (kD f).1,.int (kD f).2]))
def uU(K:PySem.W.Frag):Sp:=λvs H Q _=>∃(c:Cp) (fs:List cu),vs=[c.val]/\kj K H c fs/\(∀f∈fs,DU f)/\fs.length<=1000 ∧
 ∀q H',ai H H'->H q=none->kj K H' (.tup q) (fs.map kD)->Q (.ref q) H'
def bO(o m:Int)(rows:List (List cu)):Int:=(rows.flatten.map (·.2)).foldl lm (lm o m)
def lQ(fo fm:cu)(rows:List (List cu)):List Int:=fo.2::fm.2::rows.flatten.map (·.2)
def Cc(K:PySem.W.Frag):Sp:=λvs H Q _=>∃(P o m:Addr) (rows:List (List cu)) (fo fm:cu),vs=[.ref P,.ref o,.ref m]/\OC K H (.tup P) rows/\ku K H o fo/\ku K H m fm ∧
 rows.length<=12/\(∀r∈rows,r.length<=12)/\∀l H',ai H H'->H l=none->H' l=some (.lst ((lQ fo fm rows).map V.int))->Q (.ref l) H'
def qR(p:List Int×Int)(b:Int):List Int×Int:=if b / (Int.gcd p.2 b:Int)>1 then(p.1++[b / (Int.gcd p.2 b:Int)],p.2*(b / (Int.gcd p.2 b:Int)))else p
def oO(ns:List Int):List Int×Int:=ns.foldl qR ([],1)
def ow(n:Int):Prop:=0<n/\n<1073741824
def zJ(K:PySem.W.Frag):Sp:=λvs H Q _=>∃(l:Addr) (ns:List Int),vs=[.ref l]/\bZ K H l (ns.map V.int)/\ns.length<=1000/\(∀n∈ns,ow n) ∧
 ∀q H',ai H H'->H q=none->H' q=some (.lst ((oO ns).1.map V.int))->Q (.ref q) H'
def rm(fs:List Int):Int:=fs.foldl (·*·) 1
def JF(K:PySem.W.Frag):Sp:=λvs H Q _=>∃(l:Addr) (fs:List Int),vs=[.ref l]/\bZ K H l (fs.map V.int)/\(∀n∈fs,ow n)/\Q (.int (rm fs)) H
def wR(K:PySem.W.Frag):Sp:=λvs H Q _=>∃(p:Addr) (f:cu) (u:Int),vs=[.ref p,.int u]/\ku K H p f/\DU f/\Bg f.1/\Bg (u / f.2)/\Q (.int (f.1*(u / f.2))) H
theorem Q9{b:Int}:lm 1 b=b:=by
 unfold lm
 rw[Int.gcd_one_left]
 simp
theorem Ra{a b:Int}:lm a b=a*(b / (Int.gcd a b:Int)):=by
 unfold lm
 rw[←Int.mul_ediv_assoc' b (Int.gcd_dvd_left a b),Int.mul_ediv_assoc a (Int.gcd_dvd_right a b)]
structure D4(p:List Int×Int)(ns:List Int):Prop where
 small:∀f∈p.1,ow f
 prod:rm p.1=p.2
 unit:p.2=ns.foldl lm 1
 pos:0<p.2
 len:p.1.length<=ns.length
theorem rV(fs:List Int)(f:Int):rm (fs++[f])=rm fs*f:=by
 unfold rm
 rw[List.foldl_append]
 rfl
theorem GS{u b:Int}(hb:ow b):0<b / (Int.gcd u b:Int)/\b / (Int.gcd u b:Int)<=b:=by
 have g1:=pF u hb.1
 exact⟨Int.ediv_pos_of_pos_of_dvd hb.1 (Int.le_of_lt g1) (Int.gcd_dvd_right u b),Int.ediv_le_self _ (Int.le_of_lt hb.1)⟩
theorem D4.step{p:List Int×Int}{ns:List Int}{b:Int}(h:D4 p ns)(hb:ow b):D4 (qR p b) (ns++[b]):=by
 obtain⟨d1,d2⟩:=GS (u:=p.2) hb
 have e:(ns++[b]).foldl lm 1=p.2*(b / (Int.gcd p.2 b:Int)):=by
  rw[List.foldl_append,←h.unit]
  exact Ra
 unfold qR
 split
 ·next h1 =>
  refine⟨λf hf=>?_,?_,e.symm,Int.mul_pos h.pos d1,?_⟩
  ·rcases List.mem_append.mp hf with hf|hf
   ·exact h.small f hf
   ·rw[List.mem_singleton.mp hf]
    exact⟨d1,Int.lt_of_le_of_lt d2 hb.2⟩
  ·rw[rV,h.prod]
  ·rw[List.length_append,List.length_append]
   exact Nat.add_le_add_right h.len 1
 ·next h1 =>
  have e1:b / (Int.gcd p.2 b:Int)=1:=by omega
  refine⟨h.small,h.prod,?_,h.pos,?_⟩
  ·rw[e,e1,Int.mul_one]
  ·rw[List.length_append]
   exact Nat.le_trans h.len (Nat.le_add_right _ _)
theorem xT(ns:List Int)(b:Int):oO (ns++[b])=qR (oO ns) b:=by
 unfold oO
 rw[List.foldl_append]
 rfl
theorem uP{ns:List Int}(h:∀n∈ns,ow n):∀i,i<=ns.length->D4 (oO (ns.take i)) (ns.take i)
 | 0,_=>by
  rw[List.take_zero]
  exact⟨λf hf=>(by cases hf),rfl,rfl,(by decide),Nat.le_refl _⟩
 |i+1,hi=>by
  have e:=List.getElem?_eq_getElem (l:=ns) (i:=i) hi
  rw[take_snoc e,xT]
  exact(uP h i (Nat.le_of_lt hi)).step (h _ (List.getElem_mem hi))
theorem Nr{ns:List Int}(h:∀n∈ns,ow n):D4 (oO ns) ns:=by
 have z:=uP h ns.length (Nat.le_refl _)
 rw[List.take_length]at z
 exact z
theorem BZ(fo fm:cu)(rows:List (List cu)):(lQ fo fm rows).foldl lm 1=bO fo.2 fm.2 rows:=by
 unfold lQ bO
 rw[List.foldl_cons,List.foldl_cons,Q9]
end GP
namespace GP
open PySem L2 sJ
structure Dm(K:PySem.W.Frag)(x qual:Str)(st:Stmt)(ps:List Str)(f:Addr)(fd:FuncData):Prop where
 fn:Ja K x qual st f fd
 b:Binds K fd ps []
def Dat(H H':Hp):Prop:=∀b u,(∀C dx fs,u≠HO.ins C dx fs)->H b=some u->H' b=some u
theorem Dat.of{H H':Hp}(e:ai H H'):Dat H H':=λb u _ h=>e b u h
theorem Dat.trans{H H' LV:Hp}(e:Dat H H')(f:Dat H' LV):Dat H LV:=λb u n h=>f b u n (e b u n h)
theorem Dat.set{H:Hp}{x C dx:Addr}{fs fs':List (Str×V)}(h:H x=some (.ins C dx fs)):Dat H (L2.upd H x (.ins C dx fs')):=λb u n e=>by
 rw[au (λz=>by subst z;rw[h]at e;cases e;exact n _ _ _ rfl)];exact e
theorem Dat.tup{K:PySem.W.Frag}{H H':Hp}{a:Addr}{xs:List V}(e:Dat H H')(h:cP K H a xs):cP K H' a xs:=by
 rcases h with(h|⟨o,h⟩)|h
 ·exact .inl (.inl (e _ _ (λ_ _ _ z=>by cases z) h))
 ·exact .inl (.inr ⟨o,e _ _ (λ_ _ _ z=>by cases z) h⟩)
 ·exact .inr h
theorem Dat.lst{K:PySem.W.Frag}{H H':Hp}{a:Addr}{xs:List V}(e:Dat H H')(h:bZ K H a xs):bZ K H' a xs:=by
 rcases h with(h|⟨o,h⟩)|h
 ·exact .inl (.inl (e _ _ (λ_ _ _ z=>by cases z) h))
 ·exact .inl (.inr ⟨o,e _ _ (λ_ _ _ z=>by cases z) h⟩)
 ·exact .inr h
theorem Dat.cp{K:PySem.W.Frag}{H H':Hp}{c:Cp}{xs:List V}(e:Dat H H')(h:c.at K H xs):c.at K H' xs:=by
 cases c with
 |lst a=>exact Dat.lst e h
 |tup a=>exact Dat.tup e h
 |txt x=>exact h
theorem ku.dat{K:PySem.W.Frag}{H H':Hp}{p:Addr}{f:cu}(e:Dat H H')(h:ku K H p f):ku K H' p f:=Dat.tup e h
theorem kj.dat{K:PySem.W.Frag}{H H':Hp}{c:Cp}{fs:List cu}(e:Dat H H')(h:kj K H c fs):kj K H' c fs:=by
 obtain⟨ps,a,b⟩:=h
 exact⟨ps,Dat.cp e a,Paired.g8 b λ_ _ z=>z.dat e⟩
def Bq(K:PySem.W.Frag)(H:Hp)(P:Addr)(rows:List (List cu)):Prop:=∃qs:List Addr,cP K H P (qs.map V.ref)/\Paired (λq r=>kj K H (.tup q) r) qs rows
theorem Bq.dat{K:PySem.W.Frag}{H H':Hp}{P:Addr}{rows:List (List cu)}(e:Dat H H')(h:Bq K H P rows):Bq K H' P rows:=by
 obtain⟨cs,a,b⟩:=h
 exact⟨cs,Dat.tup e a,Paired.g8 b λ_ _ z=>z.dat e⟩
theorem rW{α β γ:Type}{F:γ->β->Prop}{g:α->γ}:∀{l₁:List α} {l₂:List β},Paired (λa b=>F (g a) b) l₁ l₂->Paired F (l₁.map g) l₂
 |_,_,.nil=>.nil
 |_,_,.cons r t=>.cons r (rW t)
theorem Bq.mat{K:PySem.W.Frag}{H:Hp}{P:Addr}{rows:List (List cu)}(h:Bq K H P rows):OC K H (.tup P) rows:=by
 obtain⟨qs,a,b⟩:=h
 refine⟨qs.map Cp.tup,?_,rW b⟩
 rw[List.map_map]
 exact a
theorem Lx{K:PySem.W.Frag}{H:Hp}{c:Cp}{xs:List V}(h:c.at K H xs)(hx:∀x,c≠ .txt x):R8 K c.val H xs.length:=by
 cases c with
 |lst a=>exact .inl ⟨_,h,rfl⟩
 |tup a=>exact .inr ⟨_,h,rfl⟩
 |txt x=>exact absurd rfl (hx x)
theorem kj.len{K:PySem.W.Frag}{H:Hp}{c:Cp}{fs:List cu}(h:kj K H c fs)(hx:∀x,c≠ .txt x):R8 K c.val H fs.length:=by
 obtain⟨ps,a,b⟩:=h
 have z:=Lx a hx
 rw[List.length_map,Paired.len b]at z
 exact z
def pD(n:Nat):Bool:=(decide ((32:Int)<=(n:Int))&&decide ((n:Int)<=126))&& !N9 (.int n) [.int 34,.int 37,.int 45]
def Ah(x:Str):Prop:=0<x.cps.size/\x.cps.size<=100/\(∀c∈x.cps.toList,pD c=true)/\x.cps.toList.Nodup
theorem pZ{x:Str}(h:x.cps.toList.Nodup){i j a b:Nat}(hi:x.cps[i]? =some a)(hj:x.cps[j]? =some b)(hij:i≠j):a≠b:=by
 intro z
 subst z
 rw[←Array.getElem?_toList]at hi hj
 exact hij ((List.getElem?_inj (List.getElem?_eq_some_iff.mp hi).1 h).mp (hi.trans hj.symm))
theorem GB(val:Nat->Str)(k:Str):∀i,(met val i).any (·==k)=true->∃j,j<i/\val j=k
 | 0,h=>by rw[xE]at h;cases h
 |i+1,h=>by
  rw[qk,tG,Bool.or_eq_true]at h
  rcases h with h|h
  ·obtain⟨j,h1,h2⟩:=GB val k i h
   exact⟨j,by omega,h2⟩
  ·exact⟨i,by omega,(of_decide_eq_true h).symm⟩
theorem Dc{val:Nat->Str}{n:Nat}(h:∀i j,i<n->j<n->i≠j->val i≠val j):∀i,i<=n->(met val i).length=i
 | 0,_=>by rw[xE];rfl
 |i+1,hi=>by
  rw[qk,pO]
  have e:¬((met val i).any (·==val i)=true):=λz=>by
   obtain⟨j,h1,h2⟩:=GB val _ i z
   exact h j i (by omega) (by omega) (by omega) h2
  rw[if_neg e,Dc h i (by omega)]
theorem HV{x:Str}(h:x.cps.toList.Nodup):(met (mj x) x.cps.size).length=x.cps.size:=by
 refine Dc (n:=x.cps.size) (λi j hi hj hij z=>?_) _ (Nat.le_refl _)
 unfold mj at z
 have e1:x.cps[i]? =some (x.cps.getD i 0):=by simp[hi]
 have e2:x.cps[j]? =some (x.cps.getD j 0):=by simp[hj]
 refine pZ h e1 e2 hij ?_
 have z2: #[x.cps.getD i 0]= #[x.cps.getD j 0]:=congrArg Str.cps z
 simpa using z2
def Ck:Sp:=λvs H Q _=>∃c:Nat,vs=[.str ⟨#[c]⟩]/\Q (.bl (pD c)) H
def wU:Sp:=λvs H Q _=>∃x:Str,vs=[.str x]/\x.cps.size<=1000/\∀H',ai H H'->Q (.bl (x.cps.toList.all pD)) H'
def sN:Sp:=λvs H Q _=>∃x:Str,vs=[.str x]/\Ah x/\∀H',ai H H'->Q .gB H'
def OB(c:Cp):Prop:=∀x,c≠ .txt x
def IS(K:PySem.W.Frag)(H:Hp)(c:Cp)(rows:List (List cu)):Prop:=OB c/\∃cs:List Cp,(∀d∈cs,OB d)/\c.at K H (cs.map Cp.val)/\Paired (kj K H) cs rows
theorem IS.dat{K:PySem.W.Frag}{H H':Hp}{c:Cp}{rows:List (List cu)}(e:Dat H H')(h:IS K H c rows):IS K H' c rows:=by
 obtain⟨n,cs,m,a,b⟩:=h
 exact⟨n,cs,m,Dat.cp e a,Paired.g8 b λ_ _ z=>z.dat e⟩
def Me(n:Nat)(rows:List (List cu)):Prop:=rows.length=n/\∀r∈rows,r.length=n
def pY(K:PySem.W.Frag):Sp:=λvs H Q _=>∃(x:Str) (c:Cp) (rows:List (List cu)),vs=[.str x,c.val]/\IS K H c rows/\x.cps.size<=100/\Me x.cps.size rows/\Q .gB H
def Mg(rows:List (List cu))(i j:Nat)(f:cu):Prop:=∃r,rows[i]? =some r/\r[j]? =some f
def keyOf(a b:Nat):List Key:=[.inr ⟨#[a]⟩,.inr ⟨#[b]⟩]
def FY(kvs:List (List Key×V))(x:Str)(rows:List (List cu))(u:Int):Prop :=
 ∀i j a b f,x.cps[i]? =some a->x.cps[j]? =some b->Mg rows i j f->kF kvs (keyOf a b)=some (.int (f.1*(u / f.2)))
def Sm(i:Int):Prop:=i.natAbs<2 ^ 200
def Bu(i:Int):Prop:=i.natAbs<=2 ^ 4380
theorem Sm.bg{i:Int}(h:Sm i):Bg i:=Nat.lt_of_lt_of_le h (Nat.pow_le_pow_right (by decide) (by decide))
theorem Bu.bg{i:Int}(h:Bu i):Bg i:=Nat.lt_of_le_of_lt h (Nat.pow_lt_pow_right (by decide) (by decide))
def Vq(u:Int)(f:cu):Prop:=DU f/\Sm f.1/\Bu (u / f.2)
def Gg(K:PySem.W.Frag):Sp:=λvs H Q _=>∃(x:Str) (P:Addr) (u:Int) (rows:List (List cu)),vs=[.str x,.ref P,.int u]/\Bq K H P rows/\x.cps.size<=100/\x.cps.toList.Nodup/\Me x.cps.size rows/\(∀r∈rows,∀f∈r,Vq u f) ∧
 ∀d H' kvs,ai H H'->H d=none->H' d=some (.dT kvs)->FY kvs x rows u->Q (.ref d) H'
def jj(x:Str)(P o m:Addr)(u:Int)(d:Addr×Addr):List (Str×V) :=
 aG "costs" (.ref d.1) (aG "unit" (.int u) (aG "factors" (.ref d.2) (aG "more" (.ref m) (aG "opening" (.ref o) (aG "pairs" (.ref P) (aG "signs" (.str x) []))))))
theorem Dy{x:Str}{P o m:Addr}{u:Int}{d:Addr×Addr}:(jj x P o m u d).lookup ("signs" :Str)=some (.str x):=by
 unfold jj
 rw[av,if_neg (by decide +kernel),av,if_neg (by decide +kernel),av,if_neg (by decide +kernel),av,if_neg (by decide +kernel),av,if_neg (by decide +kernel),av,if_neg (by decide +kernel),av,if_pos rfl]
theorem yQ{x:Str}{P o m:Addr}{u:Int}{d:Addr×Addr}:(jj x P o m u d).lookup ("opening" :Str)=some (.ref o):=by
 unfold jj
 rw[av,if_neg (by decide +kernel),av,if_neg (by decide +kernel),av,if_neg (by decide +kernel),av,if_neg (by decide +kernel),av,if_pos rfl]
theorem Fi{x:Str}{P o m:Addr}{u:Int}{d:Addr×Addr}:(jj x P o m u d).lookup ("more" :Str)=some (.ref m):=by
 unfold jj
 rw[av,if_neg (by decide +kernel),av,if_neg (by decide +kernel),av,if_neg (by decide +kernel),av,if_pos rfl]
theorem yR{x:Str}{P o m:Addr}{u:Int}{d:Addr×Addr}:(jj x P o m u d).lookup ("factors" :Str)=some (.ref d.2):=by
 unfold jj
 rw[av,if_neg (by decide +kernel),av,if_neg (by decide +kernel),av,if_pos rfl]
theorem xQ{x:Str}{P o m:Addr}{u:Int}{d:Addr×Addr}:(jj x P o m u d).lookup ("unit" :Str)=some (.int u):=by
 unfold jj
 rw[av,if_neg (by decide +kernel),av,if_pos rfl]
theorem Dz{x:Str}{P o m:Addr}{u:Int}{d:Addr×Addr}:(jj x P o m u d).lookup ("costs" :Str)=some (.ref d.1):=by
 unfold jj
 rw[av,if_pos rfl]
def vS(x:Str)(P o m:Addr)(u:Int)(d:Addr×Addr)(ou mu:Int):List (Str×V) :=
 aG "more_units" (.int mu) (aG "opening_units" (.int ou) (jj x P o m u d))
theorem xP {x:Str} {P o m:Addr} {u:Int} {d:Addr×Addr} {ou mu:Int} {f:Str} (h1:¬f= "more_units") (h2:¬f= "opening_units"):(vS x P o m u d ou mu).lookup f=(jj x P o m u d).lookup f:=by
 unfold vS
 rw[av,if_neg h1,av,if_neg h2]
theorem pG{x:Str}{P o m:Addr}{u:Int}{d:Addr×Addr}{ou mu:Int}:(vS x P o m u d ou mu).lookup ("signs" :Str)=some (.str x):=(xP (by decide +kernel) (by decide +kernel)).trans Dy
theorem pH{x:Str}{P o m:Addr}{u:Int}{d:Addr×Addr}{ou mu:Int}:(vS x P o m u d ou mu).lookup ("factors" :Str)=some (.ref d.2):=(xP (by decide +kernel) (by decide +kernel)).trans yR
theorem Fg{x:Str}{P o m:Addr}{u:Int}{d:Addr×Addr}{ou mu:Int}:(vS x P o m u d ou mu).lookup ("costs" :Str)=some (.ref d.1):=(xP (by decide +kernel) (by decide +kernel)).trans Dz
theorem rF {x:Str} {P o m:Addr} {u:Int} {d:Addr×Addr} {v:V} {f:Str} (h2:¬f= "opening_units"):(aG "opening_units" v (jj x P o m u d)).lookup f=(jj x P o m u d).lookup f:=by
 rw[av,if_neg h2]
theorem sF{x:Str}{P o m:Addr}{u:Int}{d:Addr×Addr}{ou mu:Int}:(vS x P o m u d ou mu).lookup ("opening_units" :Str)=some (.int ou):=by
 unfold vS
 rw[av,if_neg (by decide +kernel),av,if_pos rfl]
theorem vR{x:Str}{P o m:Addr}{u:Int}{d:Addr×Addr}{ou mu:Int}:(vS x P o m u d ou mu).lookup ("more_units" :Str)=some (.int mu):=by
 unfold vS
 rw[av,if_pos rfl]
theorem KC{x:Str}{P o m:Addr}:(aG "more" (.ref m) (aG "opening" (.ref o) (aG "pairs" (.ref P) (aG "signs" (.str x) []))):List (Str×V)).lookup ("pairs" :Str)=some (.ref P):=by
 rw[av,if_neg (by decide +kernel),av,if_neg (by decide +kernel),av,if_pos rfl]
theorem EX{x:Str}{P o m:Addr}:(aG "more" (.ref m) (aG "opening" (.ref o) (aG "pairs" (.ref P) (aG "signs" (.str x) []))):List (Str×V)).lookup ("opening" :Str)=some (.ref o):=by
 rw[av,if_neg (by decide +kernel),av,if_pos rfl]
theorem MU{x:Str}{P o m:Addr}:(aG "more" (.ref m) (aG "opening" (.ref o) (aG "pairs" (.ref P) (aG "signs" (.str x) []))):List (Str×V)).lookup ("more" :Str)=some (.ref m):=by
 rw[av,if_pos rfl]
theorem EY{x:Str}{P o m fl:Addr}:(aG "factors" (.ref fl) (aG "more" (.ref m) (aG "opening" (.ref o) (aG "pairs" (.ref P) (aG "signs" (.str x) [])))):List (Str×V)).lookup ("factors" :Str)=some (.ref fl):=by
 rw[av,if_pos rfl]
theorem KA{x:Str}{P o m fl:Addr}{u:Int}:(aG "unit" (.int u) (aG "factors" (.ref fl) (aG "more" (.ref m) (aG "opening" (.ref o) (aG "pairs" (.ref P) (aG "signs" (.str x) []))))):List (Str×V)).lookup ("signs" :Str)=some (.str x):=by
 rw[av,if_neg (by decide +kernel),av,if_neg (by decide +kernel),av,if_neg (by decide +kernel),av,if_neg (by decide +kernel),av,if_neg (by decide +kernel),av,if_pos rfl]
theorem HL{x:Str}{P o m fl:Addr}{u:Int}:(aG "unit" (.int u) (aG "factors" (.ref fl) (aG "more" (.ref m) (aG "opening" (.ref o) (aG "pairs" (.ref P) (aG "signs" (.str x) []))))):List (Str×V)).lookup ("pairs" :Str)=some (.ref P):=by
 rw[av,if_neg (by decide +kernel),av,if_neg (by decide +kernel),av,if_neg (by decide +kernel),av,if_neg (by decide +kernel),av,if_pos rfl]
theorem MT{x:Str}{P o m fl:Addr}{u:Int}:(aG "unit" (.int u) (aG "factors" (.ref fl) (aG "more" (.ref m) (aG "opening" (.ref o) (aG "pairs" (.ref P) (aG "signs" (.str x) []))))):List (Str×V)).lookup ("unit" :Str)=some (.int u):=by
 rw[av,if_pos rfl]
theorem aS{f:Str}{v:V}{fs:List (Str×V)}{n:Nat}(h:fs.length<=n):(aG f v fs).length<=n+1:=by
 have:=qm f v fs
 omega
structure nB(K:PySem.W.Frag)(C:Addr)(H:Hp)(x:Addr)(sg:Str)(rows:List (List cu))(fo fm:cu):Prop where
 sig:Ah sg
 sqr:Me sg.cps.size rows
 ok:∀r∈rows,∀f∈r,Vq (bO fo.2 fm.2 rows) f
 Ko:Vq (bO fo.2 fm.2 rows) fo
 Kq:Vq (bO fo.2 fm.2 rows) fm
 pos:0<bO fo.2 fm.2 rows
 big:Bu (bO fo.2 fm.2 rows)
 ob:∃dx P o m,∃d:Addr×Addr,∃kvs,H x=some (.ins C dx (vS sg P o m (bO fo.2 fm.2 rows) d (fo.1*(bO fo.2 fm.2 rows / fo.2)) (fm.1*(bO fo.2 fm.2 rows / fm.2))))/\Bq K H P rows/\ku K H o fo/\ku K H m fm/\H d.1=some (.dT kvs)/\FY kvs sg rows (bO fo.2 fm.2 rows) ∧
  ∃fs:List Int,(∀f∈fs,ow f)/\rm fs=bO fo.2 fm.2 rows/\H d.2=some (.lst (fs.map V.int))
theorem nB.same{K:PySem.W.Frag}{C:Addr}{H H':Hp}{x:Addr}{sg:Str}{rows:List (List cu)}{fo fm:cu}(e:ai H H')(h:nB K C H x sg rows fo fm):nB K C H' x sg rows fo fm:=by
 obtain⟨a,b,c,d,f,g,i,dx,P,o,m,dd,kvs,h1,h2,h3,h4,h5,h6,fs,h7,h8,h9⟩:=h
 exact⟨a,b,c,d,f,g,i,dx,P,o,m,dd,kvs,e _ _ h1,h2.dat (Dat.of e),h3.same e,h4.same e,e _ _ h5,h6,fs,h7,h8,e _ _ h9⟩
def LS(H:Hp)(x c:Addr):Prop:=∀C dx fs,H x=some (.ins C dx fs)->fs.lookup ("factors" :Str)≠some (.ref c)
def Vp(f:cu):Prop:=DU f/\Sm f.1
def yM(rows:List (List cu)):List (List cu):=rows.map λr=>r.map kD
def JM(K:PySem.W.Frag)(C:Addr):Sp:=λvs H Q _=>∃(x dx o m:Addr) (sg:Str) (c:Cp) (rows:List (List cu)) (fo fm:cu),vs=[.ref x,.str sg,c.val,.ref o,.ref m]/\H x=some (.ins C dx [])/\Ah sg/\sg.cps.size<=12 ∧
 IS K H c rows/\Me sg.cps.size rows/\(∀r∈rows,∀f∈r,Vp f)/\ku K H o fo/\Vp fo/\ku K H m fm/\Vp fm ∧
 ∀H',nB K C H' x sg (yM rows) (kD fo) (kD fm)->(∀b u,H b=some u->b≠x->H' b=some u)->(∀c,H c≠none->LS H' x c)->Q .gB H'
def rP(K:PySem.W.Frag)(C:Addr):Sp:=λvs H Q _=>∃(x:Addr) (sg:Str) (rows:List (List cu)) (fo fm:cu) (i j a b:Nat) (f:cu),vs=[.ref x,.str ⟨#[a]⟩,.str ⟨#[b]⟩]/\nB K C H x sg rows fo fm ∧
 sg.cps[i]? =some a/\sg.cps[j]? =some b/\Mg rows i j f/\∀H',ai H H'->Q (.int (f.1*(bO fo.2 fm.2 rows / f.2))) H'
def zH(K:PySem.W.Frag)(C:Addr):Sp:=λvs H Q _=>∃(x:Addr) (sg:Str) (rows:List (List cu)) (fo fm:cu),vs=[.ref x]/\nB K C H x sg rows fo fm/\Q (.int (fo.1*(bO fo.2 fm.2 rows / fo.2))) H
def JI(K:PySem.W.Frag)(C:Addr):Sp:=λvs H Q _=>∃(x:Addr) (sg:Str) (rows:List (List cu)) (fo fm:cu),vs=[.ref x]/\nB K C H x sg rows fo fm/\Q (.int (fm.1*(bO fo.2 fm.2 rows / fm.2))) H
def zI(K:PySem.W.Frag)(C:Addr):Sp:=λvs H Q _=>∃(x:Addr) (n:Int) (sg:Str) (rows:List (List cu)) (fo fm:cu),vs=[.ref x,.int n]/\nB K C H x sg rows fo fm ∧
 ∀q H',ai H H'->H q=none->H' q=some (.tup [.int (kD (n,bO fo.2 fm.2 rows)).1,.int (kD (n,bO fo.2 fm.2 rows)).2])->Q (.ref q) H'
end GP
namespace GP
open PySem L2 sJ
theorem g7{α β:Type}{l:List α}{g:α->β}{i:Nat}{y:β}(h:(l.map g)[i]? =some y):∃x,l[i]? =some x/\y=g x:=by
 rw[List.getElem?_map]at h
 cases e:l[i]? with
 |none=>rw[e]at h;cases h
 |some x=>rw[e]at h;exact⟨x,rfl,(Option.some.inj h).symm⟩
def lA(kvs:List (List Key×V))(x:Str)(rows:List (List cu))(u:Int)(n m:Nat):Prop :=
 ∀i j a b f,(i<n\/(i=n/\j<m))->x.cps[i]? =some a->x.cps[j]? =some b->Mg rows i j f->kF kvs (keyOf a b)=some (.int (f.1*(u / f.2)))
theorem lA.nil(x:Str)(rows:List (List cu))(u:Int):lA [] x rows u 0 0:=λi j a b f h=>by omega
theorem HZ{a b c d:Nat}(h:keyOf a b=keyOf c d):a=c/\b=d:=by
 unfold keyOf at h
 have h1:=(List.cons.inj h).1
 have h2:=(List.cons.inj (List.cons.inj h).2).1
 have e1:(⟨#[a]⟩:Str)=⟨#[c]⟩:=Sum.inr.inj h1
 have e2:(⟨#[b]⟩:Str)=⟨#[d]⟩:=Sum.inr.inj h2
 have z1: #[a]= #[c]:=congrArg Str.cps e1
 have z2: #[b]= #[d]:=congrArg Str.cps e2
 exact⟨by simpa using z1,by simpa using z2⟩
theorem lA.put{kvs:List (List Key×V)}{x:Str}{rows:List (List cu)}{u:Int}{n m a b:Nat}{f:cu}(nd:x.cps.toList.Nodup)(h:lA kvs x rows u n m)(ha:x.cps[n]? =some a)(hb:x.cps[m]? =some b)(hf:Mg rows n m f):
  lA (putK kvs (keyOf a b) (.int (f.1*(u / f.2)))) x rows u n (m+1):=by
 intro i j c d g hij hc hd hg
 rw[BX]
 by_cases e:i=n/\j=m
 ·obtain⟨rfl,rfl⟩:=e
  rw[ha]at hc
  rw[hb]at hd
  cases hc
  cases hd
  obtain⟨r,r1,r2⟩:=hf
  obtain⟨r',r3,r4⟩:=hg
  rw[r1]at r3
  cases r3
  rw[r2]at r4
  cases r4
  rw[if_pos rfl]
 ·have hne:¬keyOf c d=keyOf a b:=λz=>by
   obtain⟨z1,z2⟩:=HZ z
   subst z1 z2
   refine e ⟨?_,?_⟩
   ·exact Decidable.byContradiction λq=>pZ nd hc ha q rfl
   ·exact Decidable.byContradiction λq=>pZ nd hd hb q rfl
  rw[if_neg hne]
  exact h i j c d g (by omega) hc hd hg
theorem lA.row{kvs:List (List Key×V)}{x:Str}{rows:List (List cu)}{u:Int}{n m:Nat}(hm:x.cps.size<=m)(h:lA kvs x rows u n m):lA kvs x rows u (n+1) 0:=by
 intro i j a b f hij ha hb hf
 refine h i j a b f ?_ ha hb hf
 have:j<x.cps.size:=by
  rw[←Array.getElem?_toList]at hb
  have:=(List.getElem?_eq_some_iff.mp hb).1
  simpa using this
 omega
theorem lA.all{kvs:List (List Key×V)}{x:Str}{rows:List (List cu)}{u:Int}{n:Nat}(hn:x.cps.size<=n)(h:lA kvs x rows u n 0):FY kvs x rows u:=by
 intro i j a b f ha hb hf
 refine h i j a b f (.inl ?_) ha hb hf
 have:i<x.cps.size:=by
  rw[←Array.getElem?_toList]at ha
  have:=(List.getElem?_eq_some_iff.mp ha).1
  simpa using this
 omega
theorem KS{a b:Int}(ha:0<a)(hb:0<b):0<lm a b:=by
 have h:=pF a hb
 have:=Int.ediv_pos_of_pos_of_dvd ha (Int.le_of_lt h) (Int.gcd_dvd_left a b)
 exact Int.mul_pos this hb
theorem sG(a g:Int):(a / g).natAbs<=a.natAbs:=Int.natAbs_ediv_le_natAbs a g
theorem KU(a b:Int):(lm a b).natAbs<=a.natAbs*b.natAbs:=by
 unfold lm
 rw[Int.natAbs_mul]
 exact Nat.mul_le_mul_right _ (sG a _)
theorem Dv:∀(l:List Int) {u:Int},0<u->(∀b∈l,0<b)->0<l.foldl lm u
 |[],_,h,_=>h
 |b::l,_,h,hb=>Dv l (KS h (hb b List.mem_cons_self)) λc hc=>hb c (List.mem_cons_of_mem _ hc)
theorem Dw{B:Nat}:∀(l:List Int) {u:Int},(∀b∈l,b.natAbs<=B)->(l.foldl lm u).natAbs<=u.natAbs*B ^ l.length
 |[],_,_=>by simp
 |b::l,u,h=>by
  have h1:=Dw (B:=B) l (u:=lm u b) λc hc=>h c (List.mem_cons_of_mem _ hc)
  have h2:=KU u b
  have h3:=h b List.mem_cons_self
  show(l.foldl lm (lm u b)).natAbs<=_
  refine Nat.le_trans h1 ?_
  rw[List.length_cons,Nat.pow_succ,Nat.mul_comm (B ^ l.length) B,←Nat.mul_assoc]
  exact Nat.mul_le_mul_right _ (Nat.le_trans h2 (Nat.mul_le_mul_left _ h3))
theorem xR{n:Nat}:∀{rows:List (List cu)},(∀r∈rows,r.length=n)->rows.flatten.length=rows.length*n
 |[],_=>by simp
 |r::rows,h=>by
  rw[List.flatten_cons,List.length_append,h r List.mem_cons_self,xR λr' hr=>h r' (List.mem_cons_of_mem _ hr),List.length_cons,Nat.succ_mul,Nat.add_comm]
theorem DU.abs{f:cu}(h:DU f):f.2.natAbs<=2 ^ 30:=by
 obtain⟨h1,h2⟩:=h
 have:(2:Nat) ^ 30=1073741824:=by decide
 omega
theorem Jl{rows:List (List cu)}{fo fm:cu}(ho:DU fo)(hm:DU fm)(h:∀r∈rows,∀f∈r,DU f):0<bO fo.2 fm.2 rows:=by
 refine Dv _ (KS (by have:=ho.1;omega) (by have:=hm.1;omega)) λb hb=>?_
 obtain⟨f,hf,rfl⟩:=List.mem_map.mp hb
 obtain⟨r,hr,hfr⟩:=List.mem_flatten.mp hf
 have:=(h r hr f hfr).1
 omega
theorem Jm{n:Nat}{rows:List (List cu)}{fo fm:cu}(hn:n<=12)(hs:Me n rows)(ho:DU fo)(hm:DU fm)(h:∀r∈rows,∀f∈r,DU f):Bu (bO fo.2 fm.2 rows):=by
 have h1:(bO fo.2 fm.2 rows).natAbs<=(lm fo.2 fm.2).natAbs*(2 ^ 30) ^ (rows.flatten.map (·.2)).length:=by
  refine Dw _ λb hb=>?_
  obtain⟨f,hf,rfl⟩:=List.mem_map.mp hb
  obtain⟨r,hr,hfr⟩:=List.mem_flatten.mp hf
  exact(h r hr f hfr).abs
 have h2:(lm fo.2 fm.2).natAbs<=2 ^ 30*2 ^ 30:=Nat.le_trans (KU _ _) (Nat.mul_le_mul ho.abs hm.abs)
 have h3:(rows.flatten.map (·.2)).length<=144:=by
  rw[List.length_map,xR hs.2,hs.1]
  exact Nat.le_trans (Nat.mul_le_mul hn hn) (by decide)
 have h4:(2 ^ 30:Nat) ^ (rows.flatten.map (·.2)).length<=(2 ^ 30) ^ 144:=Nat.pow_le_pow_right (by decide) h3
 have h5:(2 ^ 30:Nat)*2 ^ 30*(2 ^ 30) ^ 144<=2 ^ 4380:=by
  rw[←Nat.pow_mul,←Nat.pow_add,←Nat.pow_add]
  exact Nat.pow_le_pow_right (by decide) (by decide)
 exact Nat.le_trans h1 (Nat.le_trans (Nat.mul_le_mul h2 h4) h5)
theorem ql{f:cu}(h:DU f):DU (kD f):=by
 obtain⟨h1,h2⟩:=h
 have h0:0<f.2:=by omega
 have p:=KP f.1 h0
 have l:=lo_le f.1 h0
 exact⟨by show 1<=(lo f.1 f.2).2;omega,by show(lo f.1 f.2).2<_;omega⟩
theorem MZ{f:cu}(h:Sm f.1):Sm (kD f).1:=Nat.lt_of_le_of_lt (sG _ _) h
theorem Bu.div{u:Int}(h:Bu u)(g:Int):Bu (u / g):=Nat.le_trans (sG _ _) h
theorem MY{n:Nat}{rows:List (List cu)}(h:Me n rows):Me n (yM rows):=by
 refine⟨by unfold yM;rw[List.length_map];exact h.1,λr hr=>?_⟩
 obtain⟨r',h',rfl⟩:=List.mem_map.mp hr
 rw[List.length_map]
 exact h.2 r' h'
theorem AX{p:cu->Prop}{rows:List (List cu)}(h:∀r∈rows,∀f∈r,p (kD f)):∀r∈yM rows,∀f∈r,p f:=by
 intro r hr f hf
 obtain⟨r',h',rfl⟩:=List.mem_map.mp hr
 obtain⟨f',hf',rfl⟩:=List.mem_map.mp hf
 exact h r' h' f' hf'
theorem Mg.mem{rows:List (List cu)}{i j:Nat}{f:cu}(h:Mg rows i j f):∃r∈rows,f∈r:=by
 obtain⟨r,h1,h2⟩:=h
 exact⟨r,List.mem_of_getElem? h1,List.mem_of_getElem? h2⟩
end GP
namespace GP
open PySem L2 sJ
theorem cP.off{K:PySem.W.Frag}{H:Hp}{l a:Addr}{ys xs:List V}{o:HO}(hl:H l=some (.lst ys))(h:cP K H a xs):cP K (L2.upd H l o) a xs:=by
 rcases h with(h|⟨u,h⟩)|h
 ·exact .inl (.inl (by rw[au (qg h hl (by intro z;cases z))];exact h))
 ·exact .inl (.inr ⟨u,by rw[au (qg h hl (by intro z;cases z))];exact h⟩)
 ·exact .inr h
theorem kj.off{K:PySem.W.Frag}{H:Hp}{l q:Addr}{ys:List V}{fs:List cu}{o:HO}(hl:H l=some (.lst ys))(h:kj K H (.tup q) fs):kj K (L2.upd H l o) (.tup q) fs:=by
 obtain⟨ps,a,b⟩:=h
 exact⟨ps,cP.off hl a,Paired.g8 b λ_ _ z=>cP.off hl z⟩
def Off(x:Addr)(H H':Hp):Prop:=∀b u,H b=some u->b≠x->H' b=some u
theorem Off.of{x:Addr}{H H':Hp}(e:ai H H'):Off x H H':=λb u h _=>e b u h
theorem Off.trans{x:Addr}{H H' LV:Hp}(e:Off x H H')(f:Off x H' LV):Off x H LV:=λb u h n=>f b u (e b u h n) n
theorem Off.set{x:Addr}{H:Hp}{o:HO}:Off x H (L2.upd H x o):=λb u h n=>by rw[au n];exact h
theorem Off.dat{x C dx:Addr}{fs:List (Str×V)}{H H':Hp}(hx:H x=some (.ins C dx fs))(e:Off x H H'):Dat H H':=λb u n h=>e b u h λz=>by
 subst z
 rw[hx]at h
 cases h
 exact n _ _ _ rfl
theorem pl1{a:Str}{x:V}:(aG a x []).length<1000:=Nat.lt_of_le_of_lt (aS (Nat.le_refl 0)) (by decide)
theorem pl2{a b:Str}{x y:V}:(aG a x (aG b y [])).length<1000:=Nat.lt_of_le_of_lt (aS (aS (Nat.le_refl 0))) (by decide)
theorem pl3{a b c:Str}{x y z:V}:(aG a x (aG b y (aG c z []))).length<1000:=Nat.lt_of_le_of_lt (aS (aS (aS (Nat.le_refl 0)))) (by decide)
theorem pl4{a b c d:Str}{x y z w:V}:(aG a x (aG b y (aG c z (aG d w [])))).length<1000:=Nat.lt_of_le_of_lt (aS (aS (aS (aS (Nat.le_refl 0))))) (by decide)
theorem VU{a b c d e:Str}{x y z w v:V}:(aG a x (aG b y (aG c z (aG d w (aG e v []))))).length<1000:=Nat.lt_of_le_of_lt (aS (aS (aS (aS (aS (Nat.le_refl 0)))))) (by decide)
theorem pl6{a b c d e g:Str}{x y z w v t:V}:(aG a x (aG b y (aG c z (aG d w (aG e v (aG g t [])))))).length<1000:=Nat.lt_of_le_of_lt (aS (aS (aS (aS (aS (aS (Nat.le_refl 0))))))) (by decide)
theorem pl7{x:Str}{P o m:Addr}{u:Int}{d:Addr×Addr}:(jj x P o m u d).length<1000:=Nat.lt_of_le_of_lt (aS (aS (aS (aS (aS (aS (aS (Nat.le_refl 0)))))))) (by decide)
theorem pl8{x:Str}{P o m:Addr}{u:Int}{d:Addr×Addr}{a:Str}{v:V}:(aG a v (jj x P o m u d)).length<1000:=Nat.lt_of_le_of_lt (aS (aS (aS (aS (aS (aS (aS (aS (Nat.le_refl 0))))))))) (by decide)
end GP
namespace GP
open PySem L2 sJ
theorem GZ{a b c:Int}(h:Int.gcd a b=1)(d:a∣b*c):a∣c:=by
 have d':a.natAbs∣b.natAbs*c.natAbs:=by rw[←Int.natAbs_mul];exact Int.natAbs_dvd_natAbs.mpr d
 have h':Nat.Coprime a.natAbs b.natAbs:=h
 exact Int.natAbs_dvd_natAbs.mp (h'.dvd_of_dvd_mul_left d')
theorem KJ{x y x' y':Int}(hy:0<y)(hy':0<y')(h:Int.gcd x y=1)(h':Int.gcd x' y'=1)(e:x*y'=x'*y):x=x'/\y=y':=by
 have d1:y∣y':=GZ (b:=x) (by rw[Int.gcd_comm];exact h) (by rw[e];exact Int.dvd_mul_left _ _)
 have d2:y'∣y:=GZ (b:=x') (by rw[Int.gcd_comm];exact h') (by rw[←e];exact Int.dvd_mul_left _ _)
 have ey:=Int.dvd_antisymm (Int.le_of_lt hy) (Int.le_of_lt hy') d1 d2
 subst ey
 exact⟨Int.eq_of_mul_eq_mul_right (Int.ne_of_gt hy) e,rfl⟩
theorem Ly{ov un b:Int}(hb:0<b)(hg:Int.gcd ov un=1):Int.gcd (ov / (Int.gcd ov b:Int)) (un*(b / (Int.gcd ov b:Int)))=1:=by
 have h1:Int.gcd (ov / (Int.gcd ov b:Int)) (b / (Int.gcd ov b:Int))=1:=KQ ov hb
 have h2:Int.gcd (ov / (Int.gcd ov b:Int)) un=1:=by
  refine Nat.dvd_one.mp ?_
  rw[←hg]
  refine Int.dvd_gcd (Int.dvd_trans (Int.gcd_dvd_left ..) ?_) (Int.gcd_dvd_right ..)
  exact⟨_,(E5 ov b).symm⟩
 have z:Nat.Coprime (ov / (Int.gcd ov b:Int)).natAbs (un.natAbs*(b / (Int.gcd ov b:Int)).natAbs):=Nat.Coprime.mul_right h2 h1
 rw[←Int.natAbs_mul]at z
 exact z
theorem Fq{ov un b n p:Int}(he:ov*p=n*un):ov / (Int.gcd ov b:Int)*(p*b)=n*(un*(b / (Int.gcd ov b:Int))):=by
 have h1:=E5 ov b
 have h2:=KL ov b
 unfold lo at h1 h2
 dsimp only at h1 h2
 generalize ov / (Int.gcd ov b:Int)=x at *
 generalize b / (Int.gcd ov b:Int)=y at *
 generalize (Int.gcd ov b:Int)=g at *
 rw[←Int.mul_assoc n,←he,←h1,←h2]
 ac_rfl
theorem TM{n U ov un:Int}(hU:0<U)(hun:0<un)(hg:Int.gcd ov un=1)(he:ov*U=n*un):kD (n,U)=(ov,un):=by
 have c:=KR n U
 have e:(lo n U).1*un=ov*(lo n U).2:=by
  refine Int.eq_of_mul_eq_mul_right (Int.ne_of_gt hU) ?_
  calc (lo n U).1*un*U=(lo n U).1*U*un:=by ac_rfl
   _=n*un*(lo n U).2:=by rw[c];ac_rfl
   _=ov*(lo n U).2*U:=by rw[←he];ac_rfl
 obtain⟨z1,z2⟩:=KJ (KP n hU) hun (KQ n hU) hg e
 show lo n U=(ov,un)
 rw[←z1,←z2]
end GP
namespace L2
open PySem PySem.Spec PyProof.Rows
def vm(scope:Scope)(X:Cx):Bool:=scope.names.all λy=>(y.2 != NameKind.free)||(X.env.scope.names.lookup y.1==some NameKind.cell)
def ixB(scope:Scope)(X:Cx)(N:List Str)(nt:Nat)(ix:List Nat):Bool:=(List.range ix.length).all λk=>match N[nt+k]?,ix[k]? with
 |some x,some j=>(X.N[j]? ==some x)&&(scope.names.contains (x,NameKind.free))&&((relabel scope X.env).names.lookup x==some NameKind.cell)
 |_,_=>false
theorem dm.vm{X:Cx}{scope:Scope}{N:List Str}{nt:Nat}{ix:List Nat}(kind:scope.kind= .function)(cell:∀y∈scope.names,y.2= .cell->(y.1,NameKind.free)∉scope.names)
  (names:∀y∈scope.names,y.2= .local->scope.names.lookup y.1=some .local) (hf:L2.vm scope X=true) (hl:N.length=nt+ix.length) (hx:ixB scope X N nt ix=true) (ok:X.Ok) :
  ∃cl,dm X scope cl N (VQ nt ix):=by
 refine dm.free kind cell names (λy hy hk=>?_) hl (λk j hj=>?_) ok
 ·have z:=List.all_eq_true.mp hf y hy
  rw[hk]at z
  have z2:X.env.scope.names.lookup y.1=some NameKind.cell:=by simpa using z
  exact z2
 ·have hk:k<ix.length:=(List.getElem?_eq_some_iff.mp hj).1
  have z:=List.all_eq_true.mp hx k (List.mem_range.mpr hk)
  have hn:nt+k<N.length:=by omega
  rw[List.getElem?_eq_getElem hn,hj]at z
  simp only[Bool.and_eq_true]at z
  obtain⟨⟨z1,z2⟩,z3⟩:=z
  exact⟨_,List.getElem?_eq_getElem hn,by simpa using z1,by simpa using z2,by simpa using z3⟩
theorem Kp.JR{r:St}{v:Option V}:Kp (none::r) ((none::r).set 0 v):=λi x e=>by
 cases i with
 |zero=>cases e
 |succ i=>exact e
theorem bF{X:Cx}:nE X (.builtin "isinstance") (λxs H Q=>∃x n t b,xs=[x,.ty n]/\(t7 X.K H x t\/∃a ys,x= .ref a/\cP X.K H a ys/\t= .type "tuple")/\PySem.W.kitOne X.K t (.type n)=some b/\Q (.bl b) H):=by
 intro pins s σ H xs us Q I r h
 obtain⟨x,n,t,b,rfl,ty,e,q⟩:=h
 obtain⟨u,w',rfl,rx,rn⟩:=vals2 r
 cases rn
 rcases ty with ty|⟨a,ys,rfl,hs,rfl⟩
 ·exact TK.bS (Nat.le_refl s.toks) (Ic I rx ty e λtk hup=>⟨.bl b,H,I.tok _,rfl,q⟩)
 ·cases (show u=Value.ref a from rx)
  obtain⟨its,_,⟨o,h1,h2,_⟩,_⟩:=I.tuple hs
  exact TK.bS (Nat.le_refl s.toks) (PySem.W.kia_one PySem.W.kitx_tuple I.pB ⟨o,h1,h2⟩ e (λz=>nomatch z) λtk hup=>⟨.bl b,H,I.tok _,rfl,q⟩)
end L2
namespace GP
open PySem L2 sJ
theorem kh{K:PySem.W.Frag}{t:Value}:PySem.W.kitOne K t t=some true:=by unfold PySem.W.kitOne;rw[if_pos (by simp)]
theorem tM{K:PySem.W.Frag}:PySem.W.kitOne K (.type "int") (.type "bool")=some false:=by kernel_rfl
theorem tL{K:PySem.W.Frag}:PySem.W.kitOne K (.type "int") (.type "list")=some false:=by kernel_rfl
theorem rD{K:PySem.W.Frag}:PySem.W.kitOne K (.type "int") (.type "tuple")=some false:=by kernel_rfl
theorem vd{K:PySem.W.Frag}:PySem.W.kitOne K (.type "int") (.type "str")=some false:=by kernel_rfl
theorem ny{K:PySem.W.Frag}:PySem.W.kitOne K (.type "tuple") (.type "list")=some false:=by kernel_rfl
def Wo(t:Addr)(H:Hp):Hp:=λb=>if b=t then none else H b
theorem Wo.sub{t:Addr}{H:Hp}:ai (Wo t H) H:=λb u h=>by
 unfold Wo at h
 by_cases e:b=t
 ·rw[if_pos e]at h;cases h
 ·rw[if_neg e]at h;exact h
theorem Wo.ne{t:Addr}{H:Hp}{b:Addr}{u:HO}(h:Wo t H b=some u):b≠t:=λe=>by
 unfold Wo at h
 rw[if_pos e]at h;cases h
theorem Wo.in{t:Addr}{H:Hp}{b:Addr}{u:HO}(n:b≠t)(h:H b=some u):Wo t H b=some u:=by
 unfold Wo
 rw[if_neg n];exact h
theorem Wo.free{t:Addr}{H:Hp}{b:Addr}(h:H b=none):Wo t H b=none:=by
 unfold Wo
 split
 ·rfl
 ·exact h
theorem Wo.set{t:Addr}{H:Hp}{o:HO}:Wo t (L2.upd H t o)=Wo t H:=by
 funext b
 unfold Wo
 by_cases e:b=t
 ·rw[if_pos e,if_pos e]
 ·rw[if_neg e,if_neg e,au e]
theorem Wo.same{t:Addr}{H H':Hp}(e:ai H H'):ai (Wo t H) (Wo t H'):=λb u h=>Wo.in (Wo.ne h) (e b u (Wo.sub b u h))
theorem Wo.upd{t:Addr}{H:Hp}{o:HO}:ai (Wo t H) (L2.upd H t o):=λb u h=>by rw[au (Wo.ne h)];exact Wo.sub b u h
theorem wJ{H:Hp}{t r:Addr}{o:HO}(h:L2.upd H t o r=none):H r=none:=by
 by_cases e:r=t
 ·rw[e,af]at h;cases h
 ·rw[au e]at h;exact h
structure wC(K:PySem.W.Frag)(H:Hp)(s t:Addr)(ns:List Int)(k:Int):Prop where
 sq:bZ K (Wo t H) s (ns.map V.int)
 len:ns.length<=63
 at_:H t=some (.lst [.int k])
 k0:0<=k
theorem wC.S9{K:PySem.W.Frag}{H:Hp}{s t:Addr}{ns:List Int}{k:Int}(c:wC K H s t ns k)(o:HO):bZ K (L2.upd H t o) s (ns.map V.int):=ai.seq Wo.upd c.sq
theorem wC.same{K:PySem.W.Frag}{H H':Hp}{s t:Addr}{ns:List Int}{k:Int}(c:wC K H s t ns k)(e:ai H H'):wC K H' s t ns k:=⟨ai.seq (Wo.same e) c.sq,c.len,e _ _ c.at_,c.k0⟩
theorem wC.step{K:PySem.W.Frag}{H:Hp}{s t:Addr}{ns:List Int}{k k':Int}(c:wC K H s t ns k)(h:0<=k'):wC K (L2.upd H t (.lst [.int k'])) s t ns k':=⟨by rw[Wo.set];exact c.sq,c.len,af,h⟩
theorem wC.off{K:PySem.W.Frag}{H H':Hp}{s t:Addr}{ns:List Int}{k k':Int}(c:wC K H s t ns k)(e:ai (Wo t H) (Wo t H'))(h:H' t=some (.lst [.int k']))(h0:0<=k'):wC K H' s t ns k':=⟨ai.seq e c.sq,c.len,h,h0⟩
theorem xW{c:Int}(h1: -(10 ^ 40)<=c)(h2:c<=10 ^ 40):Sm c:=by
 have h:c.natAbs<=10 ^ 40:=by omega
 have h3:(10:Nat) ^ 40<2 ^ 200:=by decide
 exact Nat.lt_of_le_of_lt h h3
def Mf(f:cu):Prop:=1<=f.2/\f.2<=999/\Sm f.1
theorem Mf.h{f:cu}(h:Mf f):Vp f:=⟨⟨h.1,by have:=h.2.1;omega⟩,h.2.2⟩
def pW(K:PySem.W.Frag):Sp:=λvs H Q _=>∃(s t:Addr) (ns:List Int) (k:Int),vs=[.ref s,.ref t]/\wC K H s t ns k/\k<=100000 ∧
 ∀m:Int,0<=m->m<1999999973->Q (.int m) (L2.upd H t (.lst [.int (k+1)]))
structure ue(K:PySem.W.Frag)(H:Hp)(l:Addr)(rs:List Addr)(rows:List (List cu)):Prop where
 len:rs.length=rows.length
 at_:H l=some (.lst (rs.map V.ref))
 nd:rs.Nodup
 nl:l∉rs
 row:∀(i:Nat) r row,rs[i]? =some r->rows[i]? =some row->∃ps:List Addr,H r=some (.lst (ps.map V.ref))/\Paired (ku K H) ps row
theorem ue.same{K:PySem.W.Frag}{H H':Hp}{l:Addr}{rs:List Addr}{rows:List (List cu)}(e:ai H H')(h:ue K H l rs rows):ue K H' l rs rows :=
 ⟨h.len,e _ _ h.at_,h.nd,h.nl,λi r row h1 h2=>by
  obtain⟨ps,a,b⟩:=h.row i r row h1 h2
  exact⟨ps,e _ _ a,Paired.g8 b λ_ _ z=>z.same e⟩⟩
theorem uz{α β:Type}{F:α->β->Prop}:∀{l₁:List α} {l₂:List β},l₁.length=l₂.length->(∀(i:Nat) x y,l₁[i]? =some x->l₂[i]? =some y->F x y)->Paired F l₁ l₂
 |[],[],_,_=>.nil
 |x::l₁,y::l₂,hl,h=>.cons (h 0 x y rfl rfl) (uz (by simpa using hl) λi a b h1 h2=>h (i+1) a b h1 h2)
theorem ue.YM{K:PySem.W.Frag}{H:Hp}{l:Addr}{rs:List Addr}{rows:List (List cu)}(h:ue K H l rs rows):IS K H (.lst l) rows:=by
 refine⟨λx z=>(by cases z),rs.map Cp.lst,λd hd x z=>?_,?_,?_⟩
 ·obtain⟨q,_,e⟩:=List.mem_map.mp hd
  rw[←e]at z
  cases z
 ·rw[List.map_map]
  exact bZ.of h.at_
 ·refine rW (uz h.len λi r row h1 h2=>?_)
  obtain⟨ps,a,b⟩:=h.row i r row h1 h2
  exact⟨ps,bZ.of a,b⟩
end GP
namespace L2
open PySem PySem.Spec PyProof.Rows
set_option maxHeartbeats 2000000 in
theorem z6{X:Cx}{elt tg iter:Expr}{scope:Scope}{pos pos':Pos}{wi:TI}{g:TG}{te:TE}{N:List Str}{oA:St->St}(hc:X.calm=true)(hS:X.Ok->∃cl,dm X scope cl N oA)(hi:PI X tg iter wi)
  (hg:∀cl C s H ex pn E,PG (jt X scope cl C N s H ex pn E) tg g) (he:∀cl C s H ex pn E,PE (jt X scope cl C N s H ex pn E) elt te) (hs:∀x,foldedSetIterable iter X.env x=pure x)
  {pins:List (Addr×Obj)} {s:Shared} {σ:St} {H:Hp} {Q:VK} {use:Option (Value->Sem Unit)} {QQ:Value->Shared->Prop} (I:Inv X pins σ H s) (h:Jv wi g te oA σ H Q)
  (RG:∀(l C:Addr) (mC:Str->Option Value) (H':Hp) (s':Shared),Inv X pins σ H' s'->pL X pins H' C->s'.heap.Ns C mC->Q (.ref l) H'->compPost (model X.prog X.w) X.A X.xe use QQ (.ref l) C (.ok .next) s') :
  wpAny (model X.prog X.w) X.A (comprehension (.ListComp elt [⟨tg,iter,[],0⟩] scope pos) scope X.env pos' (newList []) false (eval iter X.env) use) QQ X.xe s:=by
 obtain⟨cl,S⟩:=hS I.ok
 refine wpAny_comprehension_free (use:=use) rfl hs S.clos S.kind S.names (dw (hi pins s σ H _ I h) λv s1 h1=>dw h1 λitv s2 h2=>?_)
 obtain⟨it,fp,tn,J,H2,e,I2,T,st2,f2,hq⟩:=h2
 subst e
 obtain⟨W,⟨m0,w0⟩,turn⟩:=hq _ I2.fresh
 refine wpAny_newObj_type (DF S λBa h₁ G E7 kp=>?_)
 have I3:Inv X pins σ (upd H2 s2.heap.objs.size (.lst [])) { s2 with heap:=s2.heap.push { cls:=.type "list",data:=.seq ([]:List Value).toArray } }:=I2.TQ (t':=s2.toks) .nil (Nat.zero_le _)
 have CL:∀b o,s2.heap.get? b=some o->(s2.heap.push { cls:=.type "list",data:=.seq ([]:List Value).toArray }).get? b=some o:=λb o e=>Heap.get?_push_of_some _ e
 have f3:∀b∈fp,pL X pins (upd H2 s2.heap.objs.size (.lst [])) b/\b<(s2.heap.push { cls:=.type "list",data:=.seq ([]:List Value).toArray }).objs.size:=λb hb=>by
  obtain⟨o,ho,_⟩:=T.obj _ _ st2 b hb
  have hlt:=Heap.lt_size ho
  obtain⟨f0,f1⟩:=f2 b hb
  exact⟨⟨by rw[au (Nat.ne_of_lt hlt)];exact f0,f1⟩,Heap.lt_size (CL b o ho)⟩
 have st3:tn 0 h₁:=T.keep _ _ _ st2 λb _ o e=>kp b o (CL b o e)
 generalize hR:(λr s'=>compPost (model X.prog X.w) X.A X.xe use QQ (.ref s2.heap.objs.size) (s2.heap.push { cls:=.type "list",data:=.seq ([]:List Value).toArray }).objs.size r s')=R
 generalize q8:jt X scope Ba (s2.heap.push { cls:=.type "list",data:=.seq ([]:List Value).toArray }).objs.size N { s2 with heap:=s2.heap.push { cls:=.type "list",data:=.seq ([]:List Value).toArray } }
  (upd H2 s2.heap.objs.size (.lst [])) fp (X.pn++pins) (notedBy (model X.prog X.w) X.A (compEnvC scope Ba (s2.heap.push { cls:=.type "list",data:=.seq ([]:List Value).toArray }).objs.size X.env) λe s'=>R (.error e) s')=X'
 have I4:Inv X' [] (oA σ) (upd H2 s2.heap.objs.size (.lst [])) { s2 with heap:=h₁ }:=by
  subst q8
  exact Dj (s:={ s2 with heap:=s2.heap.push { cls:=.type "list",data:=.seq ([]:List Value).toArray } }) S G I3 f3 kp E7 s2.toks
 have PG':PG X' tg g:=by subst q8;exact hg _ _ _ _ _ _ _
 have PE':PE X' elt te:=by subst q8;exact he _ _ _ _ _ _ _
 have stat:∀{H':Hp},(∀b∈fp,H' b=none)->∀b∈fp,pL X' [] H' b:=λhn b hb=>by
  subst q8
  obtain⟨⟨_,f1,fn,_,f4,f5⟩,lt⟩:=f3 b hb
  refine⟨hn b hb,Nat.ne_of_lt lt,λz=>?_,.inl hb,λx c e=>(G.look x c e).elim (λz=>Nat.ne_of_gt (Nat.lt_trans lt z.1)) λz=>f4 x c (S.sub x c z),λp hp=>f5 p ?_⟩
  ·rcases List.mem_cons.mp (I3.rO b z)with q|q
   ·exact f1 q
   ·exact fn q
  ·rcases List.mem_append.mp hp with z|z
   ·exact z
   ·cases z
 have hp1:X'.prog=X.prog:=by subst q8;rfl
 have hp2:X'.w=X.w:=by subst q8;rfl
 have hp3:X'.K=X.K:=by subst q8;rfl
 have UJ:X'.calm=true:=by subst q8;exact hc
 have I9:X'.A=X.A:=by subst q8;rfl
 have Rx:X'.env=compEnvC scope Ba (s2.heap.push { cls:=.type "list",data:=.seq ([]:List Value).toArray }).objs.size X.env:=by subst q8;rfl
 have Oi:X'.xe=notedBy (model X.prog X.w) X.A X'.env λe s'=>R (.error e) s':=by subst q8;rfl
 have fin:∀{H':Hp} {s':Shared},Inv X' [] (oA σ) H' s'->Q (.ref s2.heap.objs.size) H'->R (.ok .next) s':=by
  intro H' s' I5 q
  subst hR
  obtain⟨mC,UN,_⟩:=I5.loc
  rw[Rx]at UN
  have hok:mQ X.prog X.w H' s'.heap:=by
   have z:=I5.hok
   rw[hp1,hp2]at z
   exact z
  have u:Un (frs X.stack) fp (upd H2 s2.heap.objs.size (.lst [])) H' (s2.heap.push { cls:=.type "list",data:=.seq ([]:List Value).toArray }) s'.heap:=by
   have z:=I5.base
   subst q8
   exact z
  have hC:H' (s2.heap.push { cls:=.type "list",data:=.seq ([]:List Value).toArray }).objs.size=none:=by
   have zf:=I5.free
   rw[Rx]at zf
   exact zf
  refine RG _ _ mC H' s' (I3.LD (ch:=fp) (s':=s') (by have z:=I5.os;subst q8;exact z) u hok I5.bare (λb hb=>?_) (by have z:=I5.up;subst q8;exact Nat.le_trans I3.up z)) (I3.sC (Nat.le_refl _) hC) UN q
  obtain⟨⟨_,f1,_,ZV,f4,f5⟩,_⟩:=f3 b hb
  exact⟨ZV,f1,f4,f5⟩
 have loop:∀s3:Shared,Inv X' [] (oA σ) (upd H2 s2.heap.objs.size (.lst [])) s3->tn 0 s3.heap →
   codeAny (model X.prog X.w) X.A (.compLoop (.ListComp elt [⟨tg,iter,[],0⟩] scope pos) 0 (.ref it) (.ref s2.heap.objs.size) X'.env) R s3:=by
  intro s3 J3 t3
  refine codeAny_loop rfl (λn s'=>∃i ys H',Inv X' [] (oA σ) H' s'/\tn i s'.heap/\(∀b∈fp,H' b=none)/\W i n ys H') ?_ m0 ⟨0,[],_,J3,t3,λb hb=>(f3 b hb).1.1,w0⟩
  rintro n s4 ⟨i,ys,H4,J4,t4,n4,w4⟩
  show wpAny _ _ ((compTurn (.ListComp elt [⟨tg,iter,[],0⟩] scope pos) 0 (.ref it) (.ref s2.heap.objs.size) X'.env).onRaise (λx=>do noteFrame x X'.env;theTreesLotGoes x)) _ _ s4
  refine wpAny_noted ?_
  rw[compTurn_list1]
  refine wpAny_bind (wpAny_standAt (wpAny_bind ?_))
  rcases turn i n ys H4 w4 with⟨stop,q⟩|⟨go,step⟩
  ·have z:=T.done X' hp1 hp2 hp3 UJ i [] s4 (oA σ) H4 (notedBy (model X.prog X.w) X.A X'.env λe s'=>R (.error e) s') J4 (stat n4) t4 stop
   rw[I9]at z
   refine wpAny_mono z (λr s5 ⟨hr,J5⟩=>?_) λ_ _ x=>x
   subst hr
   exact wpAny_pure (fin J5 q)
  ·have z:=T.item X' hp1 hp2 hp3 UJ i [] s4 (oA σ) H4 (notedBy (model X.prog X.w) X.A X'.env λe s'=>R (.error e) s') J4 (stat n4) t4 go
   rw[I9]at z
   refine wpAny_mono z (λr s5 ⟨u,hr,h5⟩=>?_) λ_ _ x=>x
   subst hr
   refine wpAny_bind (wpAny_mono h5 (λ_ s6 ⟨x,H6,J6,r6,y6,t6,n6⟩=>?_) λ_ _ x=>x)
   have J6':=J6.pinned (stat n6) (T.obj _ _ t6)
   have zg:=PG' _ s6 (oA σ) H6 x u _ J6' r6 (step x H6 y6)
   rw[hp1,hp2,I9,Oi]at zg
   refine wpAny_bind (wpAny_mono zg (λ_ s7 ⟨BS,H7,J7,k7,q7⟩=>?_) λ_ _ x=>x)
   have ze:=PE' _ s7 BS H7 _ J7 q7
   rw[hp1,hp2,I9,Oi]at ze
   refine wpAny_bind (wpAny_bind (wpAny_mono ze (λyv s8 ⟨y,H8,J8,r8,e8,z8,m',hm,w8⟩=>?_) λ_ _ x=>x))
   have za:=cE (X:=X') _ s8 BS H8 (.ref s2.heap.objs.size) [y] (.ref s2.heap.objs.size) [yv] (λ_ H9=>H9=upd H8 s2.heap.objs.size (.lst (ys++[y]))) J8 rfl (.cons r8 .nil) ⟨_,ys,y,rfl,rfl,e8,z8,rfl⟩
   rw[hp1,hp2,I9,Oi]at za
   refine wpAny_bind (wpAny_mono za (λ_ s9 ⟨_,H9,J9,_,e9⟩=>?_) λ_ _ x=>x)
   subst e9
   refine wpAny_pure (wpAny_pure ⟨rfl,m',hm,i+1,ys++[y],_,?_,?_,?_,w8⟩)
   ·refine J9.Jk.weak ?_ ?_
    ·rw[S.len,J9.len]
     subst q8
     rfl
    ·exact k7
   ·exact T.keep _ _ _ t6 λb hb o e=>(J9.pin (b,o) (List.mem_append_right _ (List.mem_append_right _ (iu hb e)))).1
   ·intro b hb
    obtain⟨o,e,d⟩:=T.obj _ _ t6 b hb
    exact(J9.pin (b,o) (List.mem_append_right _ (List.mem_append_right _ (iu hb e)))).2.1
 have l0:=loop _ I4 st3
 have l1:=codeAny_compStart_list l0 (T.self X.A 0 _ _ _ st3 l0)
 rw[Rx]at l1
 subst hR
 exact l1
theorem o9{X:Cx}{elt tg iter:Expr}{scope:Scope}{pos:Pos}{wi:TI}{g:TG}{te:TE}{N:List Str}{oA:St->St}(hc:X.calm=true)(hS:X.Ok->∃cl,dm X scope cl N oA)(hi:PI X tg iter wi)
  (hg:∀cl C s H ex pn E,PG (jt X scope cl C N s H ex pn E) tg g) (he:∀cl C s H ex pn E,PE (jt X scope cl C N s H ex pn E) elt te)
  (hs:∀x,foldedSetIterable iter X.env x=pure x:=by intro _;rfl):PE X (.ListComp elt [⟨tg,iter,[],0⟩] scope pos) (Jv wi g te oA):=by
 intro pins s σ H Q I h
 rw[eval_ListComp]
 refine z6 (use:=none) (QQ:=EP X pins σ Q) hc hS hi hg he hs I h ?_
 intro l C mC H' s' I' fp hn q
 exact⟨mC,hn,λh' sb=>⟨.ref l,H',I'.moved (ch:=[C]) (t':=s'.toks) (λb o hb e=>(sb.2 b (by simpa using hb)).trans e) (λb hb=>by rw[List.mem_singleton.mp hb];exact fp),rfl,q⟩⟩
theorem xh{X:Cx}{i:Nat}{y:Str}{py spos:Pos}{elt tg iter:Expr}{scope:Scope}{pos:Pos}{wi:TI}{g:TG}{te:TE}{N:List Str}{oA:St->St}(hN:X.N.Nodup)(hi:X.N[i]? =some y)(hx:Loc X.env.scope y)
  (hc:X.calm=true) (hS:X.Ok->∃cl,dm X scope cl N oA) (hit:PI X tg iter wi)
  (hg:∀cl C s H ex pn E,PG (jt X scope cl C N s H ex pn E) tg g) (he:∀cl C s H ex pn E,PE (jt X scope cl C N s H ex pn E) elt te)
  (hsw:swapsWith (.ListComp elt [⟨tg,iter,[],0⟩] scope pos) (some (.Name y py)) spos.line X.env=pure true:=by rfl)
  (hf:X.fn y=true\/X.env.scope.names.lookup y=some .local:=by first|exact .inl rfl|exact .inr rfl|assumption)
  (hs:∀x,foldedSetIterable iter X.env x=pure x:=by intro _;rfl):PS X (.Assign [.Name y py] (.ListComp elt [⟨tg,iter,[],0⟩] scope pos) spos) (QD (Jv wi g te oA) (Lj i)):=by
 intro pins s σ H D I h
 rw[exec_Assign_Name_used _ _ _ _ hsw]
 refine wpAny_bind (wpAny_standAt (wpAny_bind ?_))
 show wpAny _ X.A (do let _ ←comprehension (.ListComp elt [⟨tg,iter,[],0⟩] scope pos) scope X.env _ (newList []) false (eval iter X.env) (some (assign (.Name y py) X.env))) _ _ s
 refine wpAny_bind (wpAny_mono (z6 (use:=some (assign (.Name y py) X.env)) (QQ:=λ_ s'=>SP X pins D .next s') hc hS hit hg he hs I h ?_) (λ_ s' hq=>wpAny_pure (wpAny_pure hq)) λ_ _ e=>e)
 intro l C mC H' s' I' fp hn q
 show wpAny _ X.A (assign (.Name y py) X.env (.ref l)) _ _ _
 refine wpAny_assign_Name (zE I' hN hi hx (v:=.ref l) rfl (λs2 I2 sb=>?_) hf)
 obtain⟨a,sb,ha⟩:=sb
 have nC:C≠a:=by
  obtain⟨_,f1,_,_,f4,_⟩:=fp
  rcases ha with z|z
  ·rw[z];exact f1
  ·exact λe=>f4 y a z e.symm
 refine⟨mC,hn.sameBut sb nC,λh' sb2=>?_⟩
 refine⟨_,H',I2.moved (ch:=[C]) (t':=s2.toks) (λb o hb e=>(sb2.2 b (by simpa using hb)).trans e) (λb hb=>?_),q⟩
 rw[List.mem_singleton.mp hb]
 exact fp
end L2
namespace L2
open PySem PySem.Spec PyProof.Rows
theorem Nc{X:Cx}{K':PySem.W.Frag}(hK:X.K=K'):Vu X (Tn K'):=by subst hK;exact bK
end L2
namespace GP
open PySem L2 sJ
theorem Wo.au{t q:Addr}{H:Hp}{o:HO}(n:q≠t):Wo t (L2.upd H q o)=L2.upd (Wo t H) q o:=by
 funext b
 by_cases e:b=q
 ·subst e
  rw[L2.af]
  unfold Wo
  rw[if_neg n,L2.af]
 ·rw[L2.au e]
  unfold Wo
  split
  ·rfl
  ·rw[L2.au e]
theorem Wo.step{t:Addr}{H H':Hp}{o:HO}(e:ai (L2.upd H t o) H'):ai (Wo t H) (Wo t H'):=by
 have z:=Wo.same (t:=t) e
 rw[Wo.set]at z
 exact z
theorem Wo.back{t r:Addr}{H H':Hp}{o:HO}(e:ai (Wo t H) (Wo t H'))(ht:H' t=some o)(h:H' r=none):H r=none:=by
 cases q:H r with
 |none=>rfl
 |some u =>
  have n:r≠t:=λz=>by rw[z,ht]at h;cases h
  have z:=Wo.sub _ _ (e r u (Wo.in n q))
  rw[h]at z
  cases z
theorem Paired.S7{α β:Type}{F:α->β->Prop}{x:α}{y:β}:∀{l₁:List α} {l₂:List β} (j:Nat),Paired F l₁ l₂->F x y->Paired F (l₁.set j x) (l₂.set j y)
 |_,_,_,.nil,_=>.nil
 |_,_,0,.cons r t,h=>.cons h t
 |_,_,j+1,.cons r t,h=>.cons r (Paired.S7 j t h)
theorem ue.put{K:PySem.W.Frag}{H:Hp}{l r p:Addr}{rs ps:List Addr}{rows:List (List cu)}{row:List cu}{i j:Nat}{f:cu}(h:ue K H l rs rows)(hr:rs[i]? =some r)(K8:rows[i]? =some row)
  (hps:H r=some (.lst (ps.map V.ref))) (hp:Paired (ku K H) ps row) (hf:ku K H p f):ue K (L2.upd H r (.lst ((ps.map V.ref).set j (.ref p)))) l rs (rows.set i (row.set j f)):=by
 have VX:l≠r:=λz=>h.nl (z▸List.mem_of_getElem? hr)
 refine⟨by rw[List.length_set];exact h.len,by rw[L2.au VX];exact h.at_,h.nd,h.nl,λi' r' QM h1 h2=>?_⟩
 have hi:i<rows.length:=(List.getElem?_eq_some_iff.mp K8).1
 by_cases e:i=i'
 ·subst e
  rw[hr]at h1
  cases h1
  rw[List.getElem?_set,if_pos rfl,if_pos hi]at h2
  cases h2
  refine⟨ps.set j p,by rw[L2.af,List.map_set],?_⟩
  exact Paired.g8 (Paired.S7 j hp hf) λ_ _ z=>cP.off hps z
 ·rw[List.getElem?_set,if_neg e]at h2
  obtain⟨ps',a,b⟩:=h.row i' r' QM h1 h2
  have n:r'≠r:=λz=>by
   subst z
   exact e ((List.getElem?_inj (List.getElem?_eq_some_iff.mp hr).1 h.nd).mp (hr.trans h1.symm))
  exact⟨ps',by rw[L2.au n];exact a,Paired.g8 b λ_ _ z=>cP.off hps z⟩
theorem ue.snoc{K:PySem.W.Frag}{H H':Hp}{l r:Addr}{rs ps:List Addr}{rows:List (List cu)}{row:List cu}(h:ue K H l rs rows)(e:ai H H')(hr:H r=none)(hps:H' r=some (.lst (ps.map V.ref)))(hp:Paired (ku K H') ps row):
  ue K (L2.upd H' l (.lst (rs.map V.ref++[.ref r]))) l (rs++[r]) (rows++[row]):=by
 have hl':=e _ _ h.at_
 have VX:r≠l:=λz=>by rw[z,h.at_]at hr;cases hr
 have nin:r∉rs:=λz=>by
  obtain⟨i,hi,ei⟩:=List.getElem_of_mem z
  have hi2:i<rows.length:=by rw[←h.len];exact hi
  obtain⟨ps',a,_⟩:=h.row i r rows[i] (by rw[List.getElem?_eq_getElem hi,ei]) (List.getElem?_eq_getElem hi2)
  rw[hr]at a
  cases a
 refine⟨by rw[List.length_append,List.length_append,h.len];rfl,by rw[L2.af,List.map_append];rfl,?_,?_,λi r' QM h1 h2=>?_⟩
 ·refine List.nodup_append.mpr ⟨h.nd,(by simp),λx hx y hy z=>?_⟩
  rw[List.mem_singleton.mp hy]at z
  exact nin (z▸hx)
 ·intro z
  rcases List.mem_append.mp z with z|z
  ·exact h.nl z
  ·exact VX (List.mem_singleton.mp z).symm
 ·by_cases q:i<rs.length
  ·rw[List.getElem?_append_left q]at h1
   rw[List.getElem?_append_left (by rw[←h.len];exact q)]at h2
   obtain⟨ps',a,b⟩:=h.row i r' QM h1 h2
   have n:r'≠l:=λz=>h.nl (z▸List.mem_of_getElem? h1)
   exact⟨ps',by rw[L2.au n];exact e _ _ a,Paired.g8 b λ_ _ z=>cP.off hl' (z.same e)⟩
  ·have q':rs.length<=i:=Nat.le_of_not_lt q
   rw[List.getElem?_append_right q']at h1
   rw[List.getElem?_append_right (by rw[←h.len];exact q')]at h2
   have z:i-rs.length=0:=by
    have:=(List.getElem?_eq_some_iff.mp h1).1
    simp at this
    omega
   rw[z]at h1
   rw[←h.len,z]at h2
   cases h1
   cases h2
   exact⟨ps,by rw[L2.au VX];exact hps,Paired.g8 hp λ_ _ z=>cP.off hl' z⟩
end GP
namespace GP
open PySem L2 sJ
section
variable{K:PySem.W.Frag}{C:Addr}{H0 H H':Hp}{t l x o m:Addr}{rs:List Addr}{sg:Str}{rows:List (List cu)}{fo fm:cu}{k:Int}
end
end GP
namespace L2
open PySem PySem.Spec PyProof.Rows
section
variable{X:Cx}
end
end L2
namespace GP
open PySem L2 sJ
def TupAt(H:Hp)(q:Addr)(f:cu):Prop:=H q=some (.tup [.int f.1,.int f.2])
theorem TupAt.same{H H':Hp}{q:Addr}{f:cu}(e:ai H H')(h:TupAt H q f):TupAt H' q f:=e _ _ h
theorem TupAt.fr{K:PySem.W.Frag}{H:Hp}{q:Addr}{f:cu}(h:TupAt H q f):ku K H q f:=cP.of h
def Of(sg x:Str):Prop:=∀c∈x.cps.toList,c∈sg.cps.toList
theorem RQ{x:Str}{i c:Nat}(h:x.cps[i]? =some c):i<x.cps.size:=by
 rw[←Array.getElem?_toList]at h
 have:=(List.getElem?_eq_some_iff.mp h).1
 simpa using this
theorem nY{x:Str}{i c:Nat}(h:x.cps[i]? =some c):c∈x.cps.toList:=by
 rw[←Array.getElem?_toList]at h
 exact List.mem_of_getElem? h
theorem jk{x:Str}{i c:Nat}(h:x.cps[i]? =some c):x.cps.toList[i]? =some c:=by
 rw[Array.getElem?_toList];exact h
theorem A9{x:Str}{i:Nat}(h:i<x.cps.size):∃c,x.cps[i]? =some c:=⟨x.cps[i],by simp[h]⟩
def Tq(sg:Str)(rows:List (List cu))(u:Int)(a b:Nat):Int :=
 match (rows[sg.cps.toList.idxOf a]?).bind (·[sg.cps.toList.idxOf b]?)with
 |some f=>f.1*(u / f.2)
 |none=>0
theorem Kn{sg:Str}{rows:List (List cu)}{u:Int}{a b:Nat}(sq:Me sg.cps.size rows)(ha:a∈sg.cps.toList)(hb:b∈sg.cps.toList):
  ∃i j f,sg.cps[i]? =some a/\sg.cps[j]? =some b/\Mg rows i j f/\Tq sg rows u a b=f.1*(u / f.2):=by
 have hi:=List.idxOf_lt_length_iff.mpr ha
 have hj:=List.idxOf_lt_length_iff.mpr hb
 have ei:sg.cps.toList[sg.cps.toList.idxOf a]? =some a:=by rw[List.getElem?_eq_getElem hi,List.getElem_idxOf hi]
 have ej:sg.cps.toList[sg.cps.toList.idxOf b]? =some b:=by rw[List.getElem?_eq_getElem hj,List.getElem_idxOf hj]
 have hi':sg.cps.toList.idxOf a<rows.length:=by rw[sq.1];simpa using hi
 have hj':sg.cps.toList.idxOf b<(rows[sg.cps.toList.idxOf a]).length:=by rw[sq.2 _ (List.getElem_mem hi')];simpa using hj
 refine⟨_,_,(rows[sg.cps.toList.idxOf a])[sg.cps.toList.idxOf b],by rw[←Array.getElem?_toList];exact ei,by rw[←Array.getElem?_toList];exact ej,⟨_,List.getElem?_eq_getElem hi',List.getElem?_eq_getElem hj'⟩,?_⟩
 unfold Tq
 rw[List.getElem?_eq_getElem hi']
 show(match (rows[sg.cps.toList.idxOf a])[sg.cps.toList.idxOf b]? with|some f=>f.1*(u / f.2)|none=>0)=_
 rw[List.getElem?_eq_getElem hj']
def jU(u:Int)(f:cu):Int:=f.1*(u / f.2)
def Ax(K:PySem.W.Frag)(C:Addr):Sp:=λvs H Q _=>∃(x:Addr) (sg:Str) (rows:List (List cu)) (fo fm:cu) (a b:Str),vs=[.ref x,.str a,.str b]/\nB K C H x sg rows fo fm ∧
 Q (.int (if a=b then jU (bO fo.2 fm.2 rows) fm else jU (bO fo.2 fm.2 rows) fo+jU (bO fo.2 fm.2 rows) fm)) H
end GP
namespace GP
open PySem L2 sJ
theorem cP.wo{K:PySem.W.Frag}{H:Hp}{t a:Addr}{ys xs:List V}(ht:H t=some (.lst ys))(h:cP K H a xs):cP K (Wo t H) a xs:=by
 rcases h with(h|⟨u,h⟩)|h
 ·exact .inl (.inl (Wo.in (qg h ht (by intro z;cases z)) h))
 ·exact .inl (.inr ⟨u,Wo.in (qg h ht (by intro z;cases z)) h⟩)
 ·exact .inr h
theorem nB.wo{K:PySem.W.Frag}{C:Addr}{H:Hp}{t x:Addr}{ys:List V}{sg:Str}{rows:List (List cu)}{fo fm:cu}(ht:H t=some (.lst ys))(nf:LS H x t)(h:nB K C H x sg rows fo fm):nB K C (Wo t H) x sg rows fo fm:=by
 obtain⟨a,b,c,d,f,g,i,dx,P,o,m,dd,kvs,h1,⟨qs,h2,h2'⟩,h3,h4,h5,h6,fs,h7,h8,h9⟩:=h
 have n:dd.2≠t:=λz=>nf _ _ _ h1 (by rw[pH,z])
 refine⟨a,b,c,d,f,g,i,dx,P,o,m,dd,kvs,Wo.in (qg h1 ht (by intro z;cases z)) h1,⟨qs,cP.wo ht h2,Paired.g8 h2' λq r z=>?_⟩,cP.wo ht h3,cP.wo ht h4,Wo.in (qg h5 ht (by intro z;cases z)) h5,h6,fs,h7,h8,Wo.in n h9⟩
 obtain⟨ps,z1,z2⟩:=z
 exact⟨ps,cP.wo ht z1,Paired.g8 z2 λ_ _ y=>cP.wo ht y⟩
end GP
namespace L2
open PySem PySem.Spec PyProof.Rows
def FU(h:Heap)(φ:Addr->Prop)(ea:Addr)(cls:Value)(od:Option Addr):Prop :=
 φ ea/\∃vs sl,h.get? ea=some ⟨cls,od,.fields vs,sl⟩/\(od=none->vs[2]? =some .none)/\(vs[1]? =some .none ∨
  ∃T oT ts,vs[1]? =some (.ref T)/\T≠ea/\φ T/\h.get? T=some oT/\oT.data= .fields ts/\3<ts.size)
def zo(h:Heap)(φ:Addr->Prop)(ea:Addr)(cls:Value)(od:Option Addr):Prop :=
 φ ea/\∃vs sl,h.get? ea=some ⟨cls,od,.fields vs,sl⟩/\(od=none->vs[2]? =some .none) ∧
  ∃T oT ts,vs[1]? =some (.ref T)/\T≠ea/\φ T/\h.get? T=some oT/\oT.data= .fields ts/\3<ts.size
theorem zo.n{h:Heap}{φ:Addr->Prop}{ea:Addr}{cls:Value}{od:Option Addr}(x:zo h φ ea cls od):FU h φ ea cls od:=by
 obtain⟨p,vs,sl,e,c2,t⟩:=x
 exact⟨p,vs,sl,e,c2,.inr t⟩
theorem FU.to{h:Heap}{φ ψ:Addr->Prop}{ea:Addr}{cls:Value}{od:Option Addr}(x:FU h φ ea cls od)(m:∀b,φ b->ψ b):FU h ψ ea cls od:=by
 obtain⟨p,vs,sl,e,c2,t⟩:=x
 refine⟨m _ p,vs,sl,e,c2,?_⟩
 rcases t with t|⟨T,oT,ts,a,b,c,d⟩
 ·exact .inl t
 ·exact .inr ⟨T,oT,ts,a,b,m _ c,d⟩
structure nZ(fr:List Addr)(φ:Addr->Prop)(h h':Heap):Prop where
 keep:∀b o,h.get? b=some o->¬ φ b->b∉fr->h'.get? b=some o
 slot:∀b o,h.get? b=some o->¬ φ b->∃sl,h'.get? b=some { o with slots:=sl }
 there:∀b o,h.get? b=some o->∃o',h'.get? b=some o'
 size:h.objs.size<=h'.objs.size
theorem nZ.refl{fr:List Addr}{φ:Addr->Prop}{h:Heap}:nZ fr φ h h:=⟨λ_ _ e _ _=>e,λ_ o e _=>⟨o.slots,e⟩,λ_ o e=>⟨o,e⟩,Nat.le_refl _⟩
theorem nZ.trans{fr:List Addr}{φ:Addr->Prop}{h h1 h2:Heap}(a:nZ fr φ h h1)(b:nZ fr φ h1 h2):nZ fr φ h h2 where
 keep:=λc o e n f=>b.keep c o (a.keep c o e n f) n f
 slot:=λc o e n=>by
  obtain⟨sl,e1⟩:=a.slot c o e n
  obtain⟨IY,e2⟩:=b.slot c _ e1 n
  exact⟨IY,e2⟩
 there:=λc o e=>by
  obtain⟨o',e1⟩:=a.there c o e
  exact b.there c o' e1
 size:=Nat.le_trans a.size b.size
section
variable{M:Model}{A:Around}{E:Value->Shared->Prop}{s:Shared}{base:Heap}{env e0:Env}{r:List Env}{L ea:Addr}{φ:Addr->Prop}{cls:Value}{od:Option Addr}
theorem Dt{Q:Value->Shared->Prop}(hs:A.frames=some (e0::r))(hl:s.heap.FunFrames base (e0::r))(h0:e0.frame=some L)(he:env.frame=some L)
  (h:∀h',Heap.SlotsOnly ((e0::r).filterMap (·.frame)) s.heap h'->Q (.ref L) { s with heap:=h' }):wpAny M A (PySem.frameOf env) Q E s:=by
 unfold PySem.frameOf
 refine wpAny_bind (wpAny_frameEnvs hs ?_)
 rw[show((e0::r).dropWhile λx=>x.frame != env.frame)=e0::r by simp[List.dropWhile,h0,he]]
 unfold frameObject
 refine wpAny_bind (wpAny_bind (wpAny_readyFrames_fun hl λh1 k1=>wpAny_pure ?_))
 rw[h0]
 exact wpAny_pure (h h1 k1)
theorem z0{vs:Array Value}{sl:Array (Option Value)}{head:Value}{hadNext:Bool}{Q:Unit->Shared->Prop}(hs:A.frames=some (e0::r))(hl:s.heap.FunFrames base (e0::r))(h0:e0.frame=some L)(hf:env.frame=some L)
  (pe:φ ea) (he:s.heap.get? ea=some ⟨cls,od,.fields vs,sl⟩) (h1:1<vs.size) (h2:od=none->vs[2]? =some .none) (new:∀b,s.heap.objs.size<=b->φ b)
  (q:∀h',nZ (frs (e0::r)) φ s.heap h'->zo h' φ ea cls od->Q () { s with heap:=h' }) :
  wpAny M A (do let a ←PySem.frameOf env;let pl ←entryPlaceOf L hadNext;let b ←EntryCells.newEntry head a .none (rawInt L) .none pl;setField (.ref ea) 1 b) Q E s:=by
 have nfr:ea∉(e0::r).filterMap (·.frame):=λhm=>by
  obtain⟨_,o,ho,nf⟩:=hl.mem hm
  rw[he]at ho
  cases ho
  exact nf vs rfl
 refine wpAny_bind (Dt hs hl h0 hf λg k=>?_)
 refine wpAny_bind (wpAny_entryPlaceOf λpl pk=>?_)
 simp only[EntryCells.newEntry,newFields]
 refine wpAny_bind (wpAny_newObj_type ?_ (pk.sizeOk5 _ _ _ _ _))
 have e1:g.get? ea=some ⟨cls,od,.fields vs,sl⟩:=(k.2.1 ea nfr).trans he
 have ne:g.objs.size≠ea:=Nat.ne_of_gt (Heap.lt_size e1)
 generalize hob:({ cls:=.type "traceback",dict:=none,data:=.fields ([head,.ref L,.none,rawInt L,.none]++(if pl.isEmpty then List.replicate 6 Value.none else pl)).toArray }:Obj)=ob
 have e2:=Heap.get?_push_of_some (h:=g) ob e1
 refine wpAny_setField e2 rfl h1 (q _ ⟨λb o e n f=>?_,λb o e n=>?_,λb o e=>?_,?_⟩ ⟨pe,_,sl,Heap.get?_update_self _ e2 rfl,λz=>(Array.getElem?_setIfInBounds_ne (by decide)).trans (h2 z),g.objs.size,ob,_,?_,ne,new _ (Nat.le_of_eq k.1.symm),?_,by subst hob;rfl,?_⟩)
 ·have be:b≠ea:=λz=>n (z▸pe)
  rw[Heap.get?_update_other _ _ (Ne.symm be)]
  exact Heap.get?_push_of_some _ ((k.2.1 b f).trans e)
 ·have be:b≠ea:=λz=>n (z▸pe)
  obtain⟨IY,e'⟩:=k.2.2 b o e
  refine⟨IY,?_⟩
  rw[Heap.get?_update_other _ _ (Ne.symm be)]
  exact Heap.get?_push_of_some _ e'
 ·by_cases be:b=ea
  ·subst be
   exact⟨_,Heap.get?_update_self _ e2 rfl⟩
  ·obtain⟨IY,e'⟩:=k.2.2 b o e
   exact⟨{ o with slots:=IY },(Heap.get?_update_other _ _ (Ne.symm be)).trans (Heap.get?_push_of_some _ e')⟩
 ·rw[Heap.size_after_update,Heap.size_push,k.1]
  exact Nat.le_succ _
 ·simp[h1]
 ·rw[Heap.get?_update_other _ _ (Ne.symm ne)]
  exact Heap.get?_push_size _ (by subst hob;rfl)
 ·rw[List.size_toArray,List.length_append]
  exact Nat.lt_of_lt_of_le (by decide:3<5) (Nat.le_add_right _ _)
theorem CZ{Q:Unit->Shared->Prop}(hs:A.frames=some (e0::r))(hl:s.heap.FunFrames base (e0::r))(h0:e0.frame=some L)(hf:env.frame=some L)
  (x:FU s.heap φ ea cls od) (new:∀b,s.heap.objs.size<=b->φ b) (q:∀h',nZ (frs (e0::r)) φ s.heap h'->zo h' φ ea cls od->Q () { s with heap:=h' }) :
  wpAny M A (noteFrame (.ref ea) env) Q E s:=by
 obtain⟨pe,vs,sl,he,c2,hv⟩:=x
 unfold noteFrame
 simp only[hf]
 rcases hv with h1|⟨T,oT,ts,h1,ne,pT,hT,hd,h3⟩
 ·refine wpAny_bind (wpAny_field he rfl h1 ?_)
  rw[if_neg (by decide)]
  exact z0 hs hl h0 hf pe he (Array.getElem?_eq_some_iff.mp h1).1 c2 new q
 ·have g3:ts[3]? =some ts[3]:=Array.getElem?_eq_getElem h3
  refine wpAny_bind (wpAny_field he rfl h1 ?_)
  rw[if_pos (show(Value.ref T != Value.none)=true by simp)]
  refine wpAny_bind (wpAny_field hT hd g3 ?_)
  by_cases e3:(ts[3]==rawInt L)=true
  ·rw[if_pos e3]
   exact wpAny_pure (q s.heap nZ.refl ⟨pe,vs,sl,he,c2,T,oT,ts,h1,ne,pT,hT,hd,h3⟩)
  ·rw[if_neg e3]
   refine wpAny_bind (wpAny_setField hT hd h3 ?_)
   have other:∀b,b≠T->(s.heap.update T (Obj.mapFields (·.setIfInBounds 3 Value.none))).get? b=s.heap.get? b:=λb z=>Heap.get?_update_other _ _ (Ne.symm z)
   have n1:nZ (frs (e0::r)) φ s.heap (s.heap.update T (Obj.mapFields (·.setIfInBounds 3 Value.none))):=by
    refine⟨λb o e n f=>(other b λz=>n (z▸pT)).trans e,λb o e n=>⟨o.slots,(other b λz=>n (z▸pT)).trans e⟩,λb o e=>?_,Nat.le_of_eq (Heap.size_after_update ..).symm⟩
    by_cases z:b=T
    ·subst z
     exact⟨_,Heap.get?_update_self _ hT (Obj.isFreed_of_fields (Obj.data_mapFields hd _))⟩
    ·exact⟨o,(other b z).trans e⟩
   refine z0 (s:={ s with heap:=s.heap.update T (Obj.mapFields (·.setIfInBounds 3 Value.none)) }) hs (hl.of_keeps λb o e nf=>⟨o,(other b λz=>?_).trans e,rfl⟩) h0 hf pe ((other ea (Ne.symm ne)).trans he) (Array.getElem?_eq_some_iff.mp h1).1 c2
    (λb hb=>new b (Nat.le_trans n1.size hb)) λh' n2 x2=>q h' (n1.trans n2) x2
   subst z
   rw[hT]at e
   cases e
   exact nf ts hd
theorem sE{fl:Option Addr}{fr:List Addr}{Q:Unit->Shared->Prop}(x:zo s.heap φ ea cls od)(q:∀h',nZ fr φ s.heap h'->zo h' φ ea cls od->Q () { s with heap:=h' }):
  wpAny M A (setFlight (.ref ea) fl) Q E s:=by
 obtain⟨pe,vs,sl,he,c2,T,oT,ts,h1,ne,pT,hT,hd,h3⟩:=x
 unfold setFlight
 refine wpAny_bind (wpAny_field he rfl h1 ?_)
 rw[if_pos (show(Value.ref T != Value.none)=true by simp)]
 have other:∀(f:Obj->Obj) b,b≠T->(s.heap.update T f).get? b=s.heap.get? b:=λf b z=>Heap.get?_update_other _ _ (Ne.symm z)
 refine wpAny_setField hT hd h3 (q _ ⟨λb o e n f=>(other _ b λz=>n (z▸pT)).trans e,λb o e n=>⟨o.slots,(other _ b λz=>n (z▸pT)).trans e⟩,λb o e=>?_,Nat.le_of_eq (Heap.size_after_update ..).symm⟩
  ⟨pe,vs,sl,(other _ ea (Ne.symm ne)).trans he,c2,T,_,_,h1,ne,pT,Heap.get?_update_self _ hT (Obj.isFreed_of_fields (Obj.data_mapFields hd _)),Obj.data_mapFields hd _,by simp[h3]⟩)
 by_cases z:b=T
 ·subst z
  exact⟨_,Heap.get?_update_self _ hT (Obj.isFreed_of_fields (Obj.data_mapFields hd _))⟩
 ·exact⟨o,(other _ b z).trans e⟩
end
end L2
namespace L2
open PySem PySem.Spec PyProof.Rows
section
variable{X:Cx}{pins:List (Addr×Obj)}{σ:St}{H H':Hp}{s:Shared}
def NC(X:Cx)(pins:List (Addr×Obj))(H:Hp)(b:Addr):Prop :=
 H b=none/\b≠X.env.locals/\b∉X.fs/\(X.s₀.heap.get? b=none\/b∈X.ex)/\(∀x c,X.env.cells.lookup x=some c->c≠b)/\∀p∈X.pn++pins,p.1≠b
theorem Inv.VM{b:Addr}(I:Inv X pins σ H s)(hn:s.heap.get? b=none)(hH:H' b=none):NC X pins H' b:=by
 refine⟨hH,λz=>?_,λz=>?_,?_,λx c e z=>?_,λp hp z=>?_⟩
 ·obtain⟨m,⟨o,_,_,ho,_⟩,_⟩:=I.loc
  rw[←z,hn]at ho
  cases ho
 ·obtain⟨_,o,ho,_⟩:=I.sy.mem z
  rw[hn]at ho
  cases ho
 ·by_cases hx:b∈X.ex
  ·exact .inr hx
  ·left
   cases q:X.s₀.heap.get? b with
   |none=>rfl
   |some o =>
    obtain⟨o',e⟩:=I.base.there b o q hx
    rw[hn]at e
    cases e
 ·obtain⟨v,o,ho,_⟩:=I.cell x c e
  rw[z,hn]at ho
  cases ho
 ·have q:=(I.pin p hp).1
  rw[z,hn]at q
  cases q
theorem Inv.SE{b:Addr}(I:Inv X pins σ H s)(hb:s.heap.objs.size<=b):NC X pins H b:=I.VM (Heap.get?_none_of_le hb) (I.hok.fresh hb)
theorem Un.noted{fs fr ex:List Addr}{H₀:Hp}{h₀ h h':Heap}{φ:Addr->Prop}(u:Un fs ex H₀ H h₀ h)(n:nZ fr φ h h')(new:∀b o,h₀.get? b=some o->b∉ex->¬ φ b)(hf:∀b o,h₀.get? b=some o->b∈fr->b∈fs):Un fs ex H₀ H h₀ h' where
 keep:=λb o e hn nf nx=>n.keep b o (u.keep b o e hn nf nx) (new b o e nx) λz=>nf (hf b o e z)
 slot:=λb o e hn hb nx=>by
  obtain⟨sl,e1⟩:=u.slot b o e hn hb nx
  obtain⟨IY,e2⟩:=n.slot b _ e1 (new b o e nx)
  exact⟨IY,e2⟩
 free:=u.free
 there:=λb o e nx=>by
  obtain⟨o',e1⟩:=u.there b o e nx
  exact n.there b o' e1
 tups:=u.tups
 q9:=u.q9
 rL:=u.rL
theorem mQ.noted{P:Program}{w:World}{h h':Heap}{fr:List Addr}{φ:Addr->Prop}(x:mQ P w H h)(n:nZ fr φ h h')(hφ:∀b,φ b->H b=none)(hf:∀b∈fr,H b=none):mQ P w H h':=λa u e =>
 (x a u e).stay (λb v hb q=>by
  have nb:H b≠none:=λz=>by
   rcases hb with y|y
   ·rw[y,e]at z;cases z
   ·rw[y]at z;cases z
  exact n.keep b v q (λz=>nb (hφ b z)) λz=>nb (hf b z)) (λ_ q=>q) λ_ _ q=>q
theorem Inv.noted{h':Heap}(I:Inv X pins σ H s)(n:nZ (frs X.stack) (NC X pins H) s.heap h'):Inv X pins σ H { s with heap:=h' }:=by
 have cellK:∀x c,X.env.cells.lookup x=some c->∀v,s.heap.IsCell c v->h'.IsCell c v:=λx c e v ⟨o,ho,hd⟩=>by
  obtain⟨sl,q⟩:=n.slot c o ho λk=>k.2.2.2.2.1 x c e rfl
  exact⟨_,q,hd⟩
 refine⟨I.ok,I.os,I.bare,I.base.noted n (λb o e nx k=>?_) (λb o e z=>?_),?_,λx c e=>?_,I.free,I.jA,λp hp=>?_,I.hok.noted n (λb k=>k.1) I.Ar,I.len,I.up⟩
 ·rcases k.2.2.2.1 with z|z
  ·rw[e]at z;cases z
  ·exact nx z
 ·rcases List.mem_cons.mp (I.rO b z)with q|q
  ·subst q
   exact absurd (Nat.lt_of_lt_of_le (Heap.lt_size e) I.ok.above) (Nat.lt_irrefl _)
  ·exact q
 ·obtain⟨m,⟨o,es,ep,ho,rr⟩,hl⟩:=I.loc
  obtain⟨sl,q⟩:=n.slot _ o ho λk=>k.2.1 rfl
  refine⟨m,⟨_,es,ep,q,rr⟩,λi x v e1 e2 e3=>?_⟩
  obtain⟨u,rv,l⟩:=hl i x v e1 e2 e3
  refine⟨u,rv,?_⟩
  rcases l with l|⟨k,c,e,z⟩
  ·exact .inl l
  ·exact .inr ⟨k,c,e,cellK x c e _ z⟩
 ·obtain⟨v,z⟩:=I.cell x c e
  exact⟨v,cellK x c e v z⟩
 ·obtain⟨e,hn,ne,nf,d⟩:=I.pin p hp
  refine⟨n.keep p.1 p.2 e (λk=>k.2.2.2.2.2 p hp rfl) λz=>?_,hn,ne,nf,d⟩
  rcases List.mem_cons.mp (I.rO _ z)with q|q
  ·exact ne q
  ·exact nf q
end
theorem Un.same{fs ex:List Addr}{H₀ H:Hp}{h₀ h h':Heap}(u:Un fs ex H₀ H h₀ h)(k:∀b o,h₀.get? b=some o->h'.get? b=h.get? b):Un fs ex H₀ H h₀ h' where
 keep:=λb o e hn nf nx=>(k b o e).trans (u.keep b o e hn nf nx)
 slot:=λb o e hn hb nx=>by
  obtain⟨sl,e1⟩:=u.slot b o e hn hb nx
  exact⟨sl,(k b o e).trans e1⟩
 free:=u.free
 there:=λb o e nx=>by
  obtain⟨o',e1⟩:=u.there b o e nx
  exact⟨o',(k b o e).trans e1⟩
 tups:=u.tups
 q9:=u.q9
 rL:=u.rL
def vz(P:Program)(w:World):IX:=λouter H s E e s'=>∃ea cls od H',e= .ref ea/\s'.os=s.os/\AllBare s'.gens/\s.toks<=s'.toks/\Un (frs outer) [] H H' s.heap s'.heap/\mQ P w H' s'.heap ∧
 FU s'.heap (λb=>s.heap.get? b=none/\H' b=none) ea cls od/\E cls od H'
def Lets(X:Cx)(E:St->XK):Prop:=∀(pins:List (Addr×Obj)) (σ:St) (H:Hp) (s:Shared) (ea:Addr) (cls:Value) (od:Option Addr),Inv X pins σ H s->FU s.heap (NC X pins H) ea cls od->E σ cls od H->X.xe (.ref ea) s
theorem Lets.pass{X:Cx}{E:St->XK}{pins:List (Addr×Obj)}{σ:St}{H:Hp}{s s':Shared}{e:Value}(L:Lets X E)(I:Inv X pins σ H s)(h:vz X.prog X.w X.stack H s (E σ) e s'):X.xe e s':=by
 obtain⟨ea,cls,od,H',rfl,os,bare,tt,un,hok,x,hE⟩:=h
 have I2:Inv X pins σ H' s':=I.LD (ch:=[]) os un hok bare (λb z=>nomatch z) (Nat.le_trans I.up tt)
 exact L pins σ H' s' ea cls od I2 (x.to λb k=>I.VM k.1 k.2) hE
theorem Lets.passes{X:Cx}{E:XK}(L:Lets X λ_=>E):Passes (vz X.prog X.w) X E:=λ_ _ _ _ _ _ I h=>L.pass I h
section
variable{P:Program}{w:World}{K:PySem.W.Frag}{mg:Str->Option Value}{base:Heap}
theorem nV{N:List Str}{qual:Str}{scope:Scope}{f:Addr}{cd:Value}{A:Around}{outer:List Env}{s:Shared}{H:Hp}{E:XK}:Lets (tW (vz P w) P w K mg base N qual scope f cd A outer s H E) λ_=>E:=by
 intro pins σ H' s' ea cls od I x hE
 show wpAny _ _ (leaving _ (.ref ea)) _ _ s'
 unfold leaving
 refine wpAny_bind (CZ I.ok.frames I.stack rfl rfl x (λb hb=>I.SE hb) λh1 n1 x1=>?_)
 refine sE (fr:=frs (tW (vz P w) P w K mg base N qual scope f cd A outer s H E).stack) x1 λh2 n2 x2=>?_
 have I2:=I.noted (n1.trans n2)
 refine⟨ea,cls,od,H',rfl,I2.os,I2.bare,I2.up,I2.base,I2.hok,x2.n.to λb k=>⟨?_,k.1⟩,hE⟩
 rcases k.2.2.2.1 with z|z
 ·exact z
 ·exact nomatch z
theorem sX{N:List Str}{qual:Str}{scope:Scope}{f:Addr}{cd:Value}{A:Around}{outer:List Env}{s:Shared}{H:Hp}{E:XK}:
  PassesOwn (model P w) (tW (vz P w) P w K mg base N qual scope f cd A outer s H E).A (tW (vz P w) P w K mg base N qual scope f cd A outer s H E).env (tW (vz P w) P w K mg base N qual scope f cd A outer s H E).xe:=PassesOwn.leaving
theorem Ja.QZ{x qual:Str}{st:Stmt}{f:Addr}{fd:FuncData}{N ps:List Str}{k:Nat}{sp:Sp}(F:Ja K x qual st f fd)(S:aH N ps (ay st))(len:∀vs H Q E,sp vs H Q E->vs.length=ps.length)
  (hbody:∀(cdv:Value) (A:Around) (outer:List Env) (s:Shared) (H:Hp) (vs:List V) (Q:VK) (E:XK),jS k (A.deeper (envOfC qual (ay st) s.heap.objs.size f cdv))->sp vs H Q E →
   ∃t,Ak (tW (vz P w) P w K mg base N qual (ay st) f cdv A outer s H E) (c6 st) t/\t { nx:=λ_ H'=>Q .gB H',rt:=Q } (start N vs) H):aJ P w K mg base (vz P w) (k+1) f fd ps sp:=by
 obtain⟨oc,od,dV,kV,doc,pm,an,cdv,ct,osl,rfl,lk,hcd⟩:=F.ex
 exact Lk lk hcd S len λA outer s H vs Q E hr D7=>hbody cdv A outer s H vs Q E hr D7
end
theorem bI.got{P:Program}{w:World}{H:Hp}{h:Heap}{a:Addr}{o:HO}(x:bI P w H h a o):h.get? a≠none:=by
 cases o with
 |lst xs=>obtain⟨_,_,_,_,e⟩:=x;rw[e];exact λz=>nomatch z
 |tup xs=>obtain⟨_,_,_,ob,e,_⟩:=x;rw[e];exact λz=>nomatch z
 |dK kvs=>obtain⟨_,_,_,_,o,_,_,e,_⟩:=x;rw[e];exact λz=>nomatch z
 |dT kvs=>obtain⟨_,_,_,_,o,_,_,e,_⟩:=x;rw[e];exact λz=>nomatch z
 |set S n=>obtain⟨o,_,_,_,e,_⟩:=x;rw[e];exact λz=>nomatch z
 |ins C dx fs=>obtain⟨_,_,_,e,_⟩:=x;rw[e];exact λz=>nomatch z
 |own y=>obtain⟨_,e⟩:=x;rw[e];exact λz=>nomatch z
 |xd fs=>obtain⟨_,⟨_,_,_,e,_⟩,_⟩:=x;rw[e];exact λz=>nomatch z
 |VT lo hi=>obtain⟨_,_,_,e⟩:=x;rw[e];exact λz=>nomatch z
 |tS ob u=>obtain⟨e,_⟩:=x;rw[e];exact λz=>nomatch z
 |NO ps=>have e:h.get? a=some _:=x;rw[e];exact λz=>nomatch z
 |met f y=>have e:h.get? a=some _:=x;rw[e];exact λz=>nomatch z
 |ext φ=>obtain⟨_,⟨_,e⟩,_⟩:=x;rw[e];exact λz=>nomatch z
theorem mQ.none_of{P:Program}{w:World}{H:Hp}{h:Heap}{a:Addr}(x:mQ P w H h)(e:h.get? a=none):H a=none:=by
 cases q:H a with
 |none=>rfl
 |some o=>exact absurd e (x a o q).got
set_option genInjectivity false in
structure XP where
 nm:Str
 q:Str
 N:Addr
 bs:List Value
 bm:List Value
 hdct:Bool
 sn:List Str
 sub:List Value
 ab:Bool
 col:Option Bool
 dd:Option Addr
 k0:Option Value
 k1:Option Value
 k2:Option Value
 k3:Option Value
 k5:Option Value
 mN:Str->Option Value
abbrev XP.obj(d:XP)(C:Addr)(newId:String):Obj:=excClassObj d.nm d.q C d.N d.bs d.bm d.hdct d.sn d.sub d.ab d.col d.dd d.k0 d.k1 d.k2 d.k3 d.k5 newId
structure aab(K:PySem.W.Frag)(C:Addr)(Bn B newId inN nid initId:String)(bmN bmB:List Value):Prop where
 fn:ExcBaseFacts Bn newId inN bmN
 has:bmB.contains (.type Bn)=true
 fb:ExcBaseFacts B nid initId bmB
 obj:∀h:Heap,K.In h->∃d:XP,h.get? C=some (d.obj C newId)/\h.Ns d.N d.mN/\d.mN "__init__" =none/\OwnTail h bmB d.bm
def G8(K:PySem.W.Frag)(C:Addr):Prop:=∃Bn B newId inN nid initId bmN bmB,aab K C Bn B newId inN nid initId bmN bmB
theorem F1 {K:PySem.W.Frag} {C:Addr} (q:PySem.W.excIn K C [.type "ValueError",.type "Exception",.type "BaseException",.type "object"] "ValueError.__new__" =true):G8 K C:=by
 refine⟨_,_,_,_,_,_,_,_,PySem.F.excBase_ValueError,PySem.F.excBase_ValueError.hasB,PySem.F.excBase_ValueError,λh k=>?_⟩
 unfold PySem.W.excIn at q
 split at q
 ·rename_i dd cd sl hob
  split at q
  ·rename_i C' bm k0 k1 k2 k3 nn k5 hmr K6
   simp only[Bool.and_eq_true,beq_iff_eq,Bool.not_eq_true']at q
   obtain⟨⟨⟨⟨⟨e1,e2⟩,e3⟩,e4⟩,e5⟩,e6⟩:=q
   subst e1 e2
   obtain⟨nm,bs,mro,ns,qn,hd,sn,sub,ab,col,del⟩:=cd
   dsimp only at hmr e3 e5 e6
   subst hmr e3
   have hsl:sl= #[k0,k1,k2,k3,some (.builtin "ValueError.__new__"),k5]:=by
    obtain⟨l⟩:=sl
    simp only at K6
    rw[K6]
   subst hsl
   exact⟨⟨nm,qn,ns,bs,bm,hd,sn,sub,ab,col,dd,k0,k1,k2,k3,k5,_⟩,k _ _ hob,.of_isNs (PySem.W.isNs_of_in k e5),PySem.W.nsMap_none_of_in k e5 e6,PySem.W.tail_of_in k e4⟩
  ·cases q
 ·cases q
def Qy(C:Addr)(E:St->XK)(t:TA):TS:=λ_ σ H=>t σ H λvs H1=>vs.length<=sizeLine/\E σ (.ref C) none H1
theorem CC{X:Cx}{E:St->XK}{C:Addr}{x:Str}{np cpos pos:Pos}{e:Expr}{es:List Expr}{t:TA}(L:Lets X E)(OE:G8 X.K C)(hc:X.calm=true)
  (hg:Gl X x) (hm:X.mg x=some (.ref C)) (ha:PA X (e::es) t) (hdb:(x==("__debug__" :Str))=false:=by decide) (he:starEach (e::es) X.env=(false,eval e X.env)::starEach es X.env:=by rfl)
  (hpl:(backTo cpos (starEach es X.env)).any (·.1)=false:=by rfl):PS X (.Raise (some (.Call (.Name x np) (e::es) [] cpos)) none pos) (Qy C E t):=by
 intro pins s σ H D I h
 obtain⟨Bn,B,newId,inN,nid,initId,bmN,bmB,O⟩:=OE
 obtain⟨d,hC,hN,hni,T⟩:=O.obj X.base I.ok.mod.N8
 refine wpAny_Raise_call_subU (C:=C) (nm:=d.nm) (q:=d.q) (N:=d.N) (bs:=d.bs) (bm:=d.bm) (hdct:=d.hdct) (sn:=d.sn) (sub:=d.sub) (ab:=d.ab) (col:=d.col) (dd:=d.dd) (k0:=d.k0) (k1:=d.k1) (k2:=d.k2) (k3:=d.k3) (k5:=d.k5) O.fn O.has O.fb
  (mN:=d.mN) (T.hasType O.fb.hasBase) (I.ok.hd hc) (by rw[he];show(false||(backTo cpos (starEach es X.env)).any (·.1))=false;rw[hpl];rfl) hni (mO I hg hm ⟨rfl,?_⟩ hdb)
 have z:=ha cpos pins s σ H _ I h
 rw[he]at z ⊢
 refine Calls.evalArgs_plain (dw z λus s2 ⟨vs,H2,I2,r,hl,q2⟩=>⟨rfl,?_,I2.bk _ _ hC,hN.keeps I2.bk,T.keeps I2.bk,λh' ea hm=>?_⟩)
 ·show us.length<=sizeLine
  rw[←r.length]
  exact hl
 ·obtain⟨t',ht,_,_⟩:=hm.there
  exact L pins σ H2 _ ea (.ref C) none (I2.kept (t':=s2.toks) hm.keeps) ⟨I2.VM hm.new (I2.hok.none_of hm.new),_,_,ht,λ_=>rfl,.inl rfl⟩ q2
end L2
namespace L2
open PySem PySem.Spec PyProof.Rows
def Fm(X:Cx):Prop:=∃e0 r L,X.stack=e0::r/\e0.frame=some L/\X.env.frame=some L
theorem RL{CX:IX}{P:Program}{w:World}{K:PySem.W.Frag}{mg:Str->Option Value}{base:Heap}{N:List Str}{qual:Str}{scope:Scope}{f:Addr}{cd:Value}{A:Around}{outer:List Env}{s:Shared}{H:Hp}{E:XK}:
  Fm (tW CX P w K mg base N qual scope f cd A outer s H E).Q3:=⟨_,_,_,rfl,rfl,rfl⟩
abbrev Cx.xX(X:Cx)(pn:List (Addr×Obj))(xe:Value->Shared->Prop):Cx:={ X with pn:=pn,xe:=xe }
theorem Cx.Ok.xX{X:Cx}(ok:X.Ok)(pn:List (Addr×Obj))(xe:Value->Shared->Prop):(X.xX pn xe).Ok :=
 ⟨ok.mod,ok.kind,ok.glob,ok.blt,ok.above,ok.inj,ok.has,ok.Ny,ok.hd,ok.frames,ok.stk,ok.Wi,ok.bs,ok.LG,ok.ER,ok.Io,ok.sy,ok.Nn,ok.tk⟩
section
variable{X:Cx}{pins ps:List (Addr×Obj)}{σ:St}{H:Hp}{s:Shared}{xe:Value->Shared->Prop}
theorem Inv.xX(I:Inv X pins σ H s):Inv (X.xX (X.pn++pins) xe) [] σ H s :=
 ⟨I.ok.xX _ _,I.os,I.bare,I.base,I.loc,I.cell,I.free,I.jA,λp hp=>I.pin p (by simpa using hp),I.hok,I.len,I.up⟩
theorem Inv.rH(ok:X.Ok)(I:Inv (X.xX (X.pn++pins) xe) ps σ H s):Inv X pins σ H s :=
 ⟨ok,I.os,I.bare,I.base,I.loc,I.cell,I.free,I.jA,λp hp=>I.pin p (List.mem_append_left _ hp),I.hok,I.len,I.up⟩
theorem NC.rH{b:Addr}(k:NC (X.xX (X.pn++pins) xe) ps H b):NC X pins H b :=
 ⟨k.1,k.2.1,k.2.2.1,k.2.2.2.1,k.2.2.2.2.1,λp hp=>k.2.2.2.2.2 p (List.mem_append_left _ hp)⟩
theorem zo.to{h:Heap}{φ ψ:Addr->Prop}{ea:Addr}{cls:Value}{od:Option Addr}(x:zo h φ ea cls od)(m:∀b,φ b->ψ b):zo h ψ ea cls od:=by
 obtain⟨p,vs,sl,e,c2,T,oT,ts,a,b,c,d⟩:=x
 exact⟨m _ p,vs,sl,e,c2,T,oT,ts,a,b,m _ c,d⟩
end
abbrev TH:=Value->Option Addr->TS
def PH(X:Cx)(hs:List ExceptHandler)(th:TH):Prop :=
 ∀(pins:List (Addr×Obj)) (s:Shared) (σ:St) (H:Hp) (D:Ends) (ea:Addr) (cls:Value) (od:Option Addr),Inv X pins σ H s->zo s.heap (NC X pins H) ea cls od->th cls od D σ H →
  wpAny (model X.prog X.w) X.A (handleBy (.ref ea) X.env hs) (SP X pins D) X.xe s
def X6(tb:(St->XK)->TS)(th:TH):TS:=λD σ H=>tb (λσ' cls od H'=>th cls od D σ' H') D σ H
theorem QS{X:Cx}{body:List Stmt}{h₀:ExceptHandler}{hs:List ExceptHandler}{pos:Pos}{tb:(St->XK)->TS}{th:TH}(F:Fm X)
  (hb:∀(E:St->XK) (pn:List (Addr×Obj)) (xe:Value->Shared->Prop),Lets (X.xX pn xe) E->PassesOwn (model X.prog X.w) X.A X.env xe->Ak (X.xX pn xe) body (tb E)) (hh:PH X (h₀::hs) th) :
  PS X (.Try body (h₀::hs) [] [] pos) (X6 tb th):=by
 intro pins s σ H D I h
 obtain⟨e0,r,L,hst,h0,hf⟩:=F
 refine wpAny_Try_except ?_
 generalize Y8:(λe s₁=>wpAny (model X.prog X.w) X.A (noteFrame e X.env) (λ_ s₂=>wpAny (model X.prog X.w) X.A (setFlight e none) (λ_ s₃=>wpAny (model X.prog X.w) X.A (handleBy e X.env (h₀::hs)) (SP X pins D) X.xe s₃) X.xe s₂) X.xe s₁)=xe
 have LX:Lets (X.xX (X.pn++pins) xe) λσ' cls od H'=>th cls od D σ' H':=by
  intro ps σ' H' s' ea cls od J x q
  show xe (.ref ea) s'
  subst Y8
  have fr:=J.ok.frames
  have sf:=J.stack
  refine CZ (s:=s') (e0:=e0) (r:=r) (by rw[←hst];exact fr) (by rw[←hst];exact sf) h0 hf x (λb hb=>J.SE hb) λh1 n1 x1=>?_
  refine sE (fr:=frs (e0::r)) x1 λh2 n2 x2=>?_
  have N4:=n1.trans n2
  rw[←hst]at N4
  have J2:=J.noted N4
  exact hh pins _ σ' H' D ea cls od (J2.rH I.ok) (x2.to λb k=>k.rH) q
 have po:PassesOwn (model X.prog X.w) X.A X.env xe:=by
  subst Y8
  exact PassesOwn.looking
 refine wpAny_mono (hb _ _ xe LX po [] s σ H D I.xX h) (λf s1 q=>?_) λe s1 q=>?_
 ·cases f with
  |next =>
   obtain⟨σ',H',J,q⟩:=q
   exact wpAny_execs_nil ⟨σ',H',J.rH I.ok,q⟩
  |brk =>
   obtain⟨σ',H',J,q⟩:=q
   exact⟨σ',H',J.rH I.ok,q⟩
  |cont =>
   obtain⟨σ',H',J,q⟩:=q
   exact⟨σ',H',J.rH I.ok,q⟩
  |ret u =>
   obtain⟨v,σ',H',J,rv,q⟩:=q
   exact⟨v,σ',H',J.rH I.ok,rv,q⟩
 ·have q':xe e s1:=q
  subst Y8
  exact q'
abbrev Cx.within(X:Cx)(ea:Addr):Cx:={ X with A:=X.A.mark (some (.ref ea)),calm:=false,xe:=λ_ _=>False }
theorem Cx.Ok.within{X:Cx}(ok:X.Ok)(ea:Addr):(X.within ea).Ok :=
 ⟨ok.mod,ok.kind,ok.glob,ok.blt,ok.above,ok.inj,ok.has,ok.Ny,(λz=>nomatch z),ok.frames,ok.stk,ok.Wi,ok.bs,ok.LG,ok.ER,ok.Io,ok.sy,ok.Nn,ok.tk⟩
section
variable{X:Cx}{pins:List (Addr×Obj)}{σ:St}{H:Hp}{s:Shared}{ea:Addr}
theorem Inv.within(I:Inv X pins σ H s)(ea:Addr):Inv (X.within ea) pins σ H s:=⟨I.ok.within ea,I.os,I.bare,I.base,I.loc,I.cell,I.free,I.jA,I.pin,I.hok,I.len,I.up⟩
theorem Inv.behind(ok:X.Ok)(I:Inv (X.within ea) pins σ H s):Inv X pins σ H s:=⟨ok,I.os,I.bare,I.base,I.loc,I.cell,I.free,I.jA,I.pin,I.hok,I.len,I.up⟩
end
def Lq(ea:Addr)(cls:Value)(od:Option Addr):HO:=.ext λh=>∃vs sl,h.get? ea=some ⟨cls,od,.fields vs,sl⟩
def Ends.un(D:Ends)(i:Nat):Ends:={ nx:=λσ H=>D.nx (σ.set i none) H,rt:=D.rt,bk:=λσ H=>D.bk (σ.set i none) H,ct:=λσ H=>D.ct (σ.set i none) H }
theorem Inv.Jr{X:Cx}{pins:List (Addr×Obj)}{σ:St}{H:Hp}{s:Shared}{a:Addr}{o:HO}(I:Inv X pins σ H s)(k:NC X pins H a)(new:bI X.prog X.w (upd H a o) s.heap a o):Inv X pins σ (upd H a o) s:=by
 obtain⟨hn,k1,k2,k3,k4,k5⟩:=k
 refine⟨I.ok,I.os,I.bare,⟨I.base.keep,I.base.slot,λb ob q n hx=>?_,I.base.there,λb xs q=>?_,λb ob u q=>?_,λb ps q=>?_⟩,I.loc,I.cell,?_,λx c e=>?_,λp hp=>?_,λb u q=>?_,I.len,I.up⟩
 ·have ne:b≠a:=λz=>by
   rcases k3 with y|y
   ·rw[←z,q]at y;cases y
   ·exact hx (z▸y)
  rw[au ne]
  exact I.base.free b ob q n hx
 ·have q':=I.base.tups b xs q
  rw[au (aM q' hn)];exact q'
 ·have q':=I.base.q9 b ob u q
  rw[au (aM q' hn)];exact q'
 ·obtain⟨more,q'⟩:=I.base.rL b ps q
  exact⟨more,by rw[au (aM q' hn)];exact q'⟩
 ·rw[au (Ne.symm k1)];exact I.free
 ·rw[au (k4 x c e)];exact I.jA x c e
 ·obtain⟨e,n,r⟩:=I.pin p hp
  exact⟨e,by rw[au (k5 p hp)];exact n,r⟩
 ·by_cases hb:b=a
  ·subst hb;rw[af]at q;cases q;exact new
  ·rw[au hb]at q
   exact(I.hok b u q).stay (λc v _ r=>r) (λc r=>by rw[au (aM r hn)];exact r) λc xs r=>by rw[au (aM r hn)];exact r
structure XB(K:PySem.W.Frag)(D:Addr):Prop where
 hd:PySem.W.hasDictIn K D=true
 ty:PySem.W.typeIn K (.ref D)=some (.type "type")
 be:PySem.W.mroIn K D (.type "BaseException")=some true
theorem Ip{M:Model}{A:Around}{E:Value->Shared->Prop}{s:Shared}{K:PySem.W.Frag}{Q:Bool->Shared->Prop}{ea C D:Addr}{o:Obj}{b:Bool}(k:K.In s.heap)(he:s.heap.get? ea=some o)(hc:o.cls= .ref C)
  (h0:PySem.W.subIn K (.ref C) (.ref D)=some b) (h2:XB K D) (q:Q b s):wpAny M A (excMatches (.ref ea) (.ref D)) Q E s:=by
 have h1:PySem.W.kitCls K (.ref C) (.ref D)=some b:=by
  obtain⟨cd,hcd,_⟩:=PySem.W.any_some h2.hd
  show(if((PySem.W.clsIn K D).isSome&&PySem.W.typeIn K (.ref D)==some (.type "type"))=true then PySem.W.subIn K (.ref C) (.ref D)else none)=some b
  rw[if_pos (by rw[hcd,h2.ty];simp)]
  exact h0
 obtain⟨lt,li,ls⟩:=PySem.W.kit_cls (M:=M) k h1
 have lb:=PySem.W.looks_mroIn (M:=M) k h2.be
 have le:PySem.W.Looks M s.heap (typeOf (.ref ea)) (.ref C):=by
  intro A' Q' E' s' kk qq
  unfold typeOf
  exact wpAny_bind (wpAny_loadPart (kk _ _ he) (wpAny_pure (by rw[hc];exact qq)))
 have l0:PySem.W.Looks M s.heap (isInstance (.ref D) (.type "tuple")) false:=lt.andThen (PySem.W.Looks.of_pure tc_notTuple)
 have l1:PySem.W.Looks M s.heap (isExcClass (.ref D)) true:=by
  unfold isExcClass
  exact li.andThen lb
 unfold excMatches
 refine wpAny_bind (l0.here (wpAny_bind ?_))
 simp only[Bool.false_eq_true,if_false]
 refine wpAny_pure ?_
 rw[List.forIn_cons]
 refine wpAny_bind (wpAny_bind (wpAny_bind (l1.here ?_)))
 simp only[Bool.not_true,Bool.false_eq_true,if_false]
 refine wpAny_pure (wpAny_pure ?_)
 refine wpAny_bind (le.here (wpAny_bind ?_))
 rw[List.forIn_cons]
 refine wpAny_bind (wpAny_bind (ls.here ?_))
 cases b with
 |true =>
  simp only[if_true]
  exact wpAny_pure (wpAny_pure (wpAny_pure q))
 |false =>
  simp only[Bool.false_eq_true,if_false]
  exact wpAny_pure (wpAny_pure (wpAny_pure q))
theorem name_goes{X:Cx}{pins:List (Addr×Obj)}{σ:St}{H:Hp}{s:Shared}{M:Model}{A:Around}{E:Value->Shared->Prop}{Q:Unit->Shared->Prop}{i:Nat}{n:Str}{pos:Pos}(I:Inv X pins σ H s)(hN:X.N.Nodup)(hi:X.N[i]? =some n)(hl:X.env.scope.names.lookup n=some .local)
  (h:∀s',Inv X pins (σ.set i none) H s'->Q () s'):wpAny M A (do bindName X.env n .none;unbindBehindTheSuite X.env n pos) Q E s:=by
 obtain⟨m,hn,hlk⟩:=I.loc
 refine wpAny_nameGoes_keeps hl hn (by rw[I.ok.kind];rfl) λh' v hn' sb=>h _ ?_
 have cellK:∀x c,X.env.cells.lookup x=some c->∀v,s.heap.IsCell c v->h'.IsCell c v:=λx c e v ⟨o,ho,hd⟩=>⟨o,(sb.2 c (I.Ov x c e)).trans ho,hd⟩
 refine⟨I.ok,I.os,I.bare,I.base.same λb o e=>sb.2 b (Nat.ne_of_lt (Nat.lt_of_lt_of_le (Heap.lt_size e) I.ok.above)),⟨_,hn',λj y u e1 e2 e3=>?_⟩,λx c e=>?_,I.free,I.jA,λp hp=>?_,I.hok.but I.free sb,by rw[List.length_set];exact I.len,Nat.le_succ_of_le I.up⟩
 ·have ji:i≠j:=λz=>by
   subst z
   rw[List.getElem?_set_self (by rw[I.len];exact(List.getElem?_eq_some_iff.mp hi).1)]at e2
   cases e2
  rw[List.getElem?_set_ne ji]at e2
  obtain⟨w,rv,l⟩:=hlk j y u e1 e2 e3
  refine⟨w,rv,?_⟩
  rcases l with⟨k1,k2⟩|⟨k,c,e,z⟩
  ·refine .inl ⟨k1,?_⟩
   have ne:y≠n:=λz=>ji (xA hN hi (z▸e1))
   show(if y=n then v else m y)=some w
   rw[if_neg ne]
   exact k2
  ·exact .inr ⟨k,c,e,cellK y c e _ z⟩
 ·obtain⟨v,z⟩:=I.cell x c e
  exact⟨v,cellK x c e v z⟩
 ·obtain⟨e,hh,ne,r⟩:=I.pin p hp
  exact⟨(sb.2 _ ne).trans e,hh,ne,r⟩
def tAs(K:PySem.W.Frag)(C:Addr)(i:Nat)(ts:TS)(th:TH):TH:=λcls od D σ H=>∃Ce b,cls= .ref Ce/\PySem.W.subIn K (.ref Ce) (.ref C)=some b ∧
 if b=true then ∀ea,H ea=none->ts (D.un i) (σ.set i (some (.ref ea))) (upd H ea (Lq ea cls od))else th cls od D σ H
theorem N1{X:Cx}{i:Nat}{n x:Str}{C:Addr}{b₀:Stmt}{suite:List Stmt}{np pos:Pos}{rest:List ExceptHandler}{ts:TS}{th:TH}(hN:X.N.Nodup)(hi:X.N[i]? =some n)(hl:X.env.scope.names.lookup n=some .local)(hg:Gl X x)(hm:X.mg x=some (.ref C))
  (Le:XB X.K C) (hsu:∀ea,Ak (X.within ea) (b₀::suite) ts) (hr:PH X rest th) (hdb:(x==("__debug__" :Str))=false:=by decide) :
  PH X (.ExceptHandler (some (.Name x np)) (some n) (b₀::suite) pos::rest) (tAs X.K C i ts th):=by
 intro pins s σ H D ea cls od I x h
 obtain⟨Ce,b,rfl,hk,h⟩:=h
 obtain⟨pe,vs,sl,he,hT⟩:=id x
 refine wpAny_handleBy_cons (codeAny_handlers_test (mO (X:=X.within ea) (I.within ea) hg hm ?_ hdb)) (by intro q;cases q)
 refine Ip I.pB he rfl hk Le ?_
 cases b with
 |false=>exact hr pins s σ H D ea _ od I x h
 |true =>
  refine codeAny_handlers_suite_as ?_
  refine sE (fr:=frs X.stack) x λh1 n1 x1=>?_
  have I1:=I.noted n1
  obtain⟨pe1,vs1,Yo,Wb,_⟩:=id x1
  have I2:Inv X pins σ (upd H ea (Lq ea (.ref Ce) od)) { s with heap:=h1 }:=I1.Jr pe1 ⟨⟨vs1,Yo,Wb⟩,⟨_,Wb⟩,λh1 h2 ⟨v,s',e⟩ k=>⟨v,s',k _ e⟩⟩
  refine wO (X:=X.within ea) (I2.within ea) hN hi (.inl hl) (v:=.ref ea) rfl (λs2 I3=>?_) (.inr hl)
  have z:=hsu ea pins s2 _ _ (D.un i) I3 (h ea pe1.1)
  refine wpAny_mono z (λf s3 q=>?_) λ_ _ z=>False.elim z
  cases f with
  |next =>
   obtain⟨σ',H',J,q⟩:=q
   exact name_goes (J.behind I.ok) hN hi hl λs4 J4=>⟨_,_,J4,q⟩
  |brk =>
   obtain⟨σ',H',J,q⟩:=q
   exact name_goes (J.behind I.ok) hN hi hl λs4 J4=>⟨_,_,J4,q⟩
  |cont =>
   obtain⟨σ',H',J,q⟩:=q
   exact name_goes (J.behind I.ok) hN hi hl λs4 J4=>⟨_,_,J4,q⟩
  |ret u =>
   obtain⟨v,σ',H',J,rv,q⟩:=q
   exact name_goes (J.behind I.ok) hN hi hl λs4 J4=>⟨v,_,_,J4,rv,q⟩
theorem QV{X:Cx}:PH X [] λ_ _ _ _ _=>False:=λ_ _ _ _ _ _ _ _ _ _ h=>False.elim h
def QC(sp:Sp)(yo:List V)(E:St->XK)(t:TA):TE:=λσ H Q=>t σ H λvs H1=>sp (vs++yo) H1 Q (E σ)
section
variable{X:Cx}{k:Nat}{f C:Addr}{fd:FuncData}{ps:List Str}{sp:Sp}{yo:List V}{ds:List Value}{E:St->XK}{x:Str}{p pos:Pos}{e:Expr}{es:List Expr}{t:TA}
theorem Kh(F:aJ X.prog X.w X.K X.mg X.base (vz X.prog X.w) k f fd ps sp)(hr:jS k X.A)(hg:Gl X x)(hm:X.mg x=some (.ref f))(hk:PySem.W.keepIn X.K (.ref f)=true)(hb:Binds X.K fd ps ds)(hd:Vals yo ds)(LX:Lets X E)
  (ha:PA X (e::es) t) (hdb:(x==("__debug__" :Str))=false:=by decide) (he:starEach (e::es) X.env=(false,eval e X.env)::starEach es X.env:=by rfl) (hpl:(backTo pos (starEach es X.env)).any (·.1)=false:=by rfl) :
  PE X (.Call (.Name x p) (e::es) [] pos) (QC sp yo E t):=by
 intro pins s σ H Q I h
 refine wpAny_Call_Name_kw (mO I hg hm ?_ hdb)
 refine PySem.W.callWith_K (h₀:=X.base) I.ok.mod.N8 hk (dw (ha pos pins s σ H _ I h) λus s1 ⟨vs,H1,I1,r,q⟩=>⟨I1.pB,?_⟩) he hpl
 have r2:Vals (vs++yo) (us++ds):=r.append hd
 have hl:(us++ds).length=ps.length:=by rw[←r2.length];exact F.len _ _ _ _ q
 refine wpAny_call (codeAny_mono (F.run X.A X.stack s1 H1 ⟨us,[]⟩ (us++ds) (vs++yo) Q (E σ) hr I1.Nv (hb s1 us I1.pB hl) r2 q) λrr s' hq=>?_)
 cases rr with
 |error e=>exact LX.pass I1 hq
 |ok fl =>
  cases fl with
  |ret u=>exact I1.after hq
  |next=>exact False.elim hq
  |brk=>exact False.elim hq
  |cont=>exact False.elim hq
end
end L2
namespace L2
open PySem PySem.Spec PyProof.Rows
end L2
namespace L2
open PySem PySem.Spec PyProof.Rows
section
variable{X:Cx}
abbrev TJ:=St->Hp->Str->(Str->Hp->Prop)->Prop
def PJ(X:Cx)(es:List Expr)(tj:TJ):Prop:=∀(pins:List (Addr×Obj)) (s:Shared) (σ:St) (H:Hp) (acc:Str) (R:Str->Hp->Prop),Inv X pins σ H s->tj σ H acc R →
 Joins (model X.prog X.w) X.A X.xe (evalEach es X.env) acc (λout s1=>out.length<=sizeLine/\∃H1,Inv X pins σ H1 s1/\R out H1) s
theorem Ka:PJ X [] (λ_ H acc R=>acc.length<=sizeLine/\R acc H):=λ_ _ _ H _ _ I h=>⟨h.1,H,I,h.2⟩
theorem qO{e:Expr}{es:List Expr}{te:TE}{tj:TJ}(he:PE X e te)(hr:PJ X es tj)(hx:evalEach (e::es) X.env=eval e X.env::evalEach es X.env:=by rfl):
  PJ X (e::es) (λσ H acc R=>te σ H λv H1=>∃y,v= .str y/\(acc++y).length<=sizeLine/\tj σ H1 (acc++y) R):=by
 intro pins s σ H acc R I h
 rw[hx]
 refine dw (he pins s σ H _ I h) λu s1 ⟨v,H1,I1,r,y,e1,hl,q⟩=>?_
 subst e1
 obtain⟨t,rfl⟩:=r
 exact⟨y,t,rfl,hl,hr pins s1 σ H1 _ R I1 q⟩
theorem zT{M:Model}{A:Around}{E:Value->Shared->Prop}:∀{parts:List (Sem Value)} {acc:Str} {Q Q':Str->Shared->Prop} {s:Shared},Joins M A E parts acc Q s->(∀out s1,Q out s1->Q' out s1)->Joins M A E parts acc Q' s
 |[],_,_,_,_,h,k=>k _ _ h
 |_::_,_,_,_,_,h,k=>dw h λ_ _ ⟨y,t,e,hl,q⟩=>⟨y,t,e,hl,zT q k⟩
theorem Gv{v₁ v₂:Expr}{rest:List Expr}{pos:Pos}{tj:TJ}(h:PJ X (v₁::v₂::rest) tj):PE X (.JoinedStr (v₁::v₂::rest) pos) (λσ H Q=>tj σ H Str.empty λout H1=>Q (.str out) H1):=by
 intro pins s σ H Q I q
 refine wpAny_JoinedStr (zT (h pins s σ H Str.empty _ I q) λout s1 ⟨hl,H1,I1,q1⟩=>⟨hl,.str out,H1,I1.tok _,⟨_,rfl⟩,q1⟩)
theorem MH{value:Expr}{pos:Pos}{te:TE}(he:PE X value te):PE X (.FormattedValue value 114 none pos) (λσ H Q=>te σ H λv H1=>∃x,v= .str x/\(reprText x).length<=sizeLine/\Q (.str (reprText x)) H1):=by
 intro pins s σ H Q I h
 refine wpAny_FormattedValue_repr (dw (he pins s σ H _ I h) λu s1 ⟨v,H1,I1,r,x,e,hl,q⟩=>?_)
 subst e
 obtain⟨t,rfl⟩:=r
 refine wpAny_pyReprObj_str (x:=x) ?_ hl
 exact wpAny_formatField_str ⟨.str (reprText x),H1,I1.tok _,⟨_,rfl⟩,q⟩ ⟨.str (reprText x),H1,(I1.tok _).tok _,⟨_,rfl⟩,q⟩ hl
theorem Kf{value:Expr}{pos:Pos}{te:TE}(he:PE X value te):PE X (.FormattedValue value (-1) none pos) (λσ H Q=>te σ H λv H1=>∃i:Int,v= .int i/\i.natAbs.log2<1920/\Q (.str (Str.ofString (toString i))) H1):=by
 intro pins s σ H Q I h
 refine wpAny_FormattedValue_plain (dw (he pins s σ H _ I h) λu s1 ⟨v,H1,I1,r,i,e,hl,q⟩=>?_)
 subst e
 obtain⟨t,rfl⟩:=r
 exact wpAny_formatField_int hl ⟨.str (Str.ofString (toString i)),H1,I1.tok _ (by show s1.toks<=_;omega),⟨_,rfl⟩,q⟩
end
structure RZ(K:PySem.W.Frag)(C:Addr):Prop where
 ga:PySem.W.findIn K (.ref C) "__getattribute__" =some (some (.builtin "BaseException.__getattribute__"))
 gn:PySem.W.findIn K (.ref C) "__getattr__" =some none
 hd:PySem.W.hasDictIn K C=true
 ha:PySem.W.findIn K (.ref C) "__class__" =some (some (.builtin "object.__class__"))
 hn:PySem.W.specialIn K (.builtin "object.__class__") "__get__" =some (some (.builtin "getset_descriptor.__get__"))
 htk:PySem.W.takesIn K (.builtin "object.__class__")=some true
 hm:PySem.W.mroIn K C (.type "object")=some true
 hb:PySem.W.mroIn K C (.type "BaseException")=some true
theorem Iq{prog:Program}{w:World}{A:Around}{E:Value->Shared->Prop}{s:Shared}{K:PySem.W.Frag}{x C:Addr}{ox:Obj}{od:Option Obj}{Q:Option Value->Shared->Prop}(Z:RZ K C)(k:K.In s.heap)(I:PySem.W.InstAt s.heap x ox C od)
  (h:Q (some (.ref C)) { s with toks:=s.toks+1 }):wpAny (model prog w) A (getAttr? (.ref x) "__class__") Q E s:=by
 obtain⟨hh,g,d,t,os⟩:=s
 have L0:=I.type (M:=model prog w)
 have L1:=PySem.W.looks_findIn (M:=model prog w) k Z.ga
 have L2:=PySem.W.looks_findIn (M:=model prog w) k Z.gn
 have LB:=PySem.W.looks_mroIn (M:=model prog w) k Z.hb
 have hf:PySem.W.findObj K C od "__class__" =some (.bind (.builtin "getset_descriptor.__get__") (.builtin "object.__class__")):=by
  obtain⟨cd,hc,_⟩:=PySem.W.any_some Z.hd
  unfold PySem.W.findObj
  rw[hc,Option.bind_some,Z.ha,Option.bind_some]
  simp[Z.hn,Z.htk]
 have LF:=PySem.W.looks_find (M:=model prog w) k I hf
 unfold getAttr? getAttrBy? getAttrBy
 refine wpAny_bind (wpAny_mkText (wpAny_bind (wpAny_attempt (wpAny_holding (wpAny_bind (L0.at (wpAny_bind (L1.at ?_))))))))
 show wpAny _ _ (getAttrByItsOwn _ _ _ _ _ _) _ _ _
 unfold getAttrByItsOwn hookBefore
 refine wpAny_bind (L2.at ?_)
 refine wpAny_bind (wpAny_attempt (wpAny_holding ?_))
 show wpAny _ _ (boundAndCalled _ _ _) _ _ _
 unfold boundAndCalled
 refine wpAny_bind (wpAny_of_eq (PySem.F.attr_ValueError.ga.bind (.ref x)) ?_)
 show wpAny _ _ (call (.builtin "BaseException.__getattribute__") [.ref x,.str "__class__" t]) _ _ _
 refine wpAny_call (codeAny_call_builtin PySem.F.attr_ValueError.ga.plain PySem.F.entry_bexc_ga ?_)
 have c1:builtinKind "BaseException.__getattribute__" =some .slot:=by decide +kernel
 have c2:splitId "BaseException.__getattribute__" =some ("BaseException","__getattribute__"):=by decide +kernel
 have c3:=PySem.F.args_bexc_ga (.ref x) (.str "__class__" t)
 simp only[checkBuiltinCall,c1,c2]
 refine wpAny_bind (wpAny_bind (L0.at (LB.at ?_)))
 simp only[Bool.not_true,Bool.false_eq_true,if_false]
 unfold argsOk at c3
 refine wpAny_of_eq c3 ?_
 unfold Builtin.«object.__getattribute__»
 refine wpAny_bind (wpAny_pure (wpAny_bind (wpAny_pure (wpAny_bind (L0.at (wpAny_bind (LF.at ?_)))))))
 show wpAny _ _ (holding [.builtin "object.__class__"] (call (.builtin "getset_descriptor.__get__") [.builtin "object.__class__",.ref x,.ref C]) >>= ret) _ _ _
 refine wpAny_bind (wpAny_holding (wpAny_call (PySem.W.class_get (ox:=ox) (od:=od) k I Z.hm ?_)))
 refine wpAny_pure ?_
 show wpAny _ _ (handedOut (.ref C)) _ _ _
 exact PySem.W.handed_on rfl (wpAny_pure h)
end L2
namespace L2
open PySem PySem.Spec PyProof.Rows
theorem Di{K:PySem.W.Frag}{x C:Addr}{ox:Obj}{od:Option Obj}(Z:RZ K C):PySem.W.KitX K (.ref x) (.ref C) (λh=>PySem.W.InstAt h x ox C od) where
 ty:=λ_ _ _ I=>I.type
 it:=λ_ _ k _=>by
  obtain⟨cd,hcd,_⟩:=PySem.W.any_some Z.hd
  unfold PySem.W.clsIn at hcd
  split at hcd
  ·rename_i c1 d1 cd1 Yo hob
   intro A1 Q1 E1 s1 kk q
   unfold isType loadHead
   exact wpAny_bind (wpAny_loadPart (kk _ _ (k _ _ hob)) (wpAny_pure q))
  ·cases hcd
 ne:=λh tp dd its n sl k htp=>by
  obtain⟨cd,hcd,_⟩:=PySem.W.any_some Z.hd
  refine Bool.eq_false_iff.mpr λq=>?_
  have e:=Value.ref.inj (beq_iff_eq.mp q)
  subst e
  unfold PySem.W.clsIn at hcd
  split at hcd
  ·rename_i c1 d1 cd1 Yo hob
   have z:=(k _ _ hob).symm.trans htp
   cases z
  ·cases hcd
 ca:=λk I q=>Iq Z k I q
end L2
namespace GP
open PySem L2 sJ
theorem LL{x:Str}(h:x.length<=20)(hz:100<=sizeLine):(Str.empty++x).length<=sizeLine:=by
 rw[strLen_append]
 have:Str.empty.length=0:=rfl
 omega
theorem Ag{x y:Str}(h:x.length<=20)(hz:y.length+20<=sizeLine):((Str.empty++x)++y).length<=sizeLine:=by
 rw[strLen_append,strLen_append]
 have:Str.empty.length=0:=rfl
 omega
end GP
namespace L2
open PySem PySem.Spec PyProof.Rows
theorem JQ{X:Cx}:SlR X (λx lo hi H Q=>∃y,x= .str y/\y.length<=sizeLine/\Q (.str (Txt.slice y lo hi)) H):=by
 intro pins s σ H x v vl vu lo hi sl Q I rx hs pl pu h
 obtain⟨y,rfl,hz,q⟩:=h
 obtain⟨t,rfl⟩:=rx
 refine⟨"str",_,PySem.F.slot_str_getitem.lookup,typeIs_str _ _ _,?_⟩
 have fin:(Txt.slice y lo hi).length<=sizeLine/\∀t' k,s.toks<=k->EP X pins σ Q (.str (Txt.slice y lo hi) t') { s with toks:=k }:=⟨Nat.le_trans (Txt.slice_le y _ _) hz,λt' k hk=>⟨.str (Txt.slice y lo hi),H,I.tok k hk,⟨_,rfl⟩,q⟩⟩
 refine TK.bS (Nat.le_refl s.toks) ?_
 cases pl with
 |none =>
  cases pu with
  |none=>exact wpAny_getItem_str_slice (l:=none) (u:=none) (st:=none) hs rfl (post_val_or_str fin)
  |int j u=>exact wpAny_getItem_str_slice (l:=none) (u:=some (j,u)) (st:=none) hs rfl (post_val_or_str fin)
 |int i u =>
  cases pu with
  |none=>exact wpAny_getItem_str_slice (l:=some (i,u)) (u:=none) (st:=none) hs rfl (post_val_or_str fin)
  |int j u'=>exact wpAny_getItem_str_slice (l:=some (i,u)) (u:=some (j,u')) (st:=none) hs rfl (post_val_or_str fin)
end L2
namespace GP
open PySem L2 sJ
theorem qG{x y:Str}:(x++y).cps.toList=x.cps.toList++y.cps.toList:=by
 show(x.cps++y.cps).toList=_
 exact Array.toList_append ..
end GP
namespace L2
open PySem PySem.Spec PyProof.Rows
section
variable{prog:Program}{w:World}{A:Around}{E:Value->Shared->Prop}{h:Heap}{gs:Array GenState}{dr:Drawn}{tk:Nat}{os:OsState}
variable{nm qn:Str}{C N:Addr}{bs tl bmB bmN:List Value}{hdct:Bool}{sn:List Str}{sub:List Value}{ab:Bool}{col:Option Bool}{dd:Option Addr}{k0 k1 k2 k3 k5:Option Value}{B Bn newId nid initId inN:String}
theorem wM{mN:Str->Option Value}{rest:List Value}{fI:Addr}{oI:Obj}{Q:Fin->Shared->Prop}(Fn:ExcBaseFacts Bn newId inN bmN)(hBn:bmB.contains (.type Bn)=true)(FB:ExcBaseFacts B nid initId bmB)(T:OwnTail h bmB tl)
  (hob:h.get? C=some (excClassObj nm qn C N bs tl hdct sn sub ab col dd k0 k1 k2 k3 k5 newId)) (hns:h.Ns N mN) (RE:mN "__init__" =some (.ref fI)) (hfo:h.get? fI=some oI) (hfc:oI.cls= .type "function")
  (hq:∀h' e,Heap.MadeExcOf h h' e (.ref C) rest->wpAny (model prog w) A (call (.ref fI) (.ref e::rest)) (λr s'=>r= .none/\Q (.done (.ret (.ref e))) s') E ⟨h',gs,dr,tk,os⟩) (hz:rest.length<=sizeLine) :
  wpAny (model prog w) A (Builtin.«type.__call__» ⟨.ref C::rest,[]⟩) Q E ⟨h,gs,dr,tk,os⟩:=by
 repeat (first|with_reducible refine wpAny_loadPart_at hob ?_|with_reducible refine wpAny_madeBy_exc hob ?_|wp_step)
 refine codeAny_call_builtin_code (Code.quiet_builtin _ Fn.quiet) (wpAny_check_new_subU Fn hBn T hob ?_)
 refine codeAny_exc_new_subU Fn hBn FB T hob ?_ hz
 show wpAny _ _ _ _ _ _
 have kp:∀b o,h.get? b=some o->((h.push { cls:=.type "tuple",data:=.seq rest.toArray }).push { cls:=.ref C,data:=.fields #[.ref h.objs.size,.none,.none,.none,.bool false,.none] }).get? b=some o:=λb o e=>Heap.get?_push_of_some _ (Heap.get?_push_of_some _ e)
 have UL:=kp _ _ hob
 have Zx:=kp _ _ hfo
 have Zn:=hns.keeps kp
 have T1:=T.keeps kp
 have Om:((h.push { cls:=.type "tuple",data:=.seq rest.toArray }).push { cls:=.ref C,data:=.fields #[.ref h.objs.size,.none,.none,.none,.bool false,.none] }).get? (h.objs.size+1)=some { cls:=.ref C,data:=.fields #[.ref h.objs.size,.none,.none,.none,.bool false,.none] }:=by heap_get
 have hself:(Value.ref C::tl).contains (.ref C)=true:=by simp
 unfold isInstance
 repeat (first|with_reducible refine wpAny_loadPart_at Om ?_|(with_reducible refine wpAny_isSubtype_exc UL ?_;rw[hself])|wp_step)
 show wpAny _ _ (typeLookup (.ref C) _) _ _ _
 refine wpAny_typeLookup_tail UL Zn T1 FB.mroIs FB.init.lookup ?_
 rw[RE]
 refine wpAny_holding (wpAny_bind ?_)
 unfold bindSpecial
 refine wpAny_bind (wpAny_typeOf (T:= "function") ⟨_,Zx,hfc⟩ ?_)
 rw[if_pos (by decide)]
 have made:Heap.MadeExcOf h ((h.push { cls:=.type "tuple",data:=.seq rest.toArray }).push { cls:=.ref C,data:=.fields #[.ref h.objs.size,.none,.none,.none,.bool false,.none] }) (h.objs.size+1) (.ref C) rest :=
  ⟨kp,Heap.get?_none_of_le (Nat.le_succ _),h.objs.size,Om,Heap.get?_none_of_le (Nat.le_refl _),Heap.get?_push_of_some _ (Heap.get?_push_at rfl rfl)⟩
 refine wpAny_pure (wpAny_bind (wpAny_mono (hq _ _ made) (λr s' hr=>?_) λ_ _ x=>x))
 obtain⟨rfl,hQ⟩:=hr
 wp_walk
 exact hQ
theorem IG{mN:Str->Option Value}{rest:List Value}{fI:Addr}{oI:Obj}{Q:Value->Shared->Prop}(Fn:ExcBaseFacts Bn newId inN bmN)(hBn:bmB.contains (.type Bn)=true)(FB:ExcBaseFacts B nid initId bmB)(T:OwnTail h bmB tl)
  (hob:h.get? C=some (excClassObj nm qn C N bs tl hdct sn sub ab col dd k0 k1 k2 k3 k5 newId)) (hns:h.Ns N mN) (RE:mN "__init__" =some (.ref fI)) (hfo:h.get? fI=some oI) (hfc:oI.cls= .type "function")
  (hq:∀h' e,Heap.MadeExcOf h h' e (.ref C) rest->wpAny (model prog w) (A.under (.builtin "type.__call__" ⟨.ref C::rest,[]⟩)) (call (.ref fI) (.ref e::rest)) (λr s'=>r= .none/\Q (.ref e) s') E ⟨h',gs,dr,tk,os⟩) (hz:rest.length<=sizeLine) :
  wpAny (model prog w) A (call (.ref C) rest) Q E ⟨h,gs,dr,tk,os⟩:=by
 have l1:=tc_lookup
 have l2:=tc_bind (.ref C)
 have hTy:(⟨h,gs,dr,tk,os⟩:Shared).TypeIs (.ref C) "type" :=⟨_,hob,rfl⟩
 refine wpAny_call (codeAny_of_tree ?_)
 show wpAny _ _ (callAny (.ref C) _) _ _ _
 repeat (any_goals (first|assumption|with_reducible refine wpAny_loadPart_at hob ?_|wp_step))
 refine⟨rfl,codeAny_call_builtin_at (Code.quiet_builtin _ (by decide +kernel)) entry_typeCall (wpAny_check_type_call_sub hob (wM Fn hBn FB T hob hns RE hfo hfc (λh' e hm=>?_) hz))⟩
 exact hq h' e hm
end
end L2
namespace L2
open PySem PySem.Spec PyProof.Rows
def newX(e C:Addr)(od:Option Addr):HO:=.ext λh=>∃vs sl,h.get? e=some ⟨.ref C,od,.fields vs,sl⟩/\vs[1]? =some .none/\vs[2]? =some .none/\4<vs.size
def Am(dx:Addr)(fs:List (Str×V)):HO:=.ext λh=>∃mA,h.Ns1 dx mA/\(∀f,nF (fs.lookup f) (mA f))/\PySem.Within mA (fs.map (·.1))
section
variable{P:Program}{w:World}{H:Hp}{h:Heap}
theorem AW{e C:Addr}{od:Option Addr}{vs:Array Value}{sl:Array (Option Value)}(he:h.get? e=some ⟨.ref C,od,.fields vs,sl⟩)(h1:vs[1]? =some .none/\vs[2]? =some .none/\4<vs.size):bI P w H h e (newX e C od) :=
 ⟨⟨vs,sl,he,h1⟩,⟨_,he⟩,λ_ _ ⟨v,s,e,z⟩ k=>⟨v,s,k _ e,z⟩⟩
theorem Ec{dx:Addr}{fs:List (Str×V)}{mA:Str->Option Value}(n:h.Ns1 dx mA)(r:∀f,nF (fs.lookup f) (mA f))(wi:PySem.Within mA (fs.map (·.1))):bI P w H h dx (Am dx fs) :=
 ⟨⟨mA,n,r,wi⟩,(let ⟨o,_,_,e,_⟩:=n;⟨o,e⟩),λ_ _ ⟨m,n,r,wi⟩ k=>⟨m,n.at k,r,wi⟩⟩
end
def del(H:Hp)(e:Addr):Hp:=λb=>if b=e then none else H b
theorem qt{H:Hp}{e b:Addr}(h:b≠e):del H e b=H b:=by unfold del;rw[if_neg h]
theorem DC{H:Hp}{e:Addr}:del H e e=none:=by unfold del;rw[if_pos rfl]
theorem tV{H:Hp}{e b:Addr}(h:H b=none):del H e b=none:=by unfold del;split<;>first|rfl|exact h
theorem OH{H:Hp}{a:Addr}{o:HO}(h:H a=some o):upd H a o=H:=by
 funext b
 unfold upd
 split
 ·rename_i z;rw[z,h]
 ·rfl
section
variable{X:Cx}{pins:List (Addr×Obj)}{σ:St}{H:Hp}{s:Shared}
theorem Inv.drop{e:Addr}{φ:Heap->Prop}(I:Inv X pins σ H s)(he:H e=some (.ext φ)):Inv X pins σ (del H e) s:=by
 have ne:∀{b:Addr} {o:HO},H b=some o->(∀ ψ,o≠ .ext ψ)->b≠e:=λ{b o} hb n z=>by
  subst z
  rw[he]at hb
  exact n _ (Option.some.inj hb).symm
 refine⟨I.ok,I.os,I.bare,⟨I.base.keep,I.base.slot,λb ob q n hx=>tV (I.base.free b ob q n hx),I.base.there,λb xs q=>?_,λb ob u q=>?_,λb ps q=>?_⟩,I.loc,I.cell,tV I.free,λx c q=>tV (I.jA x c q),λp hp=>?_,λb u q=>?_,I.len,I.up⟩
 ·have q':=I.base.tups b xs q
  rw[qt (ne q' λψ z=>by cases z)];exact q'
 ·have q':=I.base.q9 b ob u q
  rw[qt (ne q' λψ z=>by cases z)];exact q'
 ·obtain⟨more,q'⟩:=I.base.rL b ps q
  exact⟨more,by rw[qt (ne q' λψ z=>by cases z)];exact q'⟩
 ·obtain⟨a,n,r⟩:=I.pin p hp
  exact⟨a,tV n,r⟩
 ·have hb:b≠e:=λz=>by rw[z,DC]at q;cases q
  rw[qt hb]at q
  exact(I.hok b u q).stay (λc v _ r=>r) (λc r=>by rw[qt (ne r λψ z=>by cases z)];exact r) λc xs r=>by rw[qt (ne r λψ z=>by cases z)];exact r
end
section
variable{M:Model}{A:Around}{E:Value->Shared->Prop}{env:Env}
variable{nm q:Str}{C N:Addr}{bs bm:List Value}{hdct:Bool}{sn:List Str}{sub:List Value}{ab:Bool}{col:Option Bool}{dd:Option Addr}{k0 k1 k2 k3 k5:Option Value}{newId:String}
theorem Ey {s:Shared} {x:Sem Value} {Q:Flow->Shared->Prop} (hbase:bm.contains (.type "BaseException")=true) (hh:A.handled=none)
  (h:wpAny M A x (λv s₁=>∃e od vs sl,v= .ref e/\s₁.heap.get? C=some (excClassObj nm q C N bs bm hdct sn sub ab col dd k0 k1 k2 k3 k5 newId) ∧
   s₁.heap.get? e=some ⟨.ref C,od,.fields vs,sl⟩/\vs[1]? =some .none/\E (.ref e) s₁) E s):wpAny M A (raiseStmt env (some x) none) Q E s:=by
 have hcB:(Value.ref C::bm).contains (.type "BaseException")=true:=by rw[List.contains_cons,hbase,Bool.or_true]
 unfold raiseStmt
 refine wpAny_bind (wpAny_mono h (λv s₁ h₁=>?_) λ_ _ x=>x)
 obtain⟨e,od,vs,sl,rfl,hC,he,hv,hE⟩:=h₁
 obtain⟨hp,g,d,tk,os⟩:=s₁
 repeat (first|with_reducible refine wpAny_loadPart_at he ?_|with_reducible refine wpAny_loadPart_at hC ?_|(with_reducible refine wpAny_isSubtype_exc hC ?_;rw[hcB])|wp_step)
 rw[hv]
 refine wpAny_pure ?_
 rw[if_neg (by decide)]
 exact wpAny_pure (wpAny_raiseNew_none hh hE)
end
def Jj:List Value:=[.type "ValueError",.type "Exception",.type "BaseException",.type "object"]
structure G7(K:PySem.W.Frag)(C fI:Addr):Prop where
 obj:∀h:Heap,K.In h->∃d:XP,h.get? C=some (d.obj C "ValueError.__new__")/\h.Ns d.N d.mN/\d.mN "__init__" =some (.ref fI)/\OwnTail h Jj d.bm
def Fl(K:PySem.W.Frag)(C fI:Addr):Bool:=match K.lookup C with
 |some ⟨.type "type",_,.cls cd,sl⟩=>(match cd.mro,sl.toList with
  | .ref C'::bm,[_,_,_,_,some (.builtin n),_]=>C'==C&&n== "ValueError.__new__" && !cd.hasDel&&PySem.W.tailIn K Jj bm&&PySem.W.nsOkIn K cd.ns&&PySem.W.nsIn K cd.ns "__init__" ==some (some (.ref fI))
  |_,_=>false)
 |_=>false
theorem EN{K:PySem.W.Frag}{h:Heap}{N:Addr}{mg:Str->Option Value}{n:Str}{v:Value}(X:K.In h)(G:h.Ns N mg)(e:PySem.W.nsIn K N n=some (some v)):mg n=some v:=by
 obtain⟨o,es,ep,ho,hd,_,hf⟩:=G
 unfold PySem.W.nsIn at e
 split at e
 ·rename_i c d es' n' sl q
  have:=X _ _ q
  rw[ho]at this
  cases this
  cases hd
  split at e
  ·rename_i he
   cases e
   rw[←hf]
   unfold nsFind findBy
   rw[←Array.find?_toList,he]
   rfl
  ·split at e
   ·cases e
   ·cases e
 ·cases e
theorem BV{K:PySem.W.Frag}{C fI:Addr}(q:Fl K C fI=true):G7 K C fI:=by
 refine⟨λh k=>?_⟩
 unfold Fl at q
 split at q
 ·rename_i dd cd sl hob
  split at q
  ·rename_i C' bm k0 k1 k2 k3 nn k5 hmr K6
   simp only[Bool.and_eq_true,beq_iff_eq,Bool.not_eq_true']at q
   obtain⟨⟨⟨⟨⟨e1,e2⟩,e3⟩,e4⟩,e5⟩,e6⟩:=q
   subst e1 e2
   obtain⟨nm,bs,mro,ns,qn,hd,sn,sub,ab,col,del⟩:=cd
   dsimp only at hmr e3 e5 e6
   subst hmr e3
   have hsl:sl= #[k0,k1,k2,k3,some (.builtin "ValueError.__new__"),k5]:=by
    obtain⟨l⟩:=sl
    simp only at K6
    rw[K6]
   subst hsl
   have G:h.Ns ns _:=.of_isNs (PySem.W.isNs_of_in k e5)
   exact⟨⟨nm,qn,ns,bs,bm,hd,sn,sub,ab,col,dd,k0,k1,k2,k3,k5,_⟩,k _ _ hob,G,EN k G e6,PySem.W.tail_of_in k e4⟩
  ·cases q
 ·cases q
structure XBase(K:PySem.W.Frag)(W:Addr):Prop where
 ga:PySem.W.specialIn K (.ref W) "__getattribute__" =some (some (.builtin "type.__getattribute__"))
 rd:PySem.W.readsIn K W (.type "type")=true
 fd:PySem.W.findCls K (.ref W) (.type "type") "__init__" =some (.val (.builtin "ValueError.__init__"))
def rM:List Value->Bool
 |[]=>false
 |v::r=>(v::r)==Jj||match v with| .ref _=>rM r|_=>false
structure Vl(K:PySem.W.Frag)(C:Addr):Prop where
 hd:PySem.W.hasDictIn K C=true
 po:((PySem.W.clsIn K C).any λcd=>rM cd.mro)=true
 sa:PySem.W.findIn K (.ref C) "__setattr__" =some (some (.builtin "object.__setattr__"))
theorem zM(self:Value):∀{l:List Value},rM l=true->refuseLoop self "__setattr__" l=pure ()
 |[],e=>by cases e
 |v::r,e=>by
  unfold rM at e
  rcases Bool.or_eq_true_iff.mp e with q|q
  ·rw[beq_iff_eq.mp q];exact PySem.F.store_ValueError.passes self
  ·split at q
   ·rw[refuseLoop_ref];exact zM self q
   ·cases q
theorem Ji:∀{l:List Value},rM l=true->l.contains (.type "object")=true
 |[],e=>by cases e
 |v::r,e=>by
  unfold rM at e
  rcases Bool.or_eq_true_iff.mp e with q|q
  ·rw[beq_iff_eq.mp q];decide +kernel
  ·split at q
   ·rw[List.contains_cons,Ji q,Bool.or_true]
   ·cases q
end L2
namespace L2
open PySem PySem.Spec PyProof.Rows
def S0(K:PySem.W.Frag)(t:TA):TE:=λσ H Q=>t σ H λvs H1=>∃e C fI od y,vs=[.ref e,y]/\H1 e=some (newX e C od)/\G7 K C fI/\Q .gB H1
theorem MK {X:Cx} {x:Str} {W:Addr} {np apos cpos:Pos} {a b:Expr} {t:TA} {pl:Sem Bool} (hW:XBase X.K W) (hg:Gl X x) (hm:X.mg x=some (.ref W)) (ha:PA X [a,b] t) (hdb:(x==("__debug__" :Str))=false:=by decide)
  (hev:eval (.Call (.Attribute (.Name x np) "__init__" apos) [a,b] [] cpos) X.env=(do
   let ov ←eval (.Name x np) X.env
   standAt apos.atName
   let (f,first) ←holding [ov] (getMethod ov "__init__" pl)
   callWith cpos f first (backTo cpos (starEach [a,b] X.env)) (backToKw cpos (keywordEach [] X.env))):=by rfl)
  (hs:starEach [a,b] X.env=(false,eval a X.env)::starEach [b] X.env:=by rfl) (hpl:(backTo cpos (starEach [b] X.env)).any (·.1)=false:=by rfl) :
  PE X (.Call (.Attribute (.Name x np) "__init__" apos) [a,b] [] cpos) (S0 X.K t):=by
 intro pins s σ H Q I h
 refine PySem.W.methodCall_KW (pl:=pl) (mO I hg hm ?_ hdb) hev
 refine PySem.W.method_cls I.pB hW.ga (PySem.W.cls_value I.pB hW.rd hW.fd (by decide +kernel) ?_)
 have hA:=ha cpos pins { s with toks:=s.toks+1 } σ H _ (I.tok _) h
 rw[hs]at hA ⊢
 refine Calls.callWith_builtin (by show(false||(backTo cpos (starEach [b] X.env)).any (·.1))=false;rw[hpl]<;>rfl) (Calls.evalArgs_plain ?_)
 refine dw hA λus s2 ⟨vs,H2,I2,r2,e,C,fI,od,y,e1,hx,O,q⟩=>?_
 subst e1
 obtain⟨u1,u2,rfl,ru1,_⟩:=vals2 r2
 cases (show u1=Value.ref e from ru1)
 obtain⟨⟨vs,sl,he,h1⟩,_,_⟩:=(show bI X.prog X.w H2 s2.heap e (newX e C od) from I2.hok e _ hx)
 obtain⟨d,hC,hN,hni,T⟩:=O.obj s2.heap I2.pB
 have F:=PySem.F.excBase_ValueError
 have I2':=I2
 obtain⟨hh,gs,dr,tk,os⟩:=s2
 show wpAny _ _ (call (.builtin "ValueError.__init__") [.ref e,u2]) _ _ _
 refine wpAny_call (codeAny_call_builtin F.init.plain F.initEntry (wpAny_check_init_subU F T hC he rfl ?_))
 have hv:0<vs.size:=Nat.lt_of_le_of_lt (Nat.zero_le 1) (Array.getElem?_eq_some_iff.mp h1.1).1
 have hv0:vs[0]? =some vs[0]:=Array.getElem?_eq_getElem hv
 wp_walk
 rw[hv0]
 refine wpAny_pure ?_
 have hg:(hh.push { cls:=.type "tuple",data:=.seq #[u2] }).get? e=some ⟨.ref C,od,.fields vs,sl⟩:=Heap.get?_push_of_some _ he
 refine wpAny_bind (wpAny_setField hg rfl hv ?_)
 have hu:=Heap.get?_update_self (Obj.mapFields (·.setIfInBounds 0 (Value.ref hh.objs.size))) hg rfl
 have fin:EP X pins σ Q Value.none ⟨(hh.push { cls:=.type "tuple",data:=.seq #[u2] }).update e (Obj.mapFields (·.setIfInBounds 0 (Value.ref hh.objs.size))),gs,dr,tk,os⟩:=by
  refine⟨.gB,H2,?_,rfl,q⟩
  have J1:=I2'.kept (h':=hh.push { cls:=.type "tuple",data:=.seq #[u2] }) (t':=tk) λb u z=>Heap.get?_push_of_some _ z
  have J2:=J1.write (x:=e) (e:=e) (o:=newX e C od) (t':=tk) (by rw[hx];exact True.intro) (.inl rfl) (λb u hb z=>(Heap.get?_update_other _ _ (Ne.symm hb)).trans z) ⟨_,hu⟩ (AW hu (by simp[h1]))
  rw[OH hx]at J2
  exact J2
 cases hq:vs[0]with
 |ref t0=>exact wpAny_letGo (wpAny_pure fin)
 |_=>exact wpAny_pure (wpAny_pure fin)
end L2
namespace L2
open PySem PySem.Spec PyProof.Rows
section
variable{prog:Program}{w:World}{A:Around}{E:Value->Shared->Prop}{s:Shared}{K:PySem.W.Frag}{x dx C:Addr}{name:Str}{v:Value}{R:Result->Shared->Prop}
theorem Gw{ox:Obj}{od:Option Obj}{tk:Tok}(X:K.In s.heap)(I:PySem.W.InstAt s.heap x ox C od)(S:Vl K C)(ht:PySem.W.takerIn K C name=some none)
  (h:∀b,wpAny (model prog w) A.in1 (Builtin.ObjectAttr.storeInOwnDict (.ref x) (.ref C) (.str name tk) name v b)
   (λfin s'=>match fin with| .done f=>R (.ok f) s'| .again c'=>c'.quiet=true/\codeAny (model prog w) A c' R s') (λe s'=>R (.error e) s') s) :
  codeAny (model prog w) A (.call (.builtin "object.__setattr__") ⟨[.ref x,.str name tk,v],[]⟩) R s:=by
 have SF:=PySem.F.store_object
 obtain⟨cd,hc,ho⟩:=PySem.W.any_some S.po
 have ne:cd.mro.isEmpty=false:=by cases q:cd.mro with|nil=>rw[q]at ho;cases ho|cons _ _=>rfl
 have sub:PySem.W.Looks (model prog w) s.heap (isInstance (.ref x) (.type "object")) true:=I.type.andThen (PySem.W.looks_mroIn X (by unfold PySem.W.mroIn;rw[hc,Option.bind_some,if_neg (by rw[ne];decide),Ji ho]))
 refine codeAny_call_builtin SF.slot.plain SF.entry (@PySem.W.check_slot (model prog w) _ _ s "object.__setattr__" "object" "__setattr__" (.ref x) [.str name tk,v] [] _ SF.kind SF.split sub (SF.args (.ref x) (.str name tk) v) ?_)
 obtain⟨attr,ha,hr⟩:=Option.bind_eq_some_iff.mp ht
 have hm:PySem.W.Looks (model prog w) s.heap (mroOf (.ref C)) cd.mro:=(PySem.W.looks_clsIn X hc).andThen .now
 have L3:PySem.W.Looks (model prog w) s.heap (Builtin.ObjectAttr.storeTaker? attr) none:=by
  cases attr with
  |none=>cases hr;exact .now
  |some a =>
   obtain⟨b,hb,e⟩:=Option.map_eq_some_iff.mp hr
   refine(PySem.W.looks_takesIn X hb).andThen ?_
   cases b with
   |false=>exact .now
   |true=>cases e
 rw[PySem.W.osa_eq,refuse_eq]
 refine wpAny_bind (wpAny_bind (I.type.here (wpAny_bind (hm.here ?_))))
 rw[zM _ ho]
 refine wpAny_pure (wpAny_bind (I.type.here (wpAny_bind ((PySem.W.looks_findIn X ha).here (wpAny_bind (L3.here ?_))))))
 exact h _
theorem En{vs:Array Value}{sl:Array (Option Value)}{mA:Str->Option Value}{ns:List Str}{Q:Unit->Shared->Prop}(X:K.In s.heap)(S:Vl K C)(ht:PySem.W.takerIn K C name=some none)
  (he:s.heap.get? x=some ⟨.ref C,some dx,.fields vs,sl⟩) (hn:s.heap.Ns1 dx mA) (hw:PySem.Within mA ns) (hsz:ns.length+1<=sizeLine)
  (h:∀h',h'.Ns1 dx (λy=>if y=name then some v else mA y)->Heap.SameBut dx s.heap h'->Q () { s with heap:=h',toks:=s.toks+2 }):wpAny (model prog w) A (setAttr (.ref x) name v) Q E s:=by
 obtain⟨od,ho,hl⟩:=uG hn
 have J:PySem.W.InstAt s.heap x ⟨.ref C,some dx,.fields vs,sl⟩ C (some od):=⟨he,rfl,rfl,ho⟩
 refine PySem.W.set_plain X J S.sa (Gw (s:={ s with toks:=s.toks+1 }) X J S ht λb=>?_)
 obtain⟨cd,hc,hd'⟩:=PySem.W.any_some S.hd
 refine wpAny_bind (wpAny_pure (wpAny_bind (wpAny_bind (wpAny_loadPart he (wpAny_bind (PySem.W.Looks.here (s:={ s with toks:=s.toks+1 }) (PySem.W.looks_clsIn X hc) ?_))))))
 rw[hd']
 refine wpAny_pure (a:=some dx) (wpAny_bind (wpAny_pure (wpAny_bind ?_)))
 refine wpAny_nsSet1 (s:={ s with toks:=s.toks+1 }) hn λh' hn2 hs2=>?_
 obtain⟨oD,esD,epD,UM,UX,UY⟩:=hn2.count (PySem.Within.cons name v hw)
 refine wpAny_bind (wpAny_lookBehind UM (by rw[UX];exact pastItsLine_dict (Nat.le_trans UY (by rw[List.length_cons];omega))) ?_)
 exact wpAny_pure (h _ hn2 hs2)
theorem Eo{vs:Array Value}{sl:Array (Option Value)}{Q:Unit->Shared->Prop}(X:K.In s.heap)(S:Vl K C)(ht:PySem.W.takerIn K C name=some none)
  (he:s.heap.get? x=some ⟨.ref C,none,.fields vs,sl⟩)
  (h:∀h',h'.Ns1 s.heap.objs.size (λy=>if y=name then some v else none)->Heap.SameBut s.heap.objs.size ((s.heap.push PySem.W.emptyDict).update x λo=>{ o with dict:=some s.heap.objs.size }) h'->Q () { s with heap:=h',toks:=s.toks+2 }):wpAny (model prog w) A (setAttr (.ref x) name v) Q E s:=by
 have J:PySem.W.InstAt s.heap x ⟨.ref C,none,.fields vs,sl⟩ C none:=⟨he,rfl,rfl,trivial⟩
 refine PySem.W.set_plain X J S.sa (Gw (s:={ s with toks:=s.toks+1 }) X J S ht λb=>?_)
 obtain⟨cd,hc,hd'⟩:=PySem.W.any_some S.hd
 refine wpAny_bind (wpAny_pure (wpAny_bind (wpAny_bind (wpAny_loadPart he (wpAny_bind (PySem.W.Looks.here (s:={ s with toks:=s.toks+1 }) (PySem.W.looks_clsIn X hc) ?_))))))
 rw[hd']
 rw[if_neg (by decide)]
 have hxs:x≠s.heap.objs.size:=Nat.ne_of_lt (Heap.lt_size he)
 have UB:(s.heap.push PySem.W.emptyDict).get? x=some ⟨.ref C,none,.fields vs,sl⟩:=Heap.get?_push_of_some _ he
 show wpAny (model prog w) A.in1 (alloc PySem.W.emptyDict >>= λd=>update x (λo=>{ o with dict:=some d }) >>= λ_=>dictMade (.ref C) x d) _ _ _
 refine wpAny_bind (wpAny_alloc (wpAny_bind (wpAny_update UB ?_)))
 refine wpAny_pure ?_
 have hgd:((s.heap.push PySem.W.emptyDict).update x λo=>{ o with dict:=some s.heap.objs.size }).get? s.heap.objs.size=some PySem.W.emptyDict :=
  (Heap.get?_update_ne _ _ _ _ hxs.symm).trans (Heap.get?_push_size _ rfl)
 have hnd:((s.heap.push PySem.W.emptyDict).update x λo=>{ o with dict:=some s.heap.objs.size }).Ns s.heap.objs.size (λ_=>none) :=
  ⟨_,#[],_,hgd,rfl,λe he=>absurd he (by simp),λ_=>rfl⟩
 show wpAny _ _ (Builtin.ObjectAttr.storeInDict s.heap.objs.size (.str name s.toks) name v) _ _ _
 refine wpAny_bind (wpAny_pure (wpAny_bind ?_))
 refine wpAny_nsSet1 (s:={ s with heap:=(s.heap.push PySem.W.emptyDict).update x λo=>{ o with dict:=some s.heap.objs.size },toks:=s.toks+1 }) (Heap.Ns1.of_empty hnd) λh' hn2 hs2=>?_
 obtain⟨oD,esD,epD,UM,UX,UY⟩:=hn2.count (PySem.Within.cons name v PySem.Within.nil)
 refine wpAny_bind (wpAny_lookBehind UM (by rw[UX];exact pastItsLine_dict (Nat.le_trans UY (by rw[List.length_cons,List.length_nil,sizeLine_eq];omega))) ?_)
 exact wpAny_pure (h _ hn2 hs2)
end
end L2
namespace L2
open PySem PySem.Spec PyProof.Rows
theorem Cy{fs:List (Str×V)}{mA:Str->Option Value}{f:Str}{y:V}{u:Value}(r:∀g,nF (fs.lookup g) (mA g))(ry:RelV y u):∀g,nF ((aG f y fs).lookup g) (if g=f then some u else mA g):=λg=>by
 rw[av]
 by_cases q:g=f
 ·rw[if_pos q,if_pos q];exact ry
 ·rw[if_neg q,if_neg q];exact r g
theorem wF{fs:List (Str×V)}{mA:Str->Option Value}{f:Str}{y:V}{u:Value}(wi:PySem.Within mA (fs.map (·.1))):PySem.Within (λg=>if g=f then some u else mA g) ((aG f y fs).map (·.1)):=λg hg=>by
 by_cases q:g=f
 ·rw[q];exact(oK f y fs).1
 ·refine(oK f y fs).2 g (wi g λz=>hg ?_)
  show(if g=f then some u else mA g)=none
  rw[if_neg q];exact z
def Te(K:PySem.W.Frag)(ta tv:TE)(f:Str):TS:=λD σ H=>tv σ H λy H1=>ta σ H1 λx H2=>∃e C,x= .ref e/\Vl K C/\bL K C f ∧
 ((H2 e=some (newX e C none)/\∀dx,H2 dx=none->D.nx σ (upd (upd (upd H2 dx (Am dx [])) e (newX e C (some dx))) dx (Am dx (aG f y [])))) ∨
  ∃dx fs,H2 e=some (newX e C (some dx))/\H2 dx=some (Am dx fs)/\fs.length<1000/\D.nx σ (upd H2 dx (Am dx (aG f y fs))))
theorem Gm{X:Cx}{o value:Expr}{f:Str}{pos pos':Pos}{ta tv:TE}(ha:PE X o ta)(hv:PE X value tv)(hs:swapsWith value (some (.Attribute o f pos')) pos.line X.env=pure false):PS X (.Assign [.Attribute o f pos'] value pos) (Te X.K ta tv f):=by
 intro pins s σ H D I h
 refine plainObj_wpAny_Assign_Attribute (dw (hv pins s σ H _ I h) λu s1 ⟨y,H1,I1,ry,q⟩=>dw (ha pins s1 σ H1 _ I1 q) λov s2 ⟨x,H2,I2,rx,e,C,ex,S,n,hk⟩=>?_) hs
 subst ex
 obtain rfl:ov=Value.ref e:=rx
 rcases hk with⟨hx,q2⟩|⟨dx,fs,hx,hd,hl,q2⟩
 ·obtain⟨⟨vs,sl,he,h1⟩,_,_⟩:=(show bI X.prog X.w H2 s2.heap e (newX e C none) from I2.hok e _ hx)
  refine Eo I2.pB S n.Jt he λh' hn' sb=>?_
  have ne:e≠s2.heap.objs.size:=Nat.ne_of_lt (Heap.lt_size he)
  have e1:(s2.heap.push PySem.W.emptyDict).get? s2.heap.objs.size=some PySem.W.emptyDict:=Heap.get?_push_size _ rfl
  have n1:(s2.heap.push PySem.W.emptyDict).Ns1 s2.heap.objs.size (λ_=>none):=Heap.Ns1.of_empty ⟨_,#[],_,e1,rfl,(λe he=>absurd he (by simp)),λ_=>rfl⟩
  have Wb:(s2.heap.push PySem.W.emptyDict).get? e=some ⟨.ref C,none,.fields vs,sl⟩:=Heap.get?_push_of_some _ he
  have he2:=Heap.get?_update_self (λo=>{ o with dict:=some s2.heap.objs.size }) Wb rfl
  have J1:=I2.laid (a:=s2.heap.objs.size) (o:=Am s2.heap.objs.size []) (h':=s2.heap.push PySem.W.emptyDict) (t':=s2.toks) (λb u q=>Heap.get?_push_of_some _ q) (Nat.le_refl _) (Ec n1 (λ_=>True.intro) (λy hy=>absurd rfl hy))
  have J2:=J1.write (x:=e) (e:=e) (o:=newX e C (some s2.heap.objs.size)) (t':=s2.toks) (by rw[au ne,hx];exact True.intro) (.inl rfl) (λb u hb q=>(Heap.get?_update_other _ _ (Ne.symm hb)).trans q) ⟨_,he2⟩ (AW he2 h1)
  have J3:=J2.write (x:=s2.heap.objs.size) (e:=s2.heap.objs.size) (o:=Am s2.heap.objs.size (aG f y [])) (h':=h') (t':=s2.toks+2) (by rw[au (Ne.symm ne),af];exact True.intro) (.inl rfl) (λb u hb q=>(sb.2 b hb).trans q) (let ⟨o,_,_,e,_⟩:=hn';⟨o,e⟩)
   (Ec hn' (Cy (mA:=λ_=>none) (λ_=>True.intro) ry) (wF (mA:=λ_=>none) λy hy=>absurd rfl hy)) (ht:=by show s2.toks<=s2.toks+2;omega)
  exact⟨σ,_,J3,q2 _ (I2.hok.fresh (Nat.le_refl _))⟩
 ·obtain⟨⟨vs,sl,he,h1⟩,_,_⟩:=(show bI X.prog X.w H2 s2.heap e (newX e C (some dx)) from I2.hok e _ hx)
  obtain⟨⟨mA,nA,rA,wA⟩,_,_⟩:=(show bI X.prog X.w H2 s2.heap dx (Am dx fs) from I2.hok dx _ hd)
  refine En I2.pB S n.Jt he nA wA (by rw[List.length_map,sizeLine_eq];omega) λh' hn' sb=>?_
  have J3:=I2.write (x:=dx) (e:=dx) (o:=Am dx (aG f y fs)) (h':=h') (t':=s2.toks+2) (by rw[hd];exact True.intro) (.inl rfl) (λb u hb q=>(sb.2 b hb).trans q) (let ⟨o,_,_,e,_⟩:=hn';⟨o,e⟩) (Ec hn' (Cy rA ry) (wF wA))
  exact⟨σ,_,J3,q2⟩
structure XMk(K:PySem.W.Frag)(C f:Addr):Prop where
 cls:G7 K C f
 fn:PySem.W.isFn K (.ref f)=true
 kp:PySem.W.keepIn K (.ref C)=true
def Mu(C:Addr)(sp:Sp)(E:St->XK)(t:TA):TS:=λ_ σ H=>t σ H λvs H1=>vs.length<=sizeLine/\∀e,H1 e=none →
 sp (.ref e::vs) (upd H1 e (newX e C none)) (λv H2=>v= .gB/\∃od,H2 e=some (newX e C od)/\E σ (.ref C) od (del H2 e)) (E σ)
theorem Hy{X:Cx}{E:St->XK}{C f:Addr}{x:Str}{np cpos pos:Pos}{k:Nat}{fd:FuncData}{ps:List Str}{sp:Sp}{e:Expr}{es:List Expr}{t:TA}(L:Lets X E)(M:XMk X.K C f)
  (F:aJ X.prog X.w X.K X.mg X.base (vz X.prog X.w) k f fd ps sp) (hr:jS (k+1) X.A) (hb:Binds X.K fd ps []) (hc:X.calm=true)
  (hg:Gl X x) (hm:X.mg x=some (.ref C)) (ha:PA X (e::es) t) (hdb:(x==("__debug__" :Str))=false:=by decide) (he:starEach (e::es) X.env=(false,eval e X.env)::starEach es X.env:=by rfl)
  (hpl:(backTo cpos (starEach es X.env)).any (·.1)=false:=by rfl):PS X (.Raise (some (.Call (.Name x np) (e::es) [] cpos)) none pos) (Mu C sp E t):=by
 intro pins s σ H D I h
 obtain⟨d,hC,hN,hni,T⟩:=M.cls.obj X.base I.ok.mod.N8
 rw[arm_exec_Raise]
 have FB:=PySem.F.excBase_ValueError
 simp only[evalOpt,Option.map]
 refine wpAny_bind (wpAny_standAt (Ey (C:=C) (nm:=d.nm) (q:=d.q) (N:=d.N) (bs:=d.bs) (bm:=d.bm) (hdct:=d.hdct) (sn:=d.sn) (sub:=d.sub) (ab:=d.ab) (col:=d.col) (dd:=d.dd) (k0:=d.k0) (k1:=d.k1) (k2:=d.k2) (k3:=d.k3) (k5:=d.k5) (newId:= "ValueError.__new__") (T.hasType FB.hasBase) (I.ok.hd hc) ?_))
 refine wpAny_bind (dw (Q:=λv s₁=>∃e od vs sl,v= .ref e/\s₁.heap.get? C=some (d.obj C "ValueError.__new__")/\s₁.heap.get? e=some ⟨.ref C,od,.fields vs,sl⟩/\vs[1]? =some .none/\X.xe (.ref e) s₁) ?_ λv s2 h2=>wpAny_bind (wpAny_standAt (wpAny_pure h2)))
 refine wpAny_Call_Name_kw (mO I hg hm ?_ hdb)
 refine PySem.W.callWith_K (h₀:=X.base) I.ok.mod.N8 M.kp (dw (ha cpos pins s σ H _ I h) λus s1 ⟨vs,H1,I1,r,hl,q1⟩=>⟨I1.pB,?_⟩) he hpl
 have hfo:∃o,s1.heap.get? f=some o/\o.cls= .type "function" :=by
  obtain⟨o,ho,hc⟩:=Option.map_eq_some_iff.mp (beq_iff_eq.mp M.fn)
  exact⟨o,I1.pB _ _ ho,hc⟩
 obtain⟨oI,hfo,hfc⟩:=hfo
 have I1':=I1
 obtain⟨hh,gs,dr,tk,os⟩:=s1
 refine IG (N:=d.N) (mN:=d.mN) FB FB.hasB FB (T.keeps I1.bk) (I1.bk _ _ hC) (hN.keeps I1.bk) hni hfo hfc (λh' ea made=>?_) (by show us.length<=sizeLine;rw[←r.length];exact hl)
 obtain⟨t',ht,_,_⟩:=made.there
 have xo:=I1.VM made.new (I1.hok.none_of made.new)
 have J0:Inv X pins σ H1 ⟨h',gs,dr,tk,os⟩:=I1.kept (t':=tk) made.keeps
 have J1:Inv X pins σ (upd H1 ea (newX ea C none)) ⟨h',gs,dr,tk,os⟩:=J0.Jr xo (AW ht ⟨rfl,rfl,by simp⟩)
 have hq:=q1 ea xo.1
 have r2:Vals (V.ref ea::vs) (Value.ref ea::us):=.cons rfl r
 have hlen:(Value.ref ea::us).length=ps.length:=by rw[←r2.length];exact F.len _ _ _ _ hq
 refine wpAny_call (codeAny_mono (F.run _ X.stack _ _ ⟨Value.ref ea::us,[]⟩ (Value.ref ea::us) _ _ (E σ) (hr.make C us []) (J1.Nv.make C us []) (by have z:=hb _ (Value.ref ea::us) J1.pB (by rw[List.append_nil];exact hlen);rw[List.append_nil]at z;exact z) r2 hq) λrr s' hq'=>?_)
 cases rr with
 |error e=>exact L.pass J1 hq'
 |ok fl =>
  cases fl with
  |ret u =>
   obtain⟨v,H',I3,rv,ev,od,hx,qE⟩:=J1.after hq'
   subst ev
   obtain⟨⟨vs',IY,he',rE⟩,_,_⟩:=(show bI X.prog X.w H' s'.heap ea (newX ea C od) from I3.hok ea _ hx)
   refine⟨rv,ea,od,vs',IY,rfl,I3.bk _ _ hC,he',rE.1,?_⟩
   exact L pins σ (del H' ea) s' ea (.ref C) od (I3.drop hx) ⟨⟨DC,xo.2⟩,vs',IY,he',λ_=>rE.2.1,.inl rE.1⟩ qE
  |next=>exact False.elim hq'
  |brk=>exact False.elim hq'
  |cont=>exact False.elim hq'
end L2
namespace L2
open PySem PySem.Spec PyProof.Rows
section
variable{X:Cx}{a b c:Expr}{ta tb tc:TE}{pos:Pos}{rest:List Expr}
end
end L2
namespace L2
open PySem PySem.Spec PyProof.Rows
def Ju(wi:TI)(g:TG)(tt:TT)(te:TE)(oA:St->St):TE:=λσ H Q=>wi σ H λJ H1=>∀l,H1 l=none->∃W:Nat->Nat->List V->Hp->Prop,(∃m,W 0 m [] (upd H1 l (.lst []))) ∧
 ∀i m ys H2,W i m ys H2->(J.stop i H2/\Q (.ref l) H2) ∨
  (J.go i H2/\∀x H3,J.zq i H2 x H3->g x (oA σ) H3 λzp H4=>Kp (oA σ) zp/\tt zp H4 λb H5 =>
   if b=true then te zp H5 (λy H6=>H6 l=some (.lst ys)/\ys.length<sizeLine/\∃m',m'<m/\W (i+1) m' (ys++[y]) (upd H6 l (.lst (ys++[y]))))else ∃m',m'<m/\W (i+1) m' ys H5)
theorem Us{A B:Prop}(h:if false=true then A else B):B:=by rw[if_neg Bool.false_ne_true]at h;exact h
theorem Ur{A B:Prop}(h:if true=true then A else B):A:=by rw[if_pos rfl]at h;exact h
set_option maxHeartbeats 2000000 in
theorem Ft{X:Cx}{elt tg iter test:Expr}{tt:TT}{scope:Scope}{pos pos':Pos}{wi:TI}{g:TG}{te:TE}{N:List Str}{oA:St->St}(hc:X.calm=true)(hS:X.Ok->∃cl,dm X scope cl N oA)(hi:PI X tg iter wi)
  (hg:∀cl C s H ex pn E,PG (jt X scope cl C N s H ex pn E) tg g) (he:∀cl C s H ex pn E,PE (jt X scope cl C N s H ex pn E) elt te) (ht:∀cl C s H ex pn E,PT (jt X scope cl C N s H ex pn E) test tt) (hs:∀x,foldedSetIterable iter X.env x=pure x)
  {pins:List (Addr×Obj)} {s:Shared} {σ:St} {H:Hp} {Q:VK} {use:Option (Value->Sem Unit)} {QQ:Value->Shared->Prop} (I:Inv X pins σ H s) (h:Ju wi g tt te oA σ H Q)
  (RG:∀(l C:Addr) (mC:Str->Option Value) (H':Hp) (s':Shared),Inv X pins σ H' s'->pL X pins H' C->s'.heap.Ns C mC->Q (.ref l) H'->compPost (model X.prog X.w) X.A X.xe use QQ (.ref l) C (.ok .next) s') :
  wpAny (model X.prog X.w) X.A (comprehension (.ListComp elt [⟨tg,iter,[test],0⟩] scope pos) scope X.env pos' (newList []) false (eval iter X.env) use) QQ X.xe s:=by
 obtain⟨cl,S⟩:=hS I.ok
 refine wpAny_comprehension_free (use:=use) rfl hs S.clos S.kind S.names (dw (hi pins s σ H _ I h) λv s1 h1=>dw h1 λitv s2 h2=>?_)
 obtain⟨it,fp,tn,J,H2,e,I2,T,st2,f2,hq⟩:=h2
 subst e
 obtain⟨W,⟨m0,w0⟩,turn⟩:=hq _ I2.fresh
 refine wpAny_newObj_type (DF S λBa h₁ G E7 kp=>?_)
 have I3:Inv X pins σ (upd H2 s2.heap.objs.size (.lst [])) { s2 with heap:=s2.heap.push { cls:=.type "list",data:=.seq ([]:List Value).toArray } }:=I2.TQ (t':=s2.toks) .nil (Nat.zero_le _)
 have CL:∀b o,s2.heap.get? b=some o->(s2.heap.push { cls:=.type "list",data:=.seq ([]:List Value).toArray }).get? b=some o:=λb o e=>Heap.get?_push_of_some _ e
 have f3:∀b∈fp,pL X pins (upd H2 s2.heap.objs.size (.lst [])) b/\b<(s2.heap.push { cls:=.type "list",data:=.seq ([]:List Value).toArray }).objs.size:=λb hb=>by
  obtain⟨o,ho,_⟩:=T.obj _ _ st2 b hb
  have hlt:=Heap.lt_size ho
  obtain⟨f0,f1⟩:=f2 b hb
  exact⟨⟨by rw[au (Nat.ne_of_lt hlt)];exact f0,f1⟩,Heap.lt_size (CL b o ho)⟩
 have st3:tn 0 h₁:=T.keep _ _ _ st2 λb _ o e=>kp b o (CL b o e)
 generalize hR:(λr s'=>compPost (model X.prog X.w) X.A X.xe use QQ (.ref s2.heap.objs.size) (s2.heap.push { cls:=.type "list",data:=.seq ([]:List Value).toArray }).objs.size r s')=R
 generalize q8:jt X scope Ba (s2.heap.push { cls:=.type "list",data:=.seq ([]:List Value).toArray }).objs.size N { s2 with heap:=s2.heap.push { cls:=.type "list",data:=.seq ([]:List Value).toArray } }
  (upd H2 s2.heap.objs.size (.lst [])) fp (X.pn++pins) (notedBy (model X.prog X.w) X.A (compEnvC scope Ba (s2.heap.push { cls:=.type "list",data:=.seq ([]:List Value).toArray }).objs.size X.env) λe s'=>R (.error e) s')=X'
 have I4:Inv X' [] (oA σ) (upd H2 s2.heap.objs.size (.lst [])) { s2 with heap:=h₁ }:=by
  subst q8
  exact Dj (s:={ s2 with heap:=s2.heap.push { cls:=.type "list",data:=.seq ([]:List Value).toArray } }) S G I3 f3 kp E7 s2.toks
 have PG':PG X' tg g:=by subst q8;exact hg _ _ _ _ _ _ _
 have PE':PE X' elt te:=by subst q8;exact he _ _ _ _ _ _ _
 have PT':PT X' test tt:=by subst q8;exact ht _ _ _ _ _ _ _
 have stat:∀{H':Hp},(∀b∈fp,H' b=none)->∀b∈fp,pL X' [] H' b:=λhn b hb=>by
  subst q8
  obtain⟨⟨_,f1,fn,_,f4,f5⟩,lt⟩:=f3 b hb
  refine⟨hn b hb,Nat.ne_of_lt lt,λz=>?_,.inl hb,λx c e=>(G.look x c e).elim (λz=>Nat.ne_of_gt (Nat.lt_trans lt z.1)) λz=>f4 x c (S.sub x c z),λp hp=>f5 p ?_⟩
  ·rcases List.mem_cons.mp (I3.rO b z)with q|q
   ·exact f1 q
   ·exact fn q
  ·rcases List.mem_append.mp hp with z|z
   ·exact z
   ·cases z
 have hp1:X'.prog=X.prog:=by subst q8;rfl
 have hp2:X'.w=X.w:=by subst q8;rfl
 have hp3:X'.K=X.K:=by subst q8;rfl
 have UJ:X'.calm=true:=by subst q8;exact hc
 have I9:X'.A=X.A:=by subst q8;rfl
 have Rx:X'.env=compEnvC scope Ba (s2.heap.push { cls:=.type "list",data:=.seq ([]:List Value).toArray }).objs.size X.env:=by subst q8;rfl
 have Oi:X'.xe=notedBy (model X.prog X.w) X.A X'.env λe s'=>R (.error e) s':=by subst q8;rfl
 have fin:∀{H':Hp} {s':Shared},Inv X' [] (oA σ) H' s'->Q (.ref s2.heap.objs.size) H'->R (.ok .next) s':=by
  intro H' s' I5 q
  subst hR
  obtain⟨mC,UN,_⟩:=I5.loc
  rw[Rx]at UN
  have hok:mQ X.prog X.w H' s'.heap:=by
   have z:=I5.hok
   rw[hp1,hp2]at z
   exact z
  have u:Un (frs X.stack) fp (upd H2 s2.heap.objs.size (.lst [])) H' (s2.heap.push { cls:=.type "list",data:=.seq ([]:List Value).toArray }) s'.heap:=by
   have z:=I5.base
   subst q8
   exact z
  have hC:H' (s2.heap.push { cls:=.type "list",data:=.seq ([]:List Value).toArray }).objs.size=none:=by
   have zf:=I5.free
   rw[Rx]at zf
   exact zf
  refine RG _ _ mC H' s' (I3.LD (ch:=fp) (s':=s') (by have z:=I5.os;subst q8;exact z) u hok I5.bare (λb hb=>?_) (by have z:=I5.up;subst q8;exact Nat.le_trans I3.up z)) (I3.sC (Nat.le_refl _) hC) UN q
  obtain⟨⟨_,f1,_,ZV,f4,f5⟩,_⟩:=f3 b hb
  exact⟨ZV,f1,f4,f5⟩
 have loop:∀s3:Shared,Inv X' [] (oA σ) (upd H2 s2.heap.objs.size (.lst [])) s3->tn 0 s3.heap →
   codeAny (model X.prog X.w) X.A (.compLoop (.ListComp elt [⟨tg,iter,[test],0⟩] scope pos) 0 (.ref it) (.ref s2.heap.objs.size) X'.env) R s3:=by
  intro s3 J3 t3
  refine codeAny_loop rfl (λn s'=>∃i ys H',Inv X' [] (oA σ) H' s'/\tn i s'.heap/\(∀b∈fp,H' b=none)/\W i n ys H') ?_ m0 ⟨0,[],_,J3,t3,λb hb=>(f3 b hb).1.1,w0⟩
  rintro n s4 ⟨i,ys,H4,J4,t4,n4,w4⟩
  show wpAny _ _ ((compTurn (.ListComp elt [⟨tg,iter,[test],0⟩] scope pos) 0 (.ref it) (.ref s2.heap.objs.size) X'.env).onRaise (λx=>do noteFrame x X'.env;theTreesLotGoes x)) _ _ s4
  refine wpAny_noted ?_
  rw[compTurn_list]
  refine wpAny_bind (wpAny_standAt (wpAny_bind ?_))
  rcases turn i n ys H4 w4 with⟨stop,q⟩|⟨go,step⟩
  ·have z:=T.done X' hp1 hp2 hp3 UJ i [] s4 (oA σ) H4 (notedBy (model X.prog X.w) X.A X'.env λe s'=>R (.error e) s') J4 (stat n4) t4 stop
   rw[I9]at z
   refine wpAny_mono z (λr s5 ⟨hr,J5⟩=>?_) λ_ _ x=>x
   subst hr
   exact wpAny_pure (fin J5 q)
  ·have z:=T.item X' hp1 hp2 hp3 UJ i [] s4 (oA σ) H4 (notedBy (model X.prog X.w) X.A X'.env λe s'=>R (.error e) s') J4 (stat n4) t4 go
   rw[I9]at z
   refine wpAny_mono z (λr s5 ⟨u,hr,h5⟩=>?_) λ_ _ x=>x
   subst hr
   refine wpAny_bind (wpAny_mono h5 (λ_ s6 ⟨x,H6,J6,r6,y6,t6,n6⟩=>?_) λ_ _ x=>x)
   have J6':=J6.pinned (stat n6) (T.obj _ _ t6)
   have zg:=PG' _ s6 (oA σ) H6 x u _ J6' r6 (step x H6 y6)
   rw[hp1,hp2,I9,Oi]at zg
   refine wpAny_bind (wpAny_mono zg (λ_ s7 ⟨BS,H7,J7,k7,q7⟩=>?_) λ_ _ x=>x)
   have zt:=PT' _ s7 BS H7 _ J7 q7
   rw[hp1,hp2,I9,Oi]at zt
   refine wpAny_bind (wpAny_mono (wpAny_tests_one zt) (λok s7b h7b=>?_) λ_ _ x=>x)
   obtain⟨H7b,Vt,q7b⟩:=h7b
   cases ok with
   |false =>
    obtain⟨m',hm,w8⟩:=Us q7b
    refine wpAny_pure ⟨rfl,m',hm,i+1,ys,_,?_,?_,?_,w8⟩
    ·refine Vt.Jk.weak ?_ ?_
     ·rw[S.len,Vt.len]
      subst q8
      rfl
     ·exact k7
    ·exact T.keep _ _ _ t6 λb hb o e=>(Vt.pin (b,o) (List.mem_append_right _ (List.mem_append_right _ (iu hb e)))).1
    ·intro b hb
     obtain⟨o,e,d⟩:=T.obj _ _ t6 b hb
     exact(Vt.pin (b,o) (List.mem_append_right _ (List.mem_append_right _ (iu hb e)))).2.1
   |true =>
    have ze:=PE' _ s7b BS H7b _ Vt (Ur q7b)
    rw[hp1,hp2,I9,Oi]at ze
    refine wpAny_bind (wpAny_bind (wpAny_mono ze (λyv s8 h8=>?_) λ_ _ x=>x))
    obtain⟨y,H8,J8,r8,e8,z8,m',hm,w8⟩:=h8
    have za:=cE (X:=X') _ s8 BS H8 (.ref s2.heap.objs.size) [y] (.ref s2.heap.objs.size) [yv] (λ_ H9=>H9=upd H8 s2.heap.objs.size (.lst (ys++[y]))) J8 rfl (.cons r8 .nil) ⟨_,ys,y,rfl,rfl,e8,z8,rfl⟩
    rw[hp1,hp2,I9,Oi]at za
    refine wpAny_bind (wpAny_mono za (λ_ s9 h9=>?_) λ_ _ x=>x)
    obtain⟨_,H9,J9,_,e9⟩:=h9
    subst e9
    refine wpAny_pure (wpAny_pure ⟨rfl,m',hm,i+1,ys++[y],_,?_,?_,?_,w8⟩)
    ·refine J9.Jk.weak ?_ ?_
     ·rw[S.len,J9.len]
      subst q8
      rfl
     ·exact k7
    ·exact T.keep _ _ _ t6 λb hb o e=>(J9.pin (b,o) (List.mem_append_right _ (List.mem_append_right _ (iu hb e)))).1
    ·intro b hb
     obtain⟨o,e,d⟩:=T.obj _ _ t6 b hb
     exact(J9.pin (b,o) (List.mem_append_right _ (List.mem_append_right _ (iu hb e)))).2.1
 have l0:=loop _ I4 st3
 have l1:=codeAny_compStart_list l0 (T.self X.A 0 _ _ _ st3 l0)
 rw[Rx]at l1
 subst hR
 exact l1
theorem CJ{X:Cx}{elt tg iter test:Expr}{tt:TT}{scope:Scope}{pos:Pos}{wi:TI}{g:TG}{te:TE}{N:List Str}{oA:St->St}(hc:X.calm=true)(hS:X.Ok->∃cl,dm X scope cl N oA)(hi:PI X tg iter wi)
  (hg:∀cl C s H ex pn E,PG (jt X scope cl C N s H ex pn E) tg g) (he:∀cl C s H ex pn E,PE (jt X scope cl C N s H ex pn E) elt te) (ht:∀cl C s H ex pn E,PT (jt X scope cl C N s H ex pn E) test tt)
  (hs:∀x,foldedSetIterable iter X.env x=pure x:=by intro _;rfl):PE X (.ListComp elt [⟨tg,iter,[test],0⟩] scope pos) (Ju wi g tt te oA):=by
 intro pins s σ H Q I h
 rw[eval_ListComp]
 refine Ft (use:=none) (QQ:=EP X pins σ Q) hc hS hi hg he ht hs I h ?_
 intro l C mC H' s' I' fp hn q
 exact⟨mC,hn,λh' sb=>⟨.ref l,H',I'.moved (ch:=[C]) (t':=s'.toks) (λb o hb e=>(sb.2 b (by simpa using hb)).trans e) (λb hb=>by rw[List.mem_singleton.mp hb];exact fp),rfl,q⟩⟩
end L2
namespace GP
open PySem L2 sJ
theorem zR{n:Nat}(h:n<=100000):((n:Nat):Int).natAbs.log2<1920:=by
 rw[Int.natAbs_natCast]
 by_cases z:n=0
 ·subst z;decide
 ·rw[Nat.log2_lt z]
  exact Nat.lt_of_le_of_lt h (Nat.lt_of_lt_of_le (show 100000<2 ^ 20 by decide) (Nat.pow_le_pow_right (by decide) (by decide)))
theorem A8{a b:Str}{m n:Nat}(h1:a.length<=m)(h2:b.length<=n):(a++b).length<=m+n:=by rw[strLen_append];omega
theorem qu{i j:Int}:decide (V.int i=V.int j)=decide (i=j):=by
 by_cases h:i=j
 ·subst h;simp
 ·rw[decide_eq_false h,decide_eq_false (λz=>h (V.int.inj z))]
theorem ite_str{i j:Str}{A B:Prop}(h1:i=j->A)(h2:¬i=j->B):if(decide (V.str i=V.str j))=true then A else B:=by
 by_cases h:i=j
 ·rw[if_pos (by rw[h];simp)];exact h1 h
 ·rw[if_neg (by rw[decide_eq_false (λz=>h (V.str.inj z))];exact Bool.false_ne_true)];exact h2 h
def Ci(C:Addr):Sp:=λvs H Q _=>∃(e:Addr) (i j:Nat),vs=[.ref e,.int i,.int j]/\H e=some (newX e C none)/\i<=100000/\j<=100000 ∧
 ∀dx H',(∀b u,H b=some u->b≠e->H' b=some u)->H dx=none->H' e=some (newX e C (some dx))->H' dx=some (Am dx (aG "place" (.int j) (aG "row" (.int i) [])))->Q .gB H'
def MW:List V:=[.str (Str.ofString "whole"),.str (Str.ofString "within"),.str (Str.ofString "over"),.str (Str.ofString "stretch")]
def vf(m:Str):Bool:=N9 (.str m) MW
def pX(C:Addr):Sp:=λvs H Q E=>∃m:Str,vs=[.str m]/\(vf m=true->Q .gB H)/\(vf m=false->(reprText m).length<=20/\E (.ref C) none H)
def De(m:Str)(q:cu):Bool :=
 if m=Str.ofString "whole" then decide (q.1=0)&&decide (q.2=0)else if m=Str.ofString "within" then decide (q.1=0)else if m=Str.ofString "over" then decide (q.2=0)else true
def Dd(m f s:Str)(q:cu):Bool :=
 if m=Str.ofString "whole" then decide (q.1=(f.cps.size:Int))&&decide (q.2=(s.cps.size:Int))else if m=Str.ofString "stretch" then true else decide (q.1=(f.cps.size:Int))
def JK(K:PySem.W.Frag):Sp:=λvs H Q _=>∃(m:Str) (a:Addr) (q:cu),vs=[.str m,.ref a]/\ku K H a q/\Q (.bl (De m q)) H
def JJ(K:PySem.W.Frag):Sp:=λvs H Q _=>∃(m f s:Str) (a:Addr) (q:cu),vs=[.str m,.str f,.str s,.ref a]/\ku K H a q/\f.cps.size<=1000/\s.cps.size<=1000/\Q (.bl (Dd m f s q)) H
end GP
namespace L2
open PySem PySem.Spec PyProof.Rows
theorem Lp{prog:Program}{w:World}{A:Around}{E:Value->Shared->Prop}{s:Shared}{K:PySem.W.Frag}{x C:Addr}{ox:Obj}{od:Option Obj}{name:Str}{expr:Bool}{v:Value}{Q:Value->Shared->Prop}(Z:RZ K C)(k:K.In s.heap)(I:PySem.W.InstAt s.heap x ox C od)
  (hf:PySem.W.findObj K C od name=some (.value v)) (hd:PySem.W.handedIn v=true) (h:Q v { s with toks:=s.toks+1 }):wpAny (model prog w) A (getAttr (.ref x) name expr) Q E s:=by
 obtain⟨hh,g,d,t,os⟩:=s
 have L0:=I.type (M:=model prog w)
 have L1:=PySem.W.looks_findIn (M:=model prog w) k Z.ga
 have L2:=PySem.W.looks_findIn (M:=model prog w) k Z.gn
 have LB:=PySem.W.looks_mroIn (M:=model prog w) k Z.hb
 have LF:=PySem.W.looks_find (M:=model prog w) k I hf
 unfold getAttr getAttrBy
 refine wpAny_bind (wpAny_mkText (wpAny_holding (wpAny_bind (L0.at (wpAny_bind (L1.at ?_))))))
 show wpAny _ _ (getAttrByItsOwn _ _ _ _ _ _) _ _ _
 unfold getAttrByItsOwn hookBefore
 refine wpAny_bind (L2.at ?_)
 refine wpAny_bind (wpAny_attempt (wpAny_holding ?_))
 have e0:∀n:Value,callGetattribute (.ref x) n (.builtin "BaseException.__getattribute__") expr=boundAndCalled (.builtin "BaseException.__getattribute__") (.ref x) n:=λn=>by
  unfold callGetattribute
  cases expr<;>rfl
 rw[e0]
 unfold boundAndCalled
 refine wpAny_bind (wpAny_of_eq (PySem.F.attr_ValueError.ga.bind (.ref x)) ?_)
 show wpAny _ _ (call (.builtin "BaseException.__getattribute__") [.ref x,.str name t]) _ _ _
 refine wpAny_call (codeAny_call_builtin PySem.F.attr_ValueError.ga.plain PySem.F.entry_bexc_ga ?_)
 have c1:builtinKind "BaseException.__getattribute__" =some .slot:=by decide +kernel
 have c2:splitId "BaseException.__getattribute__" =some ("BaseException","__getattribute__"):=by decide +kernel
 have c3:=PySem.F.args_bexc_ga (.ref x) (.str name t)
 simp only[checkBuiltinCall,c1,c2]
 refine wpAny_bind (wpAny_bind (L0.at (LB.at ?_)))
 simp only[Bool.not_true,Bool.false_eq_true,if_false]
 unfold argsOk at c3
 refine wpAny_of_eq c3 ?_
 unfold Builtin.«object.__getattribute__»
 refine wpAny_bind (wpAny_pure (wpAny_bind (wpAny_pure (wpAny_bind (L0.at (wpAny_bind (LF.at ?_)))))))
 refine wpAny_pure ?_
 show wpAny _ _ (handedOut v) _ _ _
 rw[PySem.W.handedOut_of hd]
 exact wpAny_pure h
def NQ(K:PySem.W.Frag)(ta:TE)(f:Str):TE:=λσ H Q=>ta σ H λx H1=>∃e C dx fs i,x= .ref e/\H1 e=some (Lq e (.ref C) (some dx))/\H1 dx=some (Am dx fs)/\RZ K C/\bL K C f/\fs.lookup f=some (.int i)/\Q (.int i) H1
theorem Dk{P:Program}{w:World}{H:Hp}{h:Heap}{e C dx:Addr}{fs:List (Str×V)}(hok:mQ P w H h)(he:H e=some (Lq e (.ref C) (some dx)))(hd:H dx=some (Am dx fs)):
  ∃ox od,∃mA:Str->Option Value,PySem.W.InstAt h e ox C (some od)/\(∀name,PySem.W.lookIn name od=some (mA name))/\∀f,nF (fs.lookup f) (mA f):=by
 obtain⟨⟨vs,sl,h1⟩,_,_⟩:=(show bI P w H h e (Lq e (.ref C) (some dx)) from hok e _ he)
 obtain⟨⟨mA,nA,rA,wA⟩,_,_⟩:=(show bI P w H h dx (Am dx fs) from hok dx _ hd)
 obtain⟨od,ho,hl⟩:=uG nA
 exact⟨_,od,mA,⟨h1,rfl,rfl,ho⟩,hl,rA⟩
theorem MJ{X:Cx}{e:Expr}{f:Str}{pos:Pos}{ta:TE}(he:PE X e ta)(hb:attributeBase e f X.env (eval e X.env)=eval e X.env):PE X (.Attribute e f pos) (NQ X.K ta f):=by
 intro pins s σ H Q I h
 refine G4 hb (dw (he pins s σ H _ I h) λu s1 ⟨x,H1,I1,rx,e,C,dx,fs,i,ex,hx,hd,Z,n,l,q⟩=>?_)
 subst ex
 obtain rfl:u=Value.ref e:=rx
 obtain⟨ox,od,mA,J,hl,rA⟩:=Dk I1.hok hx hd
 have r:=rA f
 rw[l]at r
 cases hm:mA f with
 |none=>rw[hm]at r;exact r.elim
 |some u =>
  rw[hm]at r
  obtain⟨t,rfl⟩:=(show ∃t,u=Value.int i t from r)
  refine Lp Z I1.pB J ?_ rfl ⟨.int i,H1,I1.tok _,⟨t,rfl⟩,q⟩
  obtain⟨cd,hc,Wc⟩:=PySem.W.any_some Z.hd
  have hn:PySem.W.findIn X.K (.ref C) f=some none:=n
  unfold PySem.W.findObj
  rw[hc,Option.bind_some,hn,Option.bind_some]
  simp only[Option.bind_some,PySem.W.ownOf,Wc,if_true,hl,hm]
end L2
namespace GP
open PySem L2 sJ
theorem Cq{x:Str}{lo hi:Option Int}{a b:Nat}(e:PySem.Builtin.Str.strSliceIndices lo hi 1 x.length=PySem.Builtin.Str.strSliceIndices (some (a:Int)) (some (b:Int)) 1 x.length)(hab:a<=b)(hb:b<=x.cps.size):(Txt.slice x lo hi).cps.toList=(x.cps.toList.drop a).take (b-a):=by
 have hb':b<=x.length:=hb
 have f:=StrLaws.sliced_plain x hab hb'
 unfold Txt.slice
 rw[e]
 split
 ·next h =>
  have hl:(PySem.Builtin.Str.strSliceIndices (some (a:Int)) (some (b:Int)) 1 x.length).length=x.length:=by simpa using h
  rw[StrLaws.strSliceIndices_plain hab hb',List.length_map,List.length_range]at hl
  have hl':b-a=x.cps.size:=hl
  have ha:a=0:=by omega
  subst ha
  rw[List.drop_zero,List.take_of_length_le (by rw[Array.length_toList];omega)]
 ·exact f
theorem Cr{x:Str}{k:Int}(h0:0<=k)(h1:k<=(x.cps.size:Int)):(Txt.slice x none (some k)).cps.toList=x.cps.toList.take k.toNat:=by
 obtain⟨n,rfl⟩:∃n:Nat,k=(n:Int):=⟨k.toNat,(Int.toNat_of_nonneg h0).symm⟩
 have e:=Cq (x:=x) (lo:=none) (hi:=some (n:Int)) (a:=0) (b:=n) (by
  simp only[PySem.Builtin.Str.strSliceIndices]
  simp
  rw[show max (0:Int) (min 0 (x.length:Int))=0 by omega]) (Nat.zero_le _) (by omega)
 rw[e,List.drop_zero]
 rfl
theorem Cs{x:Str}{k:Int}(h0:0<=k)(h1:k<=(x.cps.size:Int)):(Txt.slice x (some k) none).cps.toList=x.cps.toList.drop k.toNat:=by
 obtain⟨n,rfl⟩:∃n:Nat,k=(n:Int):=⟨k.toNat,(Int.toNat_of_nonneg h0).symm⟩
 have e:=Cq (x:=x) (lo:=some (n:Int)) (hi:=none) (a:=n) (b:=x.cps.size) (by
  have hl:x.length=x.cps.size:=rfl
  simp only[PySem.Builtin.Str.strSliceIndices,hl]
  simp
  rw[if_neg (show ¬(x.cps.size:Int)<0 by omega),show max (0:Int) (min (x.cps.size:Int) (x.cps.size:Int))=(x.cps.size:Int) by omega]) (by omega) (Nat.le_refl _)
 rw[e,List.take_of_length_le (by rw[List.length_drop,Array.length_toList];omega)]
 rfl
def uu(sg a b:Str)(i j:Nat):Prop :=
 (i=0/\(∃c,a.cps[j]? =some c/\c∉sg.cps.toList)/\∀k c,k<j->a.cps[k]? =some c->c∈sg.cps.toList) ∨
 (i=1/\Of sg a/\(∃c,b.cps[j]? =some c/\c∉sg.cps.toList)/\∀k c,k<j->b.cps[k]? =some c->c∈sg.cps.toList)
theorem uu.no{sg a b:Str}{i j:Nat}(h:uu sg a b i j):¬(Of sg a/\Of sg b):=λo=>by
 rcases h with⟨_,⟨c,hc,hn⟩,_⟩|⟨_,_,⟨c,hc,hn⟩,_⟩
 ·exact hn (o.1 c (nY hc))
 ·exact hn (o.2 c (nY hc))
theorem xS{sg a:Str}{j j':Nat}(h:(∃c,a.cps[j]? =some c/\c∉sg.cps.toList)/\∀k c,k<j->a.cps[k]? =some c->c∈sg.cps.toList)
  (h':(∃c,a.cps[j']? =some c/\c∉sg.cps.toList)/\∀k c,k<j'->a.cps[k]? =some c->c∈sg.cps.toList):j=j':=by
 obtain⟨⟨c,hc,hn⟩,h2⟩:=h
 obtain⟨⟨d,hd,hm⟩,h3⟩:=h'
 rcases Nat.lt_trichotomy j j' with z|z|z
 ·exact absurd (h3 j c z hc) hn
 ·exact z
 ·exact absurd (h2 j' d z hd) hm
theorem uu.uniq{sg a b:Str}{i j i' j':Nat}(h:uu sg a b i j)(h':uu sg a b i' j'):i=i'/\j=j':=by
 rcases h with⟨e,h1,h2⟩|⟨e,o,h1,h2⟩
 ·rcases h' with⟨e',k1,k2⟩|⟨e',o',k1,k2⟩
  ·exact⟨e.trans e'.symm,xS ⟨h1,h2⟩ ⟨k1,k2⟩⟩
  ·obtain⟨c,hc,hn⟩:=h1
   exact absurd (o' c (nY hc)) hn
 ·rcases h' with⟨e',k1,k2⟩|⟨e',o',k1,k2⟩
  ·obtain⟨c,hc,hn⟩:=k1
   exact absurd (o c (nY hc)) hn
  ·exact⟨e.trans e'.symm,xS ⟨h1,h2⟩ ⟨k1,k2⟩⟩
def A7(i j:Nat):List (Str×V):=aG "place" (.int j) (aG "row" (.int i) [])
theorem Ll{i j:Nat}:(A7 i j).lookup ("row" :Str)=some (.int i):=by
 unfold A7
 rw[av,if_neg (by decide +kernel),av,if_pos rfl]
theorem Fj{i j:Nat}:(A7 i j).lookup ("place" :Str)=some (.int j):=by
 unfold A7
 rw[av,if_pos rfl]
def Cj(C:Addr):Sp:=λvs H Q E=>∃(sg:Str) (l:Addr) (a b:Str),vs=[.str sg,.ref l]/\H l=some (.lst [.str a,.str b])/\a.cps.size<=1000/\b.cps.size<=1000/\(Of sg a->Of sg b->∀H',ai H H'->Q .gB H') ∧
 (∀i j,uu sg a b i j->∀dx H',ai H H'->H' dx=some (Am dx (A7 i j))->E (.ref C) (some dx) H')
def Au(K:PySem.W.Frag)(C CE:Addr):Sp:=λvs H Q E=>∃(x l:Addr) (sg:Str) (rows:List (List cu)) (fo fm:cu) (a b:Str),vs=[.ref x,.ref l]/\nB K C H x sg rows fo fm/\H l=some (.lst [.str a,.str b])/\a.cps.size<=1000/\b.cps.size<=1000/\(Of sg a->Of sg b->∀H',ai H H'->Q .gB H') ∧
 (∀i j,uu sg a b i j->∀dx H',ai H H'->H' dx=some (Am dx (A7 i j))->E (.ref CE) (some dx) H')
theorem tK{K:PySem.W.Frag}:PySem.W.kitOne K (.type "str") (.type "list")=some false:=by kernel_rfl
theorem rC{K:PySem.W.Frag}:PySem.W.kitOne K (.type "str") (.type "tuple")=some false:=by kernel_rfl
theorem zQ{α:Type}[DecidableEq α]:∀{l m:List α},l.Nodup->(∀a∈l,a∈m)->l.length<=m.length
 |[],_,_,_=>Nat.zero_le _
 |a::l,m,nd,h=>by
  have ha:=h a List.mem_cons_self
  obtain⟨n1,n2⟩:=List.nodup_cons.mp nd
  have ih:=zQ (l:=l) (m:=m.erase a) n2 λb hb=>by
   have nb:b≠a:=λz=>n1 (z▸hb)
   exact(List.mem_erase_of_ne nb).mpr (h b (List.mem_cons_of_mem _ hb))
  rw[List.length_erase_of_mem ha]at ih
  have hp:0<m.length:=List.length_pos_of_mem ha
  rw[List.length_cons]
  omega
end GP
namespace GP
open PySem L2 sJ
theorem Ae{sg f b:Str}{c:Nat}{k:Int}(h0:0<=k)(h1:k<=(f.cps.size:Int))(of:Of sg f)(hc:c∉sg.cps.toList):
  (∃d,((Txt.slice f none (some k)++(⟨#[c]⟩:Str))++Txt.slice f (some k) none).cps[k.toNat]? =some d/\d∉sg.cps.toList) ∧
  ∀j d,j<k.toNat->((Txt.slice f none (some k)++(⟨#[c]⟩:Str))++Txt.slice f (some k) none).cps[j]? =some d->d∈sg.cps.toList:=by
 have e:((Txt.slice f none (some k)++(⟨#[c]⟩:Str))++Txt.slice f (some k) none).cps.toList=f.cps.toList.take k.toNat++[c]++f.cps.toList.drop k.toNat:=by rw[qG,qG,Cr h0 h1,Cs h0 h1]
 have l:(f.cps.toList.take k.toNat).length=k.toNat:=by rw[List.length_take,Array.length_toList];omega
 refine⟨⟨c,?_,hc⟩,λj d hj hd=>?_⟩
 ·rw[←Array.getElem?_toList,e,List.getElem?_append_left (by rw[List.length_append,l];exact Nat.lt_succ_self _),List.getElem?_append_right (by rw[l];exact Nat.le_refl _),l,Nat.sub_self]
  rfl
 ·rw[←Array.getElem?_toList,e,List.getElem?_append_left (by rw[List.length_append,l];exact Nat.lt_succ_of_lt hj),List.getElem?_append_left (by rw[l];exact hj)]at hd
  exact of d (List.mem_of_mem_take (List.mem_of_getElem? hd))
theorem GH{f:Str}{c:Nat}{k:Int}(h0:0<=k)(h1:k<=(f.cps.size:Int)):((Txt.slice f none (some k)++(⟨#[c]⟩:Str))++Txt.slice f (some k) none).cps.size=f.cps.size+1:=by
 rw[←Array.length_toList,qG,qG,Cr h0 h1,Cs h0 h1,List.length_append,List.length_append,List.length_take,List.length_drop,Array.length_toList]
 show min k.toNat f.cps.size+1+(f.cps.size-k.toNat)=_
 omega
end GP
namespace L2
open PySem PySem.Spec PyProof.Rows
section
variable{X:Cx}{o:Expr}{to:TE}{g:Str}{c j:Nat}{u:Tok}{apos cpos p1 p2:Pos}
end
end L2
namespace L2
open PySem PySem.Spec PyProof.Rows
abbrev sg(c:Nat):V:=.str ⟨#[c]⟩
theorem wI:∀{cs:List Nat} {us:List Value},Vals (cs.map sg) us->∃l:List (Str×Tok),us=strValues l/\l.map (·.1)=cs.map λc=>(⟨#[c]⟩:Str)
 |[],_,.nil=>⟨[],rfl,rfl⟩
 |c::cs,_,.cons r rs=>by
  obtain⟨t,e⟩:=r
  obtain⟨l,e1,e2⟩:=wI rs
  exact⟨(⟨#[c]⟩,t)::l,by rw[e,e1];rfl,by rw[List.map_cons,e2];rfl⟩
theorem zX:∀(l:List Nat) (n:Nat),(l.map λc=>(⟨#[c]⟩:Str)).foldl (λa (x:Str)=>a+x.length+(⟨#[]⟩:Str).length) n=n+l.length
 |[],_=>rfl
 |c::l,n=>by
  rw[List.map_cons,List.foldl_cons,zX l]
  show n+1+0+l.length=n+(l.length+1)
  omega
theorem Kz{X:Cx}{K':PySem.W.Frag}(hK:X.K=K'):Wn X "str.join" (λx xs H Q=>∃(l:Addr) (cs:List Nat),x= .str ⟨#[]⟩/\xs=[.ref l]/\bZ K' H l (cs.map sg)/\cs.length<=100000/\Q (.str ⟨cs.toArray⟩) H):=by
 subst hK
 intro pins s σ H x xs v us Q I rx rs h
 obtain⟨l,cs,rfl,rfl,hl,hn,q⟩:=h
 obtain⟨t,rfl⟩:=rx
 cases rs with
 |cons r rr =>
  cases rr
  cases r
  obtain⟨its,r1,t1,_⟩:=I.list hl
  obtain⟨ls,e1,e2⟩:=wI r1
  refine TK.bS (Nat.le_refl s.toks) (SC.join (l:=ls) (by rw[←e1];exact t1.isList) e2 ?_ λt' k hk=>⟨.str ⟨cs.toArray⟩,H,I.tok k hk,⟨t',?_⟩,q⟩)
  ·unfold JoinOk
   rw[List.foldl_toArray,zX]
   unfold Builtin.Str.tooLong
   rw[Bool.not_eq_true',decide_eq_false_iff_not,Nat.zero_add]
   exact Nat.not_lt.mpr (Nat.le_trans hn (by decide))
  ·have e:Txt.join ⟨#[]⟩ (cs.map λc=>(⟨#[c]⟩:Str))=⟨cs.toArray⟩:=by
    show Builtin.Str.glued _ _=_
    rw[StrLaws.glued_eq_join,join_ones]
   rw[e]
theorem Gz{X:Cx}:Wn X "str.join" (λx xs H Q=>∃(l:Addr) (cs:List Nat),x= .str ⟨#[]⟩/\xs=[.ref l]/\bZ X.K H l (cs.map sg)/\cs.length<=100000/\Q (.str ⟨cs.toArray⟩) H):=Kz rfl
end L2
namespace L2
open PySem PySem.Spec PyProof.Rows
def nv(sp:Sp):Sp:=λvs H Q _=>sp vs H Q λ_ _ _=>False
theorem aJ.nv{P:Program}{w:World}{K:PySem.W.Frag}{mg:Str->Option Value}{base:Heap}{k:Nat}{f:Addr}{fd:FuncData}{ps:List Str}{sp:Sp}(F:aJ P w K mg base (vz P w) k f fd ps sp):aJ P w K mg base ck k f fd ps (nv sp) :=
 ⟨λvs H Q E q=>F.len vs H Q _ q,λA outer s H args us vs Q E hr he hb hv hs=>codeAny_mono (F.run A outer s H args us vs Q _ hr he hb hv hs) λr s' h=>by
  cases r with
  |error e=>obtain⟨ea,cls,od,H',h⟩:=h;exact(h.2.2.2.2.2.2.2:False).elim
  |ok fl=>cases fl<;>exact h⟩
theorem Fw{J:It}{g:TG}{te:TE}{σ':St}{H1:Hp}{D:Hp->Prop}{l:Addr}(n:Nat)(f:Nat->V)(hl:H1 l=none)(hn:n<sizeLine)
  (go:∀i H,ai H1 H->i<n->J.go i H) (st:∀H,ai H1 H->J.stop n H)
  (el:∀i x H H3 (R:VK),ai H1 H->i<n->J.zq i H x H3->(∀H5,ai H H5->R (f i) H5)->g x σ' H3 λzp H4=>Kp σ' zp/\te zp H4 R)
  (fin:∀H',ai H1 H'->H' l=some (.lst ((List.range n).map f))->D H') :
  ∃W:Nat->Nat->List V->Hp->Prop,(∃m,W 0 m [] (upd H1 l (.lst [])))/\∀i m ys H2,W i m ys H2->(J.stop i H2/\D H2) ∨
   (J.go i H2/\∀x H3,J.zq i H2 x H3->g x σ' H3 λzp H4=>Kp σ' zp/\te zp H4 λy H5=>H5 l=some (.lst ys)/\ys.length<sizeLine/\∃m',m'<m/\W (i+1) m' (ys++[y]) (upd H5 l (.lst (ys++[y])))):=by
 refine⟨λi m ys H2=>m=n-i/\i<=n/\ys=(List.range i).map f/\ai H1 H2/\H2 l=some (.lst ys),⟨n,rfl,Nat.zero_le _,rfl,GP.ai.upd hl,af⟩,?_⟩
 rintro i m ys H2 ⟨rfl,hi,rfl,s2,h2⟩
 by_cases hlt:i<n
 ·refine .inr ⟨go i H2 s2 hlt,λx H3 y=>el i x H2 H3 _ s2 hlt y λH5 s5=>?_⟩
  refine⟨s5 _ _ h2,by rw[List.length_map,List.length_range];omega,n-(i+1),by omega,rfl,hlt,?_,GP.ai.at (s2.trans s5) hl,af⟩
  rw[List.range_succ,List.map_append];rfl
 ·have e:i=n:=by omega
  subst e
  exact .inl ⟨st H2 s2,fin H2 s2 h2⟩
theorem G0{J:It}{g:TG}{tt:TT}{te:TE}{σ':St}{H1:Hp}{D:Hp->Prop}{l:Addr}(n:Nat)(b:Nat->Bool)(f:Nat->V)(hl:H1 l=none)(hn:n<sizeLine)
  (go:∀i H,ai H1 H->i<n->J.go i H) (st:∀H,ai H1 H->J.stop n H)
  (el:∀i x H H3 (R:VK) (S:Hp->Prop),ai H1 H->i<n->J.zq i H x H3->(b i=true->∀H5,ai H H5->R (f i) H5)->(b i=false->∀H5,ai H H5->S H5) →
   g x σ' H3 λzp H4=>Kp σ' zp/\tt zp H4 λb' H5=>if b'=true then te zp H5 R else S H5)
  (fin:∀H',ai H1 H'->H' l=some (.lst (((List.range n).filter b).map f))->D H') :
  ∃W:Nat->Nat->List V->Hp->Prop,(∃m,W 0 m [] (upd H1 l (.lst [])))/\∀i m ys H2,W i m ys H2->(J.stop i H2/\D H2) ∨
   (J.go i H2/\∀x H3,J.zq i H2 x H3->g x σ' H3 λzp H4=>Kp σ' zp/\tt zp H4 λb H5 =>
    if b=true then te zp H5 (λy H6=>H6 l=some (.lst ys)/\ys.length<sizeLine/\∃m',m'<m/\W (i+1) m' (ys++[y]) (upd H6 l (.lst (ys++[y]))))else ∃m',m'<m/\W (i+1) m' ys H5):=by
 refine⟨λi m ys H2=>m=n-i/\i<=n/\ys=((List.range i).filter b).map f/\ai H1 H2/\H2 l=some (.lst ys),⟨n,rfl,Nat.zero_le _,rfl,GP.ai.upd hl,af⟩,?_⟩
 rintro i m ys H2 ⟨rfl,hi,rfl,s2,h2⟩
 by_cases hlt:i<n
 ·refine .inr ⟨go i H2 s2 hlt,λx H3 y=>el i x H2 H3 _ _ s2 hlt y (λhb H5 s5=>?_) λhb H5 s5=>?_⟩
  ·refine⟨s5 _ _ h2,?_,n-(i+1),by omega,rfl,hlt,?_,GP.ai.at (s2.trans s5) hl,af⟩
   ·rw[List.length_map]
    exact Nat.lt_of_le_of_lt (Nat.le_trans (List.length_filter_le _ _) (by rw[List.length_range];omega)) hn
   ·rw[List.range_succ,List.filter_append,List.map_append,List.filter_cons_of_pos hb];rfl
  ·refine⟨n-(i+1),by omega,rfl,hlt,?_,s2.trans s5,s5 _ _ h2⟩
   rw[List.range_succ,List.filter_append,List.filter_cons_of_neg (by rw[hb];exact Bool.false_ne_true),List.filter_nil,List.append_nil]
 ·have e:i=n:=by omega
  subst e
  exact .inl ⟨st H2 s2,fin H2 s2 h2⟩
end L2
namespace L2
open PySem PySem.Spec PyProof.Rows
def VA(K:PySem.W.Frag)(a:Addr)(n:Nat):It :=
 ⟨λi H=>∃xs x,bZ K H a xs/\i<n/\xs[n-1-i]? =some x,λi H x H'=>H'=H/\∀xs,bZ K H a xs->xs[n-1-i]? =some x,λi _=>n<=i⟩
theorem Jq{P:Program}{w:World}{K:PySem.W.Frag}{tg:Expr}(a it:Addr)(n:Nat):Turn P w K tg (VA K a n) [it] it (λi h=>i<=n/\h.IsRevIter it a ((n:Int)-1-(i:Int))) where
 mem:=by simp
 obj:=λi h st b hb=>by
  have e:b=it:=by simpa using hb
  subst e
  obtain⟨o,e,c,d⟩:=st.2
  exact⟨o,e,λv z=>by rw[d]at z;cases z⟩
 keep:=λi h h' st k=>⟨st.1,st.2.at λo e=>k it (by simp) o e⟩
 item:=by
  intro X hP hw hK hc i pins s σ H E I hf st hg
  subst hP hw hK
  obtain⟨xs,x,hq,hi,hx⟩:=hg
  obtain⟨its,rv,p,hz⟩:=I.list hq
  obtain⟨u,hu,ru⟩:=rv.get hx
  obtain⟨f0,f1,f2,f3,f4,f5⟩:=hf it (by simp)
  have st':s.heap.IsRevIter it a ((n-1-i:Nat):Int):=by
   rw[show((n-1-i:Nat):Int)=(n:Int)-1-(i:Int) by omega]
   exact st.2
  refine wpAny_pyNext_rev_item st' p.isList (x:=u) (by simpa using hu) λh' st' sb=>?_
  have I1:Inv X pins σ H { s with heap:=h' }:=I.turned (t':=s.toks) (λb o hb e=>(sb.2 b hb).trans e) f0 f1 f3 f4 f5
  obtain⟨o,e,c,d⟩:=id st'
  refine⟨u,rfl,zW (s:={ s with heap:=h' }) e c d (by decide) ⟨x,H,I1,ru,⟨rfl,λys hy=>by rw[I.xK hy hq];exact hx⟩,⟨by omega,?_⟩,λb hb=>(hf b hb).1⟩⟩
  rw[show(n:Int)-1-((i+1:Nat):Int)=((n-1-i:Nat):Int)-1 by omega]
  exact st'
 done:=by
  intro X hP hw hK hc i pins s σ H E I hf st hg
  subst hP hw hK
  obtain⟨f0,f1,f2,f3,f4,f5⟩:=hf it (by simp)
  have hg':n<=i:=hg
  have st':s.heap.IsRevIter it a (-1):=by
   rw[show(-1:Int)=(n:Int)-1-(i:Int) by have:=st.1;omega]
   exact st.2
  exact wpAny_pyNext_rev_end (I.ok.hd hc) st' λh' eb=>⟨rfl,I.turned (t':=s.toks) (λb o hb e=>eb b o hb e) f0 f1 f3 f4 f5⟩
 self:=λ_ _ _ _ _ st h=>wpAny_pyIter_revIter st.2 h
def Y4(K:PySem.W.Frag)(ta:TA):TI:=λσ H R=>ta σ H λvs H1=>∃a xs,vs=[.ref a]/\bZ K H1 a xs/\R (VA K a xs.length) H1
theorem boot_reversed:bootBuiltins "reversed" =some (.type "reversed"):=by decide +kernel
theorem QU {X:Cx} {tg a:Expr} {ta:TA} {p pos:Pos} (hg:Gl X "reversed") (hm:X.mg "reversed" =none) (ha:PA X [a] ta) (hs:starEach [a] X.env=[(false,eval a X.env)]:=by rfl):PI X tg (.Call (.Name "reversed" p) [a] [] pos) (Y4 X.K ta):=by
 intro pins s σ H R I h
 refine Call_ (om I hg hm boot_reversed (PyProof.Rows.callWith_type1 (dw (ha pos pins s σ H _ I h) λus s1 ⟨vs,H1,I1,r1,q1⟩=>?_) hs rfl))
 obtain⟨l,xs,rfl,hq,q⟩:=q1
 obtain⟨u,rfl,ru⟩:=vals1 r1
 cases ru
 obtain⟨its,rv,pl,hz⟩:=I1.list hq
 have hl:s1.heap.IsList l its.toArray:=pl.isList
 have hlen:=rv.length
 refine call_reversed_list hl ?_
 have e0:({ s1 with heap:=s1.heap.push (revObj l ((its.toArray.size:Int)-1)) }:Shared).heap.IsRevIter s1.heap.objs.size l ((xs.length:Int)-1-((0:Nat):Int)) :=
  ⟨_,Heap.get?_push_size _ rfl,rfl,by rw[show(xs.length:Int)-1-((0:Nat):Int)=(its.toArray.size:Int)-1 by rw[List.size_toArray];omega];rfl⟩
 refine wpAny_pyIter_revIter e0 ?_
 refine⟨s1.heap.objs.size,[s1.heap.objs.size],_,_,H1,rfl,I1.kept (t':=s1.toks) λb o e=>Heap.get?_push_of_some _ e,Jq l _ xs.length,⟨Nat.zero_le _,e0⟩,λb hb=>?_,q⟩
 have e:b=s1.heap.objs.size:=by simpa using hb
 subst e
 exact I1.sC (Nat.le_refl _) (I1.hok.fresh (Nat.le_refl _))
end L2
namespace L2
open PySem PySem.Spec PyProof.Rows
theorem Nq{K:PySem.W.Frag}{a:Addr}{xs:List V}{g:TG}{tb:TS}{D:Ends}{σ:St}{H:Hp}(Pv:Nat->St->Hp->Prop)(h0:Pv 0 σ H)(hl:∀i σ H,i<xs.length->Pv i σ H->bZ K H a xs)
  (hs:∀i x σ H,i<xs.length->xs[xs.length-1-i]? =some x->Pv i σ H->g x σ H λσ2 H2=>tb { D with nx:=Pv (i+1),ct:=Pv (i+1),bk:=D.nx } σ2 H2) (hd:∀ σ H,Pv xs.length σ H->D.nx σ H) :
  ∃W:Nat->Nat->St->Hp->Prop,(∃m,W 0 m σ H)/\∀i m σ H,W i m σ H →
   ((VA K a xs.length).stop i H/\D.nx σ H)\/((VA K a xs.length).go i H/\∃N:St->Hp->Prop,(∀ σ' H',N σ' H'->∃m',m'<m/\W (i+1) m' σ' H')/\∀x H',(VA K a xs.length).zq i H x H'->g x σ H' λσ2 H2=>tb { D with nx:=N,ct:=N,bk:=D.nx } σ2 H2):=by
 refine⟨λi m σ H=>m=xs.length-i/\i<=xs.length/\Pv i σ H,⟨xs.length,by simp,Nat.zero_le _,h0⟩,?_⟩
 rintro i m σ H ⟨rfl,hi,p⟩
 by_cases hlt:i<xs.length
 ·have hx:xs[xs.length-1-i]? =some xs[xs.length-1-i]:=List.getElem?_eq_getElem (by omega)
  refine .inr ⟨⟨xs,_,hl i σ H hlt p,hlt,hx⟩,Pv (i+1),λσ' H' p'=>⟨xs.length-(i+1),by omega,rfl,hlt,p'⟩,λx H' y=>?_⟩
  obtain⟨e,y⟩:=y
  subst e
  exact hs i x σ _ hlt (y xs (hl i σ _ hlt p)) p
 ·have e:i=xs.length:=by omega
  subst e
  exact .inl ⟨Nat.le_refl _,hd σ H p⟩
end L2
namespace L2
open PySem PySem.Spec PyProof.Rows
abbrev NK:=Int×Int×Str
section
variable{P:Program}{w:World}{A:Around}{E:Value->Shared->Prop}{s:Shared}
def pQ(P:Program)(w:World)(h:Heap)(k:NK)(a:Addr):Prop:=∃o n p t,h.get? a=some o/\o.cls= .type "tuple" /\o.data= .seq #[.ref p,.str k.2.2 t] n/\IsTupleKey (bJ P w) h [.inl k.1,.inl k.2.1] p
theorem pQ.typeIs{k:NK}{a:Addr}(x:pQ P w s.heap k a):s.TypeIs (.ref a) "tuple" :=let ⟨o,_,_,_,ho,hc,_⟩:=x;⟨o,ho,hc⟩
theorem pQ.inj{h:Heap}{a:Addr}{x y:NK}(hx:pQ P w h x a)(hy:pQ P w h y a):x=y:=by
 obtain⟨o,n,p,t,ho,_,hd,hi⟩:=hx
 obtain⟨o',n',p',t',ho',_,hd',hi'⟩:=hy
 obtain rfl:o=o':=Option.some.inj (ho.symm.trans ho')
 rw[hd]at hd'
 injection hd' with h1 _
 have rE:=congrArg Array.toList h1
 simp only[List.cons.injEq,Value.ref.injEq,Value.str.injEq,and_true]at rE
 obtain⟨rfl,e,_⟩:=rE
 have:=hi.inj hi'
 simp only[List.cons.injEq,Sum.inl.injEq,and_true]at this
 obtain⟨x1,x2,x3⟩:=x
 obtain⟨y1,y2,y3⟩:=y
 simp only at e this
 obtain⟨rfl,rfl⟩:=this
 subst e
 rfl
theorem pQ.keeps{h h':Heap}{k:NK}{a d:Addr}{o:Obj}{es ep}(x:pQ P w h k a)(ho:h.get? d=some o)(hd:o.data= .dict es ep)(hs:Heap.SameBut d h h'):pQ P w h' k a:=by
 obtain⟨o',n,p,t,ho',hc,hd',hi⟩:=x
 have hne:a≠d:=by
  rintro rfl
  obtain rfl:o'=o:=Option.some.inj (ho'.symm.trans ho)
  rw[hd]at hd';exact nomatch hd'
 exact⟨o',n,p,t,(hs.2 a hne).trans ho',hc,hd',hi.keeps ho hd hs⟩
def EV(P:Program)(w:World)(k:NK):Int:=reduceHash (Builtin.Tuple.tupleHashOf [tupleKeyHash (bJ P w) [.inl k.1,.inl k.2.1],(bJ P w).hash (.inr k.2.2)])
theorem HD{k:NK}{a:Addr}{Q:Int->Shared->Prop}(hu:A.units+1<cLine)(hk:pQ P w s.heap k a)(h:Q (EV P w k) { s with toks:=s.toks+5 }):
  wpAny (model P w) A (pyHash (.ref a)) Q E s:=by
 have hT:=hk.typeIs
 obtain⟨o,n,p,t,ho,_,hd,hi⟩:=hk
 unfold pyHash
 first|unfold pyHashByItsType|skip
 first|refine wpAny_bind (wpAny_cRoomFor_or (.inr (Nat.lt_of_succ_lt hu)) ?_)|skip
 refine wpAny_bind (wpAny_specialOf hT PySem.F.slot_tuple_hash.lookup ?_)
 show wpAny _ _ (if(some (Value.builtin "tuple.__hash__")==some Value.none)=true then _ else _) Q E s
 rw[if_neg (by rw[beq_builtin_none];exact Bool.false_ne_true)]
 refine wpAny_bind (wpAny_specialOf hT PySem.F.slot_tuple_hash.lookup ?_)
 show wpAny _ _ (callSpecialIfBoundUnlessNone? (.ref a) "__hash__" _ >>= _) Q E s
 refine wpAny_bind (wpAny_callSpecialIfBoundUnlessNone?_slot hT PySem.F.slot_tuple_hash (wpAny_call_entry PySem.F.slot_tuple_hash hT PySem.F.entry_tuple_hash ?_ (PySem.F.args_tuple_hash_1 _)))
 show wpAny _ _ (Builtin.Tuple.tupleItemsOf (.ref a) >>= _) _ _ s
 refine wpAny_bind (wpAny_tupleItemsOf ho hd ?_)
 refine wpAny_bind ?_
 rw[←Array.forIn_toList]
 refine wpAny_forIn_list _
  (λrest (b:Array Int) s'=>(rest=[.ref p,.str k.2.2 t]/\b= #[]/\s'=s)\/(rest=[.str k.2.2 t]/\b.toList=[tupleKeyHash (bJ P w) [.inl k.1,.inl k.2.1]]/\s'={ s with toks:=s.toks+3 }) ∨
   (rest=[]/\b.toList=[tupleKeyHash (bJ P w) [.inl k.1,.inl k.2.1],(bJ P w).hash (.inr k.2.2)]/\s'={ s with toks:=s.toks+4 })) _ ?_ ?_ _ _ (.inl ⟨rfl,rfl,rfl⟩)
 ·rintro x rest b s' (⟨e,rfl,rfl⟩|⟨e,hb,rfl⟩|⟨e,_⟩)
  ·cases e
   refine wpAny_bind (wpAny_pyHash_tuple (knd:=bJ P w) (ks:=[.inl k.1,.inl k.2.1]) hu hi ?_)
   first
    |exact wpAny_pure (.inr (.inl ⟨rfl,rfl,rfl⟩))
    |exact wpAny_bind (wpAny_pure (wpAny_pure (.inr (.inl ⟨rfl,rfl,rfl⟩))))
  ·cases e
   refine wpAny_bind ((bJ P w).pyHash (k:=.inr k.2.2) (v:=.str k.2.2 t) (by show decide _=true;simp) ?_)
   first
    |exact wpAny_pure (.inr (.inr ⟨rfl,by simp[hb],rfl⟩))
    |exact wpAny_bind (wpAny_pure (wpAny_pure (.inr (.inr ⟨rfl,by simp[hb],rfl⟩))))
  ·cases e
 ·rintro b s' (⟨e,_⟩|⟨e,_⟩|⟨_,hb,rfl⟩)
  ·cases e
  ·cases e
  show wpAny _ _ (retInt (Builtin.Tuple.tupleHashOf b.toList)) _ _ _
  rw[hb]
  refine wpAny_ret_mkInt ?_
  unfold EV at h
  generalize Builtin.Tuple.tupleHashOf [tupleKeyHash (bJ P w) [.inl k.1,.inl k.2.1],(bJ P w).hash (.inr k.2.2)]=T at *
  show wpAny _ _ (if(decide (-(2:Int) ^ 63<=T)&&decide (T<2 ^ 63))=true then _ else _) Q E _
  unfold reduceHash at h
  by_cases hr:(decide (-(2:Int) ^ 63<=T)&&decide (T<2 ^ 63))=true
  ·rw[if_pos hr]
   rw[if_pos hr]at h
   exact wpAny_pure h
  ·rw[if_neg hr]
   rw[if_neg hr]at h
   exact wpAny_bind (wpAny_rule (wpAny_pure h))
theorem EU{x y:NK}{a b:Addr}{Pq:PySem.Fin->Shared->Prop}(hu:A.units<cLine)(hx:pQ P w s.heap x a)(hy:pQ P w s.heap y b)(h:Pq (.done (.ret (.bool (decide (x=y))))) s):
  wpAny (model P w) A (Builtin.«tuple.__eq__» ⟨[.ref a,.ref b],[]⟩) Pq E s:=by
 have hTb:=hy.typeIs
 obtain⟨oa,na,p,t,hoa,_,hda,hia⟩:=hx
 obtain⟨ob,nb,q,u,hob,_,hdb,hib⟩:=hy
 obtain⟨x1,x2,x3⟩:=x
 obtain⟨y1,y2,y3⟩:=y
 simp only at hda hia hdb hib
 show wpAny _ _ (isInstance (.ref b) (.type "tuple") >>= _) _ _ s
 refine wpAny_bind (wpAny_isInstance hTb isSubtype_tuple_tuple ?_)
 simp only[Bool.not_true,Bool.false_eq_true,if_false]
 refine wpAny_bind (wpAny_tupleItemsOf hoa hda ?_)
 refine wpAny_bind (wpAny_tupleItemsOf hob hdb ?_)
 refine wpAny_bind ?_
 refine wpAny_forIn_list _
  (λrest r s'=>r.1=none/\s'=s/\(rest=[(.ref p,.ref q),(.str x3 t,.str y3 u)]\/(rest=[(.str x3 t,.str y3 u)]/\x1=y1/\x2=y2)\/(rest=[]/\x1=y1/\x2=y2/\x3=y3))) _ ?_ ?_ _ _ ⟨rfl,rfl,.inl rfl⟩
 ·rintro⟨c,d⟩ rest r s' ⟨hr,rfl,e|⟨e,rfl,rfl⟩|⟨e,_⟩⟩
  ·cases e
   refine wpAny_bind (wpAny_eqBool_tuple (knd:=bJ P w) (x:=[.inl x1,.inl x2]) (y:=[.inl y1,.inl y2]) hu hia hib ?_)
   by_cases hk:x1=y1/\x2=y2
   ·obtain⟨rfl,rfl⟩:=hk
    rw[decide_eq_true rfl]
    simp only[Bool.not_true,Bool.false_eq_true,if_false]
    exact wpAny_pure ⟨rfl,rfl,.inr (.inl (by simp))⟩
   ·have e1:¬([Sum.inl x1,Sum.inl x2]:List Key)=[.inl y1,.inl y2]:=λz=>hk (by simpa using z)
    rw[decide_eq_false e1]
    simp only[Bool.not_false,if_true]
    have hf:decide ((x1,x2,x3)=(y1,y2,y3))=false:=decide_eq_false λz=>hk (by simp only[Prod.mk.injEq]at z;exact⟨z.1,z.2.1⟩)
    rw[hf]at h
    exact wpAny_bind (wpAny_pure (wpAny_pure (wpAny_pure h)))
  ·cases e
   refine wpAny_bind ((bJ P w).eqBool (a:=.inr x3) (b:=.inr y3) (u:=.str x3 t) (v:=.str y3 u) (qj P w x3 t) (qj P w y3 u) ?_)
   by_cases hk:x3=y3
   ·subst hk
    rw[decide_eq_true rfl]
    simp only[Bool.not_true,Bool.false_eq_true,if_false]
    exact wpAny_pure ⟨rfl,rfl,.inr (.inr (by simp))⟩
   ·have e1:¬(Sum.inr x3:Key)= .inr y3:=λz=>hk (by simpa using z)
    rw[decide_eq_false e1]
    simp only[Bool.not_false,if_true]
    have hf:decide ((x1,x2,x3)=(x1,x2,y3))=false:=decide_eq_false λz=>hk (by simp only[Prod.mk.injEq]at z;exact z.2.2)
    rw[hf]at h
    exact wpAny_bind (wpAny_pure (wpAny_pure (wpAny_pure h)))
  ·cases e
 ·rintro⟨r1,r2⟩ s' ⟨hr,rfl,e|⟨e,_⟩|⟨_,rfl,rfl,rfl⟩⟩
  ·cases e
  ·cases e
  simp only at hr
  subst hr
  refine wpAny_pure ?_
  rw[decide_eq_true rfl]at h
  exact h
theorem HE{x y:NK}{a b:Addr}{Q:Bool->Shared->Prop}(hu:A.units+1<cLine)(hx:pQ P w s.heap x a)(hy:pQ P w s.heap y b)(h:Q (decide (x=y)) s):
  wpAny (model P w) A (eqBool (.ref a) (.ref b)) Q E s:=by
 unfold eqBool
 try with_reducible refine wpAny_holding ?_
 show wpAny _ _ (if(Value.ref a==Value.ref b)=true then _ else _) Q E s
 by_cases hab:(Value.ref a==Value.ref b)=true
 ·rw[if_pos hab]
  have e:a=b:=by have:=eq_of_beq hab;injection this
  subst e
  obtain rfl:=hx.inj hy
  exact wpAny_bind (wpAny_rule (wpAny_pure (by simpa using h)))
 ·rw[if_neg hab]
  exact wpAny_bind (wpAny_richCompare_same_room (op:=.Eq) hx.typeIs hy.typeIs PySem.F.slot_tuple_eq
   (wpAny_call_entry PySem.F.slot_tuple_eq hx.typeIs PySem.F.entry_tuple_eq (EU hu hx hy ⟨_,rfl,(λe=>nomatch e),wpAny_truthy_bool h⟩) (PySem.F.args_tuple_eq_2 _ _)) (Nat.lt_of_succ_lt hu))
theorem CA(n:Nat){ks:List Key}{a:Addr}{Q:Bool->Shared->Prop}(hk:IsTupleKey (bJ P w) s.heap ks a)(h:Q true s):wpAny (model P w) A (eqIsQuiet (n+1) (.ref a)) Q E s:=by
 have hT:=hk.typeIs
 obtain⟨o,items,m,ho,_,hd,hi⟩:=hk
 unfold eqIsQuiet
 refine wpAny_bind (wpAny_specialOf hT PySem.F.slot_tuple_eq.lookup ?_)
 show wpAny _ _ (isInstance (.ref a) (.type "tuple") >>= _) _ _ s
 refine wpAny_bind (wpAny_isInstance hT isSubtype_tuple_tuple ?_)
 simp only[Bool.not_true,Bool.false_eq_true,if_false]
 refine wpAny_bind (wpAny_seqItems ho hd ?_)
 refine wpAny_bind ?_
 show wpAny _ _ (forIn items _ _) _ _ s
 rw[←Array.forIn_toList]
 refine wpAny_forIn_list _ (λrest r s'=>r.1=none/\s'=s/\∀v∈rest,carriedByValue v=true) _ ?_ ?_ _ _ ⟨rfl,rfl,hi.byValue⟩
 ·rintro v rest r s' ⟨hr,rfl,hall⟩
  rw[eqIsQuiet_byValue _ (hall v List.mem_cons_self)]
  refine wpAny_bind (wpAny_pure ?_)
  simp only[Bool.not_true,Bool.false_eq_true,if_false]
  exact wpAny_pure ⟨rfl,rfl,λu Zb=>hall u (List.mem_cons_of_mem _ Zb)⟩
 ·rintro⟨r1,r2⟩ s' ⟨hr,rfl,_⟩
  simp only at hr
  subst hr
  exact wpAny_pure h
theorem Kv{k:NK}{a:Addr}{Q:Bool->Shared->Prop}(hk:pQ P w s.heap k a)(h:Q true s):wpAny (model P w) A (eqIsQuiet 8 (.ref a)) Q E s:=by
 have hT:=hk.typeIs
 obtain⟨o,m,p,t,ho,_,hd,hi⟩:=hk
 unfold eqIsQuiet
 refine wpAny_bind (wpAny_specialOf hT PySem.F.slot_tuple_eq.lookup ?_)
 show wpAny _ _ (isInstance (.ref a) (.type "tuple") >>= _) _ _ s
 refine wpAny_bind (wpAny_isInstance hT isSubtype_tuple_tuple ?_)
 simp only[Bool.not_true,Bool.false_eq_true,if_false]
 refine wpAny_bind (wpAny_seqItems ho hd ?_)
 refine wpAny_bind ?_
 show wpAny _ _ (forIn #[Value.ref p,Value.str k.2.2 t] _ _) _ _ s
 rw[←Array.forIn_toList]
 refine wpAny_forIn_list _ (λrest r s'=>r.1=none/\s'=s/\∀v∈rest,v= .ref p\/carriedByValue v=true) _ ?_ ?_ _ _ ⟨rfl,rfl,λv hv=>?_⟩
 ·rintro v rest r s' ⟨hr,rfl,hall⟩
  have step:wpAny (model P w) A (eqIsQuiet 7 v) (λb s2=>b=true/\s2=s') E s':=by
   rcases hall v List.mem_cons_self with rfl|hv
   ·exact CA 6 hi ⟨rfl,rfl⟩
   ·rw[eqIsQuiet_byValue _ hv]
    exact wpAny_pure ⟨rfl,rfl⟩
  refine wpAny_bind (wpAny_mono step (λb s2 z=>?_) λ_ _ z=>z)
  obtain⟨rfl,rfl⟩:=z
  simp only[Bool.not_true,Bool.false_eq_true,if_false]
  exact wpAny_pure ⟨rfl,rfl,λu Zb=>hall u (List.mem_cons_of_mem _ Zb)⟩
 ·rintro⟨r1,r2⟩ s' ⟨hr,rfl,_⟩
  simp only at hr
  subst hr
  exact wpAny_pure h
 ·simp only[List.mem_cons,List.not_mem_nil,or_false]at hv
  rcases hv with rfl|rfl
  ·exact .inl rfl
  ·exact .inr rfl
end
def lT(P:Program)(w:World):HeapKind P w NK where
 is:=pQ P w
 hash:=EV P w
 draws:=λ_=>5
 room:=λA=>A.units+1<cLine
 inj:=λhx hy=>hx.inj hy
 keeps:=λx ho hd hs=>x.keeps ho hd hs
 pyHash:=λhu hk h=>HD hu hk h
 eqBool:=λhu hx hy h=>HE hu hx hy h
 quiet:=λhk h=>Kv hk h
end L2
namespace L2
open PySem PySem.Spec PyProof.Rows PySem.W
def Br(d:Addr)(es:Array DictEntry)(ep:Nat)(h:Heap):Prop:=∃o,h.get? d=some o/\o.ExactDict/\o.data= .dict es ep
section
variable{P:Program}{w:World}{A:Around}{E:Value->Shared->Prop}{s:Shared}{d:Addr}{es:Array DictEntry}{ep:Nat}
theorem Br.ty(m:Br d es ep s.heap):s.TypeIs (.ref d) "dict" :=let ⟨o,ho,hc,_⟩:=m;⟨o,ho,hc.1⟩
theorem Br.mv{h h':Heap}(m:Br d es ep h)(e:∀o,h.get? d=some o->h'.get? d=some o):Br d es ep h':=let ⟨o,ho,r⟩:=m;⟨o,e _ ho,r⟩
theorem JT{Q:Value->Shared->Prop}(hd:(d==sysModules)=false)(m:Br d es ep s.heap)
  (hQ:Q (.ref s.heap.objs.size) { s with heap:=s.heap.push { cls:=.type "dict_keyiterator",data:=.fields #[.ref d,.int 0 0,.int es.size 0,.int ep 0] } }):wpAny (model P w) A (pyIter (.ref d)) Q E s:=by
 have hT:=m.ty
 obtain⟨o,ho,hc,hdat⟩:=m
 refine wpAny_pyIter_slot hT PySem.F.slot_dict_iter (wpAny_call_entry PySem.F.slot_dict_iter hT PySem.F.entry_dict_iter ?_ (PySem.F.args_dict_iter_1 _))
 unfold Builtin.«dict.__iter__»
 refine wpAny_bind ?_
 unfold Builtin.Dict.dictSlotNone
 refine wpAny_bind (wpAny_notOrdered_dict hT ?_)
 show wpAny _ _ (pure (Value.ref d)) _ _ s
 refine wpAny_pure ?_
 show wpAny _ _ (Builtin.Dict.showsAll d >>= _) _ _ s
 unfold Builtin.Dict.showsAll
 rw[if_neg (by rw[hd];exact Bool.false_ne_true)]
 refine wpAny_bind (wpAny_pure (wpAny_bind (wpAny_dictEntries ho hdat (wpAny_bind (wpAny_dictEpoch ho hdat ?_)))))
 refine wpAny_bind (wpAny_newObj_type (wpAny_pure ⟨_,rfl,"dict_keyiterator",_,⟨_,Heap.get?_push_size _ rfl,rfl⟩,PySem.F.slot_dict_keyiterator_next.lookup,?_⟩))
 simpa[rawInt]using hQ
theorem Cz{it:Addr}{i:Nat}{Q:Option Value->Shared->Prop}(hit:s.heap.IsKeyIter it d i es.size ep)(m:Br d es ep s.heap)
  (item:∀(hi:i<es.size) h',h'.IsKeyIter it d (i+1) es.size ep->Heap.SameBut it s.heap h'->Q (some es[i].key) { s with heap:=h' })
  (stop:es.size<=i->A.handled=none/\∀h',Heap.ExtBut it s.heap h'->Q none { s with heap:=h' }):wpAny (model P w) A (pyNext (.ref it)) Q E s:=by
 obtain⟨o,ho,hc,hd⟩:=id hit
 obtain⟨od,hod,hcd,Wc⟩:=m
 unfold pyNext
 refine wpAny_bind (wpAny_attempt (wpAny_callSpecial?_slot (name:=Str.ofString "__next__") hit.typeIs PySem.F.slot_dict_keyiterator_next
  (wpAny_call_entry PySem.F.slot_dict_keyiterator_next hit.typeIs PySem.F.entry_dict_keyiterator_next ?_ (PySem.F.args_dict_keyiterator_next_1 _))))
 refine wpAny_bind (wpAny_pure (wpAny_bind (wpAny_bind ?_)))
 first|refine wpAny_bind (wpAny_typeNameOfWhole_keyiter hit.typeIs (wpAny_pure ?_))|refine wpAny_bind (wpAny_typeNameOf_keyiter hit.typeIs (wpAny_pure ?_))
 refine wpAny_bind (wpAny_fieldsOf ho hd ?_)
 have hown:Builtin.Dict_items.ownsTuple "dict_keyiterator" =false:=by decide
 simp only[hown,Bool.false_eq_true,if_false]
 show wpAny _ _ (if(Value.ref d==Value.none)=true then _ else _) _ _ s
 rw[if_neg (show ¬((Value.ref d==Value.none)=true) from Bool.false_ne_true)]
 refine wpAny_bind (wpAny_pure (wpAny_bind (wpAny_dictEntries hod Wc ?_)))
 rw[if_neg (by simp)]
 refine wpAny_bind (wpAny_pure (wpAny_bind (wpAny_dictEpoch hod Wc ?_)))
 rw[if_neg (by simp)]
 refine wpAny_pure ?_
 by_cases hlt:i<es.size
 ·simp only[show ¬((i:Int)<0) from by omega,if_false,Int.toNat_natCast,Array.getElem?_eq_getElem hlt]
  refine wpAny_bind ?_
  first|refine wpAny_bind (wpAny_typeNameOfWhole_keyiter hit.typeIs (wpAny_pure ?_))|refine wpAny_bind (wpAny_typeNameOf_keyiter hit.typeIs (wpAny_pure ?_))
  refine wpAny_bind (wpAny_isOneOf_keyiter hit.typeIs ?_)
  show wpAny _ _ (setField (.ref it) 1 (rawInt ((i:Int)+1)) >>= _) _ _ s
  refine wpAny_bind (wpAny_setField ho hd (by simp) ?_)
  have Ih:(s.heap.update it (Obj.mapFields (·.setIfInBounds 1 (rawInt ((i:Int)+1))))).IsKeyIter it d (i+1) es.size ep :=
   ⟨_,Heap.get?_update_self _ ho (Obj.isFreed_of_fields (Obj.data_mapFields hd _)),(Obj.cls_mapFields ..).trans hc,by rw[Obj.data_mapFields hd];simp[rawInt]⟩
  refine wpAny_bind (wpAny_holding (wpAny_bind (wpAny_isOneOf_keyiter (s:={ s with heap:=s.heap.update it (Obj.mapFields (·.setIfInBounds 1 (rawInt ((i:Int)+1)))) }) Ih.typeIs ?_)))
  show wpAny _ _ (pure es[i].key) _ _ _
  exact wpAny_pure (wpAny_pure ⟨_,rfl,wpAny_pure (item hlt _ Ih (Heap.SameBut.update ..))⟩)
 ·obtain⟨hh,hQ⟩:=stop (by omega)
  simp only[show ¬((i:Int)<0) from by omega,if_false,Int.toNat_natCast,Array.getElem?_eq_none (show es.size<=i by omega)]
  refine wpAny_bind ?_
  first|refine wpAny_bind (wpAny_typeNameOfWhole_keyiter hit.typeIs (wpAny_pure ?_))|refine wpAny_bind (wpAny_typeNameOf_keyiter hit.typeIs (wpAny_pure ?_))
  show wpAny _ _ (setField (.ref it) 0 .none >>= _) _ _ s
  refine wpAny_bind (wpAny_setField ho hd (by simp) ?_)
  show wpAny _ _ (newExc (.type "StopIteration") [] >>= _) _ _ _
  refine wpAny_bind ?_
  simp only[newExc,newTuple]
  refine wpAny_bind (wpAny_newObj_type ?_ (by size_fits))
  refine wpAny_bind (m:=firstArgMember _ _) (wpAny_of_eq (a:=Value.none) (by first|rfl|(simp only[firstArgMember];rfl)) ?_)
  refine wpAny_newObj_type ?_ (by size_fits)
  simp only[raiseNew]
  refine wpAny_bind (wpAny_handled ?_)
  rw[show A.in1.handled=none from hh]
  refine wpAny_bind (wpAny_pure (wpAny_throw ?_))
  refine wpAny_bind (wpAny_isInstance (T:= "StopIteration") (b:=true) ⟨_,Heap.get?_push_size _ rfl,rfl⟩ isSubtype_stop ?_)
  exact wpAny_pure (hQ _ (((Heap.SameBut.update ..).extBut.push _).push _))
theorem Hv(hh:A.handled=none)(I:Addr)(ne:d≠I):
  Walks P w A I [I,d] [I] es.size (λi v=>∃h:i<es.size,v=es[i].key) (λi h=>h.IsKeyIter I d i es.size ep/\Br d es ep h) where
 sub:=λb hb=>by simp at hb;simp[hb]
 frame:=λ_ _ _ st hk=>⟨st.1.at λo e=>hk I (by simp) o e,st.2.mv λo e=>hk d (by simp) o e⟩
 item:=λi s Q E hi st hQ=>Cz st.1 st.2 (λhi h' Ih hs'=>hQ _ h' s.toks ⟨hi,rfl⟩ ⟨Ih,st.2.mv λo e=>hs'.extBut d o ne e⟩ λb o hb e=>hs'.extBut b o (λh=>hb (by simp[h])) e) λz=>absurd hi (by omega)
 done:=λs Q E st hQ=>Cz st.1 st.2 (λhi=>absurd hi (Nat.lt_irrefl _)) λ_=>⟨hh,λh' he'=>hQ h' s.toks λb o hb e=>he' b o (λh=>hb (by simp[h])) e⟩
 self:=λ_ _ _ _ st hQ=>wpAny_pyIter_keyiter st.1 hQ
theorem MB(lo:(d==sysModules)=false):KdlSrc P w "dict" d d es.size (λi v=>∃h:i<es.size,v=es[i].key) (Br d es ep) where
 type:=λ_ m=>m.ty
 there:=λ_ ⟨_,ho,_⟩=>⟨Heap.lt_size ho,Heap.lt_size ho⟩
 keep:=λ_ _ m hk=>m.mv λo e=>hk d (.inl rfl) o e
 notList:=by decide
 notTuple:=by decide
 hint:=λ_ _ _ _ m hq=>kdl_hint_dict m.ty hq
 iter:=λ_ s hh m=>⟨_,_,(λ_ _ hq=>JT lo m hq),Hv hh _ (let ⟨_,ho,_⟩:=m;Nat.ne_of_lt (Heap.lt_size ho)),⟨⟨_,Heap.get?_push_size _ rfl,rfl,rfl⟩,m.mv λo e=>Heap.get?_push_of_some _ e⟩⟩
end
end L2
namespace L2
open PySem PySem.Spec PyProof.Rows PySem.W
abbrev NE:=NK×Addr×V
abbrev KN:List NE->List (NK×Addr×Value)->Prop:=Paired λp q=>p.1=q.1/\p.2.1=q.2.1/\RelV p.2.2 q.2.2
def kH(kvs:List NE)(k:NK):Option V:=(kvs.find? λx=>decide (x.1=k)).map (·.2.2)
def tD(kvs:List NE)(k:NK)(q:Addr)(v:V):List NE:=if(kH kvs k).isSome then kvs.map (λx=>if x.1=k then(x.1,x.2.1,v)else x)else kvs++[(k,q,v)]
theorem j9{p:NE}{ps:List NE}{k:NK}(e:p.1=k):kH (p::ps) k=some p.2.2:=by simp[kH,List.find?_cons,e]
theorem ig{p:NE}{ps:List NE}{k:NK}(e:¬p.1=k):kH (p::ps) k=kH ps k:=by simp[kH,List.find?_cons,e]
theorem KN.val{kvs:List NE}{xs:List (NK×Addr×Value)}(r:KN kvs xs)(k:NK):nF (kH kvs k) ((atKey xs k).map (·.2)):=by
 induction r with
 |nil=>exact True.intro
 | @cons p q ps qs h t ih =>
  obtain⟨h1,_,h2⟩:=h
  by_cases e:p.1=k
  ·have e':q.1=k:=h1.symm.trans e
   have b:atKey (q::qs) k=some q.2:=by simp[atKey,List.find?_cons,e']
   rw[j9 e,b];exact h2
  ·have e':¬q.1=k:=λz=>e (h1.trans z)
   have b:atKey (q::qs) k=atKey qs k:=by simp[atKey,List.find?_cons,e']
   rw[ig e,b];exact ih
theorem KN.put{kvs:List NE}{xs:List (NK×Addr×Value)}(r:KN kvs xs)(k:NK){b:Addr}{y:V}{u:Value}(ry:RelV y u):KN (tD kvs k b y) (storedH xs k b u):=by
 have e:(kH kvs k).isSome=(atKey xs k).isSome:=by rw[(r.val k).qP,Option.isSome_map]
 unfold tD storedH
 rw[e]
 by_cases q:(atKey xs k).isSome=true
 ·rw[if_pos q,if_pos q]
  clear e q
  induction r with
  |nil=>exact .nil
  | @cons p q ps qs h t ih =>
   rw[List.map_cons,List.map_cons]
   refine .cons ?_ ih
   obtain⟨h1,h2,h3⟩:=h
   unfold putAt
   by_cases e:p.1=k
   ·rw[if_pos e,if_pos (h1.symm.trans e)];exact⟨h1,h2,ry⟩
   ·rw[if_neg e,if_neg (λz=>e (h1.trans z))];exact⟨h1,h2,h3⟩
 ·rw[if_neg q,if_neg q];exact Paired.snoc r ⟨rfl,rfl,ry⟩
theorem CY(kvs:List NE)(k:NK)(q:Addr)(v:V):(tD kvs k q v).length<=kvs.length+1:=by
 unfold tD
 split
 ·rw[List.length_map];omega
 ·rw[List.length_append];exact Nat.le_refl _
theorem Ks{kvs:List NE}{k:NK}(h:kH kvs k=none)(q:Addr)(v:V):tD kvs k q v=kvs++[(k,q,v)]:=by unfold tD;rw[h];rfl
def R7(P:Program)(w:World)(a:Addr)(kvs:List NE)(h:Heap):Prop:=kvs.length<=sizeLine/\(a==sysModules)=false/\∃xs,KN kvs xs ∧
 ∃o es ep,h.get? a=some o/\o.ExactDict/\o.data= .dict es ep/\es.toList=xs.map (entryOfKey (lT P w))/\(xs.map (·.1)).Nodup
def D5(P:Program)(w:World)(a:Addr)(kvs:List NE):HO:=.ext (R7 P w a kvs)
theorem N2{P:Program}{w:World}{H:Hp}{h:Heap}{a:Addr}{kvs:List NE}(e:R7 P w a kvs h):bI P w H h a (D5 P w a kvs):=by
 obtain⟨z,lo,xs,r,o,es,ep,ho,c⟩:=e
 exact⟨⟨z,lo,xs,r,o,es,ep,ho,c⟩,⟨o,ho⟩,λh1 h2 ⟨z,lo,xs,r,o,es,ep,ho,c⟩ k=>⟨z,lo,xs,r,o,es,ep,k _ ho,c⟩⟩
def lU(H:Hp)(q:Addr)(k:NK):Prop:=∃p,H q=some (.tup [.ref p,.str k.2.2])/\H p=some (.tup [.int k.1,.int k.2.1])
structure ND(P:Program)(w:World)(H:Hp)(a:Addr)(kvs:List NE):Prop where
 at_:H a=some (D5 P w a kvs)
 keys:∀x∈kvs,lU H x.2.1 x.1
theorem k_of{P:Program}{w:World}{H:Hp}{h:Heap}{q:Addr}{k:NK}(ok:mQ P w H h)(e:lU H q k):(lT P w).is h k q:=by
 obtain⟨p,h1,h2⟩:=e
 obtain⟨_,its,r,o,g1,g2,n,g3⟩:=(show bI P w H h q (.tup [.ref p,.str k.2.2]) from ok q _ h1)
 cases r with
 |cons r1 r =>
  cases r with
  |cons r2 r =>
   cases r
   cases r1
   obtain⟨t,rfl⟩:=(show ∃t,_=Value.str k.2.2 t from r2)
   exact⟨o,n,p,t,g1,g2,g3,uK (ks:=[.inl k.1,.inl k.2.1]) ok h2⟩
theorem ND.raw{P:Program}{w:World}{H:Hp}{h:Heap}{a:Addr}{kvs:List NE}(d:ND P w H a kvs)(ok:mQ P w H h):kvs.length<=sizeLine/\(a==sysModules)=false/\∃xs,KN kvs xs/\h.DictOfH (lT P w) a xs:=by
 obtain⟨z,lo,xs,r,o,es,ep,ho,h2,h3,h4,h5⟩:=(ok a _ d.at_).1
 refine⟨z,lo,xs,r,o,es,ep,ho,h2,h3,h4,λx hx=>?_,h5⟩
 have all:∀{l:List NE} {m:List (NK×Addr×Value)},KN l m->(∀x∈l,lU H x.2.1 x.1)->∀x∈m,(lT P w).is h x.1 x.2.1:=by
  intro l m q
  induction q with
  |nil=>intro _ x hx;exact nomatch hx
  | @cons p q ps qs hq t ih =>
   intro hk x hx
   rcases List.mem_cons.mp hx with e|hx
   ·subst e
    rw[←hq.1,←hq.2.1]
    exact k_of ok (hk p List.mem_cons_self)
   ·exact ih (λy hy=>hk y (List.mem_cons_of_mem _ hy)) x hx
 exact all r d.keys x hx
section
variable{X:Cx}{pins:List (Addr×Obj)}{σ:St}{H:Hp}{s:Shared}{a q:Addr}{k:NK}{kvs:List NE}{v:V}{r:Value}{A:Around}{E:Value->Shared->Prop}
theorem HG{Q:Value->Shared->Prop}(hu:A.units+2<cLine)(I:Inv X pins σ H s)(d:ND X.prog X.w H a kvs)(hk:lU H q k)(l:kH kvs k=some v)(h:∀w' s',Inv X pins σ H s'->RelV v w'->Q w' s'):
  wpAny (model X.prog X.w) A (getItem (.ref a) (.ref q)) Q E s:=by
 obtain⟨z,hd,xs,rel,dd⟩:=d.raw I.hok
 obtain⟨w',hw,rw'⟩:=nF.some_of (v:=v) (o:=(atKey xs k).map (·.2)) (by rw[←l];exact rel.val k)
 obtain⟨p,hp,hp2⟩:=Option.map_eq_some_iff.mp hw
 refine wpAny_getItem_heap (show A.in1.units+1<cLine from hu) (k_of I.hok hk) dd hp ?_
 rw[hp2]
 exact h w' _ (I.tok _) rw'
theorem HF{Q:Unit->Shared->Prop}(hu:A.units+2<cLine)(I:Inv X pins σ H s)(d:ND X.prog X.w H a kvs)(hk:lU H q k)(hl:kvs.length<sizeLine)(rv:RelV v r)(h:∀s',Inv X pins σ (upd H a (D5 X.prog X.w a (tD kvs k q v))) s'->Q () s'):
  wpAny (model X.prog X.w) A (setItem (.ref a) (.ref q) r) Q E s:=by
 obtain⟨z,hd,xs,rel,dd⟩:=d.raw I.hok
 have hz:xs.length<=sizeLine:=by rw[←Paired.length rel];exact z
 have hl':(tD kvs k q v).length<=sizeLine:=by have:=CY kvs k q v;omega
 refine wpAny_setItem_heap (hsz:=hz) (show A.in1.units+1<cLine from hu) (k_of I.hok hk) dd λh' Ss hs=>h _ ?_
 obtain⟨o,es,ep,ho,h2,h3,h4,_,h5⟩:=Ss
 exact wu I (by rw[d.at_];exact True.intro) hs ⟨o,ho⟩ (N2 ⟨hl',hd,_,rel.put k rv,o,es,ep,ho,h2,h3,h4,h5⟩)
theorem Ky(I:Inv X pins σ H s)(d:ND X.prog X.w H a kvs):s.TypeIs (.ref a) "dict" :=by
 obtain⟨_,_,_,_,dd⟩:=d.raw I.hok
 exact dd.typeIs
end
def SN(P:Program)(w:World)(td ty:TE):TE:=λσ H Q=>td σ H λx H1=>ty σ H1 λy H2=>∃a kvs k q v,x= .ref a/\y= .ref q/\ND P w H2 a kvs/\lU H2 q k/\kH kvs k=some v/\Q v H2
def Td(P:Program)(w:World)(td ty tv:TE):TS:=λD σ H=>tv σ H λv H1=>td σ H1 λx H2=>ty σ H2 λy H3=>∃a kvs k q,x= .ref a/\y= .ref q/\ND P w H3 a kvs/\lU H3 q k/\kvs.length<sizeLine/\D.nx σ (upd H3 a (D5 P w a (tD kvs k q v)))
def SM(P:Program)(w:World):TE:=λ_ H Q=>∀p,H p=none->Q (.ref p) (upd H p (D5 P w p []))
section
variable{X:Cx}{o i e value:Expr}{pos pos' tpos:Pos}{td ty tv:TE}{Pr:Program}{wo:World}
theorem sU(hu:X.A.units+2<cLine)(ho:PE X o td)(hi:PE X i ty)(hs:R6 i)(hP:X.prog=Pr)(hw:X.w=wo):PE X (.Subscript o i pos) (SN Pr wo td ty):=by
 subst hP hw
 intro pins s σ H Q I h
 refine wg PySem.F.slot_dict_getitem.lookup hs (dw (ho pins s σ H _ I h) λu s1 ⟨x,H1,I1,rx,q1⟩=>dw (hi pins s1 σ H1 _ I1 q1) λiv s2 ⟨y,H2,I2,ry,a,kvs,k,q,v,ex,ey,d,hk,l,q2⟩=>?_)
 subst ex ey
 obtain rfl:u=Value.ref a:=rx
 obtain rfl:iv=Value.ref q:=ry
 exact⟨Ky I2 d,HG hu I2 d hk l λw' s3 I3 rw'=>⟨v,H2,I3,rw',q2⟩⟩
theorem Gk(hu:X.A.units+2<cLine)(ho:PE X o td)(hi:PE X i ty)(hv:PE X value tv)(hs:swapsWith value (some (.Subscript o i pos')) pos.line X.env=pure false)(hP:X.prog=Pr)(hw:X.w=wo):
  PS X (.Assign [.Subscript o i pos'] value pos) (Td Pr wo td ty tv):=by
 subst hP hw
 intro pins s σ H D I h
 refine wpAny_Assign_Subscript (dw (hv pins s σ H _ I h) λr s1 ⟨v,H1,I1,rv,q1⟩=>dw (ho pins s1 σ H1 _ I1 q1) λu s2 ⟨x,H2,I2,rx,q2⟩=>dw (hi pins s2 σ H2 _ I2 q2) λiv s3 ⟨y,H3,I3,ry,a,kvs,k,q,ex,ey,d,hk,hl,q3⟩=>?_) hs
 subst ex ey
 obtain rfl:u=Value.ref a:=rx
 obtain rfl:iv=Value.ref q:=ry
 exact HF hu I3 d hk hl rv λs4 I4=>⟨σ,_,I4,q3⟩
theorem Q5{P:Program}{w:World}(h:Heap)(hb:sysModules<h.objs.size):R7 P w h.objs.size [] (h.push { cls:=.type "dict",data:=.dict #[] }) :=
 ⟨Nat.zero_le _,beq_eq_false_iff_ne.mpr (Ne.symm (Nat.ne_of_lt hb)),[],.nil,_,#[],0,Heap.get?_push_size _ rfl,⟨rfl,rfl,rfl⟩,rfl,rfl,List.nodup_nil⟩
theorem Gr(hP:X.prog=Pr)(hw:X.w=wo):PE X (.Dict [] [] pos) (SM Pr wo):=by
 subst hP hw
 exact λpins s σ H Q I h=>wpAny_Dict_empty ⟨.ref s.heap.objs.size,_,I.laid (a:=s.heap.objs.size) (o:=D5 X.prog X.w s.heap.objs.size []) (t':=s.toks) (λ_ _ q=>Heap.get?_push_of_some _ q) (Nat.le_refl _) (N2 (Q5 s.heap I.big)),rfl,h _ (I.hok.fresh (Nat.le_refl _))⟩
theorem Bd(Dp:X.calm=true)(hP:X.prog=Pr)(hw:X.w=wo):nE X (.type "list") (λxs H Q=>∃a kvs,xs=[.ref a]/\ND Pr wo H a kvs/\∀l,H l=none->Q (.ref l) (upd H l (.lst (kvs.map λx=>.ref x.2.1)))):=by
 subst hP hw
 intro pins s σ H xs us Q I r h
 obtain⟨a,kvs,rfl,d,q⟩:=h
 obtain⟨u,rfl,rx⟩:=vals1 r
 cases rx
 obtain⟨z,lo,xs,rel,o,es,ep,h1,h2,h3,h4,_⟩:=d.raw I.hok
 have hes:es.size=xs.length:=size_of_entries h4
 have hlk:=Paired.length rel
 refine TK.bS (Nat.le_refl _) (kdl_call (MB (es:=es) (ep:=ep) lo) (I.ok.hd Dp) ⟨o,h1,h2,h3⟩ (by omega) λh' tk acc c kp hS hacc hup=>?_)
 refine⟨.ref s.heap.objs.size,_,I.laid (t':=tk) kp (Nat.le_refl _) (show bI X.prog X.w _ h' _ (.lst (kvs.map λx=>.ref x.2.1)) from⟨by rw[List.length_map];exact z,acc.toList,c,?_,by rw[Array.toArray_toList];exact hS⟩) hup,rfl,q _ (I.hok.fresh (Nat.le_refl _))⟩
 have hz:acc.size=kvs.length:=by rw[hacc.1];omega
 refine GP.uz (by rw[List.length_map];simp[hz]) λi x y hx hy=>?_
 rw[List.getElem?_map]at hx
 obtain⟨e,he,rfl⟩:=Option.map_eq_some_iff.mp hx
 rw[Array.getElem?_toList]at hy
 obtain⟨hi,rfl⟩:=hacc.2 i y hy
 obtain⟨x',hx',h5⟩:=GP.Paired.at rel he
 have:=entry_at h4 i
 rw[hx',Array.getElem?_eq_getElem hi]at this
 injection this with this
 rw[this]
 show Value.ref x'.2.1=Value.ref e.2.1
 rw[h5.2.1]
end
end L2
namespace L2
open PySem PySem.Spec PyProof.Rows PySem.W
section
variable{prog:Program}{w:World}{A:Around}{E:Value->Shared->Prop}{s:Shared}{q:Addr}
def BG(kf:Nat->Int)(n i:Nat):Prop:=∀j,j<n->kf i<=kf j/\(j<i->kf i<kf j)
theorem nu{h h':Heap}{l:Addr}{its:Array Value}(k:∀b o,h.get? b=some o->h'.get? b=some o)(x:h.IsList l its):h'.IsList l its:=by
 obtain⟨o,e,r⟩:=x
 exact⟨o,k _ _ e,r⟩
variable{g:Heap}{l I S:Addr}{vs:List Value}{R:Result->Shared->Prop}
theorem KD(kf:Nat->Int)(hh:A.handled=none)(hl:g.IsList l vs.toArray)(hI:g.get? I=none)(hS:g.get? S=none)(hSI:S≠I)
  (turn:∀i v h tk (Q:Value->Shared->Prop),vs[i]? =some v->(∀b o,g.get? b=some o->h.get? b=some o)->(∀h' tk' t,(∀b o,h.get? b=some o->h'.get? b=some o)->Q (.int (kf i) t) { s with heap:=h',toks:=tk' }) →
   wpAny (model prog w) A.in1 (call (.ref q) [v]) Q (λ_ _=>False) { s with heap:=h,toks:=tk })
  (hR:∀i v h' tk',vs[i]? =some v->BG kf vs.length i->(∀b o,g.get? b=some o->h'.get? b=some o)->R (.ok (.ret v)) { s with heap:=h',toks:=tk' }) :
  ∀(r j i:Nat) (h:Heap) (tk:Nat) (vb:Value) (tb:Tok) (c:Nat),vs.length-(j+1)=r->j+1<=vs.length->(∀b o,g.get? b=some o->h.get? b=some o)->h.get? S=some (seqObj "list" #[vb,.int (kf i) tb] c) →
   h.IsListIter I l (j+1)->vs[i]? =some vb->i<=j->BG kf (j+1) i →
   codeAny (model prog w) A (.builtin "min.loop" ⟨[.ref I,.ref q,.ref S],[]⟩) R { s with heap:=h,toks:=tk }:=by
 have nm:(toString "min" ++toString ".loop" :String)= "min.loop" :=by decide
 obtain⟨ol,BU,rl⟩:=id hl
 have lI:l≠I:=λz=>by rw[z,hI]at BU;cases BU
 have W:=Walks.list (prog:=prog) (w:=w) (A:=A.in1) hh I l lI vs.toArray
 have sz:vs.toArray.size=vs.length:=by simp
 have nI:∀b o,g.get? b=some o->b∉[I]:=λb o e z=>by rw[List.mem_singleton.mp z,hI]at e;cases e
 have nS:∀b o,g.get? b=some o->b≠S:=λb o e z=>by rw[z,hS]at e;cases e
 intro r
 induction r with
 |zero =>
  intro j i h tk vb tb c hr hj kp gS hit Rr hij hb
  have en:j+1=vs.length:=by omega
  refine codeAny_builtin PySem.F.entry_min_loop ?_
  rw[Around.under_plainId PySem.F.plain_min_loop _]
  show wpAny _ A.in1 (seqItems? (.ref S) >>= _) _ _ _
  refine wpAny_bind (wpAny_seqItems gS rfl ?_)
  show wpAny _ A.in1 (tryCatch (pyNext (.ref I)) _ >>= _) _ _ _
  refine wpAny_bind (wpAny_tryCatch (W.done _ _ _ ⟨by rw[sz,←en];exact hit,nu kp hl⟩ λh1 F3 hk1=>?_))
  have Lh:=hk1 S _ (by simpa using hSI) gS
  show wpAny _ A.in1 (updateSeq S (λ_=> #[]) >>= _) _ _ _
  refine wpAny_bind ?_
  refine wpAny_updateSeq Lh rfl (wpAny_bind (wpAny_letGo (wpAny_pure ?_)))
  refine hR i vb _ _ Rr (by rw[←en];exact hb) λb o e=>?_
  rw[(Heap.SameBut.update h1 S _).2 b (nS b o e)]
  exact hk1 b o (nI b o e) (kp b o e)
 |succ r ih =>
  intro j i h tk vb tb c hr hj kp gS hit Rr hij hb
  have lt:j+1<vs.length:=by omega
  refine codeAny_builtin PySem.F.entry_min_loop ?_
  rw[Around.under_plainId PySem.F.plain_min_loop _]
  show wpAny _ A.in1 (seqItems? (.ref S) >>= _) _ _ _
  refine wpAny_bind (wpAny_seqItems gS rfl ?_)
  show wpAny _ A.in1 (tryCatch (pyNext (.ref I)) _ >>= _) _ _ _
  refine wpAny_bind (wpAny_tryCatch (W.item (j+1) _ _ _ (by rw[sz];exact lt) ⟨hit,nu kp hl⟩ λv h1 F3 hP hst hk1=>?_))
  have hv:vs[j+1]? =some v:=by simpa using hP
  have Dh:∀b o,g.get? b=some o->h1.get? b=some o:=λb o e=>hk1 b o (nI b o e) (kp b o e)
  have Lh:=hk1 S _ (by simpa using hSI) gS
  obtain⟨oI,Nh,rI⟩:=id hst.1
  show wpAny _ A.in1 (tryCatch (holding [v] (call (.ref q) [v])) _ >>= _) _ _ _
  refine wpAny_bind (wpAny_tryCatch (wpAny_holding (wpAny_mono (turn (j+1) v h1 F3 (λu s'=>∃h2 Ao t2,u= .int (kf (j+1)) t2/\s'={ s with heap:=h2,toks:=Ao }/\∀b o,h1.get? b=some o->h2.get? b=some o) hv Dh λh2 Ao t2 k2=>⟨h2,Ao,t2,rfl,rfl,k2⟩) (λu s' hu=>?_) λ_ _ z=>z.elim)))
  obtain⟨h2,Ao,t2,rfl,rfl,k2⟩:=hu
  have Uo:∀b o,g.get? b=some o->h2.get? b=some o:=λb o e=>k2 b o (Dh b o e)
  have Il:=k2 _ _ Lh
  have RD:h2.IsListIter I l (j+1+1):=⟨oI,k2 _ _ Nh,rI⟩
  show wpAny _ A.in1 (tryCatch (holding [v,.int (kf (j+1)) t2] (richCompare .Lt (.int (kf (j+1)) t2) (.int (kf i) tb) >>= _)) _ >>= _) _ _ _
  refine wpAny_bind (wpAny_tryCatch (wpAny_holding (wpAny_bind (CmpOf.ints_lt (prog:=prog) (w:=w) (A:=A.in1) (P:=λi v=>∃t,v= .int (kf i) t) kf (λi v h=>h) (j+1) i _ _ _ _ _ ⟨t2,rfl⟩ ⟨tb,rfl⟩ ?_))))
  refine wpAny_bind (wpAny_holding (wpAny_truthy_bool ?_))
  refine wpAny_bind (wpAny_letGo (wpAny_pure ?_))
  by_cases gt:kf (j+1)<kf i
  ·obtain⟨c2,hc2⟩:∃c2,(h2.update S (Obj.mapSeq λ_=> #[v,.int (kf (j+1)) t2])).get? S=some (seqObj "list" #[v,.int (kf (j+1)) t2] c2):=⟨_,get?_update_seq Il λ_=> #[v,.int (kf (j+1)) t2]⟩
   have gt':kf (j+1)<kf i:=gt
   simp only[gt',decide_true,if_true]
   refine wpAny_bind ?_
   refine wpAny_updateSeq Il rfl (wpAny_bind (wpAny_letGo ?_))
   rw[nm]
   refine wpAny_pure ⟨plainId_quiet PySem.F.plain_min_loop _,ih (j+1) (j+1) _ _ v t2 c2 (by omega) lt (λb o e=>?_) hc2 ?_ hv (Nat.le_refl _) λj' hj'=>?_⟩
   ·rw[(Heap.SameBut.update h2 S _).2 b (nS b o e)]
    exact Uo b o e
   ·exact⟨oI,((Heap.SameBut.update h2 S _).2 I hSI.symm).trans (k2 _ _ Nh),rI⟩
   ·by_cases e:j'=j+1
    ·subst e
     exact⟨by omega,λ_=>by omega⟩
    ·have b1:=hb j' (by omega)
     exact⟨by omega,λ_=>by omega⟩
  ·have gt':¬kf (j+1)<kf i:=gt
   simp only[gt',decide_false,Bool.false_eq_true,if_false]
   refine wpAny_bind (wpAny_letGo ?_)
   rw[nm]
   refine wpAny_pure ⟨plainId_quiet PySem.F.plain_min_loop _,ih (j+1) i _ _ vb tb c (by omega) lt Uo Il RD Rr (by omega) λj' hj'=>?_⟩
   by_cases e:j'=j+1
   ·subst e
    exact⟨by omega,λ_=>by omega⟩
   ·exact hb j' (by omega)
theorem ID{Q:Value->Shared->Prop}(kf:Nat->Int)(hh:A.handled=none)(hl:s.heap.IsList l vs.toArray)
  (turn:∀i v h tk (Q:Value->Shared->Prop),vs[i]? =some v->(∀b o,s.heap.get? b=some o->h.get? b=some o)->(∀h' tk' t,(∀b o,h.get? b=some o->h'.get? b=some o)->Q (.int (kf i) t) { s with heap:=h',toks:=tk' }) →
   wpAny (model prog w) A.in1 (call (.ref q) [v]) Q (λ_ _=>False) { s with heap:=h,toks:=tk })
  (hne:0<vs.length)
  (h1:∀i v h' tk',vs[i]? =some v->BG kf vs.length i->(∀b o,s.heap.get? b=some o->h'.get? b=some o)->Q v { s with heap:=h',toks:=tk' }) :
  wpAny (model prog w) A (call (.builtin "min") [.ref l] [(Str.ofString "key",.ref q)]) Q E s:=by
 have nm:(toString "min" ++toString ".loop" :String)= "min.loop" :=by decide
 obtain⟨ol,BU,rl⟩:=id hl
 have lt:l<s.heap.objs.size:=Heap.lt_size BU
 refine kmk_tree PySem.F.kind_min PySem.F.plain_min PySem.F.entry_min (kmk_min_key _ _) ?_
 show wpAny _ A.in1 (Builtin.Builtins.bindParams "min" ["key","default"] 0 ⟨[],[(Str.ofString "key",.ref q)]⟩ >>= _) _ _ s
 refine wpAny_bind (wpAny_of_eq (show Builtin.Builtins.bindParams "min" ["key","default"] 0 ⟨[],[(Str.ofString "key",.ref q)]⟩=pure [some (.ref q),none] from rfl) ?_)
 refine wpAny_bind (wpAny_pure ?_)
 refine wpAny_bind (wpAny_pyIter_list hl ?_)
 refine wpAny_bind (wpAny_newList ?_ (Nat.zero_le _))
 rw[nm]
 have sI:(s.heap.push { cls:=.type "list_iterator",data:=.fields #[.ref l,.int 0 0] }).objs.size=s.heap.objs.size+1:=size_push' ..
 have hI:s.heap.get? s.heap.objs.size=none:=Heap.get?_none_of_le (Nat.le_refl _)
 have hS:s.heap.get? (s.heap.push { cls:=.type "list_iterator",data:=.fields #[.ref l,.int 0 0] }).objs.size=none:=by rw[sI];exact Heap.get?_none_of_le (Nat.le_succ _)
 have hSI:(s.heap.push { cls:=.type "list_iterator",data:=.fields #[.ref l,.int 0 0] }).objs.size≠s.heap.objs.size:=by rw[sI];exact Nat.ne_of_gt (Nat.lt_succ_self _)
 refine wpAny_pure ⟨plainId_quiet PySem.F.plain_min_loop _,?_⟩
 have Rj:∀b o,s.heap.get? b=some o->((s.heap.push { cls:=.type "list_iterator",data:=.fields #[.ref l,.int 0 0] }).push (seqObj "list" #[] 0)).get? b=some o:=λb o e=>Heap.get?_push_of_some _ (Heap.get?_push_of_some _ e)
 have gI:((s.heap.push { cls:=.type "list_iterator",data:=.fields #[.ref l,.int 0 0] }).push (seqObj "list" #[] 0)).get? s.heap.objs.size=some { cls:=.type "list_iterator",data:=.fields #[.ref l,.int 0 0] } :=
  Heap.get?_push_of_some _ (Heap.get?_push_size _ rfl)
 have gS:((s.heap.push { cls:=.type "list_iterator",data:=.fields #[.ref l,.int 0 0] }).push (seqObj "list" #[] 0)).get? (s.heap.push { cls:=.type "list_iterator",data:=.fields #[.ref l,.int 0 0] }).objs.size=some (seqObj "list" #[] 0):=Heap.get?_push_size _ rfl
 generalize (s.heap.push { cls:=.type "list_iterator",data:=.fields #[.ref l,.int 0 0] }).objs.size=S at hS hSI gS ⊢
 generalize hIe:s.heap.objs.size=I at hI hSI gI ⊢
 have lI:l≠I:=λz=>by rw[z,hI]at BU;cases BU
 have W:=Walks.list (prog:=prog) (w:=w) (A:=A.in1) hh I l lI vs.toArray
 have sz:vs.toArray.size=vs.length:=by simp
 have nI:∀b o,s.heap.get? b=some o->b∉[I]:=λb o e z=>by rw[List.mem_singleton.mp z,hI]at e;cases e
 have nS:∀b o,s.heap.get? b=some o->b≠S:=λb o e z=>by rw[z,hS]at e;cases e
 refine codeAny_builtin PySem.F.entry_min_loop ?_
 rw[Around.under_plainId PySem.F.plain_min_loop _]
 show wpAny _ A.in1 (seqItems? (.ref _) >>= _) _ _ _
 refine wpAny_bind (wpAny_seqItems gS rfl ?_)
 show wpAny _ A.in1 (tryCatch (pyNext (.ref I)) _ >>= _) _ _ _
 have ne:=hne
 refine wpAny_bind (wpAny_tryCatch (W.item 0 _ _ _ (by rw[sz];exact ne) ⟨⟨_,gI,rfl,rfl⟩,nu Rj hl⟩ λv rE F3 hP hst hk1=>?_))
 have hv:vs[0]? =some v:=by simpa using hP
 have Dh:∀b o,s.heap.get? b=some o->rE.get? b=some o:=λb o e=>hk1 b o (nI b o e) (Rj b o e)
 have Lh:=hk1 S _ (by simpa using hSI) gS
 obtain⟨oI,Nh,rI⟩:=id hst.1
 show wpAny _ A.in1 (tryCatch (holding [v] (call (.ref q) [v])) _ >>= _) _ _ _
 refine wpAny_bind (wpAny_tryCatch (wpAny_holding (wpAny_mono (turn 0 v rE F3 (λu s'=>∃h2 Ao t2,u= .int (kf 0) t2/\s'={ s with heap:=h2,toks:=Ao }/\∀b o,rE.get? b=some o->h2.get? b=some o) hv Dh λh2 Ao t2 k2=>⟨h2,Ao,t2,rfl,rfl,k2⟩) (λu s' hu=>?_) λ_ _ z=>z.elim)))
 obtain⟨h2,Ao,t2,rfl,rfl,k2⟩:=hu
 have Il:=k2 _ _ Lh
 obtain⟨c2,hc2⟩:∃c2,(h2.update S (Obj.mapSeq λ_=> #[v,.int (kf 0) t2])).get? S=some (seqObj "list" #[v,.int (kf 0) t2] c2):=⟨_,get?_update_seq Il λ_=> #[v,.int (kf 0) t2]⟩
 show wpAny _ A.in1 (updateSeq S (λ_=> #[v,.int (kf 0) t2]) >>= _) _ _ _
 refine wpAny_bind ?_
 refine wpAny_updateSeq Il rfl ?_
 rw[nm]
 refine wpAny_pure ⟨plainId_quiet PySem.F.plain_min_loop _,KD kf hh hl hI hS hSI turn (λi v h' tk' a b c=>h1 i v h' tk' a b c) _ 0 0 _ _ v t2 c2 rfl ne (λb o e=>?_) hc2 ?_ hv (Nat.le_refl _) λj' hj'=>?_⟩
 ·rw[(Heap.SameBut.update h2 S _).2 b (nS b o e)]
  exact k2 b o (Dh b o e)
 ·exact⟨oI,((Heap.SameBut.update h2 S _).2 I hSI.symm).trans (k2 _ _ Nh),rI⟩
 ·have e:j'=0:=by omega
  subst e
  exact⟨by omega,λz=>absurd z (Nat.lt_irrefl _)⟩
end
def yf(h:Heap)(q:Addr)(qual:Str)(ps:Arguments)(body:Expr)(sc:Scope)(cl:List (Str×Addr)):Prop :=
 ∃pm c' ctv,h.get? q=some (kla_obj "<lambda>" qual ps body sc cl pm c' ctv)/\h.CodeRec (.ref c') qual
theorem qN{h h':Heap}{c:Addr}{q:Str}(k:∀b o,h.get? b=some o->h'.get? b=some o)(x:h.CodeRec (.ref c) q):h'.CodeRec (.ref c) q:=by
 obtain⟨c₂,o,vs,t,e,e1,e2⟩:=x
 exact⟨c₂,o,vs,t,e,k _ _ e1,e2⟩
theorem yf.keep{h h':Heap}{q:Addr}{qual:Str}{ps:Arguments}{body:Expr}{sc:Scope}{cl:List (Str×Addr)}(k:∀b o,h.get? b=some o->h'.get? b=some o)(x:yf h q qual ps body sc cl):yf h' q qual ps body sc cl:=by
 obtain⟨pm,c',ctv,e,r⟩:=x
 exact⟨pm,c',ctv,k _ _ e,qN k r⟩
structure Hg(ps:Arguments)(body:Expr)(sc:Scope)(x r:Str):Prop where
 bind:∀(qual:Str) (cl:List (Str×Addr)) (pm cdv ct v:Value),bindArgs (kla_fn "<lambda>" qual ps body sc cl pm cdv ct) ⟨[v],[]⟩=pure [(x,v)]
 loc:sc.names.lookup x=some .local
 free:sc.names.lookup r=some .free
 cell:∀x∈sc.names,x.2≠ .cell
 kind:sc.kind= .function
 co:sc.isCoroutine=false
 gen:sc.isGenerator=false
 dx:(x==("__debug__" :Str))=false
 dr:(r==("__debug__" :Str))=false
 dc:(r==("__classdict__" :Str))=false
structure OD(P:Program)(w:World)(h:Heap)(A:Around)(env:Env)(x r:Str)(v rv:Value):Prop where
 x:∀(p:Pos) (s:Shared) (Q:Value->Shared->Prop) (E:Value->Shared->Prop),(∀b o,h.get? b=some o->s.heap.get? b=some o)->Q v s->wpAny (model P w) A (eval (.Name x p) env) Q E s
 r:∀(p:Pos) (s:Shared) (Q:Value->Shared->Prop) (E:Value->Shared->Prop),(∀b o,h.get? b=some o->s.heap.get? b=some o)->Q rv s->wpAny (model P w) A (eval (.Name r p) env) Q E s
section
variable{prog:Program}{w:World}{A:Around}{E:Value->Shared->Prop}{s:Shared}{q c:Addr}{qual x r:Str}{ps:Arguments}{body:Expr}{sc:Scope}
theorem HY{v rv:Value}{Q:Value->Shared->Prop}(hl:yf s.heap q qual ps body sc [(r,c)])(T:Hg ps body sc x r)(hc:s.heap.IsCell c (some rv))(hlim:s.heap.NoLimit)(hroom:A.depth<recursionLimit)
  (h:∀(env:Env) (A':Around) h1 F3 (E':Value->Shared->Prop),A'.units=A.units+3->(∀b o,s.heap.get? b=some o->h1.get? b=some o)->OD prog w h1 A' env x r v rv->wpAny (model prog w) A' (eval body env) Q E' { s with heap:=h1,toks:=F3 }) :
  wpAny (model prog w) A (call (.ref q) [v]) Q E s:=by
 obtain⟨pm,c',ctv,ho,hr⟩:=hl
 refine wpAny_call (kla_callFunE hroom ho rfl T.co T.gen rfl hr ?_)
 rw[T.bind]
 refine wpAny_pure (wpAny_newFunctionEnv T.cell (λy hy=>by rw[List.mem_singleton.mp hy];exact T.loc) (λh₁ hns Oh=>⟨hlim.fresh _ Oh,?_⟩) T.kind)
 have kp:∀b o,s.heap.get? b=some o->h₁.get? b=some o:=λb o e=>Oh.extBut b o (Nat.ne_of_lt (Heap.lt_size e)) (Heap.get?_push_of_some _ e)
 refine kla_codeExpr (h _ _ h₁ _ _ rfl kp ⟨λp s1 Q1 E1 k1 hQ=>?_,λp s1 Q1 E1 k1 hQ=>?_⟩)
 ·refine wpAny_Name (wpAny_loadName_local T.kind T.loc (hns.keeps k1) (v:=v) ?_ hQ) T.dx
  show List.lookup x [(x,v)]=some v
  simp[List.lookup]
 ·obtain⟨o,g1,g2⟩:=hc
  refine wpAny_Name (wpAny_loadName_free T.kind T.free (c:=c) (v:=rv) ?_ ⟨o,k1 _ _ (kp _ _ g1),g2⟩ hQ T.dc) T.dr
  show List.lookup r [(r,c)]=some c
  simp[List.lookup]
end
end L2
namespace L2
open PySem PySem.Spec PyProof.Rows PySem.W
theorem pQ.ext{P:Program}{w:World}{h h':Heap}{k:NK}{a:Addr}(e:∀b o,h.get? b=some o->h'.get? b=some o)(x:pQ P w h k a):pQ P w h' k a:=by
 obtain⟨o,n,p,t,ho,hc,hd,o2,its,n2,ho2,r⟩:=x
 exact⟨o,n,p,t,e _ _ ho,hc,hd,o2,its,n2,e _ _ ho2,r⟩
theorem DB{P:Program}{w:World}{h h':Heap}{d:Addr}{xs:List (NK×Addr×Value)}(e:∀b o,h.get? b=some o->h'.get? b=some o)(x:h.DictOfH (lT P w) d xs):h'.DictOfH (lT P w) d xs:=by
 obtain⟨o,es,ep,ho,h2,h3,h4,h5,h6⟩:=x
 exact⟨o,es,ep,e _ _ ho,h2,h3,h4,λy hy=>(h5 y hy).ext e,h6⟩
def KV1(P:Program)(w:World)(H:Hp)(v rv:V)(k:Int):Prop:=∃p d kvs i j,v= .ref p/\H p=some (.tup [.int i,.int j])/\rv= .ref d/\ND P w H d kvs/\kH kvs (i,j,Str.ofString "p")=some (.int k)
def KV2(P:Program)(w:World)(H:Hp)(v rv:V)(k:Int):Prop:=∃p d q kvs ky c r,v= .ref p/\H p=some (.tup [.ref q,.int c])/\lU H q ky/\rv= .ref d/\ND P w H d kvs/\kH kvs ky=some (.int r)/\k=c+r
def FL(ps:Arguments)(body:Expr)(sc:Scope)(x r:Str)(KV:Program->World->Hp->V->V->Int->Prop):Prop :=
 Hg ps body sc x r/\∀(P:Program) (w:World) (H:Hp) (v rv:V) (k:Int) (u ru:Value) (s:Shared) (h:Heap) (tk:Nat) (A:Around) (env:Env) (Q:Value->Shared->Prop) (E:Value->Shared->Prop),
  KV P w H v rv k->RelV v u->RelV rv ru->mQ P w H h->A.units+2<cLine->OD P w h A env x r u ru →
  (∀h' tk' t,(∀b o,h.get? b=some o->h'.get? b=some o)->Q (.int k t) { s with heap:=h',toks:=tk' })->wpAny (model P w) A (eval body env) Q E { s with heap:=h,toks:=tk }
theorem M5 {ps:Arguments} {sc:Scope} {x r:Str} {p1 p2 p3 p4 p5:Pos} {j k:Nat} (T:Hg ps (.Subscript (.Name r p1) (.Tuple [.Name x p2,.Constant (.str "p") j p3] k p4) p5) sc x r) :
  FL ps (.Subscript (.Name r p1) (.Tuple [.Name x p2,.Constant (.str "p") j p3] k p4) p5) sc x r KV1:=by
 refine⟨T,λP w H v rv ky u ru s h tk A env Q E kv rx rr ok hu L hQ=>?_⟩
 obtain⟨p,d,kvs,a,b,rfl,hp,rfl,nd,hv⟩:=kv
 cases rx
 cases rr
 obtain⟨_,_,xs,rel,dd⟩:=nd.raw ok
 obtain⟨w',hw,t',rfl⟩:=nF.some_of (v:=.int ky) (o:=(atKey xs (a,b,Str.ofString "p")).map (·.2)) (by rw[←hv];exact rel.val _)
 obtain⟨y,hy,UA⟩:=Option.map_eq_some_iff.mp hw
 refine wg PySem.F.slot_dict_getitem.lookup (λ_ _=>rfl) (L.r _ _ _ _ (λ_ _ e=>e) (wpAny_Tuple_spliced ?_))
 show wpAny _ _ (spliced ((false,eval (.Name x p2) env)::backTo p4 (starEach [.Constant (.str "p") j p3] env))) _ _ _
 refine Calls.spliced_cons (L.x _ _ _ _ (λ_ _ e=>e) ?_)
 show wpAny _ _ (spliced ((false,eval (.Constant (.str "p") j p3) env)::backTo p4 (starEach [] env))) _ _ _
 refine Calls.spliced_cons (Calls.Constant_str (Calls.spliced_nil ⟨by show 2<=sizeLine;decide,?_⟩))
 have ext:∀b o,h.get? b=some o->(h.push { cls:=.type "tuple",data:=.seq [Value.ref p,Value.str "p" tk].toArray }).get? b=some o:=λb o e=>Heap.get?_push_of_some _ e
 refine⟨(DB ext dd).typeIs (s:={ s with heap:=_,toks:=_ }),?_⟩
 refine wpAny_getItem_heap (knd:=lT P w) (k:=(a,b,Str.ofString "p")) (show A.in1.units+1<cLine from hu) ?_ (DB ext dd) hy ?_
 ·exact⟨_,_,p,_,Heap.get?_push_size _ rfl,rfl,rfl,(uK (ks:=[.inl a,.inl b]) (ok.kept ext) hp)⟩
 ·rw[UA]
  exact hQ _ _ t' ext
theorem M4{ps:Arguments}{sc:Scope}{x r:Str}{p1 p2 p3 p4 p5 p6 p7 p8 p9:Pos}{j1 j2:Nat}(T:Hg ps (.BinOp (.Subscript (.Name x p1) (.Constant (.int 1) j1 p2) p3) .Add (.Subscript (.Name r p4) (.Subscript (.Name x p5) (.Constant (.int 0) j2 p6) p7) p8) p9) sc x r):
  FL ps (.BinOp (.Subscript (.Name x p1) (.Constant (.int 1) j1 p2) p3) .Add (.Subscript (.Name r p4) (.Subscript (.Name x p5) (.Constant (.int 0) j2 p6) p7) p8) p9) sc x r KV2:=by
 refine⟨T,λP w H v rv ky u ru s h tk A env Q E kv rx rr ok hu L hQ=>?_⟩
 obtain⟨p,d,q,kvs,key,c,n,rfl,hp,hk,rfl,nd,hv,rfl⟩:=kv
 cases rx
 cases rr
 obtain⟨_,_,xs,rel,dd⟩:=nd.raw ok
 obtain⟨w',hw,t',rfl⟩:=nF.some_of (v:=.int n) (o:=(atKey xs key).map (·.2)) (by rw[←hv];exact rel.val _)
 obtain⟨y,hy,UA⟩:=Option.map_eq_some_iff.mp hw
 obtain⟨_,its,rv,o,g1,g2,m,g3⟩:=(show bI P w H h p (.tup [.ref q,.int c]) from ok p _ hp)
 cases rv with
 |cons r1 rv =>
 cases rv with
 |cons r2 rv =>
 cases rv
 cases r1
 obtain⟨tc,rfl⟩:=(show ∃t,_=Value.int c t from r2)
 have hT:∀t,({ s with heap:=h,toks:=t }:Shared).TypeIs (.ref p) "tuple" :=λt=>⟨o,g1,g2⟩
 refine wpAny_BinOp (Subscript_ (L.x _ _ _ _ (λ_ _ e=>e) (wpAny_Constant_int ?_)))
 refine subscriptTail_builtinR (T:= "tuple") (x:=.int c tc) (hT _) slot_tuple_getitem.lookup (getItem_tuple (j:=1) (items:= #[.ref q,.int c tc]) ⟨o,g1,g2,m,g3⟩ (by omega) (by omega) (by rfl) (by rfl) ⟨rfl,?_⟩) (by with_unfolding_all rfl)
 refine wg PySem.F.slot_dict_getitem.lookup (λ_ _=>rfl) (L.r _ _ _ _ (λ_ _ e=>e) (Subscript_ (L.x _ _ _ _ (λ_ _ e=>e) (wpAny_Constant_int ?_))))
 refine subscriptTail_builtinR (T:= "tuple") (x:=.ref q) (hT _) slot_tuple_getitem.lookup (getItem_tuple (j:=0) (items:= #[.ref q,.int c tc]) ⟨o,g1,g2,m,g3⟩ (by omega) (by omega) (by rfl) (by rfl) ⟨rfl,?_⟩) (by with_unfolding_all rfl)
 refine⟨dd.typeIs (s:={ s with heap:=h,toks:=_ }),wpAny_getItem_heap (knd:=lT P w) (k:=key) (show A.in1.units+1<cLine from hu) (k_of ok hk) dd hy ?_⟩
 rw[UA]
 exact add_int (hQ _ _ _ λ_ _ e=>e)
end L2
namespace L2
open PySem PySem.Spec PyProof.Rows
def n8(P:Addr)(ps:Array Value):HO:=.ext λh=>h.get? P=some (PySem.W.tabObj ps)
def Ow(c:Addr)(q:Str):HO:=.ext λh=>h.CodeRec (.ref c) q
def TabOk(H:Hp)(P:Addr)(ln:Pos)(q:Str):Prop:=H P=some (n8 P #[])\/∃c',H P=some (n8 P #[rawInt ln.line,rawInt ln.col,.ref c'])/\H c'=some (Ow c' q)
def OF(base:Heap)(mg:Str->Option Value):Prop:=∃bm ob,mg "__builtins__" =some (.ref bm)/\bm≠builtinsNs/\base.get? bm=some ob/\ob.cls= .type "module" /\ob.dict=some builtinsNs/\ob.data= .plain
theorem F5{Pr:Program}{w:World}{H:Hp}{h:Heap}{P:Addr}{ps:Array Value}(e:h.get? P=some (PySem.W.tabObj ps)):bI Pr w H h P (n8 P ps):=⟨e,⟨_,e⟩,λ_ _ a k=>k _ a⟩
theorem RS{Pr:Program}{w:World}{H:Hp}{h:Heap}{c:Addr}{q:Str}(e:h.CodeRec (.ref c) q):bI Pr w H h c (Ow c q):=by
 refine⟨e,?_,λh1 h2 a k=>?_⟩
 ·obtain⟨c₂,o,vs,t,e0,e1,_⟩:=e
  cases e0
  exact⟨o,e1⟩
 ·obtain⟨c₂,o,vs,t,e0,e1,e2⟩:=a
  cases e0
  exact⟨c,o,vs,t,rfl,k _ e1,e2⟩
section
variable{X:Cx}{pins:List (Addr×Obj)}{σ:St}{H:Hp}{s:Shared}
theorem Inv.tab(I:Inv X pins σ H s){P:Addr}{ps:Array Value}(e:H P=some (n8 P ps)):s.heap.get? P=some (PySem.W.tabObj ps):=(I.hok P _ e).1
theorem Inv.cd(I:Inv X pins σ H s){c:Addr}{q:Str}(e:H c=some (Ow c q)):s.heap.CodeRec (.ref c) q:=(I.hok c _ e).1
theorem Inv.Qv(I:Inv X pins σ H s){P c:Addr}{ps ps':Array Value}{q:Str}{h' h2:Heap}{t':Nat}(e:H P=some (n8 P ps))(hx:Heap.ExtBut P s.heap h')(hc:s.heap.objs.size<=c)(hr:h'.CodeRec (.ref c) q)(ht:h'.get? P=some (PySem.W.tabObj ps'))
  (k2:∀b o,h'.get? b=some o->h2.get? b=some o) (hup:s.toks<=t'):Inv X pins σ (upd (upd H P (n8 P ps')) c (Ow c q)) { s with heap:=h2,toks:=t' }:=by
 have hn:H c=none:=I.hok.fresh hc
 have ncP:c≠P:=λz=>by rw[z,e]at hn;cases hn
 have lt:∀b o,s.heap.get? b=some o->b≠c:=λb o q=>Nat.ne_of_lt (Nat.lt_of_lt_of_le (Heap.lt_size q) hc)
 have YK:∀b,H b=none->b≠P:=λb q z=>by rw[z,e]at q;cases q
 have other:∀b u,(∀ φ,u≠HO.ext φ)->H b=some u->upd (upd H P (n8 P ps')) c (Ow c q) b=some u:=λb u hu q=>by
  rw[au (λz=>by rw[z,hn]at q;cases q),au (λz=>by rw[z,e]at q;cases q;exact hu _ rfl)]
  exact q
 have kp:∀b o,b≠P->s.heap.get? b=some o->h2.get? b=some o:=λb o hb q=>k2 b o (hx b o hb q)
 refine I.un ⟨λb o q n _ _=>kp b o (YK b n) q,λb o q n _ _=>⟨o.slots,kp b o (YK b n) q⟩,λb o q n _=>?_,λb o q _=>?_,λb xs q=>other b _ (λ_ z=>by cases z) q,λb o u q=>other b _ (λ_ z=>by cases z) q,λb ps q=>⟨#[],by rw[other b _ (λ_ z=>by cases z) q];simp⟩⟩ (λb u q=>?_) hup
 ·rw[au (lt b o q),au (YK b n)]
  exact n
 ·by_cases z:b=P
  ·subst z;exact⟨_,k2 _ _ ht⟩
  ·exact⟨o,kp b o z q⟩
 ·by_cases z:b=c
  ·subst z
   rw[af]at q
   cases q
   exact RS (qN k2 hr)
  ·rw[au z]at q
   by_cases z2:b=P
   ·subst z2
    rw[af]at q
    cases q
    exact F5 (k2 _ _ ht)
   ·rw[au z2]at q
    refine(I.hok b u q).stay (λd v hd qd=>kp d v ?_ qd) (λd qd=>other d _ (λ_ z=>by cases z) qd) λd xs qd=>other d _ (λ_ z=>by cases z) qd
    rcases hd with hd|hd
    ·rw[hd];exact z2
    ·intro z3
     rw[z3,e]at hd
     cases hd
end
theorem QI{K:PySem.W.Frag}{H1 H2:Hp}{l:Addr}{vs:List V}(k:∀b u,(∀ φ,u≠HO.ext φ)->H1 b=some u->H2 b=some u)(h:bZ K H1 l vs):bZ K H2 l vs:=by
 rcases h with(h|⟨o,h⟩)|h
 ·exact .inl (.inl (k _ _ (λ_ z=>by cases z) h))
 ·exact .inl (.inr ⟨o,k _ _ (λ_ z=>by cases z) h⟩)
 ·exact .inr h
theorem DG{sc:Scope}{env:Env}{x r:Str}{c:Addr}(hn:sc.names=[(x,.local),(r,.free)])(hc:env.cells.lookup r=some c):closureFor sc env=pure [(r,c)]:=by
 have z:=pI (env:=env) sc.names [] (λy hy hk=>by
  rw[hn]at hy
  simp only[List.mem_cons,List.not_mem_nil,or_false]at hy
  rcases hy with rfl|rfl
  ·cases hk
  ·exact⟨c,hc⟩)
 unfold closureFor
 dsimp only
 rw[z,hn]
 have e:oR (λx=>env.cells.lookup x) [(x,NameKind.local),(r,NameKind.free)] []=[(r,c)]:=by
  unfold oR
  rw[if_neg (by decide)]
  unfold oR
  rw[if_pos (by decide)]
  show(match env.cells.lookup r with|some a=>oR _ [] ((r,a)::[])|none=>oR _ [] [])=_
  rw[hc]
  rfl
 rw[e]
 rfl
theorem Kw{P:Program}{w:World}{H H':Hp}{h:Heap}{d Pt:Addr}{kvs:List NE}{ps:Array Value}{φ:Heap->Prop}(nd:ND P w H d kvs)(ok:mQ P w H h)(ht:h.get? Pt=some (PySem.W.tabObj ps))(hP:H Pt=some (.ext φ))(off:∀b u,b≠Pt->H b=some u->H' b=some u):ND P w H' d kvs:=by
 have neT:∀{b:Addr} {xs:List V},H b=some (.tup xs)->b≠Pt:=λ{b xs} e z=>by rw[z,hP]at e;cases e
 refine⟨off _ _ (λz=>?_) nd.at_,λx hx=>?_⟩
 ·obtain⟨_,_,xs,_,o,es,ep,ho,hc,_⟩:=(ok d _ nd.at_).1
  rw[z,ht]at ho
  cases ho
  exact absurd hc.1 (by intro q;cases q)
 ·obtain⟨p,h1,h2⟩:=nd.keys x hx
  exact⟨p,off _ _ (neT h1) h1,off _ _ (neT h2) h2⟩
def LU(KV:Program->World->Hp->V->V->Int->Prop):Prop:=∀(P:Program) (w:World) (H H':Hp) (h:Heap) (v rv:V) (k:Int) (Pt:Addr) (ps:Array Value) (φ:Heap->Prop),
 KV P w H v rv k->mQ P w H h->h.get? Pt=some (PySem.W.tabObj ps)->H Pt=some (.ext φ)->(∀b u,b≠Pt->H b=some u->H' b=some u)->KV P w H' v rv k
theorem M8:LU KV1:=λP w H H' h v rv k Pt ps φ kv ok ht hP off=>by
 obtain⟨p,d,kvs,i,j,rfl,hp,rfl,nd,hv⟩:=kv
 exact⟨p,d,kvs,i,j,rfl,off _ _ (λz=>by rw[z,hP]at hp;cases hp) hp,rfl,Kw nd ok ht hP off,hv⟩
theorem M7:LU KV2:=λP w H H' h v rv k Pt ps φ kv ok ht hP off=>by
 obtain⟨p,d,q,kvs,ky,c,r,rfl,hp,⟨q2,k1,k2⟩,rfl,nd,hv,rfl⟩:=kv
 have neT:∀{b:Addr} {xs:List V},H b=some (.tup xs)->b≠Pt:=λ{b xs} e z=>by rw[z,hP]at e;cases e
 exact⟨p,d,q,kvs,ky,c,r,rfl,off _ _ (neT hp) hp,⟨q2,off _ _ (neT k1) k1,off _ _ (neT k2) k2⟩,rfl,Kw nd ok ht hP off,hv,rfl⟩
def Apart(Pr:Program)(wo:World)(H:Hp)(P:Addr):Prop:=(∀b q,H b=some (Ow b q)->b≠P)/\∀d kvs,H d=some (D5 Pr wo d kvs)->d≠P
theorem DJ{P:Program}{w:World}{H:Hp}{h:Heap}{Pt:Addr}{ps:Array Value}(ok:mQ P w H h)(ht:h.get? Pt=some (PySem.W.tabObj ps))(hp:∀q t,ps[1]? ≠some (.str q t)):Apart P w H Pt:=by
 refine⟨λb q e z=>?_,λd kvs e z=>?_⟩
 ·obtain⟨c₂,o,vs,t,e0,e1,e2,e3⟩:=(ok b _ e).1
  cases e0
  rw[z,ht]at e1
  cases e1
  cases e2
  exact hp _ _ e3
 ·obtain⟨_,_,xs,_,o,es,ep,ho,hc,_⟩:=(ok d _ e).1
  rw[z,ht]at ho
  cases ho
  exact absurd hc.1 (by intro q;cases q)
def SO(Pr:Program)(wo:World)(K:PySem.W.Frag)(KV:Program->World->Hp->V->V->Int->Prop)(P:Addr)(ln:Pos)(lq:Str)(ir:Nat)(ta:TA):TE:=λσ H Q=>ta σ H λzs H1=>∃(l:Addr) (vs:List V) (rv:V) (kf:Nat->Int),zs=[.ref l]/\σ[ir]? =some (some rv)/\bZ K H1 l vs/\0<vs.length ∧
 (∀i v,vs[i]? =some v->KV Pr wo H1 v rv (kf i))/\TabOk H1 P ln lq/\∀H2,Apart Pr wo H1 P->(∀b u,b≠P->H1 b=some u->H2 b=some u)->TabOk H2 P ln lq->∀i v,vs[i]? =some v->BG kf vs.length i->Q v H2
theorem Gs{X:Cx}{c P:Addr}{e:Expr}{ta:TA}{p pos qW Dh:Pos}{ps:Arguments}{body:Expr}{sc:Scope}{x r:Str}{ir:Nat}{KV:Program->World->Hp->V->V->Int->Prop}{Pr:Program}{wo:World}{K':PySem.W.Frag}(LK:FL ps body sc x r KV)(KO:LU KV)(hn:sc.names=[(x,.local),(r,.free)])
  (hcode:X.env.code= .ref c) (hC:PySem.W.codeHdIn X.K c P=true) (hbm:OF X.base X.mg) (Dp:X.calm=true) (hroom:X.A.depth<recursionLimit) (hu:X.A.units+16<cLine)
  (hg:Gl X "min") (hm:X.mg "min" =none) (hv:bootBuiltins "min" =some (.builtin "min")) (hN:X.N[ir]? =some r) (hcell:X.env.kindOf r=some .cell) (ha:PA X [e] ta) (hP:X.prog=Pr) (hw:X.w=wo) (hK:X.K=K') (hd0:defaultsOf ps X.env=([],[]):=by rfl)
  (he:backTo pos (starEach [e] X.env)=(false,eval e X.env)::backTo pos (starEach [] X.env):=by rfl) (hpl:(backTo pos (starEach [e] X.env)).any (·.1)=false:=by rfl) :
  PE X (.Call (.Name "min" p) [e] [⟨some (Str.ofString "key"),.Lambda ps body sc qW,Dh⟩] pos) (SO Pr wo K' KV P qW (X.env.qual++ "<lambda>") ir ta):=by
 subst hP hw hK
 intro pins s σ H Q I h
 refine wpAny_Call_Name_kw (om I hg hm hv ?_)
 refine callWith_kw (dw (ha pos pins s σ H _ I h) λus s1 ⟨zs,H1,I1,r1,q1⟩=>?_) he hpl rfl rfl
 obtain⟨l,vs,rv,kf,rfl,hir,hq,hne,hkv,hT,k⟩:=q1
 obtain⟨u,rfl,rx⟩:=vals1 r1
 cases rx
 obtain⟨m,hns,hl⟩:=I1.loc
 obtain⟨ru,rru,lk⟩:=hl ir r rv hN hir (.inr (.inl hcell))
 obtain⟨cc,hcc,hic⟩:∃cc,X.env.cells.lookup r=some cc/\s1.heap.IsCell cc (some ru):=by
  rcases lk with⟨z,_⟩|⟨_,z⟩
  ·rw[hcell]at z;cases z
  ·exact z
 have hcl:=DG hn hcc
 refine kws_cons (PySem.W.kla_eval hd0 ?_)
 have hgs:s1.heap.Ns mainGlobals X.mg:=I1.mod.glob.keeps I1.bk
 obtain⟨bm,ob,b1,b2,b3,b4,b5,b6⟩:=hbm
 have Sv:=I1.bk _ _ b3
 have hCh:=PySem.W.codeHd_of_K I1.pB hC
 have ext:∃ φ,H1 P=some (.ext φ):=by
  rcases hT with hT|⟨_,hT,_⟩
  ·exact⟨_,hT⟩
  ·exact⟨_,hT⟩
 obtain⟨φ,hφ⟩:=ext
 have hAp:Apart X.prog X.w H1 P:=by
  rcases hT with hT|⟨_,hT,_⟩
  ·exact DJ I1.hok (I1.tab hT) (λq t z=>by cases z)
  ·exact DJ I1.hok (I1.tab hT) (λq t z=>by cases z)
 have after:∀(q:Addr) (H2:Hp) (s2:Shared),Inv X pins σ H2 s2->(∀b u,b≠P->H1 b=some u->H2 b=some u)->TabOk H2 P qW (X.env.qual++ "<lambda>")->bZ X.K H2 l vs->yf s2.heap q (X.env.qual++ "<lambda>") ps body sc [(r,cc)]->s2.heap.IsCell cc (some ru)->(∀i v,vs[i]? =some v->KV X.prog X.w H2 v rv (kf i)) →
   wpAny (model X.prog X.w) X.A (evalAll ((backToKw pos (keywordEach [] X.env)).map (·.2)))
    (λkvs s₂=>wpAny (model X.prog X.w) X.A (call (.builtin "min") [.ref l] (((backToKw pos (keywordEach [⟨some (Str.ofString "key"),.Lambda ps body sc qW,Dh⟩] X.env)).filterMap (·.1)).zip (.ref q::kvs))) (EP X pins σ Q) X.xe s₂) X.xe s2:=by
  intro q H2 s2 I2 Wg hT2 hq2 ZK hc2 Zw
  refine kws_nil ?_
  show wpAny _ X.A (call (.builtin "min") [.ref l] [(Str.ofString "key",.ref q)]) _ _ s2
  have k1:=k H2 hAp Wg hT2
  obtain⟨its,r',pl,hz⟩:=I2.list hq2
  have hlen:=r'.length
  refine TK.bS (Nat.le_refl _) (ID (kf:=kf) (I2.ok.hd Dp) pl.isList (λi v h tk Q' hv' kp hQ=>?_) (by omega) λi v h' tk' hv' hb kp hup=>?_)
  ·have hi:i<its.length:=(List.getElem?_eq_some_iff.mp hv').1
   have hi1:i<vs.length:=by omega
   obtain⟨u',eu,NV⟩:=r'.get (List.getElem?_eq_getElem hi1)
   rw[hv']at eu
   cases eu
   obtain⟨oc,gc1,gc2⟩:=hc2
   refine HY (s:={ s2 with heap:=h,toks:=tk }) (A:=X.A.in1) (rv:=ru) (ZK.keep kp) LK.1 ⟨oc,kp _ _ gc1,gc2⟩ (I2.nolimit.keeps kp) hroom λenv A' h1 F3 E' hA Dh L=>?_
   refine LK.2 X.prog X.w H2 vs[i] rv (kf i) v ru s2 h1 F3 A' env _ _ (Zw i _ (List.getElem?_eq_getElem hi1)) NV rru (I2.hok.kept λb o z=>Dh b o (kp b o z)) (by rw[hA];show X.A.units+1+3+2<cLine;omega) L λh' tk' t k'=>?_
   exact hQ h' tk' t λb o z=>k' b o (Dh b o z)
  ·have hi:i<its.length:=(List.getElem?_eq_some_iff.mp hv').1
   have hi1:i<vs.length:=by omega
   obtain⟨u',eu,NV⟩:=r'.get (List.getElem?_eq_getElem hi1)
   rw[hv']at eu
   cases eu
   refine⟨vs[i],H2,I2.kept kp hup,NV,k1 i _ (List.getElem?_eq_getElem hi1) ?_⟩
   rw[show vs.length=its.length by omega]
   exact hb
 have off:∀b,H1 b=none->b≠P:=λb q z=>by rw[z,hφ]at q;cases q
 have TF:∀{ps':Array Value},H1 P=some (n8 P ps')->s1.heap.get? P=some (PySem.W.tabObj ps')->mainGlobals≠P/\bm≠P/\cc≠P:=λ{ps'} e e'=>by
  refine⟨λz=>?_,λz=>?_,λz=>?_⟩
  ·obtain⟨o,es,ep,eo,hd,_⟩:=hgs
   rw[z,e']at eo;cases eo;cases hd
  ·rw[z,e']at Sv;cases Sv;cases b4
  ·obtain⟨o,g1,g2⟩:=hic
   rw[z,e']at g1;cases g1;cases g2
 have bmG:bm≠mainGlobals:=λz=>by
  obtain⟨o,es,ep,eo,hd,_⟩:=hgs
  rw[z,eo]at Sv;cases Sv;rw[hd]at b6;cases b6
 rcases id hT with e0|⟨c',e0,ec⟩
 ·have tb:=I1.tab e0
  obtain⟨n1,n2,n3⟩:=TF e0 tb
  refine TK.bS (Nat.le_refl _) (PySem.W.kla_makeFunction (mg:=X.mg) (ps:= #[]) hcl I1.ok.glob hgs hcode hCh tb trivial rfl n1 ⟨bm,ob,b1,b2,bmG,n2,Sv,b4,b5,b6⟩ λc' ctv h' tk hx hge hlt hrec htb hup=>?_)
  have hcn:H1 c'=none:=I1.hok.fresh hge
  have ncP:P≠c':=λz=>off c' hcn z.symm
  have htb':h'.get? P=some (PySem.W.tabObj #[rawInt qW.line,rawInt qW.col,.ref c']):=by
   have:=htb
   rwa [show(#[]:Array Value)++ #[rawInt qW.line,rawInt qW.col,Value.ref c']= #[rawInt qW.line,rawInt qW.col,Value.ref c'] from rfl]at this
  have hoff:∀b u,b≠P->H1 b=some u->upd (upd H1 P (n8 P #[rawInt qW.line,rawInt qW.col,.ref c'])) c' (Ow c' (X.env.qual++ "<lambda>")) b=some u:=λb u hb q=>by
   rw[au (λz=>by rw[z,hcn]at q;cases q),au hb]
   exact q
  refine after _ (upd (upd H1 P (n8 P #[rawInt qW.line,rawInt qW.col,.ref c'])) c' (Ow c' (X.env.qual++ "<lambda>"))) _ (I1.Qv e0 hx hge hrec htb' (λb o q=>Heap.get?_push_of_some _ q) hup) hoff (.inr ⟨c',by rw[au ncP,af],af⟩) ?_ ⟨_,c',ctv,Heap.get?_push_size _ rfl,qN (λb o q=>Heap.get?_push_of_some _ q) hrec⟩ ?_ λi v hi=>KO _ _ _ _ _ _ _ _ _ _ _ (hkv i v hi) I1.hok tb e0 hoff
  ·refine QI (λb u hu q=>?_) hq
   rw[au (λz=>by rw[z,hcn]at q;cases q),au (λz=>by rw[z,e0]at q;cases q;exact hu _ rfl)]
   exact q
  ·obtain⟨o,g1,g2⟩:=hic
   exact⟨o,Heap.get?_push_of_some _ (hx _ _ n3 g1),g2⟩
 ·have tb:=I1.tab e0
  obtain⟨n1,n2,n3⟩:=TF e0 tb
  refine TK.bS (Nat.le_refl _) (PySem.W.kla_makeFunctionHit (mg:=X.mg) (ps:= #[rawInt qW.line,rawInt qW.col,.ref c']) (cv:=.ref c') hcl I1.ok.glob hgs hcode hCh tb ?_ ?_ ⟨bm,ob,b1,b2,bmG,n2,Sv,b4,b5,b6⟩ λctv h' tk kp hsz hup=>?_)
  ·show TriplesOk [rawInt _,rawInt _,_]
   exact trivial
  ·exact codeAmong_snoc [] trivial rfl
  ·obtain⟨o,g1,g2⟩:=hic
   exact after _ H1 _ (I1.kept (λb o q=>Heap.get?_push_of_some _ (kp b o q)) hup) (λb u _ q=>q) hT hq ⟨_,c',ctv,Heap.get?_push_size _ rfl,qN (λb o q=>Heap.get?_push_of_some _ (kp b o q)) (I1.cd ec)⟩ ⟨o,Heap.get?_push_of_some _ (kp _ _ g1),g2⟩ hkv
end L2
namespace L2
open PySem PySem.Spec PyProof.Rows
def dZ(K:PySem.W.Frag)(n:Str):Addr:=match PySem.W.nsIn K mainGlobals n with
 |some (some (.ref f))=>(match K.lookup f with
  |some ⟨_,_,.func fd,_⟩=>(match fd.code with
   | .ref c=>(match K.lookup c with
    |some ⟨_,_,.fields vs,_⟩=>(match (vs[11]? :Option Value)with|some (.ref P)=>P|_=>0)
    |_=>0)
   |_=>0)
  |_=>0)
 |_=>0
def pP(K:PySem.W.Frag)(n:Str):Bool:=match PySem.W.nsIn K mainGlobals n with
 |some (some (.ref f))=>(match K.lookup f with
  |some ⟨_,_,.func fd,_⟩=>(match fd.code with
   | .ref c=>PySem.W.codeHdIn K c (dZ K n)&&(K.lookup (dZ K n)).isNone
   |_=>false)
  |_=>false)
 |_=>false
theorem K0{K:PySem.W.Frag}{n:Str}{f:Addr}{oc:Value}{od:Option Addr}{fd:FuncData}{osl:Array (Option Value)}(h:pP K n=true)(a:PySem.W.nsIn K mainGlobals n=some (some (.ref f)))(l:K.lookup f=some ⟨oc,od,.func fd,osl⟩):
  ∃c,fd.code= .ref c/\PySem.W.codeHdIn K c (dZ K n)=true:=by
 unfold pP at h
 rw[a]at h
 simp only[l]at h
 split at h
 ·rename_i c hc
  exact⟨c,hc,(Bool.and_eq_true_iff.mp h).1⟩
 ·cases h
theorem Dg{K:PySem.W.Frag}{n:Str}(h:pP K n=true):(∃c,PySem.W.codeHdIn K c (dZ K n)=true)/\K.lookup (dZ K n)=none:=by
 unfold pP at h
 split at h
 ·split at h
  ·split at h
   ·obtain⟨h1,h2⟩:=Bool.and_eq_true_iff.mp h
    exact⟨⟨_,h1⟩,Option.isNone_iff_eq_none.mp h2⟩
   ·cases h
  ·cases h
 ·cases h
section
variable{P:Program}{w:World}{K:PySem.W.Frag}{mg:Str->Option Value}{base:Heap}
theorem Ja.okL{x qual:Str}{st:Stmt}{f:Addr}{fd:FuncData}{N ps:List Str}{k:Nat}{sp:Sp}(F:Ja K x qual st f fd)(Zt:pP K x=true)(hns:PySem.W.nsIn K mainGlobals x=some (some (.ref f)))(S:aH N ps (ay st))(len:∀vs H Q E,sp vs H Q E->vs.length=ps.length)
  (hbody:∀(c:Addr) (A:Around) (outer:List Env) (s:Shared) (H:Hp) (vs:List V) (Q:VK) (E:XK),PySem.W.codeHdIn K c (dZ K x)=true->jS k (A.deeper (envOfC qual (ay st) s.heap.objs.size f (.ref c)))->sp vs H Q E →
   ∃t,Ak (tW ck P w K mg base N qual (ay st) f (.ref c) A outer s H E).Q3 (c6 st) t/\t { nx:=λ_ H'=>Q .gB H',rt:=Q } (start N vs) H):aJ P w K mg base ck (k+1) f fd ps sp:=by
 obtain⟨oc,od,dV,kV,doc,pm,an,cdv,ct,osl,rfl,lk,hcd⟩:=F.ex
 obtain⟨c,e1,e2⟩:=K0 Zt hns lk
 have e1':cdv= .ref c:=e1
 subst e1'
 refine Lk lk hcd S len λA outer s H vs Q E hr D7=>?_
 obtain⟨t,h,q⟩:=hbody c A outer s H vs Q E e2 hr D7
 exact⟨t,h.Q3,q⟩
end
set_option maxHeartbeats 1000000 in
theorem HX{P:Program}{w:World}{K:PySem.W.Frag}{mg mb:Str->Option Value}{CX:IX}{k:Nat}{fa a:Addr}{ts:List Addr}{fd:FuncData}{x:Str}{sp:Sp}{s₁:Shared}{vs:List Value}{ns:List Int}
  (KX:K.In s₁.heap) (hns:s₁.heap.Ns mainGlobals mg) (hb:s₁.heap.Ns builtinsNs mb) (hbb:∀x:Str,x≠ "__name__" ->mb x=bootBuiltins x) (hlim:s₁.heap.NoLimit) (hg:s₁.gens= #[]) (htk:FD mg s₁.toks) (hbm:OF s₁.heap mg)
  (hT:∀P∈ts,s₁.heap.get? P=some (PySem.W.tabObj #[])) (hTk:∀P∈ts,K.lookup P=none) (hTc:∀P∈ts,∃c,PySem.W.codeHdIn K c P=true)
  (ha:s₁.heap.get? a=some { cls:=.type "list",data:=.seq vs.toArray }) (hi:IntsAre vs ns) (hl:ns.length<=sizeLine) (hr:jS k callerA)
  (F:∀base:Heap,K.In base->base.Ns mainGlobals mg->OF base mg->aJ P w K mg base CX k fa fd [x] sp) (hbind:∀(s:Shared) (u:Value),BindsTo s fd ⟨[u],[]⟩ [(x,u)])
  (D7:∀H:Hp,(∀P∈ts,H P=some (n8 P #[]))->bZ K H a (ns.map V.int)->sp [.ref a] H (λv H'=>v= .bl true/\∀P∈ts,∃ps,H' P=some (n8 P ps)) λ_ _ _=>False)
  (ZQ:∀H e s',CX [] H s₁ (λ_ _ _=>False) e s'->False) :
  codeAny (model P w) callerA (.call (.ref fa) ⟨[.ref a],[]⟩) (λr s'=>r= .ok (.ret (.bool true))/\OldK s₁.heap s'.heap/\s'.os=s₁.os/\AllBare s'.gens) s₁:=by
 have rv:=zA hi
 have YR:=hi.length
 have nPa:a∉ts:=λz=>by have:=hT a z;rw[ha]at this;cases this
 have core:∀H:Hp,(∀b,H b=none\/b∈ts\/∃o xs,H b=some (.tS o (.lst xs)))->(∀P∈ts,H P=some (n8 P #[]))->bZ K H a (ns.map V.int)->mQ P w H s₁.heap->(∀b,H b≠none->b=a\/b∈ts)->(H a≠none->K.lookup a=none) →
   codeAny (model P w) callerA (.call (.ref fa) ⟨[.ref a],[]⟩) (λr s'=>r= .ok (.ret (.bool true))/\OldK s₁.heap s'.heap/\s'.os=s₁.os/\AllBare s'.gens) s₁:=by
  intro H hO hPt hS hok hA hK
  have baseOf:∀{b:Addr} {o:Obj},s₁.heap.get? b=some o->H b=none->(yP s₁.heap H).get? b=some o:=λe n=>Lc e n
  have free:∀{b:Addr} {o:Obj},s₁.heap.get? b=some o->o≠{ cls:=.type "list",data:=.seq vs.toArray }->o≠PySem.W.tabObj #[]->H b=none:=λ{b o} e d1 d2=>by
   cases q:H b with
   |none=>rfl
   |some u =>
    rcases hA b (by rw[q];simp)with e'|e'
    ·subst e';rw[ha]at e;cases e;exact absurd rfl d1
    ·rw[hT b e']at e;cases e;exact absurd rfl d2
  have VV:∀{b:Addr} {m:Str->Option Value},s₁.heap.Ns b m->(yP s₁.heap H).Ns b m:=λ{b m} ⟨o,es,ep,e,d,r⟩=>⟨o,es,ep,baseOf e (free e (λz=>by rw[z]at d;cases d) (λz=>by rw[z]at d;cases d)),d,r⟩
  have hKb:K.In (yP s₁.heap H):=λb o e=>baseOf (KX b o e) (by
   cases q:H b with
   |none=>rfl
   |some u =>
    rcases hA b (by rw[q];simp)with e'|e'
    ·subst e';rw[hK (by rw[q];simp)]at e;cases e
    ·rw[hTk b e']at e;cases e)
  have hBb:OF (yP s₁.heap H) mg:=by
   obtain⟨bm,ob,b1,b2,b3,b4,b5,b6⟩:=hbm
   exact⟨bm,ob,b1,b2,baseOf b3 (free b3 (λz=>by rw[z]at b6;cases b6) (λz=>by rw[z]at b6;cases b6)),b4,b5,b6⟩
  have hM:Mod K mg (yP s₁.heap H):=⟨hKb,VV hns,⟨mb,VV hb,hbb⟩,let ⟨mc,h1,h2⟩:=hlim;⟨mc,VV h1,h2⟩⟩
  have e0:FW P w K mg (yP s₁.heap H) callerA [] s₁ H:=⟨rfl,hM,λb o e=>MP e,Nat.le_of_eq (Ii _ _),trivial,λb hb=>absurd (show b∈([]:List Addr) from hb) (by simp),hok,.of_eq hg,htk⟩
  refine codeAny_mono ((F _ hKb (VV hns) hBb).run callerA [] s₁ H ⟨[.ref a],[]⟩ [.ref a] [.ref a] _ _ hr e0 (hbind s₁ (.ref a)) (.cons rfl .nil) (D7 H hPt hS)) λr s' h=>?_
  cases r with
  |error e=>exact(ZQ H e s' h).elim
  |ok fl =>
   cases fl with
   |next=>exact False.elim h
   |brk=>exact False.elim h
   |cont=>exact False.elim h
   |ret u =>
    obtain⟨v,H',os,bare,un,UK,r',_,q,qT⟩:=h
    have q':v= .bl true:=q
    subst q'
    obtain rfl:u=Value.bool true:=r'
    have tb:∀P∈ts,∃ps',s'.heap.get? P=some (PySem.W.tabObj ps'):=λP hP=>by obtain⟨ps',z⟩:=qT P hP;exact⟨ps',(UK P _ z).1⟩
    have kp:∀b o,b∉ts->s₁.heap.get? b=some o->s'.heap.get? b=some o:=λb o Mb e=>by
     cases q:H b with
     |none=>exact un.keep b o e q (by intro z;exact absurd (show b∈([]:List Addr) from z) (by simp)) (by simp)
     |some u =>
      rcases hO b with z|z|⟨ob,xs,z⟩
      ·rw[q]at z;cases z
      ·exact absurd z Mb
      ·have z2:=un.q9 b ob _ z
       obtain⟨e1,_⟩:=hok b _ z
       obtain⟨e2,_⟩:=UK b _ z2
       rw[e]at e1;cases e1
       exact e2
    refine⟨rfl,⟨λb o e=>?_,λb o e=>?_⟩,os,bare⟩
    ·by_cases Mb:b∈ts
     ·rw[hT b Mb]at e
      cases e
      obtain⟨c,hc⟩:=hTc b Mb
      obtain⟨ps',e1⟩:=tb b Mb
      have hcd:=PySem.W.codeHd_of_K KX hc
      exact .inr (.inl ⟨(hcd.tab (hT b Mb)).isCodeTable,rfl,#[],ps',rfl,by rw[e1];simp[PySem.W.tabObj]⟩)
     ·exact .inl (kp b o Mb e)
    ·by_cases Mb:b∈ts
     ·obtain⟨ps',e1⟩:=tb b Mb
      exact⟨_,e1⟩
     ·exact⟨o,kp b o Mb e⟩
 have okT:∀(H:Hp) (b:Addr),b∈ts->bI P w H s₁.heap b (n8 b #[]):=λH b hb=>F5 (hT b hb)
 cases hk:K.lookup a with
 |some o =>
  have e:=KX a o hk
  rw[ha]at e
  cases e
  refine core (λb=>if b∈ts then some (n8 b #[])else none) (λb=>?_) (λb hb=>if_pos hb) (.inr ⟨_,vs.toArray,_,hk,rfl,rfl,rfl,by rw[List.size_toArray,YR];exact hl,by simpa using rv⟩) (λb u z=>?_) (λb z=>?_) λz=>absurd (if_neg nPa) z
  ·by_cases hb:b∈ts
   ·exact .inr (.inl hb)
   ·exact .inl (if_neg hb)
  ·by_cases hb:b∈ts
   ·have z':=(if_pos hb).symm.trans z
    cases z'
    exact okT _ b hb
   ·have z':=(if_neg hb).symm.trans z
    cases z'
  ·by_cases hb:b∈ts
   ·exact .inr hb
   ·exact absurd (if_neg hb) z
 |none =>
  refine core (λb=>if b=a then some (.tS { cls:=.type "list",data:=.seq vs.toArray } (.lst (ns.map V.int)))else if b∈ts then some (n8 b #[])else none) (λb=>?_) (λb hb=>?_) (.inl (.inr ⟨{ cls:=.type "list",data:=.seq vs.toArray },if_pos rfl⟩)) (λb u z=>?_) (λb z=>?_) λ_=>hk
  ·by_cases hb:b=a
   ·exact .inr (.inr ⟨_,_,if_pos hb⟩)
   ·by_cases hb2:b∈ts
    ·exact .inr (.inl hb2)
    ·exact .inl ((if_neg hb).trans (if_neg hb2))
  ·exact(if_neg (λz:b=a=>nPa (z▸hb))).trans (if_pos hb)
  ·by_cases hb:b=a
   ·have z':=(if_pos hb).symm.trans z
    cases z'
    subst hb
    exact⟨ha,by rw[List.length_map];exact hl,vs,_,rv,ha⟩
   ·by_cases hb2:b∈ts
    ·have z':=((if_neg hb).trans (if_pos hb2)).symm.trans z
     cases z'
     exact okT _ b hb2
    ·have z':=((if_neg hb).trans (if_neg hb2)).symm.trans z
     cases z'
  ·by_cases hb:b=a
   ·exact .inl hb
   ·by_cases hb2:b∈ts
    ·exact .inr hb2
    ·exact absurd ((if_neg hb).trans (if_neg hb2)) z
theorem Jg{l:PySem.W.OpenLaw}{n k:Nat}{q:Program}{loose:List Str}{XP:(Str->Option Value)->Heap->Prop}{YP:World->Heap->Prop}{d:DefRec}{K:Params->PySem.W.Frag}{CX:World->IX}{sp:World->Sp}{x:Str}{nms:List Str}
  (hn:l.most=some n) (hn2:n<=sizeLine) (hdf:d.params.defaults=[]) (hr:jS k callerA)
  (hY:∀(w:World) (h:Heap),YP w h->(K w.params).In h) (hYT:∀(w:World) (h:Heap),YP w h->∀nm∈nms,h.get? (dZ (K w.params) nm)=some (PySem.W.tabObj #[])) (hL:∀w:World,∀nm∈nms,pP (K w.params) nm=true)
  (hG:∀w:World,PySem.W.nsIn (K w.params) mainGlobals "GAP" =some none)
  (F:∀(w:World) (mg:Str->Option Value) (fa:Addr) (h:Heap),(K w.params).In h->h.Ns mainGlobals mg->mg d.name=some (.ref fa) →
   ∃fd:FuncData,(∀(s:Shared) (u:Value),BindsTo s fd ⟨[u],[]⟩ [(x,u)]) ∧
    ∀base:Heap,(K w.params).In base->base.Ns mainGlobals mg->OF base mg->aJ l.prog w (K w.params) mg base (CX w) k fa fd [x] (sp w))
  (D7:∀(w:World) (H:Hp) (a:Addr) (ns:List Int),ns.length<=n->(∀nm∈nms,H (dZ (K w.params) nm)=some (n8 (dZ (K w.params) nm) #[]))->bZ (K w.params) H a (ns.map V.int)->sp w [.ref a] H (λv H'=>v= .bl true/\∀nm∈nms,∃ps,H' (dZ (K w.params) nm)=some (n8 (dZ (K w.params) nm) ps)) λ_ _ _=>False)
  (ZQ:∀(w:World) (H:Hp) (s:Shared) (e:Value) (s':Shared),CX w [] H s (λ_ _ _=>False) e s'->False) :
  PySem.W.WalkO q loose XP YP l.row.toRowW d [] (λf vs=>PySem.call f vs):=by
 refine Att.DI hn hdf λw s₀ s₁ mg mb fa o pm cd doc a vs ns G Y ho hd hcd hmg hobj hints hlen hg=>?_
 have KX:=hY w _ Y
 obtain⟨fd,hb,hF⟩:=F w mg fa _ KX G.T.g hmg
 have gap:=PySem.W.mg_none_of KX G.T.g (hG w)
 exact HX (ts:=nms.map (dZ (K w.params))) KX G.T.g G.T.b G.T.builtins G.T.nolimit hg (λv u e=>by rw[gap]at e;cases e) G.T.bmain
  (λP hP=>by obtain⟨nm,hm,rfl⟩:=List.mem_map.mp hP;exact hYT w _ Y nm hm) (λP hP=>by obtain⟨nm,hm,rfl⟩:=List.mem_map.mp hP;exact(Dg (hL w nm hm)).2) (λP hP=>by obtain⟨nm,hm,rfl⟩:=List.mem_map.mp hP;exact(Dg (hL w nm hm)).1)
  hobj hints (Nat.le_trans hlen hn2) hr hF hb (λH hO hS=>by
   have z:=D7 w H a ns hlen (λnm hm=>hO _ (List.mem_map.mpr ⟨nm,hm,rfl⟩)) hS
   have e:(λ(v:V) (H':Hp)=>v= .bl true/\∀P∈nms.map (dZ (K w.params)),∃ps,H' P=some (n8 P ps))=λv H'=>v= .bl true/\∀nm∈nms,∃ps,H' (dZ (K w.params) nm)=some (n8 (dZ (K w.params) nm) ps):=by
    funext v H'
    simp
   rw[e]
   exact z) λH e s'=>ZQ w H s₁ e s'
end L2
namespace GP
open PySem L2 sJ
def vL:List Int->Int
 |[]=>0
 |x::xs=>xs.foldl min x
theorem sD:∀(l:List Int) (x:Int),l.foldl min x<=x/\∀y∈l,l.foldl min x<=y
 |[],x=>⟨Int.le_refl _,λy hy=>(nomatch hy)⟩
 |a::l,x=>by
  obtain⟨h1,h2⟩:=sD l (min x a)
  rw[List.foldl_cons]
  refine⟨by omega,λy hy=>?_⟩
  rcases List.mem_cons.mp hy with rfl|hy
  ·omega
  ·exact h2 y hy
theorem vn:∀(l:List Int) (x:Int),l.foldl min x=x\/l.foldl min x∈l
 |[],x=>.inl rfl
 |a::l,x=>by
  rw[List.foldl_cons]
  rcases vn l (min x a)with h|h
  ·rw[h]
   by_cases e:x<=a
   ·exact .inl (by omega)
   ·rw[show min x a=a by omega]
    exact .inr List.mem_cons_self
  ·exact .inr (List.mem_cons_of_mem _ h)
theorem GA{l:List Int}{x:Int}(h:x∈l):vL l<=x:=by
 cases l with
 |nil=>exact nomatch h
 |cons a l =>
  rcases List.mem_cons.mp h with rfl|h
  ·exact(sD l _).1
  ·exact(sD l a).2 x h
theorem C7{l:List Int}(h:l≠[]):vL l∈l:=by
 cases l with
 |nil=>exact absurd rfl h
 |cons a l =>
  rcases vn l a with h|h
  ·exact List.mem_cons.mpr (.inl h)
  ·exact List.mem_cons_of_mem _ h
theorem MV{l:List Int}{x:Int}(h:x∈l)(h2:∀y∈l,x<=y):vL l=x:=Int.le_antisymm (GA h) (h2 _ (C7 (List.ne_nil_of_mem h)))
def fmin{α:Type}(f:α->Int):List α->Option α
 |[]=>none
 |x::xs=>match fmin f xs with
  |none=>some x
  |some y=>if f y<f x then some y else some x
theorem oN{α:Type}{f:α->Int}:∀{l:List α} {x:α},fmin f l=some x->x∈l
 |[],x,h=>by cases h
 |a::l,x,h=>by
  unfold fmin at h
  split at h
  ·cases h;exact List.mem_cons_self
  ·next y e =>
   split at h
   ·cases h;exact List.mem_cons_of_mem _ (oN e)
   ·cases h;exact List.mem_cons_self
theorem wm{α:Type}{f:α->Int}:∀{l:List α} {k:Nat} {x:α},l[k]? =some x->(∀j y,l[j]? =some y->f x<=f y/\(j<k->f x<f y))->fmin f l=some x
 |[],k,x,h,_=>by simp at h
 |a::l,0,x,h,hx=>by
  obtain rfl:a=x:=by simpa using h
  unfold fmin
  split
  ·rfl
  ·next y e =>
   obtain⟨j,hj,ey⟩:=List.getElem_of_mem (oN e)
   have:=(hx (j+1) y (by simpa using(List.getElem?_eq_some_iff.mpr ⟨hj,ey⟩))).1
   rw[if_neg (by omega)]
 |a::l,k+1,x,h,hx=>by
  have e:fmin f l=some x:=wm (k:=k) (by simpa using h) λj y hy=>by
   have:=hx (j+1) y (by simpa using hy)
   exact⟨this.1,λz=>this.2 (by omega)⟩
  unfold fmin
  rw[e]
  have:=(hx 0 a rfl).2 (by omega)
  simp[this]
theorem zY{α:Type}{f:α->Int}{l:List α}(h:l≠[]):∃x,fmin f l=some x:=by
 cases l with
 |nil=>exact absurd rfl h
 |cons a l =>
  unfold fmin
  split
  ·exact⟨_,rfl⟩
  ·split<;>exact⟨_,rfl⟩
theorem A6{α:Type}{f:α->Int}:∀{l:List α} {x y:α},fmin f l=some x->y∈l->f x<=f y
 |[],x,y,h,_=>by cases h
 |a::l,x,y,h,hy=>by
  unfold fmin at h
  split at h
  ·next e =>
   cases h
   rcases List.mem_cons.mp hy with rfl|hy
   ·exact Int.le_refl _
   ·obtain⟨z,ez⟩:=zY (f:=f) (List.ne_nil_of_mem hy)
    rw[e]at ez;cases ez
  ·next z e =>
   have k:=λhy=>A6 (y:=y) e hy
   split at h
   ·cases h
    rcases List.mem_cons.mp hy with rfl|hy
    ·omega
    ·exact k hy
   ·cases h
    rcases List.mem_cons.mp hy with rfl|hy
    ·exact Int.le_refl _
    ·have:=k hy;omega
abbrev bR:=Nat×Nat×Nat
structure Gd where
 n:Nat
 m:Nat
 pc:Nat->Nat->Int
 op:Int
 mo:Int
 en:Nat->Nat->Bool
def Gd.ac(g:Gd)(v c:Nat):Int:=if v=c then g.mo else g.op+g.mo
def Gd.steps(g:Gd)(s:bR):List (bR×Int) :=
 (if s.1<g.n/\s.2.1<g.m then [((s.1+1,s.2.1+1,112),g.pc s.1 s.2.1)]else [])++((if s.1<g.n then [((s.1+1,s.2.1,97),g.ac 97 s.2.2)]else [])++(if s.2.1<g.m then [((s.1,s.2.1+1,98),g.ac 98 s.2.2)]else []))
def Gd.costs(g:Gd)(R:bR->Int)(s:bR):List Int:=(g.steps s).map (λt=>t.2+R t.1)++if g.en s.1 s.2.1 then [0]else []
def Gd.NW(g:Gd):Nat->bR->Int
 | 0,_=>0
 |d+1,s=>vL (g.costs (g.NW d) s)
def Gd.ht(g:Gd)(s:bR):Nat:=g.n-s.1+(g.m-s.2.1)
def Gd.rest(g:Gd)(s:bR):Int:=g.NW (g.ht s+1) s
def Gd.In(g:Gd)(s:bR):Prop:=s.1<=g.n/\s.2.1<=g.m/\(s.2.2=112\/s.2.2=97\/s.2.2=98)
theorem Gd.jz{g:Gd}{s:bR}{t:bR×Int}:t∈g.steps s↔(s.1<g.n/\s.2.1<g.m/\t=((s.1+1,s.2.1+1,112),g.pc s.1 s.2.1))\/(s.1<g.n/\t=((s.1+1,s.2.1,97),g.ac 97 s.2.2))\/(s.2.1<g.m/\t=((s.1,s.2.1+1,98),g.ac 98 s.2.2)):=by
 unfold Gd.steps
 simp only[List.mem_append]
 by_cases h1:s.1<g.n<;>by_cases h2:s.2.1<g.m<;>simp[h1,h2]
theorem Gd.oU{g:Gd}{s:bR}{t:bR×Int}(h:t∈g.steps s)(hs:g.In s):g.In t.1:=by
 obtain⟨h1,h2,_⟩:=hs
 rcases Gd.jz.mp h with⟨a,b,rfl⟩|⟨a,rfl⟩|⟨a,rfl⟩
 ·exact⟨a,b,.inl rfl⟩
 ·exact⟨a,h2,.inr (.inl rfl)⟩
 ·exact⟨h1,a,.inr (.inr rfl)⟩
theorem Gd.iK{g:Gd}{s:bR}{t:bR×Int}(h:t∈g.steps s):g.ht t.1<g.ht s:=by
 unfold Gd.ht
 rcases Gd.jz.mp h with⟨a,b,rfl⟩|⟨a,rfl⟩|⟨a,rfl⟩<;>simp only<;>omega
theorem Gd.qv{g:Gd}{R R':bR->Int}{s:bR}(h:∀t∈g.steps s,R t.1=R' t.1):g.costs R s=g.costs R' s:=by
 unfold Gd.costs
 rw[List.map_congr_left λt ht=>by rw[h t ht]]
theorem Gd.wZ{g:Gd}:∀(d:Nat) (s:bR),g.ht s<d->g.NW d s=g.rest s
 | 0,_,h=>by omega
 |d+1,s,h=>by
  have e1:∀t∈g.steps s,g.NW d t.1=g.rest t.1:=λt ht=>Gd.wZ d t.1 (by have:=Gd.iK ht;omega)
  by_cases hd:d=g.ht s
  ·subst hd;rfl
  ·have e2:∀t∈g.steps s,g.NW (g.ht s) t.1=g.rest t.1:=λt ht=>by
    have:=Gd.iK ht
    have hlt:g.ht s<d:=by omega
    exact Gd.wZ (g.ht s) t.1 this
   show vL (g.costs (g.NW d) s)=vL (g.costs (g.NW (g.ht s)) s)
   rw[Gd.qv e1,Gd.qv e2]
 termination_by d=>d
theorem Gd.rest_eq(g:Gd)(s:bR):g.rest s=vL (g.costs g.rest s):=by
 show vL (g.costs (g.NW (g.ht s)) s)=_
 rw[Gd.qv λt ht=>Gd.wZ _ t.1 (Gd.iK ht)]
def Gd.Ok(g:Gd):Prop:=g.en g.n g.m=true
theorem Gd.DE{g:Gd}(ok:g.Ok){R:bR->Int}{s:bR}(hs:g.In s):g.costs R s≠[]:=by
 unfold Gd.costs Gd.steps
 obtain⟨h1,h2,_⟩:=hs
 by_cases a:s.1<g.n
 ·simp[a]
 ·by_cases b:s.2.1<g.m
  ·simp[b]
  ·have e1:s.1=g.n:=by omega
   have e2:s.2.1=g.m:=by omega
   have ok':g.en g.n g.m=true:=ok
   rw[e1,e2,ok']
   simp
def Gd.stop(g:Gd)(s:bR):Bool:=g.en s.1 s.2.1&&decide (g.rest s=0)
def Gd.key(g:Gd)(t:bR×Int):Int:=t.2+g.rest t.1
def Gd.IZ(g:Gd)(s:bR):bR:=((fmin g.key (g.steps s)).map (·.1)).getD s
theorem Gd.go{g:Gd}(ok:g.Ok){s:bR}(hs:g.In s)(h:g.stop s=false):∃t,fmin g.key (g.steps s)=some t/\t∈g.steps s/\g.IZ s=t.1/\g.key t=g.rest s/\∀u∈g.steps s,g.key t<=g.key u:=by
 have hm:=C7 (Gd.DE ok (R:=g.rest) hs)
 rw[←g.rest_eq]at hm
 have hx:g.rest s∈(g.steps s).map g.key:=by
  rcases List.mem_append.mp hm with hm|hm
  ·exact hm
  ·exfalso
   unfold Gd.stop at h
   by_cases e:g.en s.1 s.2.1=true
   ·rw[if_pos e]at hm
    have:g.rest s=0:=by simpa using hm
    rw[e,this]at h
    simp at h
   ·rw[if_neg e]at hm
    exact nomatch hm
 obtain⟨u,hu,eu⟩:=List.mem_map.mp hx
 obtain⟨t,ht⟩:=zY (f:=g.key) (List.ne_nil_of_mem hu)
 refine⟨t,ht,oN ht,by unfold Gd.IZ;rw[ht];rfl,?_,λv hv=>A6 ht hv⟩
 have h1:=A6 ht hu
 have h2:g.rest s<=g.key t:=by
  rw[g.rest_eq]
  exact GA (List.mem_append_left _ (List.mem_map.mpr ⟨t,oN ht,rfl⟩))
 omega
def Gd.way(g:Gd):Nat->bR->List Nat
 | 0,_=>[]
 |d+1,s=>if g.stop s then []else(g.IZ s).2.2::g.way d (g.IZ s)
def Gd.moves(g:Gd)(s:bR):List Nat:=g.way (g.ht s) s
theorem Gd.wG{g:Gd}(ok:g.Ok):∀(d:Nat) (s:bR),g.In s->g.ht s<=d->g.way d s=g.moves s
 | 0,s,_,h=>by unfold Gd.moves;rw[Nat.le_zero.mp h]
 |d+1,s,hs,h=>by
  by_cases e:g.stop s=true
  ·unfold Gd.moves
   cases k:g.ht s with
   |zero=>simp[Gd.way,e]
   |succ k=>simp[Gd.way,e]
  ·have e':g.stop s=false:=by simpa using e
   obtain⟨t,_,ht,en,_⟩:=g.go ok hs e'
   have h1:=Gd.iK ht
   have h2:=Gd.oU ht hs
   obtain⟨k,ek⟩:∃k,g.ht s=k+1:=⟨g.ht s-1,by omega⟩
   unfold Gd.moves
   rw[ek]
   show(if g.stop s then []else(g.IZ s).2.2::g.way d (g.IZ s))=(if g.stop s then []else(g.IZ s).2.2::g.way k (g.IZ s))
   rw[en,Gd.wG ok d t.1 h2 (by omega),Gd.wG ok k t.1 h2 (by omega)]
 termination_by d=>d
theorem Gd.se{g:Gd}{s:bR}(h:g.stop s=true):g.moves s=[]:=by
 unfold Gd.moves
 cases g.ht s with
 |zero=>rfl
 |succ k=>simp[Gd.way,h]
theorem Gd.xC{g:Gd}(ok:g.Ok){s:bR}(hs:g.In s)(h:g.stop s=false):g.moves s=(g.IZ s).2.2::g.moves (g.IZ s):=by
 obtain⟨t,_,ht,en,_⟩:=g.go ok hs h
 have h1:=Gd.iK ht
 have h2:=Gd.oU ht hs
 have e:g.moves s=g.way (g.ht s-1+1) s:=by unfold Gd.moves;rw[show g.ht s-1+1=g.ht s by omega]
 rw[e]
 show(if g.stop s then []else(g.IZ s).2.2::g.way (g.ht s-1) (g.IZ s))=_
 rw[h,en,Gd.wG ok _ t.1 h2 (by omega)]
 rfl
theorem Gd.HK{g:Gd}(s:bR):(g.moves s).length<=g.ht s:=by
 have:∀(d:Nat) (s:bR),(g.way d s).length<=d:=λd=>by
  induction d with
  |zero=>intro s;exact Nat.le_refl _
  |succ d ih =>
   intro s
   unfold Gd.way
   split
   ·exact Nat.zero_le _
   ·rw[List.length_cons];exact Nat.succ_le_succ (ih _)
 exact this _ s
def Gd.walk(g:Gd):bR->List Nat->Option (Int×bR)
 |s,[]=>some (0,s)
 |s,v::vs=>match (g.steps s).find? (λt=>t.1.2.2==v)with
  |none=>none
  |some t=>(g.walk t.1 vs).map λr=>(t.2+r.1,r.2)
theorem Gd.Hq{g:Gd}{s:bR}{t:bR×Int}(h:t∈g.steps s):(g.steps s).find? (λu=>u.1.2.2==t.1.2.2)=some t:=by
 unfold Gd.steps at h ⊢
 by_cases h1:s.1<g.n<;>by_cases h2:s.2.1<g.m<;>simp[h1,h2]at h ⊢
 ·rcases h with rfl|rfl|rfl<;>simp[List.find?_cons]
 ·subst h;simp
 ·subst h;simp
theorem Gd.wH{g:Gd}(ok:g.Ok):∀(d:Nat) (s:bR),g.In s->g.ht s<=d->∃e,g.walk s (g.moves s)=some (g.rest s,e)/\g.In e/\g.en e.1 e.2.1=true
 |d,s,hs,hd=>by
  by_cases e:g.stop s=true
  ·rw[Gd.se e]
   unfold Gd.stop at e
   rw[Bool.and_eq_true]at e
   refine⟨s,?_,hs,e.1⟩
   rw[of_decide_eq_true e.2]
   rfl
  ·have e':g.stop s=false:=by simpa using e
   obtain⟨t,_,ht,en,ek,_⟩:=g.go ok hs e'
   have h1:=Gd.iK ht
   have h2:=Gd.oU ht hs
   cases d with
   |zero=>omega
   |succ d =>
    obtain⟨f,hf,Zy,hfe⟩:=Gd.wH ok d t.1 h2 (by omega)
    refine⟨f,?_,Zy,hfe⟩
    rw[Gd.xC ok hs e',en]
    unfold Gd.walk
    rw[Gd.Hq ht]
    show(g.walk t.1 (g.moves t.1)).map _=_
    rw[hf]
    show some (t.2+g.rest t.1,f)=_
    rw[show t.2+g.rest t.1=g.rest s from ek]
 termination_by d=>d
def placesOf(n m:Nat):List (Nat×Nat):=(List.range (n+1)).flatMap λi=>(List.range (m+1)).map λj=>(i,j)
def three(p:Nat×Nat):List bR:=[(p.1,p.2,112),(p.1,p.2,97),(p.1,p.2,98)]
def cR(ps:List (Nat×Nat)):List bR:=ps.flatMap three
theorem kQ{n m:Nat}{p:Nat×Nat}:p∈placesOf n m↔p.1<=n/\p.2<=m:=by
 unfold placesOf
 simp only[List.mem_flatMap,List.mem_range,List.mem_map]
 constructor
 ·rintro⟨i,hi,j,hj,rfl⟩
  exact⟨by show i<=n;omega,by show j<=m;omega⟩
 ·rintro⟨h1,h2⟩
  exact⟨p.1,by omega,p.2,by omega,rfl⟩
theorem mR{p:Nat×Nat}{s:bR}:s∈three p↔s.1=p.1/\s.2.1=p.2/\(s.2.2=112\/s.2.2=97\/s.2.2=98):=by
 obtain⟨a,b,c⟩:=s
 simp only[three,List.mem_cons,List.not_mem_nil,or_false,Prod.mk.injEq]
 constructor
 ·rintro(⟨h1,h2,h3⟩|⟨h1,h2,h3⟩|⟨h1,h2,h3⟩)
  ·exact⟨h1,h2,.inl h3⟩
  ·exact⟨h1,h2,.inr (.inl h3)⟩
  ·exact⟨h1,h2,.inr (.inr h3)⟩
 ·rintro⟨h1,h2,h3|h3|h3⟩
  ·exact .inl ⟨h1,h2,h3⟩
  ·exact .inr (.inl ⟨h1,h2,h3⟩)
  ·exact .inr (.inr ⟨h1,h2,h3⟩)
theorem gw{ps:List (Nat×Nat)}{s:bR}:s∈cR ps↔(s.1,s.2.1)∈ps/\(s.2.2=112\/s.2.2=97\/s.2.2=98):=by
 unfold cR
 rw[List.mem_flatMap]
 constructor
 ·rintro⟨p,hp,h⟩
  obtain⟨h1,h2,h3⟩:=mR.mp h
  rw[h1,h2]
  exact⟨hp,h3⟩
 ·rintro⟨hp,h⟩
  exact⟨_,hp,mR.mpr ⟨rfl,rfl,h⟩⟩
def Gd.states(g:Gd):List bR:=cR (placesOf g.n g.m)
theorem Gd.gw{g:Gd}{s:bR}:s∈g.states↔g.In s:=by
 unfold Gd.states Gd.In
 rw[GP.gw,kQ]
 exact⟨λ⟨⟨a,b⟩,c⟩=>⟨a,b,c⟩,λ⟨a,b,c⟩=>⟨⟨a,b⟩,c⟩⟩
theorem places_len(n m:Nat):(placesOf n m).length=(n+1)*(m+1):=by
 unfold placesOf
 have:∀l:List Nat,(l.flatMap λi=>(List.range (m+1)).map λj=>(i,j)).length=l.length*(m+1):=λl=>by
  induction l with
  |nil=>simp
  |cons a l ih=>rw[List.flatMap_cons,List.length_append,ih,List.length_map,List.length_range,List.length_cons,Nat.succ_mul,Nat.add_comm]
 rw[this,List.length_range]
theorem wQ(ps:List (Nat×Nat)):(cR ps).length=3*ps.length:=by
 induction ps with
 |nil=>rfl
 |cons a l ih =>
  show(three a++cR l).length=_
  rw[List.length_append,ih,List.length_cons]
  show 3+_=_
  omega
def NY(a b:Nat×Nat):Prop:=a.1<b.1\/(a.1=b.1/\a.2<b.2)
theorem zN(n m:Nat):(placesOf n m).Pairwise NY:=by
 unfold placesOf
 refine List.pairwise_flatMap.mpr ⟨λi _=>?_,?_⟩
 ·rw[List.pairwise_map]
  exact(List.pairwise_lt_range).imp λh=>.inr ⟨rfl,h⟩
 ·refine(List.pairwise_lt_range).imp λ{a b} h=>?_
  intro x hx y hy
  obtain⟨_,_,rfl⟩:=List.mem_map.mp hx
  obtain⟨_,_,rfl⟩:=List.mem_map.mp hy
  exact .inl h
theorem EB{a:Nat×Nat}:¬NY a a:=λh=>by rcases h with h|h<;>omega
theorem Hr{ps:List (Nat×Nat)}(h:ps.Pairwise NY):(cR ps).Pairwise λa b=>¬NY (b.1,b.2.1) (a.1,a.2.1):=by
 unfold cR
 refine List.pairwise_flatMap.mpr ⟨λp _=>?_,h.imp λ{a b} hab=>?_⟩
 ·refine List.pairwise_of_forall_mem_list λa ha b hb z=>?_
  obtain⟨a1,a2,_⟩:=mR.mp ha
  obtain⟨b1,b2,_⟩:=mR.mp hb
  rw[a1,a2,b1,b2]at z
  exact EB z
 ·intro x hx y hy z
  obtain⟨a1,a2,_⟩:=mR.mp hx
  obtain⟨b1,b2,_⟩:=mR.mp hy
  rw[a1,a2,b1,b2]at z
  unfold NY at hab z
  simp only at z
  omega
theorem Gd.B9{g:Gd}{s:bR}{t:bR×Int}(h:t∈g.steps s):NY (s.1,s.2.1) (t.1.1,t.1.2.1):=by
 unfold NY
 rcases Gd.jz.mp h with⟨a,b,rfl⟩|⟨a,rfl⟩|⟨a,rfl⟩
 ·exact .inl (Nat.lt_succ_self _)
 ·exact .inl (Nat.lt_succ_self _)
 ·exact .inr ⟨rfl,Nat.lt_succ_self _⟩
theorem Gd.Ca{g:Gd}{k:Nat}{s:bR}{t:bR×Int}(hk:g.states[k]? =some s)(h:t∈g.steps s):t.1∈g.states.drop (k+1):=by
 have hs:=Gd.gw.mp (List.mem_of_getElem? hk)
 have ht:=Gd.gw.mpr (Gd.oU h hs)
 have US:=(List.getElem?_eq_some_iff.mp hk).1
 have pw:=Hr (zN g.n g.m)
 have e:cR (placesOf g.n g.m)=g.states.take (k+1)++g.states.drop (k+1):=(List.take_append_drop _ _).symm
 have ht':t.1∈g.states.take (k+1)++g.states.drop (k+1):=by rw[←e];exact ht
 rcases List.mem_append.mp ht' with z|z
 ·exfalso
  rw[take_snoc hk]at z
  rcases List.mem_append.mp z with z|z
  ·have e2:cR (placesOf g.n g.m)=g.states.take k++g.states.drop k:=(List.take_append_drop _ _).symm
   rw[e2]at pw
   have hsd:s∈g.states.drop k:=by
    rw[List.drop_eq_getElem_cons US]
    have:=(List.getElem?_eq_some_iff.mp hk).2
    rw[this]
    exact List.mem_cons_self
   exact(List.pairwise_append.mp pw).2.2 _ z _ hsd (Gd.B9 h)
  ·have z1:=Gd.B9 h
   rw[List.mem_singleton.mp z]at z1
   exact EB z1
 ·exact z
end GP
namespace L2
open PySem PySem.Spec PyProof.Rows PySem.W
theorem vq(f:Nat->Int):∀k,argBest (λi j=>decide (f i<f j)) k<=k/\∀j,j<=k->f (argBest (λi j=>decide (f i<f j)) k)<=f j
 | 0=>⟨Nat.le_refl _,λj hj=>by rw[Nat.le_zero.mp hj];exact Int.le_refl _⟩
 |k+1=>by
  obtain⟨h1,h2⟩:=vq f k
  unfold argBest
  by_cases c:f (k+1)<f (argBest (λi j=>decide (f i<f j)) k)
  ·rw[if_pos (decide_eq_true c)]
   refine⟨Nat.le_refl _,λj hj=>?_⟩
   by_cases e:j=k+1
   ·rw[e];exact Int.le_refl _
   ·have:=h2 j (by omega);omega
  ·rw[if_neg (by rw[decide_eq_false c];exact Bool.false_ne_true)]
   refine⟨by omega,λj hj=>?_⟩
   by_cases e:j=k+1
   ·rw[e];omega
   ·exact h2 j (by omega)
theorem GG:∀{ns:List Int} {us:List Value},Vals (ns.map V.int) us->∀(i:Nat) (v:Value),us[i]? =some v->∃n t,ns[i]? =some n/\v= .int n t
 |[],_,r=>λi v e=>by cases r;simp at e
 |n::ns,_,r=>by
  cases r with
  |cons r1 r2 =>
   intro i v e
   cases i with
   |zero =>
    simp at e
    subst e
    obtain⟨t,z⟩:=r1
    exact⟨n,t,rfl,z⟩
   |succ i=>exact GG r2 i v e
theorem IC{X:Cx}(hc:X.calm=true):nE X (.builtin "min") (λxs H Q=>∃(l:Addr) (ns:List Int),xs=[.ref l]/\bZ X.K H l (ns.map V.int)/\ns≠[]/\Q (.int (GP.vL ns)) H):=by
 intro pins s σ H xs us Q I r h
 obtain⟨l,ns,rfl,hl,hne,q⟩:=h
 obtain⟨u,rfl,ru⟩:=vals1 r
 cases ru
 obtain⟨its,rv,p,hz⟩:=I.list hl
 have pl:s.heap.IsList l its.toArray:=p.isList
 have hlt:l<s.heap.objs.size:=by obtain⟨_,e,_⟩:=pl;exact Heap.lt_size e
 have hlen:ns.length=its.length:=by rw[←rv.length,List.length_map]
 have hpos:0<ns.length:=List.length_pos_iff.mpr hne
 refine TK.bS (Nat.le_refl s.toks) ?_
 refine call_min_walk (wpAny_pyIter_list pl ?_)
 have hval:∀(i:Nat) (v:Value),its.toArray[i]? =some v->∃t,v= .int ((ns[i]?).getD 0) t:=λi v hP=>by
  obtain⟨n,t,e,rfl⟩:=GG rv i v (by simpa using hP)
  exact⟨t,by rw[e];rfl⟩
 refine⟨s.heap.objs.size,[s.heap.objs.size,l],[s.heap.objs.size],its.toArray.size,_,_,_,rfl,Walks.list (A:=X.A.in1) (I.ok.hd hc) _ l (Nat.ne_of_lt hlt) its.toArray,
  ⟨⟨_,Heap.get?_push_size _ rfl,rfl,rfl⟩,pl.push _⟩,λb hb=>?_,by rw[List.size_toArray];omega,CmpOf.ints_lt (λi=>(ns[i]?).getD 0) hval,λv h' tk hP hk hup=>?_⟩
 ·show b<(s.heap.push _).objs.size
  rw[Heap.size_push]
  rcases List.mem_cons.mp hb with rfl|z
  ·exact Nat.lt_succ_self _
  ·rw[List.mem_singleton.mp z]
   exact Nat.lt_succ_of_lt hlt
 ·obtain⟨t,rfl⟩:=hval _ v hP
  obtain⟨b1,b2⟩:=vq (λi=>(ns[i]?).getD 0) (its.toArray.size-1)
  have hsz:its.toArray.size=ns.length:=by rw[List.size_toArray,hlen]
  rw[hsz]at b1 b2 ⊢
  have hb:argBest (λi j=>decide ((ns[i]?).getD 0<(ns[j]?).getD 0)) (ns.length-1)<ns.length:=by omega
  have e:GP.vL ns=(ns[argBest (λi j=>decide ((ns[i]?).getD 0<(ns[j]?).getD 0)) (ns.length-1)]?).getD 0:=by
   refine GP.MV ?_ λy hy=>?_
   ·rw[List.getElem?_eq_getElem hb]
    exact List.getElem_mem hb
   ·obtain⟨j,hj,ej⟩:=List.getElem_of_mem hy
    have z:=b2 j (by omega)
    rw[List.getElem?_eq_getElem hj,ej]at z
    exact z
  refine⟨.int (GP.vL ns),H,I.kept (t':=tk) (λb x e=>hk b x (λhm=>?_) (Heap.get?_push_of_some _ e)),⟨t,by rw[e]⟩,q⟩
  rw[List.mem_singleton.mp hm]at e
  exact Nat.lt_irrefl _ (Heap.lt_size e)
theorem su{A:Around}{k:Nat}(hr:jS k A):A.units+2<cLine:=Nat.lt_of_le_of_lt (Nat.add_le_add_left (by decide:2<=64) _) hr.units
theorem GJ{A:Around}{k:Nat}(hr:jS k A):A.units+16<cLine:=Nat.lt_of_le_of_lt (Nat.add_le_add_left (by decide:16<=64) _) hr.units
theorem AE{k:Nat}{A:Around}(h:jS k A):A.depth<recursionLimit:=by have:=h.dp;omega
theorem Kr(kvs:List NE)(k j:NK)(q:Addr)(v:V):kH (tD kvs k q v) j=if j=k then some v else kH kvs j:=by
 have ap:∀l:List NE,kH (l++[(k,q,v)]) j=(kH l j).or (if k=j then some v else none):=λl=>by
  induction l with
  |nil =>
   by_cases e:k=j
   ·rw[if_pos e];exact j9 (p:=(k,q,v)) (ps:=[]) e
   ·rw[if_neg e];exact ig (p:=(k,q,v)) (ps:=[]) e
  |cons x l ih =>
   by_cases e:x.1=j
   ·rw[List.cons_append,j9 e,j9 e];rfl
   ·rw[List.cons_append,ig e,ig e,ih]
 have mp:∀l:List NE,kH (l.map λx=>if x.1=k then(x.1,x.2.1,v)else x) j=if j=k then(kH l k).map λ_=>v else kH l j:=λl=>by
  induction l with
  |nil=>by_cases e:j=k<;>simp[e,kH]
  |cons x l ih =>
   rw[List.map_cons]
   by_cases e:x.1=k
   ·rw[if_pos e]
    by_cases ej:x.1=j
    ·rw[j9 (p:=(x.1,x.2.1,v)) ej,if_pos (ej.symm.trans e),j9 e];rfl
    ·rw[ig (p:=(x.1,x.2.1,v)) ej,ih,if_neg (λz=>ej (e.trans z.symm)),if_neg (λz=>ej (e.trans z.symm)),ig ej]
   ·rw[if_neg e]
    by_cases ej:x.1=j
    ·have nj:¬j=k:=λz=>e (ej.trans z)
     rw[j9 ej,if_neg nj,j9 ej]
    ·rw[ig ej,ih,ig ej,ig e]
 unfold tD
 by_cases h:(kH kvs k).isSome=true
 ·rw[if_pos h,mp]
  by_cases e:j=k
  ·rw[if_pos e,if_pos e]
   obtain⟨u,hu⟩:=Option.isSome_iff_exists.mp h
   rw[hu];rfl
  ·rw[if_neg e,if_neg e]
 ·rw[if_neg h,ap]
  have hn:kH kvs k=none:=by simpa using h
  by_cases e:j=k
  ·rw[if_pos e.symm,if_pos e,e,hn];rfl
  ·rw[if_neg (Ne.symm e),if_neg e]
   cases kH kvs j<;>rfl
theorem HC{H:Hp}{kvs:List NE}{k:NK}{q:Addr}{v:V}(h:∀x∈kvs,lU H x.2.1 x.1)(hk:lU H q k):∀x∈tD kvs k q v,lU H x.2.1 x.1:=by
 unfold tD
 intro x hx
 split at hx
 ·obtain⟨y,hy,e⟩:=List.mem_map.mp hx
  have z:=h y hy
  split at e
  ·rw[←e];exact z
  ·rw[←e];exact z
 ·rcases List.mem_append.mp hx with hx|hx
  ·exact h x hx
  ·rw[List.mem_singleton.mp hx];exact hk
end L2
namespace GP
open PySem L2 sJ
structure Da(K:PySem.W.Frag)(mg:Str->Option Value)(x y:Str)(st:Stmt)(ps:List Str)(f:Addr)(fd:FuncData):Prop where
 fn:Ja K y y st f fd
 b:Binds K fd ps []
 m:mg x=some (.ref f)
def Nt(H:Hp):Hp:=λb=>match H b with|some (.ext _)=>none|r=>r
theorem Nt.sub{H:Hp}:ai (Nt H) H:=λb u h=>by
 unfold Nt at h
 split at h
 ·cases h
 ·exact h
theorem Nt.no{H:Hp}{b:Addr}{u:HO}(h:Nt H b=some u)(φ:Heap->Prop):u≠ .ext φ:=λz=>by
 unfold Nt at h
 split at h
 ·cases h
 ·next n=>rw[z]at h;exact n φ h
theorem Nt.in{H:Hp}{b:Addr}{u:HO}(n:∀ φ,u≠ .ext φ)(h:H b=some u):Nt H b=some u:=by
 unfold Nt
 rw[h]
 split
 ·next φ e=>exact absurd (Option.some.inj e) (n φ)
 ·rfl
theorem Nt.tup{H:Hp}{b:Addr}{xs:List V}(h:H b=some (.tup xs)):Nt H b=some (.tup xs):=Nt.in (λ_ z=>by cases z) h
theorem Nt.lst{H:Hp}{b:Addr}{xs:List V}(h:H b=some (.lst xs)):Nt H b=some (.lst xs):=Nt.in (λ_ z=>by cases z) h
theorem Nt.seq{K:PySem.W.Frag}{H:Hp}{a:Addr}{xs:List V}(h:bZ K H a xs):bZ K (Nt H) a xs:=by
 rcases h with(h|⟨o,h⟩)|h
 ·exact .inl (.inl (Nt.lst h))
 ·exact .inl (.inr ⟨o,Nt.in (λ_ z=>by cases z) h⟩)
 ·exact .inr h
theorem Nt.S4{K:PySem.W.Frag}{H:Hp}{a:Addr}{xs:List V}(h:cP K H a xs):cP K (Nt H) a xs:=by
 rcases h with(h|⟨o,h⟩)|h
 ·exact .inl (.inl (Nt.tup h))
 ·exact .inl (.inr ⟨o,Nt.in (λ_ z=>by cases z) h⟩)
 ·exact .inr h
theorem Nt.row{K:PySem.W.Frag}{H:Hp}{q:Addr}{r:List cu}(h:kj K H (.tup q) r):kj K (Nt H) (.tup q) r:=by
 obtain⟨ps,a,b⟩:=h
 exact⟨ps,Nt.S4 a,Paired.g8 b λ_ _ z=>Nt.S4 z⟩
theorem nB.nt{K:PySem.W.Frag}{C:Addr}{H:Hp}{x:Addr}{sg:Str}{rows:List (List cu)}{fo fm:cu}(h:nB K C H x sg rows fo fm):nB K C (Nt H) x sg rows fo fm:=by
 obtain⟨a,b,c,d,f,g,i,dx,P,o,m,dd,kvs,h1,⟨qs,q1,q2⟩,h3,h4,h5,h6,fs,h7,h8,h9⟩:=h
 exact⟨a,b,c,d,f,g,i,dx,P,o,m,dd,kvs,Nt.in (λ_ z=>by cases z) h1,⟨qs,Nt.S4 q1,Paired.g8 q2 λ_ _ z=>Nt.row z⟩,Nt.S4 h3,Nt.S4 h4,Nt.in (λ_ z=>by cases z) h5,h6,fs,h7,h8,Nt.lst h9⟩
def sL(H:Hp):Hp:=λb=>match H b with|some (.tup xs)=>some (.tup xs)|some (.lst xs)=>some (.lst xs)|_=>none
theorem sL.tup{H:Hp}{b:Addr}{xs:List V}(h:H b=some (.tup xs)):sL H b=some (.tup xs):=by unfold sL;rw[h]
theorem sL.lst{H:Hp}{b:Addr}{xs:List V}(h:H b=some (.lst xs)):sL H b=some (.lst xs):=by unfold sL;rw[h]
theorem sL.of{H H':Hp}(h:∀b u,(∀ φ,u≠ .ext φ)->(∀C dx fs,u≠ .ins C dx fs)->H b=some u->H' b=some u):ai (sL H) H':=λb u q=>by
 unfold sL at q
 split at q
 ·next e=>cases q;exact h b _ (λ_ z=>by cases z) (λ_ _ _ z=>by cases z) e
 ·next e=>cases q;exact h b _ (λ_ z=>by cases z) (λ_ _ _ z=>by cases z) e
 ·cases q
theorem sL.dat{H H':Hp}(e:Dat H H'):ai (sL H) H':=sL.of λb u _ n q=>e b u n q
theorem lU.da{H:Hp}{q:Addr}{k:NK}(h:lU H q k):lU (sL H) q k:=by
 obtain⟨p,h1,h2⟩:=h
 exact⟨p,sL.tup h1,sL.tup h2⟩
theorem lU.same{H H':Hp}{q:Addr}{k:NK}(h:lU H q k)(e:ai H H'):lU H' q k:=by
 obtain⟨p,h1,h2⟩:=h
 exact⟨p,e _ _ h1,e _ _ h2⟩
theorem ND.same{P:Program}{w:World}{H H':Hp}{d:Addr}{kvs:List NE}(h:ND P w H d kvs)(e:ai H H'):ND P w H' d kvs:=⟨e _ _ h.at_,λx hx=>lU.same (h.keys x hx) e⟩
structure Lm where
 P:Addr
 l:Pos
 q:Str
 P2:Addr
 l2:Pos
 q2:Str
structure LT(L:Lm)(H:Hp):Prop where
 a:TabOk H L.P L.l L.q
 b:TabOk H L.P2 L.l2 L.q2
 ne:L.P≠L.P2
theorem B5{H H':Hp}{P:Addr}{ln:Pos}{lq:Str}(h:TabOk H P ln lq)(e:ai H H'):TabOk H' P ln lq:=by
 rcases h with h|⟨c,h,h2⟩
 ·exact .inl (e _ _ h)
 ·exact .inr ⟨c,e _ _ h,e _ _ h2⟩
theorem LT.same{L:Lm}{H H':Hp}(h:LT L H)(e:ai H H'):LT L H':=⟨B5 h.a e,B5 h.b e,h.ne⟩
theorem we{H:Hp}{P:Addr}{ln:Pos}{lq:Str}(h:TabOk H P ln lq):∃ φ,H P=some (.ext φ):=by
 rcases h with h|⟨_,h,_⟩<;>exact⟨_,h⟩
theorem B4{H:Hp}{P:Addr}{ln:Pos}{lq:Str}(h:TabOk H P ln lq):∃ps,H P=some (n8 P ps):=by
 rcases h with h|⟨_,h,_⟩<;>exact⟨_,h⟩
theorem An{α:Type}{a b:α}{F:α->Prop}(h1:F a)(h2:F b):∀x∈[a,b],F x:=λx hx=>by
 rcases List.mem_cons.mp hx with rfl|hx
 ·exact h1
 ·rw[List.mem_singleton.mp hx];exact h2
structure Lo(P:Program)(w:World)(L:Lm)(H H':Hp):Prop where
 nx:ai (Nt H) H'
 nd:∀d kvs,H d=some (D5 P w d kvs)->H' d=some (D5 P w d kvs)
 lt:LT L H'
 dom:∀b,H' b=none->H b=none
section
variable{P:Program}{w:World}{L:Lm}{H H1 H2:Hp}
theorem Lo.of(h:LT L H)(e:ai H H1):Lo P w L H H1:=⟨λb u q=>e b u (Nt.sub b u q),λd kvs q=>e _ _ q,h.same e,λb q=>ai.free e q⟩
theorem Lo.trans(a:Lo P w L H H1)(b:Lo P w L H1 H2):Lo P w L H H2:=⟨λc u q=>b.nx c u (Nt.in (Nt.no q) (a.nx c u q)),λd kvs q=>b.nd d kvs (a.nd d kvs q),b.lt,λc q=>a.dom c (b.dom c q)⟩
theorem Lo.then(a:Lo P w L H H1)(e:ai H1 H2):Lo P w L H H2:=a.trans (.of a.lt e)
theorem ai.lo(e:ai H H1)(h:LT L H)(b:Lo P w L H1 H2):Lo P w L H H2:=(Lo.of h e).trans b
theorem Lo.one{H':Hp}(h:LT L H)(ap:Apart P w H L.P)(e:∀b u,b≠L.P->H b=some u->H' b=some u)(t:TabOk H' L.P L.l L.q):Lo P w L H H':=by
 obtain⟨φ,hφ⟩:=we h.a
 have hne:=h.ne
 refine⟨λb u q=>e b u (λz=>?_) (Nt.sub b u q),λd kvs q=>e _ _ (ap.2 d kvs q) q,⟨t,?_,h.ne⟩,λb q=>?_⟩
 ·have q':=Nt.sub b u q
  rw[z,hφ]at q'
  exact Nt.no q φ (Option.some.inj q').symm
 ·rcases h.b with h|⟨c,h,h2⟩
  ·exact .inl (e _ _ (Ne.symm hne) h)
  ·exact .inr ⟨c,e _ _ (Ne.symm hne) h,e _ _ (ap.1 c _ h2) h2⟩
 ·cases z:H b with
  |none=>rfl
  |some u =>
   by_cases zb:b=L.P
   ·obtain⟨ψ,Y6⟩:=we t
    rw[zb,Y6]at q;cases q
   ·rw[e b u zb z]at q;cases q
theorem Lo.two{H':Hp}(h:LT L H)(ap:Apart P w H L.P2)(e:∀b u,b≠L.P2->H b=some u->H' b=some u)(t:TabOk H' L.P2 L.l2 L.q2):Lo P w L H H':=by
 obtain⟨φ,hφ⟩:=we h.b
 have hne:=h.ne
 refine⟨λb u q=>e b u (λz=>?_) (Nt.sub b u q),λd kvs q=>e _ _ (ap.2 d kvs q) q,⟨?_,t,h.ne⟩,λb q=>?_⟩
 ·have q':=Nt.sub b u q
  rw[z,hφ]at q'
  exact Nt.no q φ (Option.some.inj q').symm
 ·rcases h.a with h|⟨c,h,h2⟩
  ·exact .inl (e _ _ hne h)
  ·exact .inr ⟨c,e _ _ hne h,e _ _ (ap.1 c _ h2) h2⟩
 ·cases z:H b with
  |none=>rfl
  |some u =>
   by_cases zb:b=L.P2
   ·obtain⟨ψ,Y6⟩:=we t
    rw[zb,Y6]at q;cases q
   ·rw[e b u zb z]at q;cases q
theorem Lo.da(a:Lo P w L H H1):ai (sL H) H1:=sL.of λb u n _ q=>a.nx b u (Nt.in n q)
theorem Lo.tup(a:Lo P w L H H1){b:Addr}{xs:List V}(h:H b=some (.tup xs)):H1 b=some (.tup xs):=a.nx _ _ (Nt.tup h)
theorem Lo.kat(a:Lo P w L H H1){q:Addr}{k:NK}(h:lU H q k):lU H1 q k:=lU.same (lU.da h) a.da
theorem Lo.nk(a:Lo P w L H H1){d:Addr}{kvs:List NE}(h:ND P w H d kvs):ND P w H1 d kvs:=⟨a.nd _ _ h.at_,λx hx=>a.kat (h.keys x hx)⟩
theorem Lo.seq{K:PySem.W.Frag}{x:Addr}{xs:List V}(a:Lo P w L H H1)(h:bZ K H x xs):bZ K H1 x xs:=ai.seq a.nx (Nt.seq h)
end
abbrev PT:=Str×List (List cu)×cu×cu
def uT(T:PT):Int:=bO T.2.2.1.2 T.2.2.2.2 T.2.1
def yp(K:PySem.W.Frag)(C:Addr)(H:Hp)(x:Addr)(T:PT):Prop:=nB K C H x T.1 T.2.1 T.2.2.1 T.2.2.2
theorem yp.same{K:PySem.W.Frag}{C:Addr}{H H':Hp}{x:Addr}{T:PT}(h:yp K C H x T)(e:ai H H'):yp K C H' x T:=nB.same e h
theorem Lo.pr{P:Program}{w:World}{L:Lm}{H H1:Hp}{K:PySem.W.Frag}{C x:Addr}{T:PT}(a:Lo P w L H H1)(h:yp K C H x T):yp K C H1 x T:=nB.same a.nx (nB.nt h)
def fL(T:PT)(m f s:Str):Gd:=⟨f.cps.size,s.cps.size,λi j=>Tq T.1 T.2.1 (uT T) (f.cps.toList.getD i 0) (s.cps.toList.getD j 0),jU (uT T) T.2.2.1,jU (uT T) T.2.2.2,λi j=>Dd m f s (i,j)⟩
def Hf(H:Hp)(p:Addr)(q:Nat×Nat):Prop:=H p=some (.tup [.int q.1,.int q.2])
def G9(H:Hp)(l:Addr)(qs:List (Nat×Nat)):Prop:=∃ps:List Addr,H l=some (.lst (ps.map V.ref))/\Paired (Hf H) ps qs
def j8(s:bR):NK:=(s.1,s.2.1,⟨#[s.2.2]⟩)
theorem wY{s t:bR}(h:j8 s=j8 t):s=t:=by
 obtain⟨a,b,c⟩:=s
 obtain⟨d,e,f⟩:=t
 unfold j8 at h
 simp only[Prod.mk.injEq,Str.mk.injEq]at h
 obtain⟨h1,h2,h3⟩:=h
 have h4:c=f:=by simpa using h3
 rw[show a=d by omega,show b=e by omega,h4]
def NG(H:Hp)(p:Addr)(t:bR×Int):Prop:=∃q,H p=some (.tup [.ref q,.int t.2])/\lU H q (j8 t.1)
def NF(H:Hp)(l:Addr)(ts:List (bR×Int)):Prop:=∃ps:List Addr,H l=some (.lst (ps.map V.ref))/\Paired (NG H) ps ts
def II(H:Hp)(g:Gd)(kvs:List NE)(ss:List bR):Prop:=Paired (λe s=>e.1=j8 s/\∃l,e.2.2= .ref l/\NF H l (g.steps s)) kvs ss
theorem G9.same{H H':Hp}{l:Addr}{qs:List (Nat×Nat)}(h:G9 H l qs)(e:ai H H'):G9 H' l qs:=by
 obtain⟨ps,a,b⟩:=h
 exact⟨ps,e _ _ a,Paired.g8 b λ_ _ z=>e _ _ z⟩
theorem NG.same{H H':Hp}{p:Addr}{t:bR×Int}(h:NG H p t)(e:ai H H'):NG H' p t:=by
 obtain⟨q,a,b⟩:=h
 exact⟨q,e _ _ a,lU.same b e⟩
theorem NF.same{H H':Hp}{l:Addr}{ts:List (bR×Int)}(h:NF H l ts)(e:ai H H'):NF H' l ts:=by
 obtain⟨ps,a,b⟩:=h
 exact⟨ps,e _ _ a,Paired.g8 b λ_ _ z=>z.same e⟩
theorem II.same{H H':Hp}{g:Gd}{kvs:List NE}{ss:List bR}(h:II H g kvs ss)(e:ai H H'):II H' g kvs ss:=Paired.g8 h λ_ _ ⟨a,l,b,c⟩=>⟨a,l,b,c.same e⟩
theorem NF.da{H:Hp}{l:Addr}{ts:List (bR×Int)}(h:NF H l ts):NF (sL H) l ts:=by
 obtain⟨ps,a,b⟩:=h
 exact⟨ps,sL.lst a,Paired.g8 b λ_ _ ⟨q,a,b⟩=>⟨q,sL.tup a,lU.da b⟩⟩
theorem II.da{H:Hp}{g:Gd}{kvs:List NE}{ss:List bR}(h:II H g kvs ss):II (sL H) g kvs ss:=Paired.g8 h λ_ _ ⟨a,l,b,c⟩=>⟨a,l,b,c.da⟩
theorem G9.da{H:Hp}{l:Addr}{qs:List (Nat×Nat)}(h:G9 H l qs):G9 (sL H) l qs:=by
 obtain⟨ps,a,b⟩:=h
 exact⟨ps,sL.lst a,Paired.g8 b λ_ _ z=>sL.tup z⟩
theorem ND.dat{P:Program}{w:World}{H H':Hp}{d:Addr}{kvs:List NE}(h:ND P w H d kvs)(e:Dat H H'):ND P w H' d kvs:=⟨e _ _ (λ_ _ _ z=>by cases z) h.at_,λx hx=>lU.same (lU.da (h.keys x hx)) (sL.dat e)⟩
theorem As{H:Hp}{g:Gd}{s:bR}:∀{kvs:List NE} {ss:List bR},II H g kvs ss->s∈ss->∃l,kH kvs (j8 s)=some (.ref l)/\NF H l (g.steps s)
 |_,_,.nil,h=>nomatch h
 |_,_,.cons (a:=e) (b:=t) ⟨h1,l,h2,h3⟩ r,h=>by
  by_cases z:e.1=j8 s
  ·have z2:=wY (h1.symm.trans z)
   subst z2
   exact⟨l,by rw[j9 z,h2],h3⟩
  ·rw[ig z]
   rcases List.mem_cons.mp h with q|q
   ·exact absurd (by rw[q];exact h1) z
   ·exact As r q
def RK(dS lB dE:Addr):List (Str×V):=aG "ends" (.ref dE) (aG "begins" (.ref lB) (aG "steps" (.ref dS) []))
theorem uN{dS lB dE:Addr}:(RK dS lB dE).lookup ("steps" :Str)=some (.ref dS):=by
 unfold RK
 rw[av,if_neg (by decide +kernel),av,if_neg (by decide +kernel),av,if_pos rfl]
theorem E9{dS lB dE:Addr}:(RK dS lB dE).lookup ("begins" :Str)=some (.ref lB):=by
 unfold RK
 rw[av,if_neg (by decide +kernel),av,if_pos rfl]
theorem Dq{dS lB dE:Addr}:(RK dS lB dE).lookup ("ends" :Str)=some (.ref dE):=by
 unfold RK
 rw[av,if_pos rfl]
def VF(kE:List (List Key×V))(g:Gd):Prop:=∀i j,i<=g.n->j<=g.m->kF kE [.inl (i:Int),.inl (j:Int)]=some (.bl (g.en i j))
def OA(kvs:List NE)(g:Gd):Prop:=∀s,g.In s->kH kvs (j8 s)=some (.int (g.rest s))
def DV(P:Program)(w:World)(C:Addr)(H:Hp)(x:Addr)(g:Gd)(bs:List (Nat×Nat)):Prop:=∃dx dS lB dE kS kE,H x=some (.ins C dx (RK dS lB dE))/\ND P w H dS kS/\II H g kS g.states/\G9 H lB bs/\H dE=some (.dT kE)/\VF kE g
theorem DV.same{P:Program}{w:World}{C:Addr}{H H':Hp}{x:Addr}{g:Gd}{bs:List (Nat×Nat)}(h:DV P w C H x g bs)(e:ai H H'):DV P w C H' x g bs:=by
 obtain⟨dx,dS,lB,dE,kS,kE,h1,h2,h3,h4,h5,h6⟩:=h
 exact⟨dx,dS,lB,dE,kS,kE,e _ _ h1,ND.same h2 e,h3.same e,h4.same e,e _ _ h5,h6⟩
theorem Lo.gr{P:Program}{w:World}{L:Lm}{C:Addr}{H H':Hp}{x:Addr}{g:Gd}{bs:List (Nat×Nat)}(e:Lo P w L H H')(h:DV P w C H x g bs):DV P w C H' x g bs:=by
 obtain⟨dx,dS,lB,dE,kS,kE,h1,h2,h3,h4,h5,h6⟩:=h
 exact⟨dx,dS,lB,dE,kS,kE,e.nx _ _ (Nt.in (λ_ z=>by cases z) h1),e.nk h2,h3.da.same e.da,h4.da.same e.da,e.nx _ _ (Nt.in (λ_ z=>by cases z) h5),h6⟩
def LI(m:Str)(n k:Nat):List (Nat×Nat):=(placesOf n k).filter λq=>De m (q.1,q.2)
def Gd.Nz(g:Gd)(b:Nat×Nat):Int:=g.rest (b.1,b.2,112)
def NS:Sp:=λvs H Q _=>∃f s:Str,vs=[.str f,.str s]/\f.cps.size<=12/\s.cps.size<=12/\∀l H',ai H H'->H l=none->G9 H' l (placesOf f.cps.size s.cps.size)->Q (.ref l) H'
def Ga(K:PySem.W.Frag)(C:Addr):Sp:=λvs H Q _=>∃(x p:Addr) (T:PT) (f s:Str) (i j c:Nat),vs=[.ref x,.str f,.str s,.ref p,.str ⟨#[c]⟩]/\yp K C H x T/\Of T.1 f/\Of T.1 s/\f.cps.size<=12/\s.cps.size<=12/\Hf H p (i,j) ∧
 ∀l H',ai H H'->H l=none->(∀m,NF H' l ((fL T m f s).steps (i,j,c)))->Q (.ref l) H'
def JP(P:Program)(w:World)(K:PySem.W.Frag)(C:Addr):Sp:=λvs H Q _=>∃(x lp:Addr) (T:PT) (f s:Str),vs=[.ref x,.str f,.str s,.ref lp]/\yp K C H x T/\Of T.1 f/\Of T.1 s/\f.cps.size<=12/\s.cps.size<=12/\G9 H lp (placesOf f.cps.size s.cps.size) ∧
 ∀d kvs H',ai H H'->H d=none->ND P w H' d kvs->(∀m,II H' (fL T m f s) kvs (cR (placesOf f.cps.size s.cps.size)))->Q (.ref d) H'
def Gf:Sp:=λvs H Q _=>∃(lp:Addr) (f s m:Str),vs=[.str f,.str s,.ref lp,.str m]/\f.cps.size<=12/\s.cps.size<=12/\G9 H lp (placesOf f.cps.size s.cps.size) ∧
 ∀d kvs H',ai H H'->H d=none->H' d=some (.dT kvs)->(∀T,VF kvs (fL T m f s))->Q (.ref d) H'
def Cm(P:Program)(w:World)(K:PySem.W.Frag)(C CG CS CM:Addr):Sp:=λvs H Q E=>∃(x dx pr:Addr) (T:PT) (f s m:Str),vs=[.ref x,.ref pr,.str f,.str s,.str m]/\H x=some (.ins CG dx [])/\yp K C H pr T/\f.cps.size<=20/\s.cps.size<=20 ∧
 (Of T.1 f->Of T.1 s->vf m=true->f.cps.size<=12/\s.cps.size<=12/\∀H',(∀b u,b≠x->H b=some u->H' b=some u)->DV P w CG H' x (fL T m f s) (LI m f.cps.size s.cps.size)->Q .gB H') ∧
 (∀i j,uu T.1 f s i j->∀dx H',ai H H'->H' dx=some (Am dx (A7 i j))->E (.ref CS) (some dx) H')/\(Of T.1 f->Of T.1 s->vf m=false->(reprText m).length<=20/\∀H',ai H H'->E (.ref CM) none H')
def JE(P:Program)(w:World)(CG:Addr):Sp:=λvs H Q _=>∃(x:Addr) (g:Gd) (bs:List (Nat×Nat)),vs=[.ref x]/\DV P w CG H x g bs/\g.Ok/\g.n<=12/\g.m<=12/\∀d kvs H',ai H H'->H d=none->ND P w H' d kvs->OA kvs g->Q (.ref d) H'
def GR(P:Program)(w:World)(CG:Addr)(H:Hp)(x d:Addr)(g:Gd)(bs:List (Nat×Nat))(kvs:List NE):Prop:=DV P w CG H x g bs/\ND P w H d kvs/\OA kvs g
theorem Lo.gR{P:Program}{w:World}{L:Lm}{C:Addr}{H H':Hp}{x d:Addr}{g:Gd}{bs:List (Nat×Nat)}{kvs:List NE}(e:Lo P w L H H')(h:GR P w C H x d g bs kvs):GR P w C H' x d g bs kvs:=⟨e.gr h.1,e.nk h.2.1,h.2.2⟩
theorem GR.same{P:Program}{w:World}{C:Addr}{H H':Hp}{x d:Addr}{g:Gd}{bs:List (Nat×Nat)}{kvs:List NE}(h:GR P w C H x d g bs kvs)(e:ai H H'):GR P w C H' x d g bs kvs:=⟨h.1.same e,ND.same h.2.1 e,h.2.2⟩
def F8(P:Program)(w:World)(CG:Addr):Sp:=λvs H Q _=>∃(x d q:Addr) (g:Gd) (bs:List (Nat×Nat)) (kvs:List NE) (s:bR),vs=[.ref x,.ref d,.ref q]/\GR P w CG H x d g bs kvs/\lU H q (j8 s)/\g.In s/\Q (.bl (g.stop s)) H
def Co(P:Program)(w:World)(CG:Addr)(L:Lm):Sp:=λvs H Q _=>∃(x d:Addr) (g:Gd) (bs:List (Nat×Nat)) (kvs:List NE),vs=[.ref x,.ref d]/\GR P w CG H x d g bs kvs/\LT L H/\bs≠[]/\(∀b∈bs,b.1<=g.n/\b.2<=g.m) ∧
 ∀p b H',Lo P w L H H'->fmin g.Nz bs=some b->Hf H' p b->Q (.ref p) H'
def JO(P:Program)(w:World)(CG:Addr)(L:Lm):Sp:=λvs H Q _=>∃(x d q:Addr) (g:Gd) (bs:List (Nat×Nat)) (kvs:List NE) (s:bR),vs=[.ref x,.ref d,.ref q]/\GR P w CG H x d g bs kvs/\lU H q (j8 s)/\g.In s/\g.steps s≠[]/\LT L H ∧
 ∀q' t H',Lo P w L H H'->fmin g.key (g.steps s)=some t->lU H' q' (j8 t.1)->Q (.ref q') H'
def JH(P:Program)(w:World)(CG:Addr)(L:Lm):Sp:=λvs H Q _=>∃(x d p:Addr) (g:Gd) (bs:List (Nat×Nat)) (kvs:List NE) (b:Nat×Nat),vs=[.ref x,.ref d,.ref p]/\GR P w CG H x d g bs kvs/\Hf H p b/\g.In (b.1,b.2,112)/\g.Ok/\g.n<=12/\g.m<=12/\LT L H ∧
 ∀H',Lo P w L H H'->Q (.str ⟨(g.moves (b.1,b.2,112)).toArray⟩) H'
def aai(H:Hp)(r:Addr)(T:PT)(m f s:Str):Prop:=∃b c p,fmin (fL T m f s).Nz (LI m f.cps.size s.cps.size)=some b/\H r=some (.tup [.ref c,.ref p,.str ⟨((fL T m f s).moves (b.1,b.2,112)).toArray⟩])/\TupAt H c (kD ((fL T m f s).Nz b,uT T))/\Hf H p b
def Gh(P:Program)(w:World)(K:PySem.W.Frag)(C CS CM:Addr)(L:Lm):Sp:=λvs H Q E=>∃(pr:Addr) (T:PT) (f s m:Str),vs=[.ref pr,.str f,.str s,.str m]/\yp K C H pr T/\LT L H/\f.cps.size<=20/\s.cps.size<=20 ∧
 (Of T.1 f->Of T.1 s->vf m=true->f.cps.size<=12/\s.cps.size<=12/\∀r H',Lo P w L H H'->H r=none->aai H' r T m f s->Q (.ref r) H') ∧
 (∀i j,uu T.1 f s i j->∀dx H',ai H H'->H' dx=some (Am dx (A7 i j))->E (.ref CS) (some dx) H')/\(Of T.1 f->Of T.1 s->vf m=false->(reprText m).length<=20/\∀H',ai H H'->E (.ref CM) none H')
end GP
namespace GP
open PySem L2 sJ
theorem OG{H:Hp}{l p:Addr}{o y:HO}(hp:H p=none):ai (Wo l H) (Wo l (L2.upd (L2.upd H p o) l y)):=λb u h=>by
 have n:=Wo.ne h
 have h':=Wo.sub b u h
 refine Wo.in n ?_
 rw[au n,au (aM h' hp)]
 exact h'
theorem sQ{H H2:Hp}{l p:Addr}{o y:HO}(e:ai H H2)(hl:H l=none)(hp:H2 p=none):ai H (L2.upd (L2.upd H2 p o) l y):=ai.at (e.trans (ai.upd hp)) hl
theorem Jf{H:Hp}{l p:Addr}{o y:HO}(n:p≠l):Wo l (L2.upd (L2.upd H p o) l y) p=some o:=Wo.in n (by rw[au n,af])
theorem Hf.same{H H':Hp}{p:Addr}{q:Nat×Nat}(h:Hf H p q)(e:ai H H'):Hf H' p q:=e _ _ h
theorem QT{H:Hp}{l:Addr}{ps:List Addr}{qs:List (Nat×Nat)}(h1:H l=some (.lst (ps.map V.ref)))(h2:Paired (Hf (Wo l H)) ps qs):G9 H l qs:=⟨ps,h1,Paired.g8 h2 λ_ _ z=>z.same Wo.sub⟩
def rws(m i:Nat):List (Nat×Nat):=(List.range i).flatMap λi=>(List.range (m+1)).map λj=>(i,j)
theorem Cv(m i:Nat):rws m (i+1)=rws m i++(List.range (m+1)).map λj=>(i,j):=by
 unfold rws
 rw[List.range_succ (n:=i),List.flatMap_append]
 simp
theorem MA(m i:Nat):(rws m i).length=i*(m+1):=by
 induction i with
 |zero=>simp[rws]
 |succ i ih=>rw[Cv,List.length_append,ih,Nat.succ_mul,List.length_map,List.length_range]
theorem KZ{a b n:Nat}(ha:a<=12)(hb:b<=12)(h:n<=3*((a+1)*(b+1))):n<sizeLine:=by
 have:(a+1)*(b+1)<=13*13:=Nat.mul_le_mul (by omega) (by omega)
 exact Nat.lt_of_le_of_lt (show n<=507 by omega) (by decide)
theorem sP:Str.ofString "p" =⟨#[112]⟩:=by kernel_rfl
theorem sA:Str.ofString "a" =⟨#[97]⟩:=by kernel_rfl
theorem sB:Str.ofString "b" =⟨#[98]⟩:=by kernel_rfl
theorem LN{T:PT}{m f s a:Str}{v c:Nat}(h:a=⟨#[v]⟩):V.int (if a=⟨#[c]⟩then jU (bO T.2.2.1.2 T.2.2.2.2 T.2.1) T.2.2.2 else jU (bO T.2.2.1.2 T.2.2.2.2 T.2.1) T.2.2.1+jU (bO T.2.2.1.2 T.2.2.2.2 T.2.1) T.2.2.2)=V.int ((fL T m f s).ac v c):=by
 subst h
 unfold Gd.ac
 by_cases e:v=c
 ·subst e
  rw[if_pos rfl,if_pos rfl]
  rfl
 ·rw[if_neg (λz=>e (by simpa using congrArg Str.cps z)),if_neg e]
  rfl
theorem Ep{H3 H5:Hp}{l p q r:Addr}{xs:List V}{t:bR×Int}{a b d:V}{c:Str}{y:HO}(hl:H3 l=some (.lst xs))(hp:H3 p=none)(hq:L2.upd H3 p (.tup [a,b]) q=none)(e:ai (L2.upd (L2.upd H3 p (.tup [a,b])) q (.tup [.ref p,.str c])) H5)(hr:H5 r=none)
  (ea:a= .int (t.1.1:Int)) (eb:b= .int (t.1.2.1:Int)) (ec:c=⟨#[t.1.2.2]⟩) (ed:d= .int t.2) :
  H5 l=some (.lst xs)/\r≠l/\ai (Wo l H3) (Wo l (L2.upd (L2.upd H5 r (.tup [.ref q,d])) l y))/\NG (Wo l (L2.upd (L2.upd H5 r (.tup [.ref q,d])) l y)) r t:=by
 subst ea eb ec ed
 have s1:=ai.upd (o:=.tup [.int (t.1.1:Int),.int (t.1.2.1:Int)]) hp
 have s2:=s1.trans (ai.upd (o:=.tup [.ref p,.str ⟨#[t.1.2.2]⟩]) hq)
 have h5:=e _ _ (s2 _ _ hl)
 have nr:r≠l:=λz=>by rw[z,h5]at hr;cases hr
 have np:p≠l:=λz=>by rw[z,hl]at hp;cases hp
 have nq:q≠l:=λz=>by rw[z,s1 _ _ hl]at hq;cases hq
 have nqp:p≠q:=λz=>by rw[←z,af]at hq;cases hq
 have keep:∀{b o},b≠l->H5 b=some o->Wo l (L2.upd (L2.upd H5 r (.tup [.ref q,.int t.2])) l y) b=some o:=λ{b o} n h=>Wo.in n (by rw[au n,au (aM h hr)];exact h)
 exact⟨h5,nr,λb u h=>keep (Wo.ne h) (e _ _ (s2 _ _ (Wo.sub b u h))),q,Jf nr,p,keep nq (e _ _ af),keep np (e _ _ (by rw[au nqp,af];rfl))⟩
theorem EO{α:Type}{R:α->α->Prop}{l:List α}{k:Nat}{x:α}(h:l.Pairwise R)(ir:∀a,¬R a a)(hk:l[k]? =some x):x∉l.take k:=λhm=>by
 have e:l=l.take k++l.drop k:=(List.take_append_drop k l).symm
 rw[e]at h
 have US:=(List.getElem?_eq_some_iff.mp hk).1
 have hd:x∈l.drop k:=by
  rw[List.drop_eq_getElem_cons US,(List.getElem?_eq_some_iff.mp hk).2]
  exact List.mem_cons_self
 exact ir x ((List.pairwise_append.mp h).2.2 x hm x hd)
def vU:List Nat:=[112,97,98]
def st3(q:Nat×Nat)(b:Nat):List bR:=(vU.take b).map λc=>(q.1,q.2,c)
theorem RU {b:Nat} {x:V} (h:[V.str (Str.ofString "p"),V.str (Str.ofString "a"),V.str (Str.ofString "b")][b]? =some x):∃c,vU[b]? =some c/\x= .str ⟨#[c]⟩:=by
 rw[sP,sA,sB]at h
 match b,h with
 | 0,h=>exact⟨112,rfl,(Option.some.inj h).symm⟩
 | 1,h=>exact⟨97,rfl,(Option.some.inj h).symm⟩
 | 2,h=>exact⟨98,rfl,(Option.some.inj h).symm⟩
 |b+3,h=>simp at h
theorem QG{ps:List (Nat×Nat)}(pw:ps.Pairwise NY){a b c:Nat}{q:Nat×Nat}(ha:ps[a]? =some q)(hb:vU[b]? =some c):(q.1,q.2,c)∉cR (ps.take a)++st3 q b:=λz=>by
 rcases List.mem_append.mp z with z|z
 ·exact EO pw (λ_=>EB) ha (gw.mp z).1
 ·obtain⟨c',hc',e⟩:=List.mem_map.mp z
  have e':c'=c:=(Prod.mk.inj (Prod.mk.inj e).2).2
  subst e'
  match b,hb with
  | 0,hb=>exact nomatch hc'
  | 1,hb=>exact absurd hc' (by rw[←Option.some.inj hb];decide)
  | 2,hb=>exact absurd hc' (by rw[←Option.some.inj hb];decide)
  |b+3,hb=>simp[vU]at hb
theorem NR{H:Hp}{g:Gd}{s:bR}:∀{kvs:List NE} {ss:List bR},II H g kvs ss->s∉ss->kH kvs (j8 s)=none
 |_,_,.nil,_=>rfl
 |_,_,.cons ⟨h1,_⟩ r,h=>by
  rw[ig (λz=>h (by rw[wY (h1.symm.trans z)];exact List.mem_cons_self))]
  exact NR r λz=>h (List.mem_cons_of_mem _ z)
theorem JA{q:Nat×Nat}{b c:Nat}(h:vU[b]? =some c):st3 q (b+1)=st3 q b++[(q.1,q.2,c)]:=by
 unfold st3
 rw[take_snoc h,List.map_append]
 rfl
theorem QH{ps:List (Nat×Nat)}{q:Nat×Nat}{a b:Nat}(ha:a<ps.length):(cR (ps.take a)++st3 q b).length<=3*ps.length:=by
 rw[List.length_append,wQ,List.length_take]
 have:(st3 q b).length<=3:=by unfold st3;rw[List.length_map,List.length_take];exact Nat.min_le_right _ _
 omega
theorem Cb{ps:List (Nat×Nat)}{q:Nat×Nat}{a:Nat}(h:ps[a]? =some q):cR (ps.take (a+1))=cR (ps.take a)++st3 q 3:=by
 unfold cR
 rw[take_snoc h,List.flatMap_append]
 simp[three,st3,vU]
theorem GQ{α:Type}(l:List α)(d:α)(c:α->Bool):((List.range l.length).filter λi=>c (l.getD i d)).map (λi=>l.getD i d)=l.filter c:=by
 have e:(List.range l.length).map (λi=>l.getD i d)=l:=by
  refine List.ext_getElem (by simp) λi h1 h2=>?_
  simp[List.getD_eq_getElem?_getD,h2]
 rw[show l.filter c=((List.range l.length).map λi=>l.getD i d).filter c by rw[e],List.filter_map]
 rfl
theorem uY{α β γ:Type}{F:β->γ->Prop}{f:α->β}{g:α->γ}:∀{l:List α},(∀i∈l,F (f i) (g i))->Paired F (l.map f) (l.map g)
 |[],_=>.nil
 |_::_,h=>.cons (h _ List.mem_cons_self) (uY λi hi=>h i (List.mem_cons_of_mem _ hi))
theorem Kp2{r:L2.St}{a b:Option V}:Kp (none::none::r) (a::b::r):=λi v e=>by
 match i with
 | 0=>cases e
 | 1=>cases e
 |i+2=>exact e
theorem F4{H:Hp}{P l:Addr}{ln:Pos}{lq:Str}{xs:List V}{o:HO}(h:TabOk H P ln lq)(hl:H l=some (.lst xs)):TabOk (L2.upd H l o) P ln lq:=by
 have n:∀{b φ},H b=some (.ext φ)->b≠l:=λ{b φ} e z=>by rw[z,hl]at e;cases e
 rcases h with h|⟨c,h,h2⟩
 ·exact .inl (by rw[au (n h)];exact h)
 ·exact .inr ⟨c,by rw[au (n h)];exact h,by rw[au (n h2)];exact h2⟩
theorem LT.put{L:Lm}{H:Hp}{l:Addr}{xs:List V}{o:HO}(h:LT L H)(hl:H l=some (.lst xs)):LT L (L2.upd H l o):=⟨F4 h.a hl,F4 h.b hl,h.ne⟩
theorem Lo.put{P:Program}{w:World}{L:Lm}{H H1:Hp}{l:Addr}{xs:List V}{o:HO}(a:Lo P w L H H1)(hn:H l=none)(hl:H1 l=some (.lst xs)):Lo P w L H (L2.upd H1 l o):=by
 refine⟨λb u q=>?_,λd kvs q=>?_,a.lt.put hl,λb q=>?_⟩
 ·rw[au (aM (Nt.sub b u q) hn)];exact a.nx b u q
 ·rw[au (aM q hn)];exact a.nd d kvs q
 ·by_cases z:b=l
  ·rw[z];exact hn
  ·rw[au z]at q;exact a.dom b q
theorem Nb{H:Hp}{l q:Addr}{k:NK}{xs:List V}{o:HO}(h:lU H q k)(hl:H l=some (.lst xs)):lU (L2.upd H l o) q k:=by
 have n:∀{b ys},H b=some (.tup ys)->b≠l:=λ{b ys} e z=>by rw[z,hl]at e;cases e
 obtain⟨p,h1,h2⟩:=h
 exact⟨p,by rw[au (n h1)];exact h1,by rw[au (n h2)];exact h2⟩
theorem Li(T:PT)(m f s:Str):(fL T m f s).Ok:=by
 show Dd m f s ((f.cps.size:Int),(s.cps.size:Int))=true
 unfold Dd
 split
 ·simp
 ·split<;>simp
theorem NB(m:Str)(n k:Nat):LI m n k≠[]:=by
 have h:((0:Nat),(0:Nat))∈LI m n k:=by
  refine List.mem_filter.mpr ⟨kQ.mpr ⟨Nat.zero_le _,Nat.zero_le _⟩,?_⟩
  show De m (((0:Nat):Int),((0:Nat):Int))=true
  unfold De
  split
  ·simp
  ·split
   ·simp
   ·split<;>simp
 exact List.ne_nil_of_mem h
end GP
namespace GP
open PySem L2 sJ
theorem S6{c:Int}(h1: -(10 ^ 39)-4<=c)(h2:c<=10 ^ 39):Sm c:=xW (by omega) (by omega)
def Gb(K:PySem.W.Frag):Sp:=λvs H Q _=>∃(s t:Addr) (ns:List Int) (k:Int),vs=[.ref s,.ref t]/\wC K H s t ns k/\k<=100000/\∀c:Int,-(10 ^ 39)<=c->c<=10 ^ 39->Q (.int c) (L2.upd H t (.lst [.int (k+1)]))
def Cf(K:PySem.W.Frag):Sp:=λvs H Q _=>∃(s t:Addr) (ns:List Int) (k:Int) (n:Nat),vs=[.ref s,.ref t,.int n]/\wC K H s t ns k/\k<=100000/\1<=n/\n<=6 ∧
 ∀x H',Ah x->x.cps.size=n->ai (L2.upd H t (.lst [.int (k+1)])) H'->Q (.str x) H'
def R5(f:cu):Prop:=1<=f.2/\f.2<=999/\ -(10 ^ 39)<=f.1/\f.1<=10 ^ 39
theorem R5.l{f:cu}(h:R5 f):Mf f:=⟨h.1,h.2.1,S6 (by have:=h.2.2.1;omega) h.2.2.2⟩
def Cg(K:PySem.W.Frag):Sp:=λvs H Q _=>∃(s t:Addr) (ns:List Int) (k c:Int),vs=[.ref s,.ref t,.int c]/\wC K H s t ns k/\k<=90000 ∧
 ∀(f:cu) (q:Addr) (H':Hp) (k':Int),R5 f->ai (Wo t H) (Wo t H')->H' t=some (.lst [.int k'])->k<=k'->k'<=k+2->H q=none->H' q=some (.tup [.int f.1,.int f.2])->Q (.ref q) H'
def F9(K:PySem.W.Frag):Sp:=λvs H Q _=>∃(s t:Addr) (ns:List Int) (k:Int) (n:Nat),vs=[.ref s,.ref t,.int n]/\wC K H s t ns k/\k<=80000/\1<=n/\n<=6 ∧
 ∀(r l o m:Addr) (rs:List Addr) (rows:List (List cu)) (fo fm:cu) (sg:Str) (H':Hp) (k':Int),Ah sg->sg.cps.size=n->H' r=some (.tup [.str sg,.ref l,.ref o,.ref m])->ue K (Wo t H') l rs rows->Me n rows->(∀r∈rows,∀f∈r,Mf f)->TupAt (Wo t H') o fo->Mf fo->TupAt (Wo t H') m fm->Mf fm →
  ai (Wo t H) (Wo t H')->H' t=some (.lst [.int k'])->k<=k'->k'<=k+200->Q (.ref r) H'
def zF(K:PySem.W.Frag)(C:Addr):Sp:=λvs H Q _=>∃(s t:Addr) (ns:List Int) (k:Int),vs=[.ref s,.ref t]/\wC K H s t ns k/\k<=70000 ∧
 ∀x H' k' T,yp K C (Wo t H') x T->T.1.cps.size<=4->H x=none->ai (Wo t H) (Wo t H')->H' t=some (.lst [.int k'])->k<=k'->k'<=k+300->Q (.ref x) H'
def JD(K:PySem.W.Frag):Sp:=λvs H Q _=>∃(s t:Addr) (ns:List Int) (k:Int) (n:Nat) (sg:Str),vs=[.ref s,.ref t,.str sg,.int n]/\wC K H s t ns k/\k<=80000/\n<=12/\0<sg.cps.size/\sg.cps.size<=100 ∧
 ∀f H' k',Of sg f->f.cps.size<=n->ai (Wo t H) (Wo t H')->H' t=some (.lst [.int k'])->k<=k'->k'<=k+20->Q (.str f) H'
def LY(v u:V):Prop:=(∃s,v= .str s/\u= .str s)\/∃n,v= .int n/\u= .int n
def BR(K:PySem.W.Frag)(H:Hp):Nat->V->V->Prop
 | 0,v,u=>LY v u
 |d+1,v,u=>LY v u\/∃p q xs ys,v= .ref p/\u= .ref q/\cP K H p xs/\cP K H q ys/\xs.length=ys.length/\xs.length<=100/\∀(i:Nat) x y,xs[i]? =some x->ys[i]? =some y->BR K H d x y
theorem BR.same{K:PySem.W.Frag}{H H':Hp}(e:ai H H'):∀{d:Nat} {v u:V},BR K H d v u->BR K H' d v u
 | 0,_,_,h=>h
 |d+1,_,_,h=>h.imp id λ⟨p,q,xs,ys,h1,h2,h3,h4,h5,h6,h7⟩=>⟨p,q,xs,ys,h1,h2,ai.tup e h3,ai.tup e h4,h5,h6,λi x y hx hy=>BR.same e (h7 i x y hx hy)⟩
theorem BR.flat{K:PySem.W.Frag}{H:Hp}{d:Nat}{v u:V}(h:LY v u):BR K H d v u:=by
 cases d with
 |zero=>exact h
 |succ d=>exact .inl h
theorem BR.int{K:PySem.W.Frag}{H:Hp}{d:Nat}{n:Int}:BR K H d (.int n) (.int n):=.flat (.inr ⟨_,rfl,rfl⟩)
theorem BR.str{K:PySem.W.Frag}{H:Hp}{d:Nat}{n:Str}:BR K H d (.str n) (.str n):=.flat (.inl ⟨_,rfl,rfl⟩)
theorem BR.of{K:PySem.W.Frag}{H:Hp}{p q:Addr}{xs ys:List V}{d:Nat}(hp:cP K H p xs)(hq:cP K H q ys)(hl:xs.length<=100)(h:Paired (BR K H d) xs ys):BR K H (d+1) (.ref p) (.ref q) :=
 .inr ⟨p,q,xs,ys,rfl,rfl,hp,hq,Paired.len h,hl,λi x y hx hy=>by
  obtain⟨y',hy',z⟩:=GP.Paired.at h hx
  rw[hy]at hy'
  cases hy'
  exact z⟩
def wj(K:PySem.W.Frag)(d:Nat):Sp:=λvs H Q _=>∃v u:V,vs=[v,u]/\BR K H d v u/\∀H',ai H H'->Q (.bl true) H'
theorem nX{α:Type}{l:List α}{i:Nat}{d x:α}(h:l[i]? =some x):l.getD i d=x:=by
 rw[List.getD_eq_getElem?_getD,h];rfl
theorem Mp{a tv:Int}{i j:Nat}(ht:tv=1\/tv=3\/tv=5\/tv=7\/tv=9\/tv=11)(hij:i<j)(hj:j<6):((a+(i:Int)*tv) % 92).toNat≠((a+(j:Int)*tv) % 92).toNat:=by
 rcases ht with rfl|rfl|rfl|rfl|rfl|rfl<;>omega
theorem ES{L:List Nat}{p:Nat->Nat}(hL:L.Nodup)(n:Nat)(hp:∀i,i<n->p i<L.length)(hne:∀i j,i<j->j<n->p i≠p j):((List.range n).map λi=>L.getD (p i) 0).Nodup:=by
 rw[List.Nodup,List.pairwise_map]
 refine List.Pairwise.imp_of_mem ?_ (List.pairwise_lt_range (n:=n))
 intro i j hi hj hij z
 have h1:=hp i (List.mem_range.mp hi)
 have h2:=hp j (List.mem_range.mp hj)
 rw[nX (List.getElem?_eq_getElem h1),nX (List.getElem?_eq_getElem h2)]at z
 exact hne i j hij (List.mem_range.mp hj) ((List.getElem_inj hL).mp z)
def K3:List Nat->Bool
 |a::b::r=>decide (a<b)&&K3 (b::r)
 |_=>true
theorem AZ:∀{a:Nat} {l:List Nat},K3 (a::l)=true->(∀c∈l,a<c)/\K3 l=true
 |a,[],_=>⟨λc hc=>(nomatch hc),rfl⟩
 |a,b::r,h=>by
  have h':(decide (a<b)&&K3 (b::r))=true:=h
  rw[Bool.and_eq_true]at h'
  have h1:=of_decide_eq_true h'.1
  refine⟨λc hc=>?_,h'.2⟩
  rcases List.mem_cons.mp hc with rfl|hc
  ·exact h1
  ·exact Nat.lt_trans h1 ((AZ h'.2).1 c hc)
theorem xN:∀{l:List Nat},K3 l=true->l.Nodup
 |[],_=>List.nodup_nil
 |a::l,h=>List.nodup_cons.mpr ⟨λz=>Nat.lt_irrefl _ ((AZ h).1 a z),xN (AZ h).2⟩
def LZ(rows:List (List cu))(k:Nat):Prop:=∀a b f,Mg rows a b f->Mf f/\(a=b->k<=a->R5 f)
theorem G5{rows:List (List cu)}{a c i j:Nat}{row:List cu}{f g:cu}(hr:rows[a]? =some row)(h:Mg (rows.set a (row.set c f)) i j g):(i=a/\j=c/\g=f)\/Mg rows i j g:=by
 obtain⟨r,h1,h2⟩:=h
 rw[List.getElem?_set]at h1
 by_cases e:a=i
 ·subst e
  rw[if_pos rfl,if_pos (List.getElem?_eq_some_iff.mp hr).1]at h1
  cases h1
  rw[List.getElem?_set]at h2
  by_cases e2:c=j
  ·subst e2
   rw[if_pos rfl]at h2
   split at h2
   ·exact .inl ⟨rfl,rfl,(Option.some.inj h2).symm⟩
   ·cases h2
  ·rw[if_neg e2]at h2
   exact .inr ⟨row,hr,h2⟩
 ·rw[if_neg e]at h1
  exact .inr ⟨r,h1,h2⟩
def yb(K:PySem.W.Frag)(H:Hp)(t l:Addr)(n j:Nat)(k:Int)(H2:Hp):Prop:=∃rs rows,ue K (Wo t H2) l rs rows/\Me n rows/\LZ rows j/\(∀r∈rs,H r=none)/\ai (Wo t H) (Wo t H2)/\H2 t=some (.lst [.int k])
theorem Lv{rows:List (List cu)}{k:Nat}(h:LZ rows k):∀r∈rows,∀f∈r,Mf f:=λr hr f hf=>by
 obtain⟨i,hi,e⟩:=List.getElem_of_mem hr
 obtain⟨j,hj,e'⟩:=List.getElem_of_mem hf
 exact(h i j f ⟨r,List.getElem?_eq_some_iff.mpr ⟨hi,e⟩,List.getElem?_eq_some_iff.mpr ⟨hj,e'⟩⟩).1
theorem E6{xs:List V}{j:Nat}(h:j<xs.length):K1 xs.length (j:Int)=some j:=by
 unfold K1
 rw[if_pos (by omega),if_pos (by omega)]
 simp
theorem Gd.Hl(g:Gd)(s:bR)(v:Nat)(vs:List Nat):g.walk s (v::vs)=((g.steps s).find? λt=>t.1.2.2==v).bind λt=>(g.walk t.1 vs).map λr=>(t.2+r.1,r.2):=by
 rw[Gd.walk]
 cases (g.steps s).find? λt=>t.1.2.2==v<;>rfl
theorem itd{p:Prop}[Decidable p]{A B:Prop}(h:p)(x:A):if(decide p)=true then A else B:=dF (λ_=>x) λz=>absurd h z
theorem YY{p:Prop}[Decidable p]{A B:Prop}(h:¬p)(x:B):if(decide p)=true then A else B:=dF (λz=>absurd z h) λ_=>x
end GP
namespace L2
open PySem PySem.Spec PyProof.Rows
theorem zw:∀{cs:List Addr} {us:List Value},Vals (cs.map V.ref) us->us=cs.map Value.ref
 |[],_,.nil=>rfl
 |_::_,_,.cons r q=>by
  cases r
  rw[zw q]
  rfl
theorem xV{X:Cx}{K':PySem.W.Frag}(hK:X.K=K'):nE X (.builtin "isinstance") (λxs H Q=>∃(ea C:Addr) (od:Option Addr) (tp:Addr) (cs:List Addr) (b:Bool),xs=[.ref ea,.ref tp]/\H tp=some (.tup (cs.map V.ref))/\H ea=some (Lq ea (.ref C) od)/\(od=none\/∃dx fs,od=some dx/\H dx=some (Am dx fs))/\RZ K' C/\PySem.W.kitAny K' (.ref C) (cs.map Value.ref)=some b/\Q (.bl b) H):=by
 subst hK
 intro pins s σ H vs us Q I r h
 obtain⟨ea,C,od,tp,cs,b,rfl,htp,hx,hod,Z,hk,q⟩:=h
 obtain⟨u,u2,rfl,rx,rc⟩:=vals2 r
 cases (show u=Value.ref ea from rx)
 cases (show u2=Value.ref tp from rc)
 obtain⟨its,rv,⟨⟨cl,dd,da,sl⟩,e1,e2,n,e3⟩,_⟩:=I.tuple (cP.of htp)
 simp only at e2 e3
 subst e2 e3
 have hi:=zw rv
 subst hi
 rcases hod with rfl|⟨dx,fs,rfl,hd⟩
 ·obtain⟨⟨ws,sl,e⟩,_,_⟩:=(show bI X.prog X.w H s.heap ea (Lq ea (.ref C) none) from I.hok ea _ hx)
  exact TK.bS (Nat.le_refl s.toks) (PySem.W.kia_tup (Di (ox:=⟨.ref C,none,.fields ws,sl⟩) (od:=none) Z) I.pB ⟨e,rfl,rfl,trivial⟩ e1 hk (λz=>nomatch z) λtk hup=>⟨.bl b,H,I.tok tk,rfl,q⟩)
 ·obtain⟨ox,o,mA,J,hl,rA⟩:=Dk I.hok hx hd
  exact TK.bS (Nat.le_refl s.toks) (PySem.W.kia_tup (Di (ox:=ox) (od:=some o) Z) I.pB J e1 hk (λz=>nomatch z) λtk hup=>⟨.bl b,H,I.tok tk,rfl,q⟩)
theorem CH{X:Cx}{K':PySem.W.Frag}{e:Expr}{f:Str}{pos:Pos}{ta:TE}(hK:X.K=K')(he:PE X e ta)(hb:attributeBase e f X.env (eval e X.env)=eval e X.env):PE X (.Attribute e f pos) (NQ K' ta f):=by subst hK;exact MJ he hb
theorem MI{X:Cx}{K':PySem.W.Frag}{e:Expr}{f:Str}{pos:Pos}{ta:TE}(hK:X.K=K')(he:PE X e ta)(hb:attributeBase e f X.env (eval e X.env)=eval e X.env):PE X (.Attribute e f pos) (SS K' ta f):=by subst hK;exact dh he hb
end L2
namespace GP
open PySem L2 sJ
theorem Na{K:PySem.W.Frag}{t:Value}:PySem.W.kitAny K t []=some false:=rfl
theorem jh{K:PySem.W.Frag}{t c:Value}{r:List Value}{b:Bool}(h:PySem.W.kitOne K t c=some false)(h':PySem.W.kitAny K t r=some b):PySem.W.kitAny K t (c::r)=some b:=by
 unfold PySem.W.kitAny
 rw[h]
 exact h'
def uD:List Nat:=[113,120,81,88,48,55,43,126,32]
theorem MQ:(Str.ofString "qxQX07+~ ").cps.toList=uD:=by kernel_rfl
def uZ(sg:Str):List Nat:=uD.filter λc=>!decide (c∈sg.cps.toList)
theorem MR{sg:Str}(h:sg.cps.size<=4):5<=(uZ sg).length:=by
 have nd:(uD.filter λc=>decide (c∈sg.cps.toList)).Nodup:=List.Pairwise.filter _ (show uD.Nodup by decide)
 have z:=zQ nd λc hc=>of_decide_eq_true (List.mem_filter.mp hc).2
 have e:=List.length_eq_countP_add_countP (λc=>decide (c∈sg.cps.toList)) (l:=uD)
 rw[List.countP_eq_length_filter,List.countP_eq_length_filter]at e
 have e9:uD.length=9:=rfl
 have z2:sg.cps.toList.length<=4:=by rw[Array.length_toList];exact h
 have e2:(uZ sg).length=(uD.filter λa=>decide (¬decide (a∈sg.cps.toList)=true)).length:=by
  unfold uZ
  congr 1
  refine List.filter_congr λc _=>?_
  by_cases q:c∈sg.cps.toList<;>simp[q]
 omega
theorem Q0{sg:Str}{c:Nat}(h:c∈uZ sg):c∉sg.cps.toList:=by
 have:=(List.mem_filter.mp h).2
 simpa using this
def Av(K:PySem.W.Frag)(L:Lm):Sp:=λvs H Q _=>∃(a:Addr) (ns:List Int),vs=[.ref a]/\bZ K H a (ns.map V.int)/\ns.length<=63/\LT L H/\∀H',LT L H'->Q (.bl true) H'
theorem Lo.wo{P:Program}{w:World}{L:Lm}{H H':Hp}{t:Addr}{xs:List V}(a:Lo P w L (Wo t H) H')(ht:H' t=some (.lst xs)):Lo P w L (Wo t H) (Wo t H'):=by
 have nt:∀{b u},Wo t H b=some u->b≠t:=λ{b u} h=>Wo.ne h
 have tb:∀{Q ln lq},TabOk H' Q ln lq->TabOk (Wo t H') Q ln lq:=λ{Q ln lq} h=>by
  have n:∀{b φ},H' b=some (.ext φ)->b≠t:=λ{b φ} e z=>by rw[z,ht]at e;cases e
  rcases h with h|⟨c,h,h2⟩
  ·exact .inl (Wo.in (n h) h)
  ·exact .inr ⟨c,Wo.in (n h) h,Wo.in (n h2) h2⟩
 refine⟨λb u q=>Wo.in (nt (Nt.sub b u q)) (a.nx b u q),λd kvs q=>Wo.in (nt q) (a.nd d kvs q),⟨tb a.lt.a,tb a.lt.b,a.lt.ne⟩,λb q=>?_⟩
 by_cases z:b=t
 ·rw[z];unfold Wo;rw[if_pos rfl]
 ·refine a.dom b ?_
  unfold Wo at q
  rw[if_neg z]at q
  exact q
theorem LT.wo{L:Lm}{H:Hp}{t:Addr}{xs:List V}(h:LT L H)(ht:H t=some (.lst xs)):LT L (Wo t H):=by
 have n:∀{b φ},H b=some (.ext φ)->b≠t:=λ{b φ} e z=>by rw[z,ht]at e;cases e
 have tb:∀{Q ln lq},TabOk H Q ln lq->TabOk (Wo t H) Q ln lq:=λ{Q ln lq} h=>by
  rcases h with h|⟨c,h,h2⟩
  ·exact .inl (Wo.in (n h) h)
  ·exact .inr ⟨c,Wo.in (n h) h,Wo.in (n h2) h2⟩
 exact⟨tb h.a,tb h.b,h.ne⟩
theorem Lo.ctr{P:Program}{w:World}{L:Lm}{K:PySem.W.Frag}{H H':Hp}{s t:Addr}{ns:List Int}{k k':Int}(a:Lo P w L (Wo t H) H')(c:wC K H s t ns k)(ht:H' t=some (.lst [.int k']))(h0:0<=k'):wC K H' s t ns k':=⟨(a.wo ht).seq c.sq,c.len,ht,h0⟩
theorem Lo.cut{P:Program}{w:World}{L:Lm}{H H1:Hp}{t:Addr}{xs:List V}(a:Lo P w L H H1)(h:LT L H)(ht:H t=some (.lst xs)):Lo P w L (Wo t H) H1:=(Lo.of (h.wo ht) Wo.sub).trans a
theorem LT.step{L:Lm}{H H':Hp}{t:Addr}{xs:List V}(h:LT L H)(ht:H t=some (.lst xs))(e:ai (Wo t H) (Wo t H')):LT L H':=((h.wo ht).same e).same Wo.sub
end GP
namespace L2
open PySem PySem.Spec PyProof.Rows PySem.W
section
variable{X:Cx}{pins:List (Addr×Obj)}{σ:St}{H:Hp}{s:Shared}{a q:Addr}{k:NK}{kvs:List NE}{v:V}{r:Value}{A:Around}{E:Value->Shared->Prop}
end
section
variable{X:Cx}{o e f i:Expr}{apos cpos pos:Pos}{td ty tx:TE}{Pr:Program}{wo:World}
end
end L2
namespace L2
open PySem PySem.Spec PyProof.Rows PySem.W
theorem Inv.X4{X:Cx}{pins:List (Addr×Obj)}{σ:St}{H:Hp}{s:Shared}{a:Addr}{o:Obj}{u:HO}(I:Inv X pins σ H s)(h:H a=some (.tS o u))(h0:∀o u,X.H₀ a≠some (.tS o u)):Inv X pins σ (upd H a u) s:=by
 have nn:∀{b},H b=none->upd H a u b=none:=λ{b} e=>by rw[au (Ne.symm (aM h e))];exact e
 have keep:∀{b v},(∀o u,v≠ .tS o u)->H b=some v->upd H a u b=some v:=λ{b v} n e=>by rw[au (λz=>by rw[z,h]at e;exact n o u (Option.some.inj e).symm)];exact e
 refine⟨I.ok,I.os,I.bare,⟨I.base.keep,I.base.slot,λb o e n hx=>nn (I.base.free b o e n hx),I.base.there,λb xs e=>keep (λ_ _ z=>by cases z) (I.base.tups b xs e),λb o' u' e=>?_,λb ps e=>?_⟩,I.loc,I.cell,nn I.free,λx c e=>nn (I.jA x c e),λp hp=>?_,λb v e=>?_,I.len,I.up⟩
 ·by_cases z:b=a
  ·rw[z]at e;exact absurd e (h0 _ _)
  ·rw[au z];exact I.base.q9 b o' u' e
 ·obtain⟨m,e2⟩:=I.base.rL b ps e
  exact⟨m,keep (λ_ _ z=>by cases z) e2⟩
 ·obtain⟨p1,p2,p3⟩:=I.pin p hp
  exact⟨p1,nn p2,p3⟩
 ·have st:∀{c v},bI X.prog X.w H s.heap c v->bI X.prog X.w (upd H a u) s.heap c v:=λ{c v} q=>q.stay (λ_ _ _ r=>r) (λb r=>keep (λ_ _ z=>by cases z) r) λb xs r=>keep (λ_ _ z=>by cases z) r
  by_cases z:b=a
  ·subst z
   rw[af]at e
   cases e
   exact st (I.hok b _ h).2
  ·rw[au z]at e
   exact st (I.hok b v e)
end L2
namespace GP
open PySem L2 sJ
theorem Gd.Jh{g:Gd}{s e:bR}{v:Nat}{vs:List Nat}{c:Int}(h:g.walk s (v::vs)=some (c,e)):∃t c',t∈g.steps s/\t.1.2.2=v/\g.walk t.1 vs=some (c',e)/\c=t.2+c':=by
 rw[Gd.Hl]at h
 obtain⟨t,ht,h⟩:=Option.bind_eq_some_iff.mp h
 obtain⟨⟨c',e'⟩,hr,h⟩:=Option.map_eq_some_iff.mp h
 cases h
 exact⟨t,c',List.mem_of_find?_eq_some ht,by simpa using List.find?_some ht,hr,rfl⟩
end GP
namespace GP
open PySem L2 sJ
end GP
namespace GP
open PySem L2 sJ
end GP
namespace GP
open PySem L2 sJ
end GP
namespace GP
open PySem L2 sJ
def yO(f:Str)(k:Int)(c:Nat):Str:=(Txt.slice f none (some k)++(⟨#[c]⟩:Str))++Txt.slice f (some k) none
def JG(K:PySem.W.Frag)(C:Addr):Sp:=λvs H Q _=>∃(m:Int) (pr:Addr) (T:PT) (f g:Str),vs=[.int m,.ref pr,.str f,.str g]/\0<=m/\yp K C H pr T/\T.1.cps.size<=4/\Of T.1 f/\Of T.1 g/\f.cps.size<=12/\g.cps.size<=12 ∧
 ∀(r lr d:Addr) (a b:Str) (i j:Nat) (H':Hp),ai H H'->H' r=some (.tup [.ref lr,.ref d])->H' lr=some (.lst [.str a,.str b])->H' d=some (.tup [.int (i:Int),.int (j:Int)])->uu T.1 a b i j->a.cps.size<=20->b.cps.size<=20->Q (.ref r) H'
end GP
namespace GP
open PySem L2 sJ
end GP
namespace L2
open PySem PySem.Spec PyProof.Rows PySem.W
theorem KG(a v d:Value):argsOk "min" ⟨[a],[(Str.ofString "key",v),(Str.ofString "default",d)]⟩:=by unfold argsOk;kernel_rfl
section
variable{prog:Program}{w:World}{A:Around}{E:Value->Shared->Prop}{s:Shared}{q:Addr}
variable{g:Heap}{l I S:Addr}{vs:List Value}{R:Result->Shared->Prop}
theorem HM{kw:List (Str×Value)}(kf:Nat->Int)(hh:A.handled=none)(hl:g.IsList l vs.toArray)(hI:g.get? I=none)(hS:g.get? S=none)(hSI:S≠I)
  (turn:∀i v h tk (Q:Value->Shared->Prop),vs[i]? =some v->(∀b o,g.get? b=some o->h.get? b=some o)->(∀h' tk' t,(∀b o,h.get? b=some o->h'.get? b=some o)->Q (.int (kf i) t) { s with heap:=h',toks:=tk' }) →
   wpAny (model prog w) A.in1 (call (.ref q) [v]) Q (λ_ _=>False) { s with heap:=h,toks:=tk })
  (hR:∀i v h' tk',vs[i]? =some v->BG kf vs.length i->(∀b o,g.get? b=some o->h'.get? b=some o)->R (.ok (.ret v)) { s with heap:=h',toks:=tk' }) :
  ∀(r j i:Nat) (h:Heap) (tk:Nat) (vb:Value) (tb:Tok) (c:Nat),vs.length-(j+1)=r->j+1<=vs.length->(∀b o,g.get? b=some o->h.get? b=some o)->h.get? S=some (seqObj "list" #[vb,.int (kf i) tb] c) →
   h.IsListIter I l (j+1)->vs[i]? =some vb->i<=j->BG kf (j+1) i →
   codeAny (model prog w) A (.builtin "min.loop" ⟨[.ref I,.ref q,.ref S],kw⟩) R { s with heap:=h,toks:=tk }:=by
 have nm:(toString "min" ++toString ".loop" :String)= "min.loop" :=by decide
 obtain⟨ol,BU,rl⟩:=id hl
 have lI:l≠I:=λz=>by rw[z,hI]at BU;cases BU
 have W:=Walks.list (prog:=prog) (w:=w) (A:=A.in1) hh I l lI vs.toArray
 have sz:vs.toArray.size=vs.length:=by simp
 have nI:∀b o,g.get? b=some o->b∉[I]:=λb o e z=>by rw[List.mem_singleton.mp z,hI]at e;cases e
 have nS:∀b o,g.get? b=some o->b≠S:=λb o e z=>by rw[z,hS]at e;cases e
 intro r
 induction r with
 |zero =>
  intro j i h tk vb tb c hr hj kp gS hit Rr hij hb
  have en:j+1=vs.length:=by omega
  refine codeAny_builtin PySem.F.entry_min_loop ?_
  rw[Around.under_plainId PySem.F.plain_min_loop _]
  show wpAny _ A.in1 (seqItems? (.ref S) >>= _) _ _ _
  refine wpAny_bind (wpAny_seqItems gS rfl ?_)
  show wpAny _ A.in1 (tryCatch (pyNext (.ref I)) _ >>= _) _ _ _
  refine wpAny_bind (wpAny_tryCatch (W.done _ _ _ ⟨by rw[sz,←en];exact hit,nu kp hl⟩ λh1 F3 hk1=>?_))
  have Lh:=hk1 S _ (by simpa using hSI) gS
  show wpAny _ A.in1 (updateSeq S (λ_=> #[]) >>= _) _ _ _
  refine wpAny_bind ?_
  refine wpAny_updateSeq Lh rfl (wpAny_bind (wpAny_letGo (wpAny_pure ?_)))
  refine hR i vb _ _ Rr (by rw[←en];exact hb) λb o e=>?_
  rw[(Heap.SameBut.update h1 S _).2 b (nS b o e)]
  exact hk1 b o (nI b o e) (kp b o e)
 |succ r ih =>
  intro j i h tk vb tb c hr hj kp gS hit Rr hij hb
  have lt:j+1<vs.length:=by omega
  refine codeAny_builtin PySem.F.entry_min_loop ?_
  rw[Around.under_plainId PySem.F.plain_min_loop _]
  show wpAny _ A.in1 (seqItems? (.ref S) >>= _) _ _ _
  refine wpAny_bind (wpAny_seqItems gS rfl ?_)
  show wpAny _ A.in1 (tryCatch (pyNext (.ref I)) _ >>= _) _ _ _
  refine wpAny_bind (wpAny_tryCatch (W.item (j+1) _ _ _ (by rw[sz];exact lt) ⟨hit,nu kp hl⟩ λv h1 F3 hP hst hk1=>?_))
  have hv:vs[j+1]? =some v:=by simpa using hP
  have Dh:∀b o,g.get? b=some o->h1.get? b=some o:=λb o e=>hk1 b o (nI b o e) (kp b o e)
  have Lh:=hk1 S _ (by simpa using hSI) gS
  obtain⟨oI,Nh,rI⟩:=id hst.1
  show wpAny _ A.in1 (tryCatch (holding [v] (call (.ref q) [v])) _ >>= _) _ _ _
  refine wpAny_bind (wpAny_tryCatch (wpAny_holding (wpAny_mono (turn (j+1) v h1 F3 (λu s'=>∃h2 Ao t2,u= .int (kf (j+1)) t2/\s'={ s with heap:=h2,toks:=Ao }/\∀b o,h1.get? b=some o->h2.get? b=some o) hv Dh λh2 Ao t2 k2=>⟨h2,Ao,t2,rfl,rfl,k2⟩) (λu s' hu=>?_) λ_ _ z=>z.elim)))
  obtain⟨h2,Ao,t2,rfl,rfl,k2⟩:=hu
  have Uo:∀b o,g.get? b=some o->h2.get? b=some o:=λb o e=>k2 b o (Dh b o e)
  have Il:=k2 _ _ Lh
  have RD:h2.IsListIter I l (j+1+1):=⟨oI,k2 _ _ Nh,rI⟩
  show wpAny _ A.in1 (tryCatch (holding [v,.int (kf (j+1)) t2] (richCompare .Lt (.int (kf (j+1)) t2) (.int (kf i) tb) >>= _)) _ >>= _) _ _ _
  refine wpAny_bind (wpAny_tryCatch (wpAny_holding (wpAny_bind (CmpOf.ints_lt (prog:=prog) (w:=w) (A:=A.in1) (P:=λi v=>∃t,v= .int (kf i) t) kf (λi v h=>h) (j+1) i _ _ _ _ _ ⟨t2,rfl⟩ ⟨tb,rfl⟩ ?_))))
  refine wpAny_bind (wpAny_holding (wpAny_truthy_bool ?_))
  refine wpAny_bind (wpAny_letGo (wpAny_pure ?_))
  by_cases gt:kf (j+1)<kf i
  ·obtain⟨c2,hc2⟩:∃c2,(h2.update S (Obj.mapSeq λ_=> #[v,.int (kf (j+1)) t2])).get? S=some (seqObj "list" #[v,.int (kf (j+1)) t2] c2):=⟨_,get?_update_seq Il λ_=> #[v,.int (kf (j+1)) t2]⟩
   have gt':kf (j+1)<kf i:=gt
   simp only[gt',decide_true,if_true]
   refine wpAny_bind ?_
   refine wpAny_updateSeq Il rfl (wpAny_bind (wpAny_letGo ?_))
   rw[nm]
   refine wpAny_pure ⟨plainId_quiet PySem.F.plain_min_loop _,ih (j+1) (j+1) _ _ v t2 c2 (by omega) lt (λb o e=>?_) hc2 ?_ hv (Nat.le_refl _) λj' hj'=>?_⟩
   ·rw[(Heap.SameBut.update h2 S _).2 b (nS b o e)]
    exact Uo b o e
   ·exact⟨oI,((Heap.SameBut.update h2 S _).2 I hSI.symm).trans (k2 _ _ Nh),rI⟩
   ·by_cases e:j'=j+1
    ·subst e
     exact⟨by omega,λ_=>by omega⟩
    ·have b1:=hb j' (by omega)
     exact⟨by omega,λ_=>by omega⟩
  ·have gt':¬kf (j+1)<kf i:=gt
   simp only[gt',decide_false,Bool.false_eq_true,if_false]
   refine wpAny_bind (wpAny_letGo ?_)
   rw[nm]
   refine wpAny_pure ⟨plainId_quiet PySem.F.plain_min_loop _,ih (j+1) i _ _ vb tb c (by omega) lt Uo Il RD Rr (by omega) λj' hj'=>?_⟩
   by_cases e:j'=j+1
   ·subst e
    exact⟨by omega,λ_=>by omega⟩
   ·exact hb j' (by omega)
theorem IE{d:Value}{Q:Value->Shared->Prop}(kf:Nat->Int)(hh:A.handled=none)(hl:s.heap.IsList l vs.toArray)
  (turn:∀i v h tk (Q:Value->Shared->Prop),vs[i]? =some v->(∀b o,s.heap.get? b=some o->h.get? b=some o)->(∀h' tk' t,(∀b o,h.get? b=some o->h'.get? b=some o)->Q (.int (kf i) t) { s with heap:=h',toks:=tk' }) →
   wpAny (model prog w) A.in1 (call (.ref q) [v]) Q (λ_ _=>False) { s with heap:=h,toks:=tk })
  (h0:vs=[]->∀h' tk',(∀b o,s.heap.get? b=some o->h'.get? b=some o)->Q d { s with heap:=h',toks:=tk' })
  (h1:∀i v h' tk',vs[i]? =some v->BG kf vs.length i->(∀b o,s.heap.get? b=some o->h'.get? b=some o)->Q v { s with heap:=h',toks:=tk' }) :
  wpAny (model prog w) A (call (.builtin "min") [.ref l] [(Str.ofString "key",.ref q),(Str.ofString "default",d)]) Q E s:=by
 have nm:(toString "min" ++toString ".loop" :String)= "min.loop" :=by decide
 obtain⟨ol,BU,rl⟩:=id hl
 have lt:l<s.heap.objs.size:=Heap.lt_size BU
 refine kmk_tree PySem.F.kind_min PySem.F.plain_min PySem.F.entry_min (KG _ _ _) ?_
 show wpAny _ A.in1 (Builtin.Builtins.bindParams "min" ["key","default"] 0 ⟨[],[(Str.ofString "key",.ref q),(Str.ofString "default",d)]⟩ >>= _) _ _ s
 refine wpAny_bind (wpAny_of_eq (show Builtin.Builtins.bindParams "min" ["key","default"] 0 ⟨[],[(Str.ofString "key",.ref q),(Str.ofString "default",d)]⟩=pure [some (.ref q),some d] from rfl) ?_)
 refine wpAny_bind (wpAny_pure ?_)
 refine wpAny_bind (wpAny_pyIter_list hl ?_)
 refine wpAny_bind (wpAny_newList ?_ (Nat.zero_le _))
 rw[nm]
 have sI:(s.heap.push { cls:=.type "list_iterator",data:=.fields #[.ref l,.int 0 0] }).objs.size=s.heap.objs.size+1:=size_push' ..
 have hI:s.heap.get? s.heap.objs.size=none:=Heap.get?_none_of_le (Nat.le_refl _)
 have hS:s.heap.get? (s.heap.push { cls:=.type "list_iterator",data:=.fields #[.ref l,.int 0 0] }).objs.size=none:=by rw[sI];exact Heap.get?_none_of_le (Nat.le_succ _)
 have hSI:(s.heap.push { cls:=.type "list_iterator",data:=.fields #[.ref l,.int 0 0] }).objs.size≠s.heap.objs.size:=by rw[sI];exact Nat.ne_of_gt (Nat.lt_succ_self _)
 refine wpAny_pure ⟨plainId_quiet PySem.F.plain_min_loop _,?_⟩
 have Rj:∀b o,s.heap.get? b=some o->((s.heap.push { cls:=.type "list_iterator",data:=.fields #[.ref l,.int 0 0] }).push (seqObj "list" #[] 0)).get? b=some o:=λb o e=>Heap.get?_push_of_some _ (Heap.get?_push_of_some _ e)
 have gI:((s.heap.push { cls:=.type "list_iterator",data:=.fields #[.ref l,.int 0 0] }).push (seqObj "list" #[] 0)).get? s.heap.objs.size=some { cls:=.type "list_iterator",data:=.fields #[.ref l,.int 0 0] } :=
  Heap.get?_push_of_some _ (Heap.get?_push_size _ rfl)
 have gS:((s.heap.push { cls:=.type "list_iterator",data:=.fields #[.ref l,.int 0 0] }).push (seqObj "list" #[] 0)).get? (s.heap.push { cls:=.type "list_iterator",data:=.fields #[.ref l,.int 0 0] }).objs.size=some (seqObj "list" #[] 0):=Heap.get?_push_size _ rfl
 generalize (s.heap.push { cls:=.type "list_iterator",data:=.fields #[.ref l,.int 0 0] }).objs.size=S at hS hSI gS ⊢
 generalize hIe:s.heap.objs.size=I at hI hSI gI ⊢
 have lI:l≠I:=λz=>by rw[z,hI]at BU;cases BU
 have W:=Walks.list (prog:=prog) (w:=w) (A:=A.in1) hh I l lI vs.toArray
 have sz:vs.toArray.size=vs.length:=by simp
 have nI:∀b o,s.heap.get? b=some o->b∉[I]:=λb o e z=>by rw[List.mem_singleton.mp z,hI]at e;cases e
 have nS:∀b o,s.heap.get? b=some o->b≠S:=λb o e z=>by rw[z,hS]at e;cases e
 refine codeAny_builtin PySem.F.entry_min_loop ?_
 rw[Around.under_plainId PySem.F.plain_min_loop _]
 show wpAny _ A.in1 (seqItems? (.ref _) >>= _) _ _ _
 refine wpAny_bind (wpAny_seqItems gS rfl ?_)
 show wpAny _ A.in1 (tryCatch (pyNext (.ref I)) _ >>= _) _ _ _
 by_cases hv0:vs=[]
 ·subst hv0
  refine wpAny_bind (wpAny_tryCatch (W.done _ _ _ ⟨⟨_,gI,rfl,rfl⟩,nu Rj hl⟩ λrE F3 hk1=>?_))
  exact wpAny_bind (wpAny_rule (wpAny_pure (h0 rfl _ _ λb o e=>hk1 b o (nI b o e) (Rj b o e))))
 have ne:0<vs.length:=List.length_pos_iff.mpr hv0
 refine wpAny_bind (wpAny_tryCatch (W.item 0 _ _ _ (by rw[sz];exact ne) ⟨⟨_,gI,rfl,rfl⟩,nu Rj hl⟩ λv rE F3 hP hst hk1=>?_))
 have hv:vs[0]? =some v:=by simpa using hP
 have Dh:∀b o,s.heap.get? b=some o->rE.get? b=some o:=λb o e=>hk1 b o (nI b o e) (Rj b o e)
 have Lh:=hk1 S _ (by simpa using hSI) gS
 obtain⟨oI,Nh,rI⟩:=id hst.1
 show wpAny _ A.in1 (tryCatch (holding [v] (call (.ref q) [v])) _ >>= _) _ _ _
 refine wpAny_bind (wpAny_tryCatch (wpAny_holding (wpAny_mono (turn 0 v rE F3 (λu s'=>∃h2 Ao t2,u= .int (kf 0) t2/\s'={ s with heap:=h2,toks:=Ao }/\∀b o,rE.get? b=some o->h2.get? b=some o) hv Dh λh2 Ao t2 k2=>⟨h2,Ao,t2,rfl,rfl,k2⟩) (λu s' hu=>?_) λ_ _ z=>z.elim)))
 obtain⟨h2,Ao,t2,rfl,rfl,k2⟩:=hu
 have Il:=k2 _ _ Lh
 obtain⟨c2,hc2⟩:∃c2,(h2.update S (Obj.mapSeq λ_=> #[v,.int (kf 0) t2])).get? S=some (seqObj "list" #[v,.int (kf 0) t2] c2):=⟨_,get?_update_seq Il λ_=> #[v,.int (kf 0) t2]⟩
 show wpAny _ A.in1 (updateSeq S (λ_=> #[v,.int (kf 0) t2]) >>= _) _ _ _
 refine wpAny_bind ?_
 refine wpAny_updateSeq Il rfl ?_
 rw[nm]
 refine wpAny_pure ⟨plainId_quiet PySem.F.plain_min_loop _,HM kf hh hl hI hS hSI turn (λi v h' tk' a b c=>h1 i v h' tk' a b c) _ 0 0 _ _ v t2 c2 rfl ne (λb o e=>?_) hc2 ?_ hv (Nat.le_refl _) λj' hj'=>?_⟩
 ·rw[(Heap.SameBut.update h2 S _).2 b (nS b o e)]
  exact k2 b o (Dh b o e)
 ·exact⟨oI,((Heap.SameBut.update h2 S _).2 I hSI.symm).trans (k2 _ _ Nh),rI⟩
 ·have e:j'=0:=by omega
  subst e
  exact⟨by omega,λz=>absurd z (Nat.lt_irrefl _)⟩
end
structure L4(st:Stmt)(x:Str):Prop where
 body:∃p1 p2 p3 pos j,c6 st=[.Return (some (.Subscript (.Name x p1) (.Constant (.int 0) j p2) p3)) pos]
 loc:(ay st).names.lookup x=some .local
 cell:∀y∈(ay st).names,y.2≠ .cell
 kind:(ay st).kind= .function
 co:(ay st).isCoroutine=false
 gen:(ay st).isGenerator=false
 dx:(x==("__debug__" :Str))=false
theorem Iv{K:PySem.W.Frag}{P:Program}{w:World}{A:Around}{E:Value->Shared->Prop}{Q:Value->Shared->Prop}{s:Shared}{n x qual:Str}{st:Stmt}{f a:Addr}{fd:FuncData}{v:Value}{its:List Value}(F:Ja K n qual st f fd)(T:L4 st x)(hb:Binds K fd [x] [])(KX:K.In s.heap)(lim:s.heap.NoLimit)(hroom:A.depth<recursionLimit)
  (hT:s.heap.IsTuple a (v::its).toArray) (hQ:∀h' tk',(∀b o,s.heap.get? b=some o->h'.get? b=some o)->Q v { s with heap:=h',toks:=tk' }):wpAny (model P w) A (call (.ref f) [.ref a]) Q E s:=by
 obtain⟨oc,od,dV,kV,doc,pm,an,cdv,ct,osl,rfl,lk,hcd⟩:=F.ex
 obtain⟨p1,p2,p3,pos,j,eb⟩:=T.body
 refine wpAny_call (codeAny_call_function hroom (KX _ _ lk) rfl T.co T.gen rfl (PySem.W.codeRec_of KX hcd) (hb s [.ref a] KX rfl _ _ _ _ ?_))
 refine wpAny_newFunctionEnv T.cell (λy hy=>by rw[List.mem_singleton.mp hy];exact T.loc) (λh₁ hns Oh=>⟨lim.fresh _ Oh,codeAny_func ?_⟩) T.kind
 have kp:∀b o,s.heap.get? b=some o->h₁.get? b=some o:=λb o e=>Oh.extBut b o (Nat.ne_of_lt (Heap.lt_size e)) (Heap.get?_push_of_some _ e)
 obtain⟨o,g1,g2,m,g3⟩:=hT
 rw[eb]
 refine wpAny_execs_cons (wpAny_Return_some (Subscript_ (wpAny_Name (wpAny_loadName_local T.kind T.loc hns (v:=.ref a) (by show List.lookup x [(x,Value.ref a)]=some (Value.ref a);simp[List.lookup]) (wpAny_Constant_int ?_)) T.dx)))
 refine subscriptTail_builtinR (T:= "tuple") (x:=v) ⟨o,kp _ _ g1,g2⟩ slot_tuple_getitem.lookup (getItem_tuple (j:=0) (items:=(v::its).toArray) ⟨o,kp _ _ g1,g2,m,g3⟩ (by omega) (by omega) (by simp[seqIndex?]) (by rfl) ⟨rfl,?_⟩) (by with_unfolding_all rfl)
 exact hQ _ _ kp
def SQ(K:PySem.W.Frag)(ta:TA):TE:=λσ H Q=>ta σ H λzs H1=>∃(l:Addr) (vs:List V) (kf:Nat->Int),zs=[.ref l]/\bZ K H1 l vs/\(∀i v,vs[i]? =some v->∃p xs,v= .ref p/\cP K H1 p (.int (kf i)::xs))/\(vs=[]->Q .gB H1)/\∀i v,vs[i]? =some v->BG kf vs.length i->Q v H1
theorem MG{X:Cx}{e:Expr}{ta:TA}{p pos p1 p2 k1 k2:Pos}{j:Nat}{fn n qual x:Str}{st:Stmt}{f:Addr}{fd:FuncData}{K':PySem.W.Frag}(F:Ja X.K n qual st f fd)(T:L4 st x)(hb:Binds X.K fd [x] [])(hfg:Gl X fn)(hfm:X.mg fn=some (.ref f))(Dp:X.calm=true)(hroom:X.A.depth<recursionLimit)
  (hg:Gl X "min") (hm:X.mg "min" =none) (hv:bootBuiltins "min" =some (.builtin "min")) (ha:PA X [e] ta) (hK:X.K=K') (hdb:(fn==("__debug__" :Str))=false:=by decide)
  (he:backTo pos (starEach [e] X.env)=(false,eval e X.env)::backTo pos (starEach [] X.env):=by rfl) (hpl:(backTo pos (starEach [e] X.env)).any (·.1)=false:=by rfl) :
  PE X (.Call (.Name "min" p) [e] [⟨some (Str.ofString "key"),.Name fn p1,k1⟩,⟨some (Str.ofString "default"),.Constant .none j p2,k2⟩] pos) (SQ K' ta):=by
 subst hK
 intro pins s σ H Q I h
 refine wpAny_Call_Name_kw (om I hg hm hv ?_)
 refine callWith_kw (dw (ha pos pins s σ H _ I h) λus s1 ⟨zs,H1,I1,r1,q1⟩=>?_) he hpl rfl rfl
 obtain⟨l,vs,kf,rfl,hq,hk,hz,k⟩:=q1
 obtain⟨u,rfl,rx⟩:=vals1 r1
 cases rx
 refine kws_cons (mO I1 hfg hfm (kws_cons (wpAny_Constant_none (kws_nil ?_))) hdb)
 show wpAny _ X.A (call (.builtin "min") [.ref l] [(Str.ofString "key",.ref f),(Str.ofString "default",.none)]) _ _ s1
 obtain⟨its,r',pl,hlz⟩:=I1.list hq
 have hlen:=r'.length
 refine TK.bS (Nat.le_refl _) (IE (kf:=kf) (I1.ok.hd Dp) pl.isList (λi v h tk Q' hv' kp hQ=>?_) (λhn h' tk' kp hup=>?_) λi v h' tk' hv' hb kp hup=>?_)
 ·have hi:i<its.length:=(List.getElem?_eq_some_iff.mp hv').1
  have hi1:i<vs.length:=by omega
  obtain⟨u',eu,NV⟩:=r'.get (List.getElem?_eq_getElem hi1)
  rw[hv']at eu
  cases eu
  obtain⟨pp,xs,ev,hpx⟩:=hk i _ (List.getElem?_eq_getElem hi1)
  rw[ev]at NV
  cases NV
  obtain⟨ys,ry,ty,_⟩:=I1.tuple hpx
  cases ry with
  |cons ra rb =>
  obtain⟨t,rfl⟩:=(show ∃t,_=Value.int (kf i) t from ra)
  obtain⟨o,g1,g2⟩:=ty
  exact Iv (s:={ s1 with heap:=h,toks:=tk }) F T hb (I1.pB.keeps kp) (I1.nolimit.keeps kp) hroom ⟨o,kp _ _ g1,g2⟩ λh' tk' k'=>hQ h' tk' t k'
 ·have:vs=[]:=List.eq_nil_of_length_eq_zero (by rw[hlen,hn];rfl)
  exact⟨.gB,H1,I1.kept kp hup,rfl,hz this⟩
 ·have hi:i<its.length:=(List.getElem?_eq_some_iff.mp hv').1
  have hi1:i<vs.length:=by omega
  obtain⟨u',eu,NV⟩:=r'.get (List.getElem?_eq_getElem hi1)
  rw[hv']at eu
  cases eu
  refine⟨vs[i],H1,I1.kept kp hup,NV,k i _ (List.getElem?_eq_getElem hi1) ?_⟩
  rw[show vs.length=its.length by omega]
  exact hb
end L2
namespace L2
open PySem PySem.Spec PyProof.Rows PySem.W
theorem Up{k:Key}{u:Value}(h:xM k u=true):RelV (kV k) u:=by
 rcases dJ h with⟨i,t,rfl,rfl⟩|⟨x,t,rfl,rfl⟩
 ·exact⟨t,rfl⟩
 ·exact⟨t,rfl⟩
def VB(a:Addr)(o:Obj)(kvs:List (Key×V)):It :=
 ⟨λi H=>H a=some (.tS o (.dK kvs))/\i<kvs.length,λi H v H'=>∃p k x,v= .ref p/\H p=none/\H'=upd H p (.tup [kV k,x])/\kvs[i]? =some (k,x),λi H=>H a=some (.tS o (.dK kvs))/\kvs.length<=i⟩
theorem Ds{P:Program}{w:World}{H:Hp}{h:Heap}{a:Addr}{o:Obj}{es:Array DictEntry}{ep:Nat}{kvs:List (Key×V)}(ok:mQ P w H h)(e:H a=some (.tS o (.dK kvs)))(hd:o.data= .dict es ep):∃vs,KV kvs vs/\h.DictAt (bJ P w) a vs ep:=by
 obtain⟨h1,h2⟩:=(show bI P w H h a (.tS o (.dK kvs)) from ok a _ e)
 obtain⟨z,hs,vs,r,o',es',Wj,ho,hc,hd',h4⟩:=h2
 rw[h1]at ho
 cases ho
 rw[hd]at hd'
 cases hd'
 exact⟨vs,r,o,es,h1,hc,hd,h4⟩
theorem Ei{P:Program}{w:World}{K:PySem.W.Frag}{elts:List Expr}{k:Nat}{pos:Pos}{kvs:List (Key×V)}{o:Obj}{es:Array DictEntry}{ep:Nat}(a it:Addr)(hd:o.data= .dict es ep):
  Turn P w K (.Tuple elts k pos) (VB a o kvs) [it] it (λi h=>∃ok ov,IsItemIter h it a i kvs.length ep ok ov) where
 mem:=by simp
 obj:=λi h Z b hb=>by
  obtain⟨ok,ov,he⟩:=Z
  have e:b=it:=by simpa using hb
  subst e
  exact⟨_,he,λv q=>by cases q⟩
 keep:=λi h h' Z kp=>by
  obtain⟨ok,ov,he⟩:=Z
  exact⟨ok,ov,kp it (by simp) _ he⟩
 item:=by
  intro X hP hw hK hc i pins s σ H E I hf Z hg
  subst hP hw hK
  obtain⟨hH,hi⟩:=hg
  obtain⟨ok,ov,he⟩:=id Z
  obtain⟨vs,kv,da⟩:=Ds I.hok hH hd
  have hlen:=Paired.length kv
  have hiv:i<vs.length:=by omega
  obtain⟨q,hq,h1,h2⟩:=GP.Paired.at kv (List.getElem?_eq_getElem hi)
  have he':IsItemIter s.heap it a i vs.length ep ok ov:=by rw[←hlen];exact he
  refine wpAny_pyNext_items_item he' da hq λkey h' hk ho hT hsz kk=>⟨_,rfl,?_⟩
  refine wpAny_letOwnedTupleGo_items ho λh'' RH sb=>?_
  have hne:s.heap.objs.size≠it:=Nat.ne_of_gt (Heap.lt_size he)
  have k2:∀b o,b∉[it]->s.heap.get? b=some o->h''.get? b=some o:=λb o hb q=>by
   simp only[List.mem_cons,List.not_mem_nil,or_false]at hb
   exact sb.extBut _ _ hb (kk b o hb q)
  have I1:Inv X pins σ H { s with heap:=h'' }:=I.moved (t':=s.toks) k2 hf
  have hn:H s.heap.objs.size=none:=I.fresh
  have U9:pL X pins H s.heap.objs.size:=I.sC (Nat.le_refl _) hn
  have hp2:h''.get? s.heap.objs.size=some { cls:=.type "tuple",data:=.seq #[key,q.2] }:=sb.extBut _ _ hne hT
  have I2:Inv X pins σ (upd H s.heap.objs.size (.tup [kV kvs[i].1,kvs[i].2])) { s with heap:=h'' } :=
   I1.Js U9 ⟨by show 2<=sizeLine;decide,[key,q.2],.cons (by rw[h1];exact Up hk) (.cons h2 .nil),⟨_,hp2,rfl,_,rfl⟩⟩
  refine⟨.ref s.heap.objs.size,_,I2,rfl,⟨_,kvs[i].1,kvs[i].2,rfl,hn,rfl,List.getElem?_eq_getElem hi⟩,⟨_,_,by rw[hlen];exact RH⟩,λb hb=>?_⟩
  have e:b=it:=by simpa using hb
  subst e
  rw[au (Nat.ne_of_lt (Heap.lt_size he))]
  exact(hf b hb).1
 done:=by
  intro X hP hw hK hc i pins s σ H E I hf Z hg
  subst hP hw hK
  obtain⟨hH,hi⟩:=hg
  obtain⟨ok,ov,he⟩:=id Z
  obtain⟨vs,kv,da⟩:=Ds I.hok hH hd
  have hlen:=Paired.length kv
  have he':IsItemIter s.heap it a i vs.length ep ok ov:=by rw[←hlen];exact he
  refine wpAny_pyNext_items_end (I.ok.hd hc) he' da (List.getElem?_eq_none (by omega)) λh' eb=>⟨rfl,I.moved (t':=s.toks) (ch:=[it]) (λb o hb q=>eb b o ?_ q) hf⟩
  simpa using hb
 self:=λ_ _ _ _ _ Z h=>by
  obtain⟨ok,ov,he⟩:=Z
  exact PySem.W.kcp_self he h
def Rp(to:TE):TI:=λσ H R=>to σ H λx H1=>∃a kvs,x= .ref a/\H1 a=some (.dK kvs)/\∀o,R (VB a o kvs) (upd H1 a (.tS o (.dK kvs)))
theorem Kd{X:Cx}{o:Expr}{to:TE}{apos cpos tpos:Pos}{elts:List Expr}{k:Nat}(ho:PE X o to)
  (hbase:attributeBase o "items" X.env (eval o X.env)=eval o X.env:=by rfl) (hline:(apos.endLine==cpos.line)=true:=by rfl):PI X (.Tuple elts k tpos) (.Call (.Attribute o "items" apos) [] [] cpos) (Rp to):=by
 intro pins s σ H R I h
 refine wpAny_Call_method0_late hbase hline (dw (ho pins s σ H _ I h) λv s1 ⟨x,H1,I1,r1,a,kvs,ex,hd,q⟩=>?_)
 subst ex
 obtain rfl:v=Value.ref a:=r1
 obtain⟨z,hs,vs,kv,o',es,ep,ho',hc,hdat,h4⟩:=(show bI X.prog X.w H1 s1.heap a (.dK kvs) from I1.hok a _ hd)
 have dd:s1.heap.DictOf (bJ X.prog X.w) a vs:=⟨o',es,ep,ho',hc,hdat,h4⟩
 refine⟨"dict","dict.items",PySem.F.plainAttrs_dict,PySem.F.slot_dict_items,PySem.F.type_dict_items,dd.typeIs,(λb e=>by cases e;exact⟨o',ho',hc.2.1⟩),?_⟩
 refine Calls.callWith_builtin rfl (PySem.evalArgs_none (call_meetsIn PySem.F.slot_dict_items dd.typeIs PySem.F.entry_dict_items (PySem.F.args_dict_items_1 _) (meets_dict_items (bJ X.prog X.w) a hs) ⟨⟨vs,dd⟩,?_⟩))
 have I2:Inv X pins σ (upd H1 a (.tS o' (.dK kvs))) s1:=wu (h':=s1.heap) (t':=s1.toks) I1 (by rw[hd];exact True.intro) ⟨rfl,λ_ _=>rfl⟩ ⟨o',ho'⟩ ⟨ho',z,hs,vs,kv,o',es,ep,ho',hc,hdat,h4⟩
 have I3:Inv X pins σ (upd H1 a (.tS o' (.dK kvs))) { s1 with heap:=s1.heap.push { cls:=.type "dict_items",data:=.fields #[.ref a] } }:=I2.kept (t':=s1.toks) λb o e=>Heap.get?_push_of_some _ e
 refine wpAny_pyIter_items (knd:=bJ X.prog X.w) (d:=a) (kvs:=vs) (ep:=ep) ⟨_,Heap.get?_push_size _ rfl,rfl,rfl⟩ ⟨o',es,Heap.get?_push_of_some _ ho',hc,hdat,h4⟩ ?_
 refine⟨_,[(s1.heap.push { cls:=.type "dict_items",data:=.fields #[.ref a] }).objs.size],_,_,_,rfl,I3.kept (t':=s1.toks) λb o e=>Heap.get?_push_of_some _ e,Ei a _ hdat,⟨_,_,by rw[Paired.length kv];exact Heap.get?_push_size _ rfl⟩,λb hb=>?_,q o'⟩
 have e:b=(s1.heap.push { cls:=.type "dict_items",data:=.fields #[.ref a] }).objs.size:=by simpa using hb
 subst e
 exact I3.sC (Nat.le_refl _) (I3.hok.fresh (Nat.le_refl _))
theorem Im{a:Addr}{o:Obj}{kvs:List (Key×V)}{g:TG}{tb:TS}{D:Ends}{σ:St}{H:Hp}(Pv:Nat->St->Hp->Prop)(h0:Pv 0 σ H)(hl:∀i σ H,i<=kvs.length->Pv i σ H->H a=some (.tS o (.dK kvs)))
  (hs:∀i k x p σ H,kvs[i]? =some (k,x)->H p=none->Pv i σ H->g (.ref p) σ (upd H p (.tup [kV k,x])) λσ2 H2=>tb { D with nx:=Pv (i+1),ct:=Pv (i+1),bk:=D.nx } σ2 H2) (hd:∀ σ H,Pv kvs.length σ H->D.nx σ H) :
  ∃W:Nat->Nat->St->Hp->Prop,(∃m,W 0 m σ H)/\∀i m σ H,W i m σ H →
   ((VB a o kvs).stop i H/\D.nx σ H)\/((VB a o kvs).go i H/\∃N:St->Hp->Prop,(∀ σ' H',N σ' H'->∃m',m'<m/\W (i+1) m' σ' H')/\∀x H',(VB a o kvs).zq i H x H'->g x σ H' λσ2 H2=>tb { D with nx:=N,ct:=N,bk:=D.nx } σ2 H2):=by
 refine⟨λi m σ H=>m=kvs.length-i/\i<=kvs.length/\Pv i σ H,⟨kvs.length,by simp,Nat.zero_le _,h0⟩,?_⟩
 rintro i m σ H ⟨rfl,hi,p⟩
 by_cases hlt:i<kvs.length
 ·refine .inr ⟨⟨hl i σ H hi p,hlt⟩,Pv (i+1),λσ' H' p'=>⟨kvs.length-(i+1),by omega,rfl,hlt,p'⟩,λx H' y=>?_⟩
  obtain⟨q,k,x,rfl,hq,rfl,e⟩:=y
  exact hs i k x q σ _ e hq p
 ·have e:i=kvs.length:=by omega
  subst e
  exact .inl ⟨⟨hl _ σ H hi p,Nat.le_refl _⟩,hd σ H p⟩
def Qx(H0:Hp)(t:TS):TS:=λD σ H=>t { D with nx:=λσ' H'=>∃a o u,H' a=some (.tS o u)/\(∀o u,H0 a≠some (.tS o u))/\D.nx σ' (upd H' a u) } σ H
theorem JZ{X:Cx}{st:Stmt}{t:TS}{H0:Hp}(h:PS X st t)(h0:X.H₀=H0):PS X st (Qx H0 t):=by
 subst h0
 intro pins s σ H D I q
 refine dw (h pins s σ H _ I q) λf s' z=>?_
 cases f with
 |next =>
  obtain⟨σ',H',I',a,o,u,e,n,d⟩:=z
  exact⟨σ',_,I'.X4 e n,d⟩
 |brk=>exact z
 |cont=>exact z
 |ret u=>exact z
def Sy(lo:Int)(n:Nat):It:=⟨λi _=>i<n,λi H x H'=>H'=H/\x= .int (lo-i),λi _=>n<=i⟩
theorem B3{P:Program}{w:World}{K:PySem.W.Frag}{tg:Expr}(it:Addr)(lo:Int)(n:Nat):Turn P w K tg (Sy lo n) [it] it (λi h=>IsRangeIter h it (lo+(i:Nat)*(-1)) ((n:Int)-(i:Nat)) (-1)) where
 mem:=by simp
 obj:=λi h st b hb=>by
  have e:b=it:=by simpa using hb
  subst e
  exact⟨_,st,λv z=>by
   have z':Data.fields _=Data.cell v:=z
   cases z'⟩
 keep:=λi h h' st k=>k it (by simp) _ st
 item:=by
  intro X hP hw hK hc i pins s σ H E I hf st hg
  subst hP hw hK
  obtain⟨f0,f1,f2,f3,f4,f5⟩:=hf it (by simp)
  have W:=Walks.range (prog:=X.prog) (w:=X.w) (I.ok.hd hc) it lo (-1) n
  refine TK.bS (Nat.le_refl s.toks) (W.item i s _ _ hg st λv h' tk hv st' kk hup=>?_)
  obtain⟨t,rfl⟩:=hv
  have I1:Inv X pins σ H { s with heap:=h',toks:=tk }:=I.turned (λb o hb e=>kk b o (by simpa using hb) e) f0 f1 f3 f4 f5
  refine⟨_,rfl,zW (s:={ s with heap:=h',toks:=tk }) (n:= "range_iterator") st' rfl rfl (by decide) ⟨.int (lo-i),H,I1,⟨t,?_⟩,⟨rfl,rfl⟩,st',λb hb=>(hf b hb).1⟩⟩
  rw[Int.mul_neg,Int.mul_one,Int.sub_eq_add_neg]
 done:=by
  intro X hP hw hK hc i pins s σ H E I hf st hg
  subst hP hw hK
  obtain⟨f0,f1,f2,f3,f4,f5⟩:=hf it (by simp)
  exact wpAny_pyNext_range_end (I.ok.hd hc) st (by have:n<=i:=hg;omega) λh' eb=>⟨rfl,I.turned (t':=s.toks) (λb o hb e=>eb b o hb e) f0 f1 f3 f4 f5⟩
 self:=λ_ _ _ _ _ st h=>wpAny_pyIter_rangeiter st h
theorem zK(lo hi:Int):Builtin.Range.rangeSize lo hi (-1)=(((lo-hi).toNat:Nat):Int):=by
 unfold Builtin.Range.rangeSize
 rw[if_neg (by decide)]
 split
 ·rw[show(-(-1:Int))=1 from rfl,Int.ediv_one];omega
 ·omega
theorem small_down{a b:Int}(ha: -(2 ^ 62)<=a)(ha':a<2 ^ 62)(hb: -(2 ^ 62)<=b)(hb':b<2 ^ 62):Builtin.Range.small a b (-1)=true:=by
 unfold Builtin.Range.small
 rw[zK]
 simp only[Builtin.Range.rangeFitsLong,Bool.and_eq_true,Bool.or_eq_true,decide_eq_true_eq,beq_iff_eq,show ¬(-1:Int)>0 by decide,if_false]
 omega
section
variable{X:Cx}{tg:Expr}
theorem Hw{pins:List (Addr×Obj)}{σ:St}{H:Hp}{s:Shared}{R:It->Hp->Prop}{E:Value->Shared->Prop}{lo hi:Int}{t u v:Tok}{tk:Nat}(I:Inv X pins σ H s)(h1: -(2 ^ 62)<=lo)(h2:lo<2 ^ 62)(h3: -(2 ^ 62)<=hi)(h4:hi<2 ^ 62)
  (q:R (Sy lo (lo-hi).toNat) H) (htk:s.toks<=tk:=by first|exact Nat.le_refl _|exact Nat.le_succ _|assumption|omega):wpAny (model X.prog X.w) X.A (pyIter (.ref s.heap.objs.size)) (PIE X pins σ tg R) E { s with heap:=s.heap.push { cls:=.type "range",data:=.fields #[.int lo t,.int hi u,.int (-1) v] },toks:=tk }:=by
 refine wpAny_pyIter_range (IsRange.new ..) (small_down h1 h2 h3 h4) ?_
 have I1:Inv X pins σ H { s with heap:=s.heap.push { cls:=.type "range",data:=.fields #[.int lo t,.int hi u,.int (-1) v] },toks:=tk }:=I.kept λb o e=>Heap.get?_push_of_some _ e
 refine⟨(s.heap.push { cls:=.type "range",data:=.fields #[.int lo t,.int hi u,.int (-1) v] }).objs.size,[(s.heap.push { cls:=.type "range",data:=.fields #[.int lo t,.int hi u,.int (-1) v] }).objs.size],_,_,H,rfl,
  I1.kept (t':=tk) λb o e=>Heap.get?_push_of_some _ e,B3 _ lo (lo-hi).toNat,?_,λb hb=>?_,q⟩
 ·have e1:lo+((0:Nat):Int)*(-1)=lo:=by simp
  have e2:(((lo-hi).toNat:Nat):Int)-((0:Nat):Int)=Builtin.Range.rangeSize lo hi (-1):=by rw[zK];omega
  show IsRangeIter _ _ (lo+((0:Nat):Int)*(-1)) ((((lo-hi).toNat:Nat):Int)-((0:Nat):Int)) (-1)
  rw[e1,e2]
  exact Heap.get?_push_size _ rfl
 ·have e:b=(s.heap.push { cls:=.type "range",data:=.fields #[.int lo t,.int hi u,.int (-1) v] }).objs.size:=by simpa using hb
  subst e
  exact I1.sC (Nat.le_refl _) (I1.hok.fresh (Nat.le_refl _))
def Uu(ta:TA):TI:=λσ H R=>ta σ H λvs H1=>∃i j:Int,vs=[.int i,.int j,.int (-1)]/\(-(2 ^ 62)<=i/\i<2 ^ 62/\ -(2 ^ 62)<=j/\j<2 ^ 62)/\R (Sy i (i-j).toNat) H1
theorem zO {a b c:Expr} {ta:TA} {p pos:Pos} (hg:Gl X "range") (hm:X.mg "range" =none) (ha:PA X [a,b,c] ta) (hs:starEach [a,b,c] X.env=[(false,eval a X.env),(false,eval b X.env),(false,eval c X.env)]:=by rfl) (hs2:starEach [b,c] X.env=[(false,eval b X.env),(false,eval c X.env)]:=by rfl) :
  PI X tg (.Call (.Name "range" p) [a,b,c] [] pos) (Uu ta):=by
 intro pins s σ H R I h
 refine Call_ (om I hg hm boot_range (PyProof.Rows.callWith_type1 (dw (ha pos pins s σ H _ I h) λus s1 ⟨vs,H1,I1,r1,q1⟩=>?_) (by rw[hs,hs2]) (by rw[hs2];rfl)))
 obtain⟨i,j,e,⟨q1,q2,q3,q4⟩,q⟩:=q1
 subst e
 cases r1 with
 |cons r rr =>
  cases rr with
  |cons r' rr =>
   cases rr with
   |cons r'' rr =>
    cases rr
    obtain⟨t,rfl⟩:=r
    obtain⟨t',rfl⟩:=r'
    obtain⟨t'',rfl⟩:=r''
    exact call_range_3 (by decide) (Hw I1 q1 q2 q3 q4 q) (.inl (PyProof.noPylong_small (by decide)))
end
theorem Du{lo:Int}{n:Nat}{g:TG}{tb:TS}{D:Ends}{σ:St}{H:Hp}(Pv:Nat->St->Hp->Prop)(h0:Pv 0 σ H)
  (hs:∀i σ H,i<n->Pv i σ H->g (.int (lo-i)) σ H λσ2 H2=>tb { D with nx:=Pv (i+1),ct:=Pv (i+1),bk:=D.nx } σ2 H2) (hd:∀ σ H,Pv n σ H->D.nx σ H) :
  ∃W:Nat->Nat->St->Hp->Prop,(∃m,W 0 m σ H)/\∀i m σ H,W i m σ H →
   ((Sy lo n).stop i H/\D.nx σ H)\/((Sy lo n).go i H/\∃N:St->Hp->Prop,(∀ σ' H',N σ' H'->∃m',m'<m/\W (i+1) m' σ' H')/\∀x H',(Sy lo n).zq i H x H'->g x σ H' λσ2 H2=>tb { D with nx:=N,ct:=N,bk:=D.nx } σ2 H2):=by
 refine⟨λi m σ H=>m=n-i/\i<=n/\Pv i σ H,⟨n,by simp,Nat.zero_le _,h0⟩,?_⟩
 rintro i m σ H ⟨rfl,hi,p⟩
 by_cases hlt:i<n
 ·refine .inr ⟨hlt,Pv (i+1),λσ' H' p'=>⟨n-(i+1),by omega,rfl,hlt,p'⟩,λx H' y=>?_⟩
  obtain⟨e,y⟩:=y
  subst e y
  exact hs i σ _ hlt p
 ·have e:i=n:=by omega
  subst e
  exact .inl ⟨Nat.le_refl _,hd σ H p⟩
end L2
namespace GP
open PySem L2 sJ
abbrev xZ:=Option (Nat×Nat)
def Gd.bw(g:Gd)(E:bR->Bool):Nat->bR->Option (Int×List bR)
 | 0,s=>if E s then some (0,[])else none
 |d+1,s=>if E s then some (0,[])else fmin (·.1) ((g.steps s).filterMap λt=>(g.bw E d t.1).map λw=>(t.2+w.1,t.1::w.2))
def Gd.wB(g:Gd)(E:bR->Bool)(s:bR):Option (Int×List bR):=g.bw E (g.ht s) s
theorem iy{α β:Type}{l:List α}{f h:α->Option β}(e:∀a∈l,f a=h a):l.filterMap f=l.filterMap h:=by
 induction l with
 |nil=>rfl
 |cons a l ih=>rw[List.filterMap_cons,List.filterMap_cons,e a List.mem_cons_self,ih λb hb=>e b (List.mem_cons_of_mem _ hb)]
theorem Gd.uw{g:Gd}{s:bR}(h:g.ht s=0):g.steps s=[]:=by
 rw[List.eq_nil_iff_forall_not_mem]
 intro t ht
 have:=Gd.iK ht
 omega
theorem Gd.wz{g:Gd}{E:bR->Bool}:∀(d:Nat) (s:bR),g.ht s<=d->g.bw E d s=g.wB E s
 | 0,s,h=>by unfold Gd.wB;rw[Nat.le_zero.mp h]
 |d+1,s,h=>by
  have e1:∀t∈g.steps s,g.bw E d t.1=g.wB E t.1:=λt ht=>Gd.wz d t.1 (by have:=Gd.iK ht;omega)
  unfold Gd.wB
  cases hk:g.ht s with
  |zero =>
   show(if E s then _ else fmin _ (List.filterMap _ (g.steps s)))=(if E s then _ else none)
   rw[Gd.uw hk]
   rfl
  |succ k =>
   have e2:∀t∈g.steps s,g.bw E k t.1=g.wB E t.1:=λt ht=>Gd.wz k t.1 (by have:=Gd.iK ht;omega)
   show(if E s then _ else fmin _ (List.filterMap _ (g.steps s)))=(if E s then _ else fmin _ (List.filterMap _ (g.steps s)))
   rw[iy λt ht=>by rw[e1 t ht,←e2 t ht]]
 termination_by d=>d
theorem Gd.Bj{g:Gd}{E:bR->Bool}{s:bR}(h:E s=true):g.wB E s=some (0,[]):=by
 unfold Gd.wB
 cases g.ht s with
 |zero=>show(if E s then _ else _)=_;rw[if_pos h]
 |succ k=>show(if E s then _ else _)=_;rw[if_pos h]
theorem Gd.Bh{g:Gd}{E:bR->Bool}{s:bR}(h:E s=false):g.wB E s=fmin (·.1) ((g.steps s).filterMap λt=>(g.wB E t.1).map λw=>(t.2+w.1,t.1::w.2)):=by
 rw[←Gd.wz (g.ht s+1) s (Nat.le_succ _)]
 show(if E s then _ else _)=_
 rw[if_neg (by rw[h];exact Bool.false_ne_true)]
 rw[iy λt ht=>by rw[Gd.wz (g.ht s) t.1 (Nat.le_of_lt (Gd.iK ht))]]
theorem tU{α β:Type}{f:β->Int}{h:α->β}:∀l:List α,fmin f (l.map h)=(fmin (λa=>f (h a)) l).map h
 |[]=>rfl
 |a::l=>by
  rw[List.map_cons]
  unfold fmin
  rw[tU l]
  cases fmin (λa=>f (h a)) l with
  |none=>rfl
  |some b =>
   show(if f (h b)<f (h a)then some (h b)else some (h a))=Option.map h (if f (h b)<f (h a)then some b else some a)
   split<;>rfl
theorem ni{α β γ:Type}(f:α->Option β)(h:β->γ)(l:List α):(l.filterMap f).map h=l.filterMap λa=>(f a).map h:=by
 rw[List.map_filterMap]
def oE(u:Nat)(s:bR)(path:List bR):xZ:=if u<s.1 then none else((s::path).find? λt=>t.1==u).map λt=>(t.2.1,t.2.2)
def Gd.sv(g:Gd)(E:bR->Bool)(u:Nat)(s:bR):Option (Int×xZ):=(g.wB E s).map λw=>(w.1,oE u s w.2)
def Gd.cands(g:Gd)(x:bR->Option (Int×xZ))(s:bR):List (Int×xZ):=(g.steps s).filterMap λt=>(x t.1).map λw=>(t.2+w.1,w.2)
theorem Gd.Jz{g:Gd}{s:bR}{t:bR×Int}(h:t∈g.steps s):s.1<=t.1.1/\t.1.1<=s.1+1:=by
 rcases Gd.jz.mp h with⟨_,_,rfl⟩|⟨_,rfl⟩|⟨_,rfl⟩<;>simp
theorem Jy{u:Nat}{s t:bR}{path:List bR}(h1:s.1<=t.1)(h2:t.1<=s.1+1)(n:s.1≠u):oE u s (t::path)=oE u t path:=by
 unfold oE
 by_cases h:u<s.1
 ·rw[if_pos h,if_pos (by omega)]
 ·rw[if_neg h,if_neg (by omega),List.find?_cons,beq_false_of_ne n]
theorem Gd.xU{g:Gd}{E:bR->Bool}{u:Nat}{s:bR}{x:bR->Option (Int×xZ)}(hE:E s=false)(h1:∀t∈g.steps s,(x t.1).map (·.1)=(g.wB E t.1).map (·.1))(h2:s.1≠u->∀t∈g.steps s,x t.1=g.sv E u t.1):
  (fmin (·.1) (g.cands x s)).map (·.1)=(g.wB E s).map (·.1)/\(s.1≠u->fmin (·.1) (g.cands x s)=g.sv E u s):=by
 have low:∀{α:Type} (l:List (Int×α)),(fmin (·.1) l).map (·.1)=fmin id (l.map (·.1)):=λl=>(tU (f:=id) (h:=λ(w:Int×_)=>w.1) l).symm
 constructor
 ·rw[Gd.Bh hE,low,low]
  unfold Gd.cands
  rw[ni,ni]
  congr 1
  refine iy λt ht=>?_
  have e:=h1 t ht
  cases hx:x t.1 with
  |none =>
   rw[hx]at e
   have e':g.wB E t.1=none:=by
    cases hb:g.wB E t.1 with
    |none=>rfl
    |some b=>rw[hb]at e;cases e
   rw[e']
   rfl
  |some w =>
   rw[hx]at e
   cases hb:g.wB E t.1 with
   |none=>rw[hb]at e;cases e
   |some b =>
    rw[hb]at e
    have e':w.1=b.1:=Option.some.inj e
    show some (t.2+w.1)=some (t.2+b.1)
    rw[e']
 ·intro n
  unfold Gd.sv
  rw[Gd.Bh hE]
  unfold Gd.cands
  have e:=tU (f:=λ(w:Int×xZ)=>w.1) (h:=λ(w:Int×List bR)=>(w.1,oE u s w.2)) ((g.steps s).filterMap λt=>(g.wB E t.1).map λw=>(t.2+w.1,t.1::w.2))
  rw[←e,ni]
  congr 1
  refine iy λt ht=>?_
  rw[h2 n t ht]
  unfold Gd.sv
  cases g.wB E t.1 with
  |none=>rfl
  |some w =>
   obtain⟨r1,r2⟩:=Gd.Jz ht
   show some (t.2+w.1,oE u t.1 w.2)=some (t.2+w.1,oE u s (t.1::w.2))
   rw[Jy r1 r2 n]
theorem Gd.S3{g:Gd}{E:bR->Bool}{u:Nat}{s:bR}(h:s.1=u):g.sv E u s=((g.wB E s).map (·.1)).map λr=>(r,some (s.2.1,s.2.2)):=by
 unfold Gd.sv
 cases g.wB E s with
 |none=>rfl
 |some w =>
  show some (w.1,oE u s w.2)=some (w.1,some (s.2.1,s.2.2))
  unfold oE
  rw[if_neg (by omega),List.find?_cons,h,beq_self_eq_true]
  rfl
theorem Gd.QF{g:Gd}{E:bR->Bool}{u:Nat}{s:bR}(h:E s=true)(n:s.1≠u):g.sv E u s=some (0,none):=by
 unfold Gd.sv
 rw[Gd.Bj h]
 show some ((0:Int),oE u s [])=_
 unfold oE
 split
 ·rfl
 ·rw[List.find?_cons,beq_false_of_ne n]
  rfl
def fM(s:bR)(v:Nat):bR:=(if v=98 then s.1 else s.1+1,if v=97 then s.2.1 else s.2.1+1,v)
def m6:bR->List Nat->List bR
 |_,[]=>[]
 |s,v::vs=>fM s v::m6 (fM s v) vs
theorem Gd.F6{g:Gd}{s:bR}{t:bR×Int}(h:t∈g.steps s):t.1=fM s t.1.2.2:=by
 rcases Gd.jz.mp h with⟨_,_,rfl⟩|⟨_,rfl⟩|⟨_,rfl⟩<;>rfl
structure Gd.LQ(g:Gd):Prop where
 en:∀i j,g.en i j=decide (i=g.n/\j=g.m)
def Gd.last(g:Gd)(s:bR):Bool:=decide (s.1=g.n/\s.2.1=g.m)
theorem Gd.z7{g:Gd}{E:bR->Bool}(W:g.LQ)(hE:∀s,g.In s->E s=g.last s):∀(d:Nat) (s:bR),g.In s->g.ht s<=d->g.wB E s=some (g.rest s,m6 s (g.moves s))
 |d,s,hs,hd=>by
  have ok:g.Ok:=by show g.en g.n g.m=true;rw[W.en];simp
  by_cases e:s.1=g.n/\s.2.1=g.m
  ·have hl:E s=true:=by rw[hE s hs];exact decide_eq_true e
   have st:g.steps s=[]:=Gd.uw (by unfold Gd.ht;omega)
   have r0:g.rest s=0:=by
    rw[g.rest_eq]
    unfold Gd.costs
    rw[st,W.en,e.1,e.2]
    simp[vL]
   have hst:g.stop s=true:=by
    unfold Gd.stop
    rw[W.en,r0,decide_eq_true e]
    rfl
   rw[Gd.Bj hl,r0,Gd.se hst]
   rfl
  ·have hl:E s=false:=by rw[hE s hs];exact decide_eq_false e
   have hst:g.stop s=false:=by
    unfold Gd.stop
    rw[W.en,decide_eq_false e]
    rfl
   obtain⟨t,ht,htm,en,ek,_⟩:=g.go ok hs hst
   have h1:=Gd.iK htm
   have key:∀u∈g.steps s,g.wB E u.1=some (g.rest u.1,m6 u.1 (g.moves u.1)):=λu hu=>by
    have h2:=Gd.iK hu
    cases d with
    |zero=>omega
    |succ d=>exact Gd.z7 W hE d u.1 (Gd.oU hu hs) (by omega)
   rw[Gd.Bh hl,iy λu hu=>by rw[key u hu]]
   show fmin (·.1) ((g.steps s).filterMap λu=>some (u.2+g.rest u.1,u.1::m6 u.1 (g.moves u.1)))=_
   rw[show((g.steps s).filterMap λu=>some (u.2+g.rest u.1,u.1::m6 u.1 (g.moves u.1)))=(g.steps s).map (λu=>(u.2+g.rest u.1,u.1::m6 u.1 (g.moves u.1))) from List.filterMap_eq_map (f:=λ(u:bR×Int)=>(u.2+g.rest u.1,u.1::m6 u.1 (g.moves u.1)))▸rfl,tU]
   rw[show fmin (λ(a:bR×Int)=>a.2+g.rest a.1) (g.steps s)=some t from ht]
   show some (t.2+g.rest t.1,t.1::m6 t.1 (g.moves t.1))=_
   rw[show t.2+g.rest t.1=g.rest s from ek,Gd.xC ok hs hst,en]
   show _=some (g.rest s,fM s t.1.2.2::m6 (fM s t.1.2.2) (g.moves t.1))
   rw[←Gd.F6 htm]
 termination_by d=>d
def downs(s:bR)(mv:List Nat):List bR:=(m6 s mv).filter λt=>t.2.2 != 98
theorem qQ:∀(mv:List Nat) (s:bR) (k:Nat),(s::m6 s mv).find? (λt=>t.1==s.1+k)=(s::downs s mv)[k]?
 |mv,s,0=>by
  rw[List.find?_cons,Nat.add_zero,beq_self_eq_true]
  rfl
 |[],s,k+1=>by
  rw[List.find?_cons,beq_false_of_ne (by omega)]
  rfl
 |v::vs,s,k+1=>by
  rw[List.find?_cons,beq_false_of_ne (by omega)]
  show(fM s v::m6 (fM s v) vs).find? (λt=>t.1==s.1+(k+1))=(downs s (v::vs))[k]?
  by_cases e:v=98
  ·have r:(fM s v).1=s.1:=by unfold fM;rw[if_pos e]
   rw[←r,qQ vs (fM s v) (k+1)]
   show(downs (fM s v) vs)[k]? =_
   unfold downs
   rw[show m6 s (v::vs)=fM s v::m6 (fM s v) vs from rfl,List.filter_cons_of_neg (by show ¬(v != 98)=true;rw[e];decide)]
  ·have r:(fM s v).1=s.1+1:=by unfold fM;rw[if_neg e]
   rw[show s.1+(k+1)=(fM s v).1+k by omega,qQ vs (fM s v) k]
   unfold downs
   rw[show m6 s (v::vs)=fM s v::m6 (fM s v) vs from rfl,List.filter_cons_of_pos (by show(v != 98)=true;rw[bne_iff_ne];exact e)]
theorem Gd.z5{g:Gd}:∀{mv:List Nat} {s e:bR} {c:Int},g.walk s mv=some (c,e)->e.1=s.1+(downs s mv).length
 |[],s,e,c,h=>by cases h;rfl
 |v::vs,s,e,c,h=>by
  obtain⟨t,c',ht,rfl,hw,_⟩:=Gd.Jh h
  have ih:=Gd.z5 hw
  have em:=Gd.F6 ht
  rw[em]at ih
  unfold downs at ih ⊢
  rw[show m6 s (t.1.2.2::vs)=fM s t.1.2.2::m6 (fM s t.1.2.2) vs from rfl]
  by_cases q:t.1.2.2=98
  ·rw[List.filter_cons_of_neg (by show ¬(t.1.2.2 != 98)=true;rw[q];decide),ih]
   unfold fM
   rw[if_pos q]
  ·rw[List.filter_cons_of_pos (by show(t.1.2.2 != 98)=true;rw[bne_iff_ne];exact q),ih,List.length_cons]
   unfold fM
   rw[if_neg q]
   simp only
   omega
theorem Gd.Jx{g:Gd}{E:bR->Bool}(W:g.LQ)(hE:∀s,g.In s->E s=g.last s){s:bR}(hs:g.In s)(k:Nat):g.sv E (s.1+k) s=some (g.rest s,((s::downs s (g.moves s))[k]?).map λt=>(t.2.1,t.2.2)):=by
 unfold Gd.sv
 rw[Gd.z7 W hE _ s hs (Nat.le_refl _)]
 show some (g.rest s,oE (s.1+k) s (m6 s (g.moves s)))=_
 unfold oE
 rw[if_neg (by omega),qQ]
end GP
namespace GP
open PySem L2 sJ
def LP(T:PT)(v c:Nat):Int:=if v=c then jU (uT T) T.2.2.2 else jU (uT T) T.2.2.1+jU (uT T) T.2.2.2
abbrev CF:=Nat->Option (Int×xZ)
def iA:CF:=λ_=>none
def oB(T:PT)(c:Nat)(pr:Int)(fa fu fb:CF):List (Int×xZ):=((fa 112).map λw=>(pr+w.1,w.2)).toList++(((fu 97).map λw=>(LP T 97 c+w.1,w.2)).toList++((fb 98).map λw=>(LP T 98 c+w.1,w.2)).toList)
def kK(T:PT)(pr:Int)(fa fu fb:CF):CF:=λc=>if c∈vU then fmin (·.1) (oB T c pr fa fu fb)else none
def jd(T:PT)(L:List Nat):Nat->CF
 | 0=>λc=>if c∈L then some (0,none)else none
 |k+1=>kK T 0 iA iA (jd T L k)
def cS(T:PT)(pc:Nat->Int)(U:Nat->CF)(m:Nat):Nat->CF
 | 0=>kK T 0 iA (U m) iA
 |k+1=>kK T (pc (m-(k+1))) (U (m-(k+1)+1)) (U (m-(k+1))) (cS T pc U m k)
def sM(R:Nat->CF):Nat->CF:=λj c=>(R j c).map λw=>(w.1,some (j,c))
def qp(n m:Nat)(L:List Nat):bR->Bool:=λs=>decide (s.1=n/\s.2.1=m/\s.2.2∈L)
def vV(g:Gd)(E:bR->Bool)(u i:Nat)(R:Nat->CF)(j:Nat):Prop:=∀c∈vU,(R j c).map (·.1)=(g.wB E (i,j,c)).map (·.1)/\(i≠u->R j c=g.sv E u (i,j,c))
def DK(g:Gd)(E:bR->Bool)(u i:Nat)(S:Nat->CF):Prop:=∀j,j<=g.m->∀c∈vU,S j c=g.sv E u (i,j,c)
theorem DK.val{g:Gd}{E:bR->Bool}{u i j c:Nat}{S:Nat->CF}(h:DK g E u i S)(hj:j<=g.m)(hc:c∈vU):(S j c).map (·.1)=(g.wB E (i,j,c)).map (·.1):=by
 rw[h j hj c hc]
 unfold Gd.sv
 cases g.wB E (i,j,c)<;>rfl
theorem vV.s{g:Gd}{E:bR->Bool}{u i:Nat}{R:Nat->CF}(h:∀j,j<=g.m->vV g E u i R j)(n:i≠u):DK g E u i R:=λj hj c hc=>(h j hj c hc).2 n
theorem vV.stops{g:Gd}{E:bR->Bool}{u:Nat}{R:Nat->CF}(h:∀j,j<=g.m->vV g E u u R j):DK g E u u (sM R):=λj hj c hc=>by
 rw[Gd.S3 (s:=(u,j,c)) rfl,←(h j hj c hc).1]
 unfold sM
 cases R j c<;>rfl
theorem Lz:112∈vU:=by decide
theorem G1:97∈vU:=by decide
theorem Ox:98∈vU:=by decide
section
variable{T:PT}{mn f s:Str}{L:List Nat}{u:Nat}
theorem zS(hL:∀c∈L,c∈vU):∀k,k<=s.cps.size->vV (fL T mn f s) (qp f.cps.size s.cps.size L) u f.cps.size (λj=>jd T L (s.cps.size-j)) (s.cps.size-k)
 | 0,_=>λc hc=>by
  rw[Nat.sub_zero]
  show((jd T L (s.cps.size-s.cps.size) c).map (·.1)=_)/\(_->jd T L (s.cps.size-s.cps.size) c=_)
  rw[Nat.sub_self]
  show((if c∈L then some ((0:Int),(none:xZ))else none).map (·.1)=_)/\(_->(if c∈L then some ((0:Int),(none:xZ))else none)=_)
  by_cases e:c∈L
  ·have hE:qp f.cps.size s.cps.size L (f.cps.size,s.cps.size,c)=true:=decide_eq_true ⟨rfl,rfl,e⟩
   rw[if_pos e,Gd.Bj hE]
   exact⟨rfl,λn=>(Gd.QF hE n).symm⟩
  ·have hE:qp f.cps.size s.cps.size L (f.cps.size,s.cps.size,c)=false:=decide_eq_false λz=>e z.2.2
   have st:(fL T mn f s).steps (f.cps.size,s.cps.size,c)=[]:=Gd.uw (by show f.cps.size-f.cps.size+(s.cps.size-s.cps.size)=0;omega)
   rw[if_neg e]
   unfold Gd.sv
   rw[Gd.Bh hE,st]
   exact⟨rfl,λ_=>rfl⟩
 |k+1,hk=>λc hc=>by
  have ih:=zS hL k (by omega)
  have hE:qp f.cps.size s.cps.size L (f.cps.size,s.cps.size-(k+1),c)=false:=decide_eq_false λz=>by have:=z.2.1;simp only at this;omega
  have hc1:=Gd.xU (g:=fL T mn f s) (u:=u) (s:=(f.cps.size,s.cps.size-(k+1),c)) (x:=λt=>jd T L (s.cps.size-t.2.1) t.2.2) hE (λt ht=>?_) λn t ht=>?_
  ·have e2:(fL T mn f s).cands (λt=>jd T L (s.cps.size-t.2.1) t.2.2) (f.cps.size,s.cps.size-(k+1),c)=oB T c 0 iA iA (jd T L k):=by
    unfold Gd.cands Gd.steps oB iA
    show List.filterMap _ ((if f.cps.size<f.cps.size/\s.cps.size-(k+1)<s.cps.size then _ else _)++((if f.cps.size<f.cps.size then _ else _)++(if s.cps.size-(k+1)<s.cps.size then _ else _)))=_
    rw[if_neg (c:=f.cps.size<f.cps.size/\s.cps.size-(k+1)<s.cps.size) (λz=>absurd z.1 (Nat.lt_irrefl _)),if_neg (c:=f.cps.size<f.cps.size) (Nat.lt_irrefl _),if_pos (c:=s.cps.size-(k+1)<s.cps.size) (by omega)]
    show List.filterMap _ [((f.cps.size,s.cps.size-(k+1)+1,98),(fL T mn f s).ac 98 c)]=_
    rw[List.filterMap_cons,List.filterMap_nil]
    simp only[show s.cps.size-(s.cps.size-(k+1)+1)=k by omega,Option.map_none,Option.toList_none,List.nil_append]
    show _=((jd T L k 98).map λw=>((fL T mn f s).ac 98 c+w.1,w.2)).toList
    cases jd T L k 98<;>rfl
   rw[e2]at hc1
   show((jd T L (s.cps.size-(s.cps.size-(k+1))) c).map (·.1)=_)/\(_->jd T L (s.cps.size-(s.cps.size-(k+1))) c=_)
   rw[show s.cps.size-(s.cps.size-(k+1))=k+1 by omega]
   show((kK T 0 iA iA (jd T L k) c).map (·.1)=_)/\(_->kK T 0 iA iA (jd T L k) c=_)
   unfold kK
   rw[if_pos hc]
   exact hc1
  all_goals
   rcases Gd.jz.mp ht with⟨z,_⟩|⟨z,_⟩|⟨_,rfl⟩
   ·exact absurd z (Nat.lt_irrefl _)
   ·exact absurd z (Nat.lt_irrefl _)
   ·have:=ih 98 Ox
    rw[show s.cps.size-k=s.cps.size-(k+1)+1 by omega]at this
    first|exact this.1|exact this.2 n
theorem FA{i:Nat}{U:Nat->CF}(hi:i<f.cps.size)(hU:DK (fL T mn f s) (qp f.cps.size s.cps.size L) u (i+1) U):∀k,k<=s.cps.size->vV (fL T mn f s) (qp f.cps.size s.cps.size L) u i (λj=>cS T ((fL T mn f s).pc i) U s.cps.size (s.cps.size-j)) (s.cps.size-k):=by
 have hE:∀j c,qp f.cps.size s.cps.size L (i,j,c)=false:=λj c=>decide_eq_false λz=>by have:=z.1;simp only at this;omega
 have xp:∀(j c:Nat),(λt:bR=>if t.1=i then cS T ((fL T mn f s).pc i) U s.cps.size (s.cps.size-t.2.1) t.2.2 else U t.2.1 t.2.2) (i+1,j,c)=U j c:=λj c=>if_neg (by simp)
 have xb:∀(j c:Nat),(λt:bR=>if t.1=i then cS T ((fL T mn f s).pc i) U s.cps.size (s.cps.size-t.2.1) t.2.2 else U t.2.1 t.2.2) (i,j,c)=cS T ((fL T mn f s).pc i) U s.cps.size (s.cps.size-j) c:=λj c=>if_pos rfl
 intro k
 induction k with
 |zero =>
  intro _ c hc
  have hc1:=Gd.xU (g:=fL T mn f s) (u:=u) (s:=(i,s.cps.size,c)) (x:=λt=>if t.1=i then cS T ((fL T mn f s).pc i) U s.cps.size (s.cps.size-t.2.1) t.2.2 else U t.2.1 t.2.2) (hE _ _) (λt ht=>?_) λn t ht=>?_
  ·have e2:(fL T mn f s).cands (λt=>if t.1=i then cS T ((fL T mn f s).pc i) U s.cps.size (s.cps.size-t.2.1) t.2.2 else U t.2.1 t.2.2) (i,s.cps.size,c)=oB T c 0 iA (U s.cps.size) iA:=by
    unfold Gd.cands Gd.steps oB
    show List.filterMap _ ((if i<f.cps.size/\s.cps.size<s.cps.size then _ else _)++((if i<f.cps.size then _ else _)++(if s.cps.size<s.cps.size then _ else _)))=_
    rw[if_neg (c:=i<f.cps.size/\s.cps.size<s.cps.size) (λz=>absurd z.2 (Nat.lt_irrefl _)),if_pos (c:=i<f.cps.size) hi,if_neg (c:=s.cps.size<s.cps.size) (Nat.lt_irrefl _)]
    show List.filterMap _ [((i+1,s.cps.size,97),(fL T mn f s).ac 97 c)]=_
    rw[List.filterMap_cons,List.filterMap_nil]
    simp only[xp]
    simp only[iA,Option.map_none,Option.toList_none,List.nil_append,List.append_nil]
    show _=((U s.cps.size 97).map λw=>((fL T mn f s).ac 97 c+w.1,w.2)).toList
    cases U s.cps.size 97<;>rfl
   rw[e2]at hc1
   show((cS T ((fL T mn f s).pc i) U s.cps.size (s.cps.size-(s.cps.size-0)) c).map (·.1)=_)/\(_->cS T ((fL T mn f s).pc i) U s.cps.size (s.cps.size-(s.cps.size-0)) c=_)
   rw[show s.cps.size-(s.cps.size-0)=0 by omega,Nat.sub_zero]
   show((kK T 0 iA (U s.cps.size) iA c).map (·.1)=_)/\(_->kK T 0 iA (U s.cps.size) iA c=_)
   unfold kK
   rw[if_pos hc]
   exact hc1
  all_goals
   rcases Gd.jz.mp ht with⟨_,z,_⟩|⟨_,rfl⟩|⟨z,_⟩
   ·exact absurd z (Nat.lt_irrefl _)
   ·have z1:=hU.val (j:=s.cps.size) (Nat.le_refl _) G1
    have z2:=hU s.cps.size (Nat.le_refl _) 97 G1
    simp only[xp]
    first|exact z1|exact z2
   ·exact absurd z (Nat.lt_irrefl _)
 |succ k ihk =>
  intro hk c hc
  have ih:=ihk (by omega)
  have hj:s.cps.size-(k+1)+1=s.cps.size-k:=by omega
  have hc1:=Gd.xU (g:=fL T mn f s) (u:=u) (s:=(i,s.cps.size-(k+1),c)) (x:=λt=>if t.1=i then cS T ((fL T mn f s).pc i) U s.cps.size (s.cps.size-t.2.1) t.2.2 else U t.2.1 t.2.2) (hE _ _) (λt ht=>?_) λn t ht=>?_
  ·have e2:(fL T mn f s).cands (λt=>if t.1=i then cS T ((fL T mn f s).pc i) U s.cps.size (s.cps.size-t.2.1) t.2.2 else U t.2.1 t.2.2) (i,s.cps.size-(k+1),c)=oB T c ((fL T mn f s).pc i (s.cps.size-(k+1))) (U (s.cps.size-(k+1)+1)) (U (s.cps.size-(k+1))) (cS T ((fL T mn f s).pc i) U s.cps.size k):=by
    unfold Gd.cands Gd.steps oB
    show List.filterMap _ ((if i<f.cps.size/\s.cps.size-(k+1)<s.cps.size then _ else _)++((if i<f.cps.size then _ else _)++(if s.cps.size-(k+1)<s.cps.size then _ else _)))=_
    rw[if_pos (c:=i<f.cps.size/\s.cps.size-(k+1)<s.cps.size) ⟨hi,by omega⟩,if_pos (c:=i<f.cps.size) hi,if_pos (c:=s.cps.size-(k+1)<s.cps.size) (by omega)]
    show List.filterMap _ [((i+1,s.cps.size-(k+1)+1,112),(fL T mn f s).pc i (s.cps.size-(k+1))),((i+1,s.cps.size-(k+1),97),(fL T mn f s).ac 97 c),((i,s.cps.size-(k+1)+1,98),(fL T mn f s).ac 98 c)]=_
    simp only[List.filterMap_cons,List.filterMap_nil,xp,xb]
    rw[show s.cps.size-(s.cps.size-(k+1)+1)=k by omega]
    show _=((U (s.cps.size-(k+1)+1) 112).map _).toList++(((U (s.cps.size-(k+1)) 97).map λw=>((fL T mn f s).ac 97 c+w.1,w.2)).toList++((cS T ((fL T mn f s).pc i) U s.cps.size k 98).map λw=>((fL T mn f s).ac 98 c+w.1,w.2)).toList)
    cases U (s.cps.size-(k+1)+1) 112<;>cases U (s.cps.size-(k+1)) 97<;>cases cS T ((fL T mn f s).pc i) U s.cps.size k 98<;>rfl
   rw[e2]at hc1
   show((cS T ((fL T mn f s).pc i) U s.cps.size (s.cps.size-(s.cps.size-(k+1))) c).map (·.1)=_)/\(_->cS T ((fL T mn f s).pc i) U s.cps.size (s.cps.size-(s.cps.size-(k+1))) c=_)
   rw[show s.cps.size-(s.cps.size-(k+1))=k+1 by omega]
   show((kK T ((fL T mn f s).pc i (s.cps.size-(k+1))) (U (s.cps.size-(k+1)+1)) (U (s.cps.size-(k+1))) (cS T ((fL T mn f s).pc i) U s.cps.size k) c).map (·.1)=_)/\(_->kK T ((fL T mn f s).pc i (s.cps.size-(k+1))) (U (s.cps.size-(k+1)+1)) (U (s.cps.size-(k+1))) (cS T ((fL T mn f s).pc i) U s.cps.size k) c=_)
   unfold kK
   rw[if_pos hc]
   exact hc1
  all_goals
   rcases Gd.jz.mp ht with⟨_,_,rfl⟩|⟨_,rfl⟩|⟨_,rfl⟩
   ·have z1:=hU.val (j:=s.cps.size-(k+1)+1) (by show _<=s.cps.size;omega) Lz
    have z2:=hU (s.cps.size-(k+1)+1) (by show _<=s.cps.size;omega) 112 Lz
    simp only[xp]
    first|exact z1|exact z2
   ·have z1:=hU.val (j:=s.cps.size-(k+1)) (by show _<=s.cps.size;omega) G1
    have z2:=hU (s.cps.size-(k+1)) (by show _<=s.cps.size;omega) 97 G1
    simp only[xp]
    first|exact z1|exact z2
   ·have z:=ih 98 Ox
    simp only at z
    simp only[xb]
    rw[hj]
    first|exact z.1|exact z.2 n
end
end GP
namespace L2
open PySem PySem.Spec PyProof.Rows PySem.W
theorem AI{X:Cx}(hu:X.A.units+1<cLine):ud X (compareOp .In) (λx y H Q=>∃a o,y= .ref a/\pR H a x o/\Q (.bl o.isSome) H):=by
 intro pins s σ H x y u v Q I rx ry h
 obtain⟨a,o,rfl,g,q⟩:=h
 cases (show v=Value.ref a from ry)
 exact Z0 hu I g rx λs' I'=>⟨.bl o.isSome,H,I',rfl,q⟩
end L2
namespace GP
open PySem L2 sJ
def kS(c:Nat):Key:=.inr ⟨#[c]⟩
theorem Ro{a b:Nat}(h:kS a=kS b):a=b:=by
 unfold kS at h
 simpa using h
def Sw(H:Hp):xZ->V->Prop
 |none,v=>v= .gB
 |some q,v=>∃p,v= .ref p/\H p=some (.tup [.int (q.1:Int),.str ⟨#[q.2]⟩])
def sH(H:Hp)(w:Int×xZ)(v:V):Prop:=∃p x,v= .ref p/\H p=some (.tup [.int w.1,x])/\Sw H w.2 x
def WyO(H:Hp):Option (Int×xZ)->V->Prop
 |none,v=>v= .gB
 |some w,v=>sH H w v
def Mc(H H':Hp):Prop:=∀p xs,H p=some (.tup xs)->H' p=some (.tup xs)
theorem rJ{H H':Hp}(e:ai H H'):Mc H H':=λp xs q=>e _ _ q
theorem Sw.tps{H H':Hp}{s:xZ}{v:V}(h:Sw H s v)(e:Mc H H'):Sw H' s v:=by
 cases s with
 |none=>exact h
 |some q=>obtain⟨p,a,b⟩:=h;exact⟨p,a,e _ _ b⟩
theorem sH.tps{H H':Hp}{w:Int×xZ}{v:V}(h:sH H w v)(e:Mc H H'):sH H' w v:=by
 obtain⟨p,x,a,b,c⟩:=h
 exact⟨p,x,a,e _ _ b,c.tps e⟩
theorem rK{H:Hp}{d:Addr}{o u:HO}(h:H d=some u)(n:∀xs,u≠ .tup xs):Mc H (L2.upd H d o):=λp xs e=>by
 rw[au (λz=>by rw[z,h]at e;exact n xs (Option.some.inj e))]
 exact e
theorem Mq{H:Hp}{d:Addr}{o:HO}(h:H d=none):Mc H (L2.upd H d o):=rJ (ai.upd h)
theorem Mc.trans{H H' LV:Hp}(a:Mc H H')(b:Mc H' LV):Mc H LV:=λp xs e=>b p xs (a p xs e)
def IW(H:Hp)(f:CF)(kvs:List (Key×V))(cs:List Nat):Prop:=cs.Nodup/\Paired (λe c=>e.1=kS c/\∃w,f c=some w/\sH H w e.2) kvs cs
theorem IW.tps{H H':Hp}{f:CF}{kvs:List (Key×V)}{cs:List Nat}(h:IW H f kvs cs)(e:Mc H H'):IW H' f kvs cs:=⟨h.1,Paired.g8 h.2 λ_ _ ⟨a,w,b,c⟩=>⟨a,w,b,c.tps e⟩⟩
def jy(H:Hp)(d:Addr)(f:CF):Prop:=∃kvs cs,H d=some (.dK kvs)/\IW H f kvs cs/\(∀c,(f c).isSome=true->c∈cs)/\cs.length<=3
theorem jy.same{H H':Hp}{d:Addr}{f:CF}(h:jy H d f)(e:ai H H'):jy H' d f:=by
 obtain⟨kvs,cs,a,b,c⟩:=h
 exact⟨kvs,cs,e _ _ a,b.tps (rJ e),c⟩
theorem Bb{H:Hp}{f:CF}(c:Nat):∀{kvs:List (Key×V)} {cs:List Nat},Paired (λ(e:Key×V) c=>e.1=kS c/\∃w,f c=some w/\sH H w e.2) kvs cs->(c∈cs->∃v w,kF kvs (kS c)=some v/\f c=some w/\sH H w v)/\(c∉cs->kF kvs (kS c)=none)
 |_,_,.nil=>⟨λh=>(nomatch h),λ_=>rfl⟩
 |_,_,.cons (a:=e) (b:=b) ⟨h1,w,h2,h3⟩ r=>by
  obtain⟨i1,i2⟩:=Bb c r
  by_cases z:b=c
  ·subst z
   exact⟨λ_=>⟨e.2,w,gz h1,h2,h3⟩,λn=>absurd List.mem_cons_self n⟩
  ·have n:¬e.1=kS c:=λq=>z (Ro (h1.symm.trans q))
   rw[gA n]
   refine⟨λh=>i1 ?_,λh=>i2 λq=>h (List.mem_cons_of_mem _ q)⟩
   rcases List.mem_cons.mp h with h|h
   ·exact absurd h.symm z
   ·exact h
theorem jy.val{H:Hp}{d:Addr}{f:CF}(h:jy H d f)(c:Nat):(f c=none/\pR H d (.str ⟨#[c]⟩) none)\/∃w v,f c=some w/\pR H d (.str ⟨#[c]⟩) (some v)/\sH H w v:=by
 obtain⟨kvs,cs,h1,h2,h3,_⟩:=h
 obtain⟨i1,i2⟩:=Bb c h2.2
 have g:=pR.k (k:=kS c) h1
 by_cases z:c∈cs
 ·obtain⟨v,w,a,b,e⟩:=i1 z
  rw[a]at g
  exact .inr ⟨w,v,b,g,e⟩
 ·rw[i2 z]at g
  refine .inl ⟨?_,g⟩
  cases hf:f c with
  |none=>rfl
  |some w=>exact absurd (h3 c (by rw[hf];rfl)) z
theorem IW.put{H:Hp}{f:CF}{kvs:List (Key×V)}{cs:List Nat}{c:Nat}{w:Int×xZ}{v:V}(h:IW H f kvs cs)(n:c∉cs)(hf:f c=some w)(hw:sH H w v):IW H f (putK kvs (kS c) v) (cs++[c]):=by
 rw[JX _ ((Bb c h.2).2 n)]
 refine⟨List.nodup_append.mpr ⟨h.1,by simp,λa ha b hb z=>?_⟩,Paired.snoc h.2 ⟨rfl,w,hf,hw⟩⟩
 rw[List.mem_singleton.mp hb]at z
 exact n (by rw[←z];exact ha)
def jT(H:Hp)(l:Addr)(F:Nat->CF)(m:Nat):Prop:=∃ds:List Addr,H l=some (.lst (ds.map V.ref))/\ds.length=m+1/\∀j d,ds[j]? =some d->jy H d (F j)
theorem jT.same{H H':Hp}{l:Addr}{F:Nat->CF}{m:Nat}(h:jT H l F m)(e:ai H H'):jT H' l F m:=by
 obtain⟨ds,a,b,c⟩:=h
 exact⟨ds,e _ _ a,b,λj d hd=>(c j d hd).same e⟩
theorem jT.get{H:Hp}{l:Addr}{F:Nat->CF}{m j:Nat}(h:jT H l F m)(hj:j<=m):∃(ds:List Addr) (d:Addr),H l=some (.lst (ds.map V.ref))/\Af (ds.map V.ref) (j:Int)=some (.ref d)/\ds.length=m+1/\jy H d (F j):=by
 obtain⟨ds,a,b,c⟩:=h
 have hl:j<ds.length:=by omega
 exact⟨ds,ds[j],a,fQ (by rw[List.getElem?_map,List.getElem?_eq_getElem hl];rfl),b,c j _ (List.getElem?_eq_getElem hl)⟩
def Bp(H:Hp)(l:Addr)(ws:List (Int×xZ)):Prop:=∃ps:List Addr,H l=some (.lst (ps.map V.ref))/\Paired (λp w=>sH H w (.ref p)) ps ws
theorem Bp.put{H H5:Hp}{l q:Addr}{ws:List (Int×xZ)}{w:Int×xZ}{x:V}{ps:List Addr}(h1:H l=some (.lst (ps.map V.ref)))(h2:Paired (λp w=>sH H w (.ref p)) ps ws)(e:ai H H5)(hq:H5 q=none)(hx:Sw H5 w.2 x):Bp (L2.upd (L2.upd H5 q (.tup [.int w.1,x])) l (.lst (ps.map V.ref++[.ref q]))) l (ws++[w]):=by
 have hl:=(ai.upd (o:=.tup [.int w.1,x]) hq) _ _ (e _ _ h1)
 have t1:=Mq (o:=.tup [.int w.1,x]) hq
 have t2:=rK (o:=.lst (ps.map V.ref++[.ref q])) hl (λ_ z=>by cases z)
 refine⟨ps++[q],by rw[af,List.map_append];rfl,Paired.snoc (Paired.g8 h2 λ_ _ z=>z.tps ((rJ e).trans (t1.trans t2))) ⟨q,x,rfl,t2 _ _ af,hx.tps (t1.trans t2)⟩⟩
theorem LO{T:PT}{a:Str}{v c:Nat}(h:a=⟨#[v]⟩):(if a=⟨#[c]⟩then jU (bO T.2.2.1.2 T.2.2.2.2 T.2.1) T.2.2.2 else jU (bO T.2.2.1.2 T.2.2.2.2 T.2.1) T.2.2.1+jU (bO T.2.2.1.2 T.2.2.2.2 T.2.1) T.2.2.2)=LP T v c:=V.int.inj (LN (m:=a) (f:=a) (s:=a) h)
theorem Mi{H:Hp}{ws:List (Int×xZ)}{ps:List Addr}{i:Nat}{v:V}(pp:Paired (λp w=>sH H w (.ref p)) ps ws)(hv:(ps.map V.ref)[i]? =some v)(hL:BG (λi=>(ws.getD i (0,none)).1) (ps.map V.ref).length i):WyO H (fmin (·.1) ws) v:=by
 obtain⟨p,hp,rfl⟩:=g7 hv
 obtain⟨w,hw,hwy⟩:=GP.Paired.at pp hp
 have e:fmin (·.1) ws=some w:=wm hw λj y hj=>by
  have lt:j<(ps.map V.ref).length:=by rw[List.length_map,Paired.len pp];exact(List.getElem?_eq_some_iff.mp hj).1
  have z:=hL j lt
  simp only[show ws.getD i (0,none)=w from nX hw,show ws.getD j (0,none)=y from nX hj]at z
  exact z
 rw[e]
 exact hwy
def S5:Sp:=λvs H Q _=>∃(p:Addr) (n:Int) (xs:List V),vs=[.ref p]/\H p=some (.tup (.int n::xs))/\Q (.int n) H
def JN(K:PySem.W.Frag)(C:Addr):Sp:=λvs H Q _=>∃(pr A U B:Addr) (T:PT) (c:Nat) (pair:Int) (fa fu fb:CF),vs=[.ref pr,.str ⟨#[c]⟩,.int pair,.ref A,.ref U,.ref B]/\yp K C H pr T/\jy H A fa/\jy H U fu/\jy H B fb/\∀v H',ai H H'->WyO H' (fmin (·.1) (oB T c pair fa fu fb)) v->Q v H'
def Aw(K:PySem.W.Frag)(C:Addr):Sp:=λvs H Q _=>∃(pr A U B:Addr) (T:PT) (pair:Int) (fa fu fb:CF),vs=[.ref pr,.int pair,.ref A,.ref U,.ref B]/\yp K C H pr T/\jy H A fa/\jy H U fu/\jy H B fb/\∀d H',ai H H'->H d=none->jy H' d (kK T pair fa fu fb)->Q (.ref d) H'
def Vs(K:PySem.W.Frag)(H:Hp)(v:V)(L:List Nat):Prop:=∃c:Cp,v=c.val/\c.at K H (L.map λa=>V.str ⟨#[a]⟩)/\L.Nodup/\L.length<=3
def JL(K:PySem.W.Frag)(C:Addr):Sp:=λvs H Q _=>∃(pr:Addr) (v:V) (T:PT) (s:Str) (L:List Nat),vs=[.ref pr,.str s,v]/\yp K C H pr T/\s.cps.size<=12/\Vs K H v L/\∀l H',ai H H'->H l=none->jT H' l (λj=>jd T L (s.cps.size-j)) s.cps.size->Q (.ref l) H'
def Gj(K:PySem.W.Frag)(C:Addr):Sp:=λvs H Q _=>∃(pr lu:Addr) (T:PT) (mn f s:Str) (i a:Nat) (U:Nat->CF),vs=[.ref pr,.str ⟨#[a]⟩,.str s,.ref lu]/\yp K C H pr T/\f.cps[i]? =some a/\Of T.1 f/\Of T.1 s/\s.cps.size<=12/\jT H lu U s.cps.size/\∀l H',ai H H'->H l=none->jT H' l (λj=>cS T ((fL T mn f s).pc i) U s.cps.size (s.cps.size-j)) s.cps.size->Q (.ref l) H'
def JC:Sp:=λvs H Q _=>∃(l:Addr) (F:Nat->CF) (m:Nat),vs=[.ref l]/\jT H l F m/\m<=12/\∀l' H',ai H H'->H l'=none->jT H' l' (sM F) m->Q (.ref l') H'
def Cd(K:PySem.W.Frag)(C:Addr):Sp:=λvs H Q _=>∃(pr:Addr) (v:V) (T:PT) (mn f s:Str) (c u:Nat) (L:List Nat) (w:Int×xZ),vs=[.ref pr,.str f,.str s,.str ⟨#[c]⟩,v,.int (u:Int)]/\yp K C H pr T/\Of T.1 f/\Of T.1 s/\f.cps.size<=12/\s.cps.size<=12/\u<=f.cps.size/\c∈vU/\(∀a∈L,a∈vU)/\Vs K H v L/\(fL T mn f s).sv (qp f.cps.size s.cps.size L) u (0,0,c)=some w/\∀x H',ai H H'->Sw H' w.2 x->Q x H'
theorem GY{K:PySem.W.Frag}{H H':Hp}{c:Cp}{xs:List V}(h:c.at K H xs)(e:ai H H'):c.at K H' xs:=by
 cases c with
 |lst a=>exact ai.seq e h
 |tup a=>exact ai.tup e h
 |txt x=>exact h
theorem jy.off{H:Hp}{d l:Addr}{f:CF}{xs:List V}{o:HO}(h:jy H d f)(hl:H l=some (.lst xs)):jy (L2.upd H l o) d f:=by
 obtain⟨kvs,cs,a,b,c⟩:=h
 exact⟨kvs,cs,by rw[au (λz=>by rw[z,hl]at a;cases a)];exact a,b.tps (rK hl (λ_ z=>by cases z)),c⟩
theorem jy.empty{H:Hp}{d:Addr}(h:H d=some (.dK [])):jy H d iA:=⟨[],[],h,⟨List.nodup_nil,.nil⟩,(λc z=>by cases z),by decide⟩
theorem jT.grow{H H5:Hp}{l d:Addr}{F:Nat->CF}{k:Nat}{ds:List Addr}(h1:H l=some (.lst (ds.map V.ref)))(h2:ds.length=k)(h3:∀j d,ds[j]? =some d->jy H d (F j))(e:ai H H5)(hd:jy H5 d (F k)):jT (L2.upd H5 l (.lst (ds.map V.ref++[.ref d]))) l F k:=by
 refine⟨ds++[d],by rw[af,List.map_append];rfl,by rw[List.length_append,h2];rfl,λj q hq=>?_⟩
 by_cases hj:j<ds.length
 ·rw[List.getElem?_append_left hj]at hq
  exact((h3 j q hq).same e).off (e _ _ h1)
 ·rw[List.getElem?_append_right (by omega)]at hq
  have:j-ds.length<1:=(List.getElem?_eq_some_iff.mp hq).1
  have ej:j=k:=by omega
  subst ej
  rw[h2,Nat.sub_self]at hq
  cases hq
  exact hd.off (e _ _ h1)
theorem jT.rev{H:Hp}{l:Addr}{F:Nat->CF}{m:Nat}{ds:List Addr}(h1:H l=some (.lst (ds.map V.ref)))(h2:ds.length=m+1)(h3:∀j d,ds[j]? =some d->jy H d (F j)):jT (L2.upd H l (.lst (ds.map V.ref).reverse)) l (λj=>F (m-j)) m:=by
 refine⟨ds.reverse,by rw[af,List.map_reverse],by rw[List.length_reverse,h2],λj q hq=>?_⟩
 have hj:j<ds.length:=by
  have:=(List.getElem?_eq_some_iff.mp hq).1
  rw[List.length_reverse]at this
  exact this
 rw[List.getElem?_reverse hj,h2]at hq
 exact(h3 (m-j) q (by rw[←hq];congr 1)).off h1
theorem jT.last{H:Hp}{l:Addr}{F:Nat->CF}{m:Nat}(h:jT H l F m):∃(ds:List Addr) (d:Addr),H l=some (.lst (ds.map V.ref))/\Af (ds.map V.ref) (-1)=some (.ref d)/\jy H d (F m):=by
 obtain⟨ds,h1,h2,h3⟩:=h
 have hl:m<ds.length:=by omega
 have e:ds=ds.take m++[ds[m]]:=by
  have z:=take_snoc (List.getElem?_eq_getElem hl)
  rw[←z,List.take_of_length_le (by omega)]
 refine⟨ds,ds[m],h1,?_,h3 m _ (List.getElem?_eq_getElem hl)⟩
 have e2:ds.map V.ref=(ds.take m).map V.ref++[V.ref ds[m]]:=by
  rw[←List.map_singleton (f:=V.ref),←List.map_append,←e]
 rw[e2]
 exact LJ _ _
abbrev sW:Str:=Str.ofString "whole"
abbrev vE:bR:=(0,0,112)
theorem F2(T:PT)(f s:Str):(fL T sW f s).LQ:=⟨λi j=>by
 show Dd sW f s ((i:Int),(j:Int))=decide (i=f.cps.size/\j=s.cps.size)
 unfold Dd
 rw[if_pos rfl]
 by_cases h1:i=f.cps.size<;>by_cases h2:j=s.cps.size<;>simp[h1,h2]<;>omega⟩
theorem Iu{g:Gd}{s:bR}(h:g.In s):qp g.n g.m vU s=g.last s:=by
 unfold qp Gd.last
 refine decide_eq_decide.mpr ⟨λz=>⟨z.1,z.2.1⟩,λz=>⟨z.1,z.2,?_⟩⟩
 unfold vU
 rcases h.2.2 with q|q|q<;>rw[q]<;>simp
def A5(T:PT)(f s:Str):List bR:=vE::downs vE ((fL T sW f s).moves vE)
theorem Ut(T:PT)(m f s:Str):(fL T m f s).In vE:=⟨Nat.zero_le _,Nat.zero_le _,.inl rfl⟩
theorem GL(T:PT)(f s:Str):(A5 T f s).length=f.cps.size+1:=by
 obtain⟨e,hw,he,hen⟩:=Gd.wH (Li T sW f s) _ vE (Ut T sW f s) (Nat.le_refl _)
 have h1:=Gd.z5 hw
 rw[(F2 T f s).en]at hen
 have h2:=of_decide_eq_true hen
 have h3:e.1=f.cps.size:=h2.1
 have h4:(vE:bR).1=0:=rfl
 unfold A5
 rw[List.length_cons]
 omega
theorem QE(T:PT)(f s:Str)(u:Nat):(fL T sW f s).sv (qp f.cps.size s.cps.size vU) u vE=some ((fL T sW f s).rest vE,((A5 T f s)[u]?).map λt=>(t.2.1,t.2.2)):=by
 have z:=Gd.Jx (E:=qp f.cps.size s.cps.size vU) (F2 T f s) (λs hs=>Iu (g:=fL T sW f _) hs) (Ut T sW f s) u
 rw[show(vE:bR).1+u=u from Nat.zero_add u]at z
 exact z
def F7(K:PySem.W.Frag)(C:Addr):Sp:=λvs H Q _=>∃(pr:Addr) (T:PT) (f s:Str) (u:Nat) (t:bR),vs=[.ref pr,.str f,.str s,.int (u:Int)]/\yp K C H pr T/\Of T.1 f/\Of T.1 s/\f.cps.size<=12/\s.cps.size<=12/\u<=f.cps.size/\(A5 T f s)[u]? =some t/\∀q H',ai H H'->H' q=some (.tup [.int (t.2.1:Int),.str ⟨#[t.2.2]⟩])->Q (.ref q) H'
def zG(K:PySem.W.Frag)(C CS CP:Addr):Sp:=λvs H Q E=>∃(pr:Addr) (T:PT) (f s:Str) (u:Int),vs=[.ref pr,.str f,.str s,.int u]/\yp K C H pr T/\f.cps.size<=20/\s.cps.size<=20 ∧
 (Of T.1 f->Of T.1 s->0<=u->u<=(f.cps.size:Int)->f.cps.size<=12/\s.cps.size<=12/\∀t,(A5 T f s)[u.toNat]? =some t->∀r H',ai H H'->H' r=some (.tup [.int u,.int (t.2.1:Int)])->Q (.ref r) H') ∧
 (∀i j,uu T.1 f s i j->∀dx H',ai H H'->H' dx=some (Am dx (A7 i j))->E (.ref CS) (some dx) H')/\(Of T.1 f->Of T.1 s->¬(0<=u/\u<=(f.cps.size:Int))->∀H',ai H H'->E (.ref CP) none H')
def Gi(K:PySem.W.Frag)(C:Addr):Sp:=λvs H Q _=>∃(pr:Addr) (T:PT) (f s:Str) (u:Int),vs=[.ref pr,.str f,.str s,.int u]/\yp K C H pr T/\f.cps.size<=20/\s.cps.size<=20 ∧
 ((Of T.1 f/\Of T.1 s/\f.cps.size<=12/\s.cps.size<=12/\0<=u/\u<=(f.cps.size:Int)/\∀t r q H',ai H H'->(A5 T f s)[u.toNat]? =some t->H' r=some (.tup [.str (Str.ofString "told"),.ref q])->H' q=some (.tup [.int u,.int (t.2.1:Int)])->Q (.ref r) H') ∨
  (Of T.1 f/\Of T.1 s/\¬(0<=u/\u<=(f.cps.size:Int))/\∀r H',ai H H'->H' r=some (.tup [.str (Str.ofString "no place"),.int 0])->Q (.ref r) H') ∨
  (∃i j,uu T.1 f s i j/\∀r H',ai H H'->H' r=some (.tup [.str (Str.ofString "no sign"),.int (i:Nat),.int (j:Nat)])->Q (.ref r) H'))
def yS(s:bR)(vs:List Nat):bR:=vs.foldl fM s
theorem Cw:∀(vs:List Nat) (s:bR) (v:Nat),m6 s (vs++[v])=m6 s vs++[fM (yS s vs) v]
 |[],s,v=>rfl
 |a::vs,s,v=>by
  show fM s a::m6 (fM s a) (vs++[v])=fM s a::(m6 (fM s a) vs++[fM (yS (fM s a) vs) v])
  rw[Cw vs (fM s a) v]
theorem Fo(vs:List Nat)(s:bR)(v:Nat):downs s (vs++[v])=downs s vs++if v=98 then []else [fM (yS s vs) v]:=by
 unfold downs
 rw[Cw,List.filter_append]
 congr 1
 by_cases e:v=98
 ·rw[if_pos e,List.filter_cons_of_neg (by show ¬(v != 98)=true;rw[e];decide)]
  rfl
 ·rw[if_neg e,List.filter_cons_of_pos (by show(v != 98)=true;rw[bne_iff_ne];exact e)]
  rfl
theorem Ir(vs:List Nat)(s:bR)(v:Nat):yS s (vs++[v])=fM (yS s vs) v:=by
 unfold yS
 rw[List.foldl_append]
 rfl
def MF(t:bR):Nat×Nat:=(t.1,t.2.1)
def Cn:Sp:=λvs H Q _=>∃f mv:Str,vs=[.str f,.str mv]/\mv.cps.size<=100/\∀l H',ai H H'->H l=none->G9 H' l ((vE::downs vE mv.cps.toList).map MF)->Q (.ref l) H'
theorem Fp{c v:Nat}{a:Str}(h:a=⟨#[v]⟩):decide (V.str ⟨#[c]⟩=V.str a)=decide (c=v):=decide_eq_decide.mpr ⟨λz=>by rw[h]at z;simpa using z,λz=>by rw[h,z]⟩
theorem K2{p:Prop}[Decidable p]{A B:Prop}(h1:¬p->A)(h2:p->B):if(!decide p)=true then A else B:=by
 by_cases h:p
 ·rw[decide_eq_true h];exact h2 h
 ·rw[decide_eq_false h];exact h1 h
theorem Nm{T:PT}{f s:Str}{i:Nat}{st:bR}(h:(A5 T f s)[i]? =some st):st.1=i:=by
 have z:=qQ ((fL T sW f s).moves vE) vE i
 rw[show(vE::downs vE ((fL T sW f s).moves vE))[i]? =some st from h]at z
 have q:=List.find?_some z
 have q':st.1=0+i:=by simpa using q
 omega
end GP
set_option Elab.async false
set_option linter.all false
set_option maxRecDepth 100000
set_option maxHeartbeats 4000000
seal PySem.wpAny
namespace VD
open PySem L2 sJ GP
def top(i:Nat):Stmt:=PySem.Challenge.pw_gapweave_k30_place_at.main.body.getD i (.Pass ⟨0,0,0,0⟩)
abbrev yN(K:PySem.W.Frag):Lm:=⟨dZ K "first_begin",⟨209,34,209,65⟩,(("first_begin" :Str)++ ".<locals>.")++ "<lambda>",dZ K "state_behind",⟨211,40,211,77⟩,(("state_behind" :Str)++ ".<locals>.")++ "<lambda>"⟩
theorem kG{N P:List Str}{sc:Scope}(a:sc.kind=.function:=by rfl)(b:sc.isCoroutine=false:=by rfl)(c:sc.isGenerator=false:=by rfl)(d:N.Nodup:=by decide +kernel)(e:N.take P.length=P:=by rfl)(f:∀x∈P,sc.names.lookup x=some .local\/sc.names.lookup x=some .cell:=by decide +kernel)(g:∀y∈sc.names,y.2≠.free:=by decide +kernel):aH N P sc:=⟨a,b,c,d,e,f,g⟩
abbrev bU:Stmt:=inClass (top 10) 0
theorem rS:aH ["self","row","place"] ["self","row","place"] (ay bU):=kG
abbrev cL:Stmt:=top 14
theorem fN:aH ["one","other","rest"] ["one","other"] (ay cL):=kG
abbrev sR:Stmt:=top 15
theorem zL:aH ["fraction","divisor"] ["fraction"] (ay sR):=kG
abbrev qL:Stmt:=top 20
theorem wV:aH ["sign","number"] ["sign"] (ay qL):=kG
abbrev nR:Stmt:=top 21
theorem AD:aH ["text"] ["text"] (ay nR):=kG
abbrev lK:Stmt:=top 22
theorem wX:aH ["signs"] ["signs"] (ay lK):=kG
abbrev jn:Stmt:=top 23
theorem oF:aH ["signs","pairs","row"] ["signs","pairs"] (ay jn):=kG
abbrev ie:Stmt:=top 24
theorem vC:aH ["price"] ["price"] (ay ie):=kG
abbrev jm:Stmt:=top 25
theorem ux:aH ["row"] ["row"] (ay jm):=kG
abbrev mK:Stmt:=top 26
theorem n9:aH ["pairs","opening","more","unders","row"] ["pairs","opening","more"] (ay mK):=kG
abbrev jZ:Stmt:=top 27
theorem eL:aH ["unders","factors","unit","under","factor"] ["unders"] (ay jZ):=kG
abbrev mE:Stmt:=top 28
theorem lE:aH ["factors","product","factor"] ["factors"] (ay mE):=kG
abbrev oH:Stmt:=top 29
theorem Ew:aH ["price","unit"] ["price","unit"] (ay oH):=kG
abbrev iL:Stmt:=top 30
theorem cZ:aH ["signs","pairs","unit","costs","one","row","other","price"] ["signs","pairs","unit"] (ay iL):=kG
abbrev bT:Stmt:=inClass (top 31) 0
theorem rR:aH ["self","signs","pairs","opening","more"] ["self","signs","pairs","opening","more"] (ay bT):=kG
abbrev lR:Stmt:=top 32
theorem Az:aH ["prices","one","other"] ["prices","one","other"] (ay lR):=kG
abbrev j3:Stmt:=top 33
theorem vB:aH ["prices"] ["prices"] (ay j3):=kG
abbrev nK:Stmt:=top 34
theorem AA:aH ["prices"] ["prices"] (ay nK):=kG
abbrev oZ:Stmt:=top 35
theorem ia:aH ["prices","number","over","under","factor","divisor"] ["prices","number"] (ay oZ):=kG
abbrev lM:Stmt:=top 38
theorem ic:aH ["known","rows","number","row","place","sign"] ["known","rows"] (ay lM):=kG
abbrev j5:Stmt:=top 39
theorem yw:aH ["prices","rows"] ["prices","rows"] (ay j5):=kG
abbrev j6:Stmt:=top 40
theorem vD:aH ["manner"] ["manner"] (ay j6):=kG
abbrev j7:Stmt:=top 41
theorem yx:aH ["prices","move","came"] ["prices","move","came"] (ay j7):=kG
abbrev nL:Stmt:=top 42
theorem AB:aH ["manner","place"] ["manner","place"] (ay nL):=kG
abbrev qJ:Stmt:=top 43
theorem Eu:aH ["manner","first","second","place"] ["manner","first","second","place"] (ay qJ):=kG
abbrev mL:Stmt:=top 46
theorem lF:aH ["first","second","places","i","j"] ["first","second"] (ay mL):=kG
abbrev mD:Stmt:=top 47
theorem lD:aH ["prices","first","second","place","came","i","j","steps"] ["prices","first","second","place","came"] (ay mD):=kG
abbrev nT:Stmt:=top 48
theorem mq:aH ["prices","first","second","places","steps","place","came"] ["prices","first","second","places"] (ay nT):=kG
abbrev o6:Stmt:=top 49
theorem qb:aH ["first","second","places","manner","ends","place"] ["first","second","places","manner"] (ay o6):=kG
abbrev bV:Stmt:=inClass (top 50) 0
theorem mZ:aH ["self","prices","first","second","manner","places"] ["self","prices","first","second","manner"] (ay bV):=kG
abbrev lG:Stmt:=top 51
theorem jV:aH ["ground","rests","state","costs"] ["ground"] (ay lG):=kG
abbrev mJ:Stmt:=top 52
theorem yu:aH ["ground","rests","state"] ["ground","rests","state"] (ay mJ):=kG
abbrev lJ:Stmt:=top 53
theorem wW:aH ["ground","rests"] ["ground","rests"] (ay lJ):=kG
abbrev j0:Stmt:=top 54
theorem vA:aH ["ground","rests","state"] ["ground","rests","state"] (ay j0):=kG
abbrev lH:Stmt:=top 55
theorem jX:aH ["ground","rests","begin","state","moves"] ["ground","rests","begin"] (ay lH):=kG
abbrev o4:Stmt:=top 56
theorem nJ:aH ["prices","first","second","manner","ground","rests","begin"] ["prices","first","second","manner"] (ay o4):=kG
abbrev qI:Stmt:=top 58
theorem Et:aH ["way"] ["way"] (ay qI):=kG
abbrev o5:Stmt:=top 59
theorem uW:aH ["prices","came","pair","across","under","beside","ways"] ["prices","came","pair","across","under","beside"] (ay o5):=kG
abbrev oG:Stmt:=top 60
theorem oX:aH ["prices","pair","across","under","beside","cell","came","way"] ["prices","pair","across","under","beside"] (ay oG):=kG
abbrev mH:Stmt:=top 61
theorem jg:aH ["prices","second","lasts","cell","came","cells","j"] ["prices","second","lasts"] (ay mH):=kG
abbrev lN:Stmt:=top 62
theorem jY:aH ["prices","sign","second","under","cells","j","pair"] ["prices","sign","second","under"] (ay lN):=kG
abbrev mw:Stmt:=top 63
theorem fG:aH ["cells","stopping","j","cell","stops","came","way"] ["cells"] (ay mw):=kG
abbrev qH:Stmt:=top 64
theorem kL:aH ["prices","first","second","came","lasts","used","cells","i"] ["prices","first","second","came","lasts","used"] (ay qH):=kG
abbrev mz:Stmt:=top 65
theorem yt:aH ["prices","first","second","used"] ["prices","first","second","used"] (ay mz):=kG
abbrev oY:Stmt:=top 66
theorem Cu:aH ["prices","first","second","used"] ["prices","first","second","used"] (ay oY):=kG
abbrev fJ:Stmt:=top 68
theorem qa:aH ["_law_script","_law_at","_law_cell","_law_m"] ["_law_script","_law_at"] (ay fJ):=kG
abbrev nP:Stmt:=top 69
theorem oW:aH ["_law_script","_law_at","_law_m","_law_cell"] ["_law_script","_law_at"] (ay nP):=kG
abbrev nN:Stmt:=top 70
theorem jW:aH ["_law_script","_law_at","_law_many","_law_every","_law_m","_law_step"] ["_law_script","_law_at","_law_many"] (ay nN):=kG
abbrev nO:Stmt:=top 71
theorem sO:aH ["_law_script","_law_at","_law_sort","_law_m"] ["_law_script","_law_at","_law_sort"] (ay nO):=kG
abbrev nM:Stmt:=top 72
theorem dD:aH ["_law_script","_law_at","_law_many","_law_m","_law_sort","_law_signs_here","_law_pairs","_law_k","_law_j","_law_opening","_law_more"] ["_law_script","_law_at","_law_many"] (ay nM):=kG
abbrev mF:Stmt:=top 73
theorem jf:aH ["_law_script","_law_at","_law_signs_here","_law_pairs","_law_opening","_law_more"] ["_law_script","_law_at"] (ay mF):=kG
abbrev qK:Stmt:=top 74
theorem jq:aH ["_law_script","_law_at","_law_signs_here","_law_most","_law_m","_law_sort","_law_row_here","_law_k"] ["_law_script","_law_at","_law_signs_here","_law_most"] (ay qK):=kG
abbrev m5:Stmt:=top 75
theorem uV:aH ["_law_found","_law_due"] ["_law_found","_law_due"] (ay m5):=kG
abbrev nQ:Stmt:=top 76
theorem gv:aH ["_law_prices_here","_law_first","_law_second","_law_used","_law_told","_law_other","e"] ["_law_prices_here","_law_first","_law_second","_law_used"] (ay nQ):=kG
abbrev j4:Stmt:=top 77
theorem cH:aH ["_law_m","_law_prices_here","_law_first","_law_second","_law_other","_law_rows","_law_due","_law_k","_law_row_here","_law_spot"] ["_law_m","_law_prices_here","_law_first","_law_second"] (ay j4):=kG
abbrev mG:Stmt:=top 78
theorem fH:aH ["_law_first","_law_moves","_law_firsts_here","_law_i","_law_j","_law_move"] ["_law_first","_law_moves"] (ay mG):=kG
abbrev rj:Stmt:=top 79
theorem jr:aH ["_law_script","_law_at","_law_prices_here","_law_first","_law_second","_law_moves","_law_firsts_here","_law_used","_law_due","_law_m","_law_far","_law_rows","_law_told"] ["_law_script"] (ay rj):=kG
abbrev l6:List Str:=["_law_script","_law_at"]
abbrev l7:List Str:=["price"]
abbrev l8:List Str:=["prices"]
abbrev l9:List Str:=["ground","rests","state"]
abbrev Ma:List Str:=["prices","first","second","used"]
abbrev L8:List Str:=["_law_script","_law_at","_law_many"]
abbrev M6:List Str:=["one","other"]
abbrev N6:List Str:=["_law_found","_law_due"]
abbrev Ri:List Str:=["price","unit"]
abbrev Rh:List Str:=["prices","one","other"]
abbrev Rg:List Str:=["prices","rows"]
abbrev Rf:List Str:=["prices","move","came"]
abbrev Rc:List Str:=["prices","pair","across","under","beside"]
abbrev Sj:List Str:=["self","signs","pairs","opening","more"]
abbrev Si:List Str:=["self","row","place"]
abbrev Sh:List Str:=["self","prices","first","second","manner"]
abbrev Sg:List Str:=["_law_script"]
abbrev Um:List Str:=["fraction"]
abbrev Ul:List Str:=["pairs","opening","more"]
abbrev Uk:List Str:=["signs","pairs"]
abbrev Uj:List Str:=["signs","pairs","unit"]
abbrev Ui:List Str:=["prices","number"]
abbrev Uh:List Str:=["known","rows"]
abbrev Ug:List Str:=["manner","place"]
abbrev Ue:List Str:=["manner","first","second","place"]
abbrev Ud:List Str:=["first","second"]
abbrev Uc:List Str:=["prices","first","second","place","came"]
abbrev Ub:List Str:=["prices","first","second","places"]
abbrev Ua:List Str:=["first","second","places","manner"]
abbrev T9:List Str:=["ground","rests"]
abbrev T8:List Str:=["ground","rests","begin"]
abbrev T7:List Str:=["prices","first","second","manner"]
abbrev T6:List Str:=["prices","came","pair","across","under","beside"]
abbrev T5:List Str:=["prices","second","lasts"]
abbrev T4:List Str:=["prices","sign","second","under"]
abbrev T3:List Str:=["prices","first","second","came","lasts","used"]
abbrev TZ:List Str:=["_law_script","_law_at","_law_sort"]
abbrev TY:List Str:=["_law_script","_law_at","_law_signs_here","_law_most"]
abbrev TX:List Str:=["_law_m","_law_prices_here","_law_first","_law_second"]
abbrev TV:List Str:=["_law_prices_here","_law_first","_law_second","_law_used"]
abbrev TU:List Str:=["_law_first","_law_moves"]
abbrev YT:List Str:=["behind","cost","rests"]
abbrev l48:List Str:=["_law_k","_law_every","_law_m","_law_step"]
abbrev l49:List Str:=["_law_j","_law_script","_law_at","_law_many","_law_sort"]
abbrev l50:List Str:=["_law_k","_law_script","_law_at","_law_sort"]
structure Pm where
 mh:Tok
 nH:Tok
 ju:Addr
 lz:Addr
 jv:Addr
 aq:Addr
 aQ:Addr
 fF:Addr
 bz:Addr
 aB:Addr
 aA:Addr
 gh:Addr
 eG:Addr
 iJ:Addr
 iI:Addr
 eF:Addr
 kC:Addr
 iH:Addr
 iG:Addr
structure Txt(K:PySem.W.Frag)(mg:Str->Option Value)(p:Pm)(base:Heap):Prop where
 SD:mg "abs" =none
 cY:mg "len" =none
 z_ord:mg "ord" =none
 SA:mg "set" =none
 qF:mg "tuple" =none
 Jc:mg "zip" =none
 nG:mg "enumerate" =none
 jl:mg "range" =none
 bB:mg "isinstance" =none
 Jd:mg "int" =none
 Je:mg "bool" =none
 NL:mg "all" =none
 wD:mg "list" =none
 FZ:mg "str" =none
 F0:mg "min" =none
 Ea:mg "reversed" =none
 A4:mg "FIRST_SIGN" =some (.int 32 p.mh)
 Dr:mg "LAST_SIGN" =some (.int 126 p.nH)
 Fd:mg "NO_SIGNS" =some (.ref p.ju)
 Ez:∀H:Hp,cP K H p.ju [.int 34,.int 37,.int 45]
 Ik:mg "MANNERS" =some (.ref p.lz)
 Hx:∀H:Hp,cP K H p.lz [.str (Str.ofString "whole"),.str (Str.ofString "within"),.str (Str.ofString "over"),.str (Str.ofString "stretch")]
 Fe:mg "CAME" =some (.ref p.jv)
 w9:∀H:Hp,cP K H p.jv [.str (Str.ofString "p"),.str (Str.ofString "a"),.str (Str.ofString "b")]
 HN:mg "Prices" =some (.ref p.aq)
 aY:NJ K p.aq
 fR:bL K p.aq "signs"
 nh:bL K p.aq "pairs"
 kN:bL K p.aq "opening"
 oi:bL K p.aq "more"
 kO:bL K p.aq "factors"
 lP:bL K p.aq "unit"
 qh:bL K p.aq "costs"
 kc:bL K p.aq "opening_units"
 lZ:bL K p.aq "more_units"
 HU:mg "Ground" =some (.ref p.aQ)
 jc:NJ K p.aQ
 kg:bL K p.aQ "steps"
 pN:bL K p.aQ "begins"
 oj:bL K p.aQ "ends"
 yL:mg "WeaveError" =some (.ref p.fF)
 vc:mg "NoManner" =some (.ref p.bz)
 BW:G8 K p.bz
 NN:XB K p.bz
 xD:mg "NoPlace" =some (.ref p.aB)
 Ed:G8 K p.aB
 Ef:XB K p.aB
 Eb:RZ K p.aB
 uF:mg "NoSign" =some (.ref p.aA)
 Hi:XB K p.aA
 zu:RZ K p.aA
 EZ:mg "NoBlock" =some (.ref p.gh)
 C9:mg "NoLaying" =some (.ref p.eG)
 HS:mg "NoMost" =some (.ref p.iJ)
 HR:mg "NoNote" =some (.ref p.iI)
 C8:mg "NoPrices" =some (.ref p.eF)
 KH:mg "NoRow" =some (.ref p.kC)
 HQ:mg "NoText" =some (.ref p.iH)
 HP:mg "NoTree" =some (.ref p.iG)
 zv:Vl K p.aA
 Hh:∃f,G7 K p.aA f
 tF:bL K p.aA "row"
 qi:bL K p.aA "place"
 yq:XBase K p.fF
 uI:PySem.W.subIn K (.ref p.aA) (.ref p.aA)=some true
 sj:PySem.W.subIn K (.ref p.aB) (.ref p.aB)=some true
 tH:PySem.W.subIn K (.ref p.aA) (.ref p.aB)=some false
 sr:PySem.W.kitOne K (.ref p.aB) (.ref p.gh)=some false
 qZ:PySem.W.kitOne K (.ref p.aB) (.ref p.eG)=some false
 tR:PySem.W.kitOne K (.ref p.aB) (.ref p.iJ)=some false
 tQ:PySem.W.kitOne K (.ref p.aB) (.ref p.iI)=some false
 qX:PySem.W.kitOne K (.ref p.aB) (.ref p.eF)=some false
 uJ:PySem.W.kitOne K (.ref p.aB) (.ref p.kC)=some false
 tO:PySem.W.kitOne K (.ref p.aB) (.ref p.iH)=some false
 tN:PySem.W.kitOne K (.ref p.aB) (.ref p.iG)=some false
 tP:PySem.W.kitOne K (.ref p.aB) (.ref p.aA)=some false
 qY:PySem.W.kitOne K (.ref p.aB) (.ref p.bz)=some false
 bm:OF base mg
 xJ:pP K "first_begin" =true
 xH:∀f,mg "first_begin" =some (.ref f)->PySem.W.nsIn K mainGlobals "first_begin" =some (some (.ref f))
 vN:pP K "state_behind" =true
 vM:∀f,mg "state_behind" =some (.ref f)->PySem.W.nsIn K mainGlobals "state_behind" =some (some (.ref f))
theorem RX:bootBuiltins "abs" =some (.builtin "abs"):=by decide +kernel
theorem bP:bootBuiltins "len" =some (.builtin "len"):=by decide +kernel
theorem RW:bootBuiltins "ord" =some (.builtin "ord"):=by decide +kernel
theorem RV:bootBuiltins "set" =some (.type "set"):=by decide +kernel
theorem oS:bootBuiltins "tuple" =some (.type "tuple"):=by decide +kernel
theorem br:bootBuiltins "isinstance" =some (.builtin "isinstance"):=by decide +kernel
theorem Fy:bootBuiltins "int" =some (.type "int"):=by decide +kernel
theorem G3:bootBuiltins "bool" =some (.type "bool"):=by decide +kernel
theorem LH:bootBuiltins "all" =some (.builtin "all"):=by decide +kernel
theorem tZ:bootBuiltins "list" =some (.type "list"):=by decide +kernel
theorem Bk:bootBuiltins "str" =some (.type "str"):=by decide +kernel
theorem Bl:bootBuiltins "min" =some (.builtin "min"):=by decide +kernel
section
variable{P:Program}{w:World}{K:PySem.W.Frag}{mg:Str->Option Value}{base:Heap}
theorem qV {aW:Addr} {aT:FuncData} {p:Pm} (T:Txt K mg p base) (aI:Dn K mg "greatest_divisor" cL M6 aW aT)  :aJ P w K mg base ck 1 aW aT M6 Ge:=by
 refine aI.fn.ok fN (λvs H Q E h=>?_) (λcdv A outer s H vs Q E hr h=>?_)
 ·obtain⟨a,b,rfl,_⟩:=h
  rfl
 ·obtain⟨a,b,rfl,hb,k⟩:=h
  refine⟨_,(aj (CB PassesOwn.never (aP qf (pv 1) ak (aZ _)) (aj (aC (i:=2) fN.nd rfl (Or.inl rfl) (aF b8 (pv 0) (pv 1)))
   (aj (aC (i:=0) fN.nd rfl (Or.inl rfl) (pv 1))
   (ao (aC (i:=1) fN.nd rfl (Or.inl rfl) (pv 2))))))
   (ao (aL (aD (LC) rfl T.SD RX (aa (pv 0) ah))))),?_⟩
  refine⟨λm σ H'=>H'=H/\∃(x y:Int) (r:Option V),σ=[some (.int x),some (.int y),r]/\0<=y/\Int.gcd x y=Int.gcd a b/\m=y.toNat,⟨b.toNat,rfl,a,b,none,rfl,hb,rfl,rfl⟩,?_⟩
  rintro m σ H' ⟨rfl,x,y,r,rfl,hy,hg,rfl⟩
  refine⟨_,rfl,rfl,_,rfl,?_⟩
  refine uM (λh0=>?_) (λh0=>?_)
  ·have l1:=Int.emod_nonneg x h0
   have l2:=Int.emod_lt_of_pos x (show 0<y by omega)
   refine⟨λσ' LV=>LV=H'/\∃r,σ'=[some (.int y),some (.int (x % y)),r],?_,?_⟩
   ·rintro σ' LV ⟨rfl,r,rfl⟩
    exact⟨(x % y).toNat,by omega,rfl,y,x % y,r,rfl,l1,(Lg x y).trans hg,rfl⟩
   ·exact⟨_,rfl,_,rfl,_,_,rfl,rfl,(by show 0<y;omega),_,rfl,_,rfl,rfl,_,rfl⟩
  ·subst h0
   refine⟨_,rfl,_,rfl,?_⟩
   rw[Nl,hg]
   exact k
theorem HA {oQ aW:Addr} {mS aT:FuncData} {p:Pm} (T:Txt K mg p base) (lV:Dn K mg "lowest" sR Um oQ mS) (aI:Dn K mg "greatest_divisor" cL M6 aW aT) (eE:aJ P w K mg base ck 1 aW aT M6 Ge):aJ P w K mg base ck 2 oQ mS Um (NT K):=by
 refine lV.fn.ok zL (λvs H Q E h=>?_) (λcdv A outer s H vs Q E hr h=>?_)
 ·obtain⟨p,f,rfl,_⟩:=h
  rfl
 ·obtain⟨p,⟨a,b⟩,rfl,hS,hb,hb2,k⟩:=h
  have hb0:0<b:=hb
  have g1:=pF a hb0
  have g2:=Fc a hb0
  have hb':b<1073741824:=hb2
  refine⟨_,(aj (aC (i:=1) zL.nd rfl (Or.inl rfl) (az eE (hr.mono (by decide)) rfl aI.m aI.fn.kp aI.b .nil aO (aa (aU bK (pv 0) ak (λ_ _=>rfl)) (aa (aU bK (pv 0) ak (λ_ _=>rfl)) ah))))
   (ao (aL (bA (aa (aF cM (aU bK (pv 0) ak (λ_ _=>rfl)) (pv 1)) (aa (aF cM (aU bK (pv 0) ak (λ_ _=>rfl)) (pv 1)) ah)))))),?_⟩
  refine⟨_,rfl,_,_,_,_,rfl,rfl,hS,rfl,_,rfl,_,_,_,_,rfl,rfl,hS,rfl,a,b,rfl,Int.le_of_lt hb,?_⟩
  refine⟨_,rfl,_,_,_,_,rfl,rfl,hS,rfl,_,rfl,_,_,rfl,rfl,⟨g1,by omega⟩,_,rfl,_,_,_,_,rfl,rfl,hS,rfl,_,rfl,_,_,rfl,rfl,⟨g1,by omega⟩,?_⟩
  exact⟨by show 2<=sizeLine;decide,λq hq=>k q hq⟩
theorem vI {cA oQ:Addr} {b7 mS:FuncData} {p:Pm} (T:Txt K mg p base) (aX:Dn K mg "lowest_price" ie l7 cA b7) (lV:Dn K mg "lowest" sR Um oQ mS) (LW:aJ P w K mg base ck 2 oQ mS Um (NT K)):aJ P w K mg base ck 3 cA b7 l7 (rQ K):=by
 refine aX.fn.ok vC (λvs H Q E h=>?_) (λcdv A outer s H vs Q E hr h=>?_)
 ·obtain⟨p,f,rfl,_⟩:=h
  rfl
 ·obtain⟨p,f,rfl,hS,⟨h1,h2⟩,k⟩:=h
  refine⟨_,(aj (bN (aP CK (aU bK (pv 0) ak (λ_ _=>rfl)) ak (aZ _)) eN aN)
   (ao (aL (az LW (hr.mono (by decide)) rfl lV.m lV.fn.kp lV.b .nil aO (aa (pv 0) ah))))),?_⟩
  refine⟨_,rfl,_,_,_,_,rfl,rfl,hS,rfl,_,_,rfl,rfl,_,rfl,?_⟩
  refine dF (λz=>absurd z (by omega)) λ_=>?_
  exact⟨_,rfl,p,f,rfl,hS,by omega,h2,k⟩
theorem uA {eY cA:Addr} {dW b7:FuncData} {p:Pm} (T:Txt K mg p base) (cI:Dn K mg "lowest_prices" jm ["row"] eY dW) (aX:Dn K mg "lowest_price" ie l7 cA b7) (ko:aJ P w K mg base ck 3 cA b7 l7 (rQ K)):aJ P w K mg base ck 4 eY dW ["row"] (uU K):=by
 refine cI.fn.ok ux (λvs H Q E h=>?_) (λcdv A outer s H vs Q E hr h=>?_)
 ·obtain⟨c,fs,rfl,_⟩:=h
  rfl
 ·obtain⟨c,fs,rfl,⟨ps,hc,hp⟩,ho,hz,k⟩:=h
  have hl:=Paired.len hp
  refine⟨_,(ao (aL (oJ (rG) rfl T.qF oS (aa (o9 (N:=l7) rfl (λ_=>⟨[],dm.plain (by decide +kernel) rfl (by decide +kernel) (by decide +kernel)⟩) (zP (pv 0)) (λ_ _ _ _ _ _ _=>(aK (i:=0) (show(l7:List Str).Nodup by decide +kernel) rfl (Or.inl rfl))) (λ_ _ _ _ _ _ _=>(az ko (hr.mono (by decide)) rfl aX.m aX.fn.kp aX.b .nil aO (aa (pv 0) ah)))) ah)))),?_⟩
  refine⟨_,rfl,c,_,rfl,hc,λl Oj=>?_⟩
  refine⟨λi m ys H2=>m=fs.length-i/\i<=fs.length/\ai H H2/\H2 l=some (.lst ys)/\∃qs:List Addr,ys=qs.map V.ref/\qs.length=i/\Paired (λq f=>H2 q=some (.tup [.int f.1,.int f.2])) qs ((fs.map kD).take i),⟨fs.length,rfl,Nat.zero_le _,ai.upd Oj,af,[],rfl,rfl,.nil⟩,?_⟩
  rintro i m ys H2 ⟨rfl,hi,s2,hl2,qs,rfl,hq,hP⟩
  have zc:c.at K H2 (ps.map V.ref):=ai.cp s2 hc
  by_cases hlt:i<fs.length
  ·have hpi:i<ps.length:=by omega
   have e1:(ps.map V.ref)[i]? =some (.ref ps[i]):=by rw[List.getElem?_map,List.getElem?_eq_getElem hpi];rfl
   refine .inr ⟨⟨_,_,zc,e1⟩,?_⟩
   rintro x H3 ⟨rfl,hx⟩
   have ex:=hx _ zc
   rw[e1]at ex
   cases ex
   obtain⟨f,ef,hf⟩:=Paired.at hp (List.getElem?_eq_getElem hpi)
   refine⟨Kp.rep _ _,?_⟩
   refine⟨_,rfl,ps[i],f,rfl,hf.same s2,ho f (List.mem_of_getElem? ef),λq hqn=>?_⟩
   have VW:q≠l:=λz=>by rw[z,hl2]at hqn;cases hqn
   refine⟨by rw[au (Ne.symm VW)];exact hl2,?_,fs.length-(i+1),by omega,rfl,hlt,ai.at (s2.trans (ai.upd hqn)) Oj,af,qs++[q],by rw[List.map_append];rfl,by rw[List.length_append,hq];rfl,?_⟩
   ·rw[List.length_map,hq]
    exact Nat.lt_of_lt_of_le hlt (Nat.le_trans hz (by decide))
   ·rw[rB ef]
    refine GP.Paired.snoc (Paired.g8 hP λa b z=>?_) ?_
    ·have n1:a≠q:=aM z hqn
     have n2:a≠l:=qg z hl2 (by intro z;cases z)
     rw[au n2,au n1]
     exact z
    ·rw[au VW]
     exact af
  ·have ei:i=fs.length:=by omega
   subst ei
   refine .inl ⟨⟨_,zc,by rw[List.length_map];omega⟩,?_⟩
   refine⟨l,_,rfl,.inl ⟨bZ.of hl2,λq hqn=>?_⟩⟩
   refine k q _ (s2.trans (ai.upd hqn)) (ai.free s2 hqn) ⟨qs,cP.of af,?_⟩
   rw[List.take_of_length_le (by rw[List.length_map];exact Nat.le_refl _)]at hP
   exact Paired.g8 hP λa b z=>cP.of (by rw[au (aM z hqn)];exact z)
theorem yJ {ja:Addr} {gO:FuncData} {p:Pm} (T:Txt K mg p base) (fD:Dn K mg "all_unders" mK Ul ja gO)  :aJ P w K mg base ck 1 ja gO Ul (Cc K):=by
 refine fD.fn.ok n9 (λvs H Q E h=>?_) (λcdv A outer s H vs Q E hr h=>?_)
 ·obtain⟨Pp,o,m,rows,fo,fm,rfl,_⟩:=h
  rfl
 ·obtain⟨Pp,o,m,rows,fo,fm,rfl,⟨cs,hc,hp⟩,hfo,hfm,acU,Rw,k⟩:=h
  refine⟨_,(aj (aC (i:=3) n9.nd rfl (Or.inl rfl) (g6 (aa (aU bK (pv 1) ak (λ_ _=>rfl)) (aa (aU bK (pv 2) ak (λ_ _=>rfl)) ah))))
   (aj (cy PassesOwn.never rfl (zP (pv 0)) (aK (i:=4) n9.nd rfl (Or.inl rfl)) (ao (cj (lS PySem.F.plainAttrs_list PySem.F.slot_list_extend PySem.F.type_list_extend HJ (pv 3) (aa (o9 (N:=l7) rfl (λ_=>⟨[],dm.plain (by decide +kernel) rfl (by decide +kernel) (by decide +kernel)⟩) (zP (pv 4)) (λ_ _ _ _ _ _ _=>(aK (i:=0) (show(l7:List Str).Nodup by decide +kernel) rfl (Or.inl rfl))) (λ_ _ _ _ _ _ _=>(aU (Nc (K':=K) rfl) (pv 0) ak (λ_ _=>rfl)))) ah)))))
   (ao (aL (pv 3))))),?_⟩
  refine⟨_,rfl,_,_,_,_,rfl,rfl,hfo,rfl,_,rfl,_,_,_,_,rfl,rfl,hfm,rfl,(by show 2<=sizeLine;decide),λl hl=>?_⟩
  have ZU:∀i,((rows.take i).flatten.map (·.2)).length<=12*12:=λi=>by
   have:∀(q:List (List cu)),(∀r∈q,r.length<=12)->q.flatten.length<=12*q.length:=λq=>by
    induction q with
    |nil=>intro _;simp
    |cons r q ih =>
     intro h
     have a:=h r List.mem_cons_self
     have b:=ih λr' hr=>h r' (List.mem_cons_of_mem _ hr)
     rw[List.flatten_cons,List.length_append,List.length_cons]
     omega
   have a:=this (rows.take i) λr hr=>Rw r (List.mem_of_mem_take hr)
   have b:(rows.take i).length<=12:=by rw[List.length_take];omega
   rw[List.length_map]
   omega
  refine⟨_,rfl,.tup Pp,_,rfl,ai.cp (ai.upd hl) (c:=.tup Pp) hc,Ff (K:=K) (c:=.tup Pp) (xs:=cs.map Cp.val) (λi σ H2=>∃v4,σ=[some (.ref Pp),some (.ref o),some (.ref m),some (.ref l),v4]/\ai H H2/\H2 l=some (.lst ((fo.2::fm.2::(rows.take i).flatten.map (·.2)).map V.int)))
   ⟨_,rfl,ai.upd hl,af⟩ (λi σ H2 _ ⟨_,_,s2,_⟩=>ai.cp s2 hc) ?_ ?_⟩
  ·rintro i x σ H2 hx ⟨v4,rfl,s2,hl2⟩
   obtain⟨c,ec,rfl⟩:=g7 hx
   obtain⟨row,er,⟨ps,hc2,hp2⟩⟩:=Paired.at hp ec
   have UZ:=ai.cp s2 hc2
   refine⟨_,rfl,.inl ⟨rfl,_,bZ.of hl2⟩,?_⟩
   refine⟨_,rfl,c,_,rfl,UZ,λlx hlx=>?_⟩
   refine⟨λj m' ys H3=>m'=row.length-j/\j<=row.length/\ai H2 H3/\H3 lx=some (.lst ys)/\ys=((row.take j).map (·.2)).map V.int,⟨row.length,rfl,Nat.zero_le _,ai.upd hlx,af,rfl⟩,?_⟩
   rintro j m' ys H3 ⟨rfl,hj,s3,RA,rfl⟩
   have zr:=ai.cp s3 UZ
   by_cases V9:j<row.length
   ·have hpj:j<ps.length:=by rw[Paired.len hp2];exact V9
    have e1:(ps.map V.ref)[j]? =some (.ref ps[j]):=by rw[List.getElem?_map,List.getElem?_eq_getElem hpj];rfl
    refine .inr ⟨⟨_,_,zr,e1⟩,?_⟩
    rintro y H4 ⟨rfl,UA⟩
    have ey:=UA _ zr
    rw[e1]at ey
    cases ey
    refine⟨Kp.rep _ _,?_⟩
    obtain⟨f,ef,hf⟩:=Paired.at hp2 (List.getElem?_eq_getElem hpj)
    have hf':=hf.same (s2.trans s3)
    refine⟨_,rfl,_,_,_,_,rfl,rfl,hf',rfl,?_⟩
    refine⟨RA,?_,row.length-(j+1),by omega,rfl,V9,ai.at s3 hlx,af,?_⟩
    ·rw[List.length_map,List.length_map,List.length_take]
     have:=Rw row (List.mem_of_getElem? er)
     exact Nat.lt_of_lt_of_le (show min j row.length<100 by omega) (by decide)
    ·rw[take_snoc ef,List.map_append,List.map_append]
     rfl
   ·have ej:j=row.length:=by omega
    subst ej
    rw[List.take_of_length_le (Nat.le_refl _)]at RA
    refine .inl ⟨⟨_,zr,by rw[List.length_map,Paired.len hp2];exact Nat.le_refl _⟩,?_⟩
    have hl3:=s3 _ _ hl2
    refine⟨l,lx,_,_,rfl,rfl,hl3,RA,?_,?_⟩
    ·have a:=ZU i
     have a2:=Rw row (List.mem_of_getElem? er)
     have a3:((fo.2::fm.2::(rows.take i).flatten.map (·.2)).map V.int).length+((row.map (·.2)).map V.int).length<=200:=by
      rw[List.length_map,List.length_cons,List.length_cons,List.length_map,List.length_map,List.length_map]
      rw[List.length_map]at a
      omega
     exact Nat.le_trans a3 (by decide)
    refine⟨_,rfl,ai.at (s2.trans s3) hl,?_⟩
    rw[af,take_snoc er,List.flatten_append,List.map_append]
    simp
  ·rintro σ H2 ⟨v4,rfl,s2,hl2⟩
   refine⟨_,rfl,?_⟩
   rw[List.length_map,Paired.len hp,List.take_of_length_le (Nat.le_refl _)]at hl2
   exact k l H2 s2 hl hl2
theorem vF {fY aW:Addr} {eO aT:FuncData} {p:Pm} (T:Txt K mg p base) (cT:Dn K mg "unit_factors" jZ ["unders"] fY eO) (aI:Dn K mg "greatest_divisor" cL M6 aW aT) (eE:aJ P w K mg base ck 1 aW aT M6 Ge):aJ P w K mg base ck 2 fY eO ["unders"] (zJ K):=by
 refine cT.fn.ok eL (λvs H Q E h=>?_) (λcdv A outer s H vs Q E hr h=>?_)
 ·obtain⟨l,ns,rfl,_⟩:=h
  rfl
 ·obtain⟨l,ns,rfl,hl,hn,hs,k⟩:=h
  refine⟨_,(aj (aC (i:=1) eL.nd rfl (Or.inl rfl) (g6 ah))
   (aj (aC (i:=2) eL.nd rfl (Or.inl rfl) ak)
   (aj (cy PassesOwn.never rfl (nU (pv 0)) (aK (i:=3) eL.nd rfl (Or.inl rfl)) (aj (aC (i:=4) eL.nd rfl (Or.inl rfl) (aF cM (pv 3) (az eE (hr.mono (by decide)) rfl aI.m aI.fn.kp aI.b .nil aO (aa (pv 2) (aa (pv 3) ah)))))
   (ao (bN (aP xm (pv 4) ak (aZ _)) (aj (cj (lS PySem.F.plainAttrs_list PySem.F.slot_list_append PySem.F.type_list_append cE (pv 1) (aa (pv 4) ah)))
   (ao (aC (i:=2) eL.nd rfl (Or.inl rfl) (aF lY (pv 2) (pv 4))))) aN))))
   (ao (aL (pv 1)))))),?_⟩
  refine⟨by show 0<=sizeLine;decide,λq hq=>?_⟩
  refine⟨_,rfl,l,rfl,⟨_,ai.seq (ai.upd hq) hl⟩,oM (K:=K) (a:=l) (xs:=ns.map V.int) (λi σ H2=>∃v3 v4,σ=[some (.ref l),some (.ref q),some (.int (oO (ns.take i)).2),v3,v4]/\ai H H2/\H2 q=some (.lst ((oO (ns.take i)).1.map V.int)))
   ⟨_,_,rfl,ai.upd hq,af⟩ (λi σ H2 _ ⟨_,_,_,s2,_⟩=>ai.seq s2 hl) ?_ ?_⟩
  ·rintro i x σ H2 hx ⟨v3,v4,rfl,s2,hq2⟩
   obtain⟨b,eb,rfl⟩:=g7 hx
   have hi:i<ns.length:=(List.getElem?_eq_some_iff.mp eb).1
   have hb:=hs b (List.mem_of_getElem? eb)
   have F:=uP hs i (Nat.le_of_lt hi)
   have es:oO (ns.take (i+1))=qR (oO (ns.take i)) b:=by rw[take_snoc eb,xT]
   have fl:=F.len
   rw[List.length_take]at fl
   rw[es]
   unfold qR
   generalize hp:oO (ns.take i)=pr at *
   obtain⟨fs,u⟩:=pr
   obtain⟨b1,b2⟩:=hb
   have g1:=pF u b1
   have g2:=Fc u b1
   obtain⟨d1,d2⟩:=GS (u:=u) ⟨b1,b2⟩
   refine⟨_,rfl,_,rfl,_,rfl,u,b,rfl,Int.le_of_lt b1,_,_,rfl,rfl,⟨g1,by omega⟩,_,rfl,_,_,rfl,rfl,_,rfl,?_⟩
   refine dF (λh1=>?_) (λh1=>?_)
   ·rw[if_pos h1]
    refine⟨_,rfl,.inl ⟨rfl,_,bZ.of hq2⟩,_,rfl,q,_,_,rfl,rfl,hq2,?_,?_⟩
    ·rw[List.length_map]
     exact Nat.lt_of_le_of_lt (show fs.length<=1000 by dsimp only at fl;omega) (by decide)
    refine⟨_,rfl,_,rfl,_,_,rfl,rfl,.inr ⟨by omega,by omega⟩,?_⟩
    exact⟨_,_,rfl,ai.at s2 hq,by rw[af,List.map_append];rfl⟩
   ·rw[if_neg h1]
    exact⟨_,_,rfl,s2,hq2⟩
  ·rintro σ H2 ⟨v3,v4,rfl,s2,hq2⟩
   refine⟨_,rfl,?_⟩
   rw[List.length_map,List.take_of_length_le (Nat.le_refl _)]at hq2
   exact k q H2 s2 hq hq2
theorem yD {iY:Addr} {gG:FuncData} {p:Pm} (T:Txt K mg p base) (fk:Dn K mg "product_of" mE ["factors"] iY gG)  :aJ P w K mg base ck 1 iY gG ["factors"] (JF K):=by
 refine fk.fn.ok lE (λvs H Q E h=>?_) (λcdv A outer s H vs Q E hr h=>?_)
 ·obtain⟨l,fs,rfl,_⟩:=h
  rfl
 ·obtain⟨l,fs,rfl,hl,hs,k⟩:=h
  refine⟨_,(aj (aC (i:=1) lE.nd rfl (Or.inl rfl) ak)
   (aj (cy PassesOwn.never rfl (nU (pv 0)) (aK (i:=2) lE.nd rfl (Or.inl rfl)) (ao (aC (i:=1) lE.nd rfl (Or.inl rfl) (aF lY (pv 1) (pv 2)))))
   (ao (aL (pv 1))))),?_⟩
  refine⟨_,rfl,l,rfl,⟨_,hl⟩,oM (K:=K) (a:=l) (xs:=fs.map V.int) (λi σ H2=>H2=H/\∃v2,σ=[some (.ref l),some (.int (rm (fs.take i))),v2])
   ⟨rfl,_,rfl⟩ (λi σ H2 _ ⟨e,_⟩=>by subst e;exact hl) ?_ ?_⟩
  ·rintro i x σ H2 hx ⟨rfl,v2,rfl⟩
   obtain⟨b,eb,rfl⟩:=g7 hx
   obtain⟨b1,b2⟩:=hs b (List.mem_of_getElem? eb)
   refine⟨_,rfl,_,rfl,_,_,rfl,rfl,.inr ⟨by omega,by omega⟩,rfl,some (.int b),?_⟩
   rw[take_snoc eb,rV]
   rfl
  ·rintro σ H2 ⟨rfl,v2,rfl⟩
   refine⟨_,rfl,?_⟩
   rw[List.length_map,List.take_of_length_le (Nat.le_refl _)]
   exact k
theorem EL {i9:Addr} {gy:FuncData} {p:Pm} (T:Txt K mg p base) (cG:Dn K mg "by_unit" oH Ri i9 gy)  :aJ P w K mg base ck 1 i9 gy Ri (wR K):=by
 refine cG.fn.ok Ew (λvs H Q E h=>?_) (λcdv A outer s H vs Q E hr h=>?_)
 ·obtain⟨p,f,u,rfl,_⟩:=h
  rfl
 ·obtain⟨p,f,u,rfl,hS,⟨h1,h2⟩,b1,b2,k⟩:=h
  refine⟨_,(ao (aL (aF MM (aU bK (pv 0) ak (λ_ _=>rfl)) (aF cM (pv 1) (aU bK (pv 0) ak (λ_ _=>rfl)))))),?_⟩
  exact⟨_,rfl,_,_,_,_,rfl,rfl,hS,rfl,_,rfl,_,rfl,_,_,_,_,rfl,rfl,hS,rfl,_,_,rfl,rfl,⟨by omega,h2⟩,_,_,rfl,rfl,⟨b1,b2⟩,k⟩
end
section
variable{P:Program}{w:World}{K:PySem.W.Frag}{mg:Str->Option Value}{base:Heap}
theorem EJ {mY:Addr} {kY:FuncData} {p:Pm} (T:Txt K mg p base) (jR:Dn K mg "is_sign" qL ["sign"] mY kY)  :aJ P w K mg base ck 1 mY kY ["sign"] Ck:=by
 refine jR.fn.ok wV (λvs H Q E h=>?_) (λcdv A outer s H vs Q E hr h=>?_)
 ·obtain⟨c,rfl,_⟩:=h
  rfl
 ·obtain⟨c,rfl,k⟩:=h
  refine⟨_,(aj (aC (i:=1) wV.nd rfl (Or.inl rfl) (aD (LA) rfl T.z_ord RW (aa (pv 0) ah)))
   (ao (aL (ng (Kg Gx Gx (e7 (v:=.int 32) rfl T.A4 ⟨_,rfl⟩) (pv 1) (e7 (v:=.int 126) rfl T.Dr ⟨_,rfl⟩)) (o8 (g9 sZ (pv 1) (e7 (v:=.ref p.ju) rfl T.Fd rfl) (by with_unfolding_all rfl))))))),?_⟩
  refine⟨_,rfl,_,rfl,rfl,?_⟩
  have k':Q (.bl ((decide ((32:Int)<=(c:Int))&&decide ((c:Int)<=126))&& !N9 (.int c) [.int 34,.int 37,.int 45])) H:=k
  refine⟨_,rfl,_,_,rfl,rfl,_,rfl,?_⟩
  refine dF (λh1=>?_) (λh1=>?_)
  ·refine⟨_,_,rfl,rfl,_,rfl,?_⟩
   have rE:(32:Int)<=(c:Int):=h1
   rw[decide_eq_true rE,Bool.true_and]at k'
   refine dF (λh2=>?_) (λh2=>?_)
   ·have h2':(c:Int)<=126:=h2
    rw[decide_eq_true h2',Bool.true_and]at k'
    exact⟨_,rfl,_,_,rfl,.inr (T.Ez _),rfl,rfl,k'⟩
   ·have h2':¬(c:Int)<=126:=h2
    rw[decide_eq_false h2',Bool.false_and]at k'
    exact k'
  ·have rE:¬(32:Int)<=(c:Int):=h1
   rw[decide_eq_false rE,Bool.false_and,Bool.false_and]at k'
   exact⟨_,rfl,kI k'⟩
theorem AS {jM mY:Addr} {iT kY:FuncData} {p:Pm} (T:Txt K mg p base) (gq:Dn K mg "are_signs" nR ["text"] jM iT) (jR:Dn K mg "is_sign" qL ["sign"] mY kY) (IV:aJ P w K mg base ck 1 mY kY ["sign"] Ck):aJ P w K mg base ck 2 jM iT ["text"] wU:=by
 refine gq.fn.ok AD (λvs H Q E h=>?_) (λcdv A outer s H vs Q E hr h=>?_)
 ·obtain⟨x,rfl,_⟩:=h
  rfl
 ·obtain⟨x,rfl,hx,k⟩:=h
  refine⟨_,(ao (aL (aD (vp rfl) rfl T.NL LH (aa (o9 (N:=["sign"]) rfl (λ_=>⟨[],dm.plain (by decide +kernel) rfl (by decide +kernel) (by decide +kernel)⟩) (ED (pv 0)) (λ_ _ _ _ _ _ _=>(aK (i:=0) (show(["sign"]:List Str).Nodup by decide +kernel) rfl (Or.inl rfl))) (λ_ _ _ _ _ _ _=>(az IV (hr.mono (by decide)) rfl jR.m jR.fn.kp jR.b .nil aO (aa (pv 0) ah)))) ah)))),?_⟩
  refine⟨_,rfl,x,rfl,λl hl=>?_⟩
  refine⟨λi m ys H2=>m=x.cps.size-i/\i<=x.cps.size/\ai H H2/\H2 l=some (.lst ys)/\ys=((x.cps.toList.take i).map pD).map V.bl,⟨x.cps.size,rfl,Nat.zero_le _,ai.upd hl,af,rfl⟩,?_⟩
  rintro i m ys H2 ⟨rfl,hi,s2,hl2,rfl⟩
  by_cases hlt:i<x.cps.size
  ·refine .inr ⟨hlt,?_⟩
   rintro y H3 ⟨rfl,c,ec,rfl⟩
   refine⟨Kp.rep _ _,?_⟩
   refine⟨_,rfl,c,rfl,?_⟩
   refine⟨hl2,?_,x.cps.size-(i+1),by omega,rfl,hlt,ai.at s2 hl,af,?_⟩
   ·rw[List.length_map,List.length_map,List.length_take]
    exact Nat.lt_of_le_of_lt (show min i x.cps.toList.length<=1000 by omega) (by decide)
   ·rw[take_snoc (x:=c) (by rw[Array.getElem?_toList];exact ec),List.map_append,List.map_append]
    rfl
  ·have ei:i=x.cps.size:=by omega
   subst ei
   refine .inl ⟨Nat.le_refl _,?_⟩
   rw[List.take_of_length_le (by rw[Array.length_toList];exact Nat.le_refl _)]at hl2
   refine⟨l,_,rfl,bZ.of hl2,?_⟩
   have e:(x.cps.toList.map pD).all id=x.cps.toList.all pD:=by rw[List.all_map];rfl
   rw[e]
   exact k H2 s2
theorem xx {gW jM:Addr} {fV iT:FuncData} {p:Pm} (T:Txt K mg p base) (dP:Dn K mg "check_signs" lK ["signs"] gW fV) (gq:Dn K mg "are_signs" nR ["text"] jM iT) (D0:aJ P w K mg base ck 2 jM iT ["text"] wU):aJ P w K mg base ck 3 gW fV ["signs"] sN:=by
 refine dP.fn.ok wX (λvs H Q E h=>?_) (λcdv A outer s H vs Q E hr h=>?_)
 ·obtain⟨x,rfl,_⟩:=h
  rfl
 ·obtain⟨x,rfl,⟨h1,h2,h3,h4⟩,k⟩:=h
  refine⟨_,(aj (bN (aP gi (aD (bq) rfl T.cY bP (aa (pv 0) ah)) ak (aZ _)) eN aN)
   (aj (bN (xg (lW (az D0 (hr.mono (by decide)) rfl gq.m gq.fn.kp gq.b .nil aO (aa (pv 0) ah)))) eN aN)
   (ao (bN (aP qf (aD (yT) rfl T.cY bP (aa (oJ (IB rfl) rfl T.SA RV (aa (pv 0) ah)) ah)) (aD (bq) rfl T.cY bP (aa (pv 0) ah)) (aZ _)) eN aN)))),?_⟩
  have hz:x.length<=sizeLine:=Nat.le_trans h2 (by decide)
  refine⟨_,rfl,_,_,rfl,⟨hz,rfl⟩,rfl,_,rfl,?_⟩
  refine qo (λz=>absurd z (by show ¬((x.cps.size:Nat):Int)=0;omega)) λ_=>?_
  refine⟨_,rfl,x,rfl,Nat.le_trans h2 (by decide),λH2 s2=>?_⟩
  refine⟨_,rfl,?_⟩
  rw[List.all_eq_true.mpr h3]
  refine ve ?_
  refine⟨_,rfl,x,rfl,Nat.lt_of_le_of_lt (Nat.succ_le_succ h2) (by decide),λp hp=>?_⟩
  refine⟨p,_,rfl,af,_,rfl,_,_,rfl,⟨hz,rfl⟩,rfl,_,rfl,?_⟩
  refine uM (λz=>absurd (by rw[HV h4];rfl) z) λ_=>?_
  exact k _ (s2.trans (ai.upd hp))
theorem uB {eZ:Addr} {dX:FuncData} {p:Pm} (T:Txt K mg p base) (cJ:Dn K mg "check_lengths" jn Uk eZ dX)  :aJ P w K mg base ck 1 eZ dX Uk (pY K):=by
 refine cJ.fn.ok oF (λvs H Q E h=>?_) (λcdv A outer s H vs Q E hr h=>?_)
 ·obtain⟨x,c,rows,rfl,_⟩:=h
  rfl
 ·obtain⟨x,c,rows,rfl,⟨nc,cs,ncs,hc,hp⟩,hx,⟨hq1,hq2⟩,k⟩:=h
  refine⟨_,(aj (bN (aP qf (aD (bq) rfl T.cY bP (aa (pv 1) ah)) (aD (bq) rfl T.cY bP (aa (pv 0) ah)) (aZ _)) eN aN)
   (ao (cy PassesOwn.never rfl (zP (pv 1)) (aK (i:=2) oF.nd rfl (Or.inl rfl)) (ao (bN (aP qf (aD (bq) rfl T.cY bP (aa (pv 2) ah)) (aD (bq) rfl T.cY bP (aa (pv 0) ah)) (aZ _)) eN aN))))),?_⟩
  have hz:x.length<=sizeLine:=Nat.le_trans hx (by decide)
  have hl:(cs.map Cp.val).length=x.cps.size:=by rw[List.length_map,Paired.len hp,hq1]
  refine⟨_,rfl,_,_,rfl,Lx hc nc,_,rfl,_,_,rfl,⟨hz,rfl⟩,rfl,_,rfl,?_⟩
  refine uM (λz=>absurd (by rw[hl];rfl) z) λ_=>?_
  refine⟨_,rfl,c,_,rfl,hc,Ff (K:=K) (c:=c) (xs:=cs.map Cp.val) (λi σ H2=>H2=H/\∃v,σ=[some (.str x),some c.val,v]) ⟨rfl,_,rfl⟩ (λi σ H2 _ ⟨e,_⟩=>by subst e;exact hc) ?_ ?_⟩
  ·rintro i y σ H2 hy ⟨rfl,v,rfl⟩
   obtain⟨d,ed,rfl⟩:∃d,cs[i]? =some d/\y=d.val:=by
    rw[List.getElem?_map]at hy
    cases e:cs[i]? with
    |none=>rw[e]at hy;cases hy
    |some d=>rw[e]at hy;exact⟨d,rfl,(Option.some.inj hy).symm⟩
   obtain⟨row,er,hr2⟩:=Paired.at hp ed
   refine⟨_,rfl,_,_,rfl,hr2.len (ncs d (List.mem_of_getElem? ed)),_,rfl,_,_,rfl,⟨hz,rfl⟩,rfl,_,rfl,?_⟩
   refine uM (λz=>absurd (by rw[hq2 row (List.mem_of_getElem? er)];rfl) z) λ_=>?_
   exact⟨rfl,_,rfl⟩
  ·rintro σ H2 ⟨rfl,v,rfl⟩
   exact k
end
section
variable{P:Program}{w:World}{K:PySem.W.Frag}{mg:Str->Option Value}{base:Heap}
theorem tu {dY i9:Addr} {c5 gy:FuncData} {p:Pm} (T:Txt K mg p base) (cg:Dn K mg "costs_by_signs" iL Uj dY c5) (cG:Dn K mg "by_unit" oH Ri i9 gy) (qU:aJ P w K mg base ck 1 i9 gy Ri (wR K)):aJ P w K mg base ck 2 dY c5 Uj (Gg K):=by
 refine cg.fn.ok cZ (λvs H Q E h=>?_) (λcdv A outer s H vs Q E hr h=>?_)
 ·obtain⟨x,Pp,u,rows,rfl,_⟩:=h
  rfl
 ·obtain⟨x,Pp,u,rows,rfl,hM,hx,nd,⟨hq1,hq2⟩,ho,k⟩:=h
  refine⟨_,(aj (aC (i:=3) cZ.nd rfl (Or.inl rfl) CI)
   (aj (cy PassesOwn.never rfl (EC rfl rfl T.Jc (aa (pv 0) (aa (pv 1) ah))) (m7 (n:=2) rfl (bG (aK (i:=4) cZ.nd rfl (Or.inl rfl)) (bG (aK (i:=5) cZ.nd rfl (Or.inl rfl)) jo))) (ao (cy PassesOwn.never rfl (EC rfl rfl T.Jc (aa (pv 0) (aa (pv 5) ah))) (m7 (n:=2) rfl (bG (aK (i:=6) cZ.nd rfl (Or.inl rfl)) (bG (aK (i:=7) cZ.nd rfl (Or.inl rfl)) jo))) (ao (sS (kJ hr) (pv 3) (bA (aa (pv 4) (aa (pv 6) ah))) (az qU (hr.mono (by decide)) rfl cG.m cG.fn.kp cG.b .nil aO (aa (pv 7) (aa (pv 2) ah))) rfl)))))
   (ao (aL (pv 3))))),?_⟩
  intro d hd
  obtain⟨qs,hqs,hp⟩:=hM
  have hlen:qs.length=x.cps.size:=by rw[Paired.len hp,hq1]
  have hmin:min (eK x).length (qs.map V.ref).length=x.cps.size:=by rw[signs_length,List.length_map,hlen,Nat.min_self]
  refine⟨_,rfl,_,rfl,.txt x,.tup Pp,_,_,rfl,rfl,Dat.tup (Dat.of (ai.upd hd)) hqs,GN (K:=K) (c:=.txt x) (d:=.tup Pp) (xs:=eK x) (ys:=qs.map V.ref) (λi σ H2=>∃kvs v4 v5 v6 v7,σ=[some (.str x),some (.ref Pp),some (.int u),some (.ref d),v4,v5,v6,v7]/\ai H H2/\H2 d=some (.dT kvs)/\kvs.length<=i*x.cps.size/\lA kvs x rows u i 0)
   ⟨[],_,_,_,_,rfl,ai.upd hd,af,Nat.zero_le _,lA.nil x rows u⟩ (λi σ H2 _ ⟨kvs,v4,v5,v6,v7,_,s2,_⟩=>⟨rfl,Dat.tup (Dat.of s2) hqs⟩) ?_ ?_⟩
  ·rintro i y z p1 σ H2 hy hz hp1 ⟨kvs,v4,v5,v6,v7,rfl,s2,hd2,hk,hc⟩
   obtain⟨a,ha,rfl⟩:=signs_get hy
   obtain⟨q,hq,rfl⟩:=g7 hz
   obtain⟨row,er,K8⟩:=Paired.at hp hq
   have hi:i<x.cps.size:=by rw[←hlen];exact(List.getElem?_eq_some_iff.mp hq).1
   obtain⟨ps,hps,hpp⟩:=K8
   have hpl:ps.length=x.cps.size:=by rw[Paired.len hpp,hq2 row (List.mem_of_getElem? er)]
   have UO:min (eK x).length (ps.map V.ref).length=x.cps.size:=by rw[signs_length,List.length_map,hpl,Nat.min_self]
   refine⟨p1,_,rfl,cP.of af,rfl,_,_,rfl,_,_,rfl,rfl,?_⟩
   have VZ:d≠p1:=aM hd2 hp1
   refine⟨_,rfl,_,rfl,.txt x,.tup q,_,_,rfl,rfl,Dat.tup (Dat.of (s2.trans (ai.upd hp1))) hps,GN (K:=K) (c:=.txt x) (d:=.tup q) (xs:=eK x) (ys:=ps.map V.ref)
    (λj σ H3=>∃kvs v6 v7,σ=[some (.str x),some (.ref Pp),some (.int u),some (.ref d),some (.str ⟨#[a]⟩),some (.ref q),v6,v7]/\ai H H3/\H3 d=some (.dT kvs)/\kvs.length<=i*x.cps.size+j/\lA kvs x rows u i j)
    ⟨kvs,v6,v7,rfl,s2.trans (ai.upd hp1),by rw[au VZ];exact hd2,hk,hc⟩ (λj σ H3 _ ⟨kvs,v6,v7,_,s3,_⟩=>⟨rfl,Dat.tup (Dat.of s3) hps⟩) ?_ ?_⟩
   ·rintro j y z p2 σ H3 hy hz hp2 ⟨kvs,v6,v7,rfl,s3,Nj,hk,hc⟩
    obtain⟨b,hb,rfl⟩:=signs_get hy
    obtain⟨pr,hpr,rfl⟩:=g7 hz
    obtain⟨f,ef,hf⟩:=Paired.at hpp hpr
    have hj:j<x.cps.size:=by rw[←hpl];exact(List.getElem?_eq_some_iff.mp hpr).1
    obtain⟨o1,o2,o3⟩:=ho row (List.mem_of_getElem? er) f (List.mem_of_getElem? ef)
    refine⟨p2,_,rfl,cP.of af,rfl,_,_,rfl,_,_,rfl,rfl,?_⟩
    have s4:=s3.trans (ai.upd (o:=.tup [.str ⟨#[b]⟩,.ref pr]) hp2)
    have Ld:upd H3 p2 (.tup [.str ⟨#[b]⟩,.ref pr]) d=some (.dT kvs):=by rw[au (aM Nj hp2)];exact Nj
    refine⟨_,rfl,_,rfl,pr,f,u,rfl,hf.same s4,o1,o2.bg,o3.bg,?_⟩
    refine⟨_,rfl,_,rfl,_,rfl,by show 2<=sizeLine;decide,λt ht=>?_⟩
    have Oo:upd (upd H3 p2 (.tup [.str ⟨#[b]⟩,.ref pr])) t (.tup [.str ⟨#[a]⟩,.str ⟨#[b]⟩]) d=some (.dT kvs):=by rw[au (aM Ld ht)];exact Ld
    have hsz:kvs.length<sizeLine:=by
     have:i*x.cps.size<=100*100:=Nat.mul_le_mul (by omega) hx
     have:kvs.length<20000:=by omega
     exact Nat.lt_of_lt_of_le this (by decide)
    refine⟨d,_,rfl,yl.t (k:=keyOf a b) Oo af hsz,?_⟩
    refine⟨putK kvs (keyOf a b) (.int (f.1*(u / f.2))),_,_,rfl,ai.at (s4.trans (ai.upd ht)) hd,af,?_,hc.put nd ha hb ⟨row,er,ef⟩⟩
    have:=iw kvs (keyOf a b) (.int (f.1*(u / f.2)))
    omega
   ·rintro σ H3 ⟨kvs,v6,v7,rfl,s3,Nj,hk,hc⟩
    rw[UO]at hk hc
    refine⟨kvs,_,_,_,_,rfl,s3,Nj,?_,hc.row (Nat.le_refl _)⟩
    rw[Nat.succ_mul]
    exact hk
  ·rintro σ H2 ⟨kvs,v4,v5,v6,v7,rfl,s2,hd2,hk,hc⟩
   rw[hmin]at hc
   exact⟨_,rfl,k d H2 kvs s2 hd hd2 (hc.all (Nat.le_refl _))⟩
theorem AJ {ff:Addr} {dG:FuncData} {p:Pm} (T:Txt K mg p base) (b9:Dn K mg "pair_cost" lR Rh ff dG)  :aJ P w K mg base ck 1 ff dG Rh (rP K p.aq):=by
 refine b9.fn.ok Az (λvs H Q E h=>?_) (λcdv A outer s H vs Q E hr h=>?_)
 ·obtain⟨x,sg,rows,fo,fm,i,j,a,b,f,rfl,_⟩:=h
  rfl
 ·obtain⟨x,sg,rows,fo,fm,i,j,a,b,f,rfl,⟨_,_,_,_,_,_,_,dx,Pp,o,m,d,kvs,h1,h2,h3,h4,h5,h6⟩,ha,hb,hf,k⟩:=h
  refine⟨_,(ao (aL (lO (kJ hr) (dh (pv 0) rfl) (bA (aa (pv 1) (aa (pv 2) ah))) (λ_ _=>rfl)))),?_⟩
  refine⟨_,rfl,x,_,_,_,_,rfl,h1,T.aY,T.qh,Fg,?_⟩
  refine⟨_,rfl,_,rfl,by show 2<=sizeLine;decide,λt ht=>?_⟩
  have Oo:upd H t (.tup [.str ⟨#[a]⟩,.str ⟨#[b]⟩]) d.1=some (.dT kvs):=by rw[au (aM h5 ht)];exact h5
  have z:=pR.t (k:=keyOf a b) Oo af
  rw[h6.1 i j a b f ha hb hf]at z
  exact⟨d.1,_,rfl,z,k _ (ai.upd ht)⟩
theorem vH {f6:Addr} {eV:FuncData} {p:Pm} (T:Txt K mg p base) (cU:Dn K mg "opening_cost" j3 l8 f6 eV)  :aJ P w K mg base ck 2 f6 eV l8 (zH K p.aq):=by
 refine cU.fn.ok vB (λvs H Q E h=>?_) (λcdv A outer s H vs Q E hr h=>?_)
 ·obtain⟨x,sg,rows,fo,fm,rfl,_⟩:=h
  rfl
 ·obtain⟨x,sg,rows,fo,fm,rfl,⟨_,_,_,_,_,_,_,dx,Pp,o,m,d,kvs,h1,h2,h3,h4,h5,h6⟩,k⟩:=h
  refine⟨_,(ao (aL (dh (pv 0) rfl))),?_⟩
  exact⟨_,rfl,x,_,_,_,_,rfl,h1,T.aY,T.kc,sF,k⟩
theorem AK {jF:Addr} {iM:FuncData} {p:Pm} (T:Txt K mg p base) (cV:Dn K mg "more_cost" nK l8 jF iM)  :aJ P w K mg base ck 2 jF iM l8 (JI K p.aq):=by
 refine cV.fn.ok AA (λvs H Q E h=>?_) (λcdv A outer s H vs Q E hr h=>?_)
 ·obtain⟨x,sg,rows,fo,fm,rfl,_⟩:=h
  rfl
 ·obtain⟨x,sg,rows,fo,fm,rfl,⟨_,_,_,_,_,_,_,dx,Pp,o,m,d,kvs,h1,h2,h3,h4,h5,h6⟩,k⟩:=h
  refine⟨_,(ao (aL (dh (pv 0) rfl))),?_⟩
  exact⟨_,rfl,x,_,_,_,_,rfl,h1,T.aY,T.lZ,vR,k⟩
theorem CQ {k6 aW:Addr} {jC aT:FuncData} {p:Pm} (T:Txt K mg p base) (iC:Dn K mg "in_units" oZ Ui k6 jC) (aI:Dn K mg "greatest_divisor" cL M6 aW aT) (eE:aJ P w K mg base ck 1 aW aT M6 Ge):aJ P w K mg base ck 2 k6 jC Ui (zI K p.aq):=by
 refine iC.fn.ok ia (λvs H Q E h=>?_) (λcdv A outer s H vs Q E hr h=>?_)
 ·obtain⟨x,n,sg,rows,fo,fm,rfl,_⟩:=h
  rfl
 ·obtain⟨x,n,sg,rows,fo,fm,rfl,⟨_,_,_,_,_,u1,u2,dx,Pp,o,m,d,kvs,h1,h2,h3,h4,h5,h6,fs,h7,h8,h9⟩,k⟩:=h
  refine⟨_,(aj (aC (i:=2) ia.nd rfl (Or.inl rfl) (pv 1))
   (aj (aC (i:=3) ia.nd rfl (Or.inl rfl) ak)
   (aj (cy PassesOwn.never rfl (nU (dh (pv 0) rfl)) (aK (i:=4) ia.nd rfl (Or.inl rfl)) (aj (aC (i:=5) ia.nd rfl (Or.inl rfl) (az eE (hr.mono (by decide)) rfl aI.m aI.fn.kp aI.b .nil aO (aa (pv 2) (aa (pv 4) ah))))
   (aj (aC (i:=2) ia.nd rfl (Or.inl rfl) (aF cM (pv 2) (pv 5)))
   (ao (aC (i:=3) ia.nd rfl (Or.inl rfl) (aF lY (pv 3) (aF cM (pv 4) (pv 5))))))))
   (ao (aL (bA (aa (pv 2) (aa (pv 3) ah)))))))),?_⟩
  refine⟨_,rfl,_,rfl,x,_,_,_,_,rfl,h1,T.aY,T.kO,pH,d.2,rfl,⟨_,bZ.of h9⟩,oM (K:=K) (a:=d.2) (xs:=fs.map V.int) (λi σ H2=>H2=H/\∃(ov un:Int) (v4 v5:Option V),σ=[some (.ref x),some (.int n),some (.int ov),some (.int un),v4,v5]/\0<un/\Int.gcd ov un=1/\ov*rm (fs.take i)=n*un)
   ⟨rfl,n,1,_,_,rfl,by decide,Int.gcd_one_right n,by show n*rm []=n*1;rfl⟩ (λi σ H2 _ ⟨e,_⟩=>by subst e;exact bZ.of h9) ?_ ?_⟩
  ·rintro i y σ H2 hy ⟨rfl,ov,un,v4,v5,rfl,hun,hg,he⟩
   obtain⟨b,eb,rfl⟩:=g7 hy
   obtain⟨b1,b2⟩:=h7 b (List.mem_of_getElem? eb)
   have g1:=pF ov b1
   have g2:=Fc ov b1
   have d1:0<b / (Int.gcd ov b:Int):=Int.ediv_pos_of_pos_of_dvd b1 (Int.le_of_lt g1) (Int.gcd_dvd_right ov b)
   have d2:b / (Int.gcd ov b:Int)<=b:=Int.ediv_le_self _ (Int.le_of_lt b1)
   refine⟨_,rfl,_,rfl,ov,b,rfl,Int.le_of_lt b1,_,rfl,_,rfl,_,_,rfl,rfl,⟨g1,by omega⟩,_,rfl,_,rfl,_,rfl,_,_,rfl,rfl,⟨g1,by omega⟩,_,_,rfl,rfl,.inr ⟨by omega,by omega⟩,?_⟩
   refine⟨rfl,_,_,_,_,rfl,Int.mul_pos hun d1,Ly b1 hg,?_⟩
   rw[take_snoc eb,rV]
   exact Fq he
  ·rintro σ H2 ⟨rfl,ov,un,v4,v5,rfl,hun,hg,he⟩
   rw[List.length_map,List.take_of_length_le (Nat.le_refl _),h8]at he
   have el:=TM u1 hun hg he
   refine⟨_,rfl,_,rfl,by show 2<=sizeLine;decide,λq hq=>k q _ (ai.upd hq) hq ?_⟩
   rw[af,el]
end
section
variable{P:Program}{w:World}{K:PySem.W.Frag}{mg:Str->Option Value}{base:Heap}
theorem rY {bu gW eZ eY cA ja fY iY dY i9:Addr} {d8 fV dX dW b7 gO eO gG c5 gy:FuncData} {p:Pm} (T:Txt K mg p base) (c7:Dm K "__init__" "Prices.__init__" bT Sj bu d8) (dP:Dn K mg "check_signs" lK ["signs"] gW fV) (zk:aJ P w K mg base ck 3 gW fV ["signs"] sN) (cJ:Dn K mg "check_lengths" jn Uk eZ dX) (wc:aJ P w K mg base ck 1 eZ dX Uk (pY K)) (cI:Dn K mg "lowest_prices" jm ["row"] eY dW) (vZ:aJ P w K mg base ck 4 eY dW ["row"] (uU K)) (aX:Dn K mg "lowest_price" ie l7 cA b7) (ko:aJ P w K mg base ck 3 cA b7 l7 (rQ K)) (fD:Dn K mg "all_unders" mK Ul ja gO) (BP:aJ P w K mg base ck 1 ja gO Ul (Cc K)) (cT:Dn K mg "unit_factors" jZ ["unders"] fY eO) (yg:aJ P w K mg base ck 2 fY eO ["unders"] (zJ K)) (fk:Dn K mg "product_of" mE ["factors"] iY gG) (BJ:aJ P w K mg base ck 1 iY gG ["factors"] (JF K)) (cg:Dn K mg "costs_by_signs" iL Uj dY c5) (uS:aJ P w K mg base ck 2 dY c5 Uj (Gg K)) (cG:Dn K mg "by_unit" oH Ri i9 gy) (qU:aJ P w K mg base ck 1 i9 gy Ri (wR K)):aJ P w K mg base ck 5 bu d8 Sj (JM K p.aq):=by
 refine c7.fn.ok rR (λvs H Q E h=>?_) (λcdv A outer s H vs Q E hr h=>?_)
 ·obtain⟨x,dx,o,m,sg,c,rows,fo,fm,rfl,_⟩:=h
  rfl
 ·obtain⟨x,dx,o,m,sg,c,rows,fo,fm,rfl,hx,hS,h12,hM,V4,hok,hfo,Ko,hfm,Kq,k⟩:=h
  have S:=hS
  obtain⟨q1,q2,q3,q4⟩:=S
  refine⟨_,(aj (cj (az zk (hr.mono (by decide)) rfl dP.m dP.fn.kp dP.b .nil aO (aa (pv 1) ah)))
   (aj (cj (az wc (hr.mono (by decide)) rfl cJ.m cJ.fn.kp cJ.b .nil aO (aa (pv 1) (aa (pv 2) ah))))
   (aj (lX (pv 0) (pv 1) rfl)
   (aj (lX (pv 0) (oJ (rG) rfl T.qF oS (aa (o9 (N:=["row"]) rfl (λ_=>⟨[],dm.plain (by decide +kernel) rfl (by decide +kernel) (by decide +kernel)⟩) (zP (pv 2)) (λ_ _ _ _ _ _ _=>(aK (i:=0) (show(["row"]:List Str).Nodup by decide +kernel) rfl (Or.inl rfl))) (λ_ _ _ _ _ _ _=>(az vZ (hr.mono (by decide)) rfl cI.m cI.fn.kp cI.b .nil aO (aa (pv 0) ah)))) ah)) rfl)
   (aj (lX (pv 0) (az ko (hr.mono (by decide)) rfl aX.m aX.fn.kp aX.b .nil aO (aa (pv 3) ah)) rfl)
   (aj (lX (pv 0) (az ko (hr.mono (by decide)) rfl aX.m aX.fn.kp aX.b .nil aO (aa (pv 4) ah)) rfl)
   (aj (lX (pv 0) (az yg (hr.mono (by decide)) rfl cT.m cT.fn.kp cT.b .nil aO (aa (az BP (hr.mono (by decide)) rfl fD.m fD.fn.kp fD.b .nil aO (aa (dh (pv 0) rfl) (aa (dh (pv 0) rfl) (aa (dh (pv 0) rfl) ah)))) ah)) rfl)
   (aj (lX (pv 0) (az BJ (hr.mono (by decide)) rfl fk.m fk.fn.kp fk.b .nil aO (aa (dh (pv 0) rfl) ah)) rfl)
   (aj (lX (pv 0) (az uS (hr.mono (by decide)) rfl cg.m cg.fn.kp cg.b .nil aO (aa (dh (pv 0) rfl) (aa (dh (pv 0) rfl) (aa (dh (pv 0) rfl) ah)))) rfl)
   (aj (lX (pv 0) (az qU (hr.mono (by decide)) rfl cG.m cG.fn.kp cG.b .nil aO (aa (dh (pv 0) rfl) (aa (dh (pv 0) rfl) ah))) rfl)
   (ao (lX (pv 0) (az qU (hr.mono (by decide)) rfl cG.m cG.fn.kp cG.b .nil aO (aa (dh (pv 0) rfl) (aa (dh (pv 0) rfl) ah))) rfl)))))))))))),?_⟩
  refine⟨_,rfl,sg,rfl,hS,λH1 s1=>?_⟩
  refine⟨_,rfl,_,rfl,sg,c,rows,rfl,hM.dat (Dat.of s1),by omega,V4,?_⟩
  have I0:H1 x=some (.ins p.aq dx []):=s1 _ _ hx
  refine⟨_,rfl,_,rfl,x,_,dx,_,rfl,I0,T.aY,T.fR,by decide,?_⟩
  generalize Wg:upd H1 x (.ins p.aq dx (aG "signs" (.str sg) []))=H2
  have hx2:H2 x=some (.ins p.aq dx (aG "signs" (.str sg) [])):=by rw[←Wg];exact af
  have f2:Off x H H2:=by rw[←Wg];exact(Off.of s1).trans Off.set
  obtain⟨nc,cs,ncs,hcs,hp⟩:=hM.dat (f2.dat hx)
  refine⟨_,rfl,c,_,rfl,hcs,λl Oj=>?_⟩
  refine⟨λi n ys H3=>n=rows.length-i/\i<=rows.length/\ai H2 H3/\H3 l=some (.lst ys)/\∃qs:List Addr,ys=qs.map V.ref/\qs.length=i/\Paired (λq r=>kj K H3 (.tup q) r) qs ((yM rows).take i),⟨rows.length,rfl,Nat.zero_le _,ai.upd Oj,af,[],rfl,rfl,.nil⟩,?_⟩
  rintro i n ys H3 ⟨rfl,hi,s3,hl3,qs,rfl,hq,hP⟩
  have zc:c.at K H3 (cs.map Cp.val):=ai.cp s3 hcs
  have hcl:=Paired.len hp
  by_cases hlt:i<rows.length
  ·have hci:i<cs.length:=by omega
   have e1:(cs.map Cp.val)[i]? =some cs[i].val:=by rw[List.getElem?_map,List.getElem?_eq_getElem hci];rfl
   refine .inr ⟨⟨_,_,zc,e1⟩,?_⟩
   rintro y H4 ⟨rfl,hy⟩
   have ey:=hy _ zc
   rw[e1]at ey
   cases ey
   obtain⟨r,er,hr2⟩:=Paired.at hp (List.getElem?_eq_getElem hci)
   have hrm:=List.mem_of_getElem? er
   refine⟨Kp.rep _ _,?_⟩
   refine⟨_,rfl,cs[i],r,rfl,hr2.same s3,λf hf=>(hok r hrm f hf).1,by rw[V4.2 r hrm];omega,λq H5 s5 hqn hR=>?_⟩
   have RC:H5 l=some (.lst (qs.map V.ref)):=s5 _ _ hl3
   refine⟨RC,?_,rows.length-(i+1),by omega,rfl,hlt,ai.at (s3.trans s5) Oj,af,qs++[q],by rw[List.map_append];rfl,by rw[List.length_append,hq];rfl,?_⟩
   ·rw[List.length_map,hq]
    have:i<100:=by rw[V4.1]at hlt;omega
    exact Nat.lt_of_lt_of_le this (by decide)
   ·rw[show(yM rows).take (i+1)=(yM rows).take i++[r.map kD] from rB er]
    refine GP.Paired.snoc (Paired.g8 hP λa b z=>?_) ?_
    ·exact(z.same s5).off RC
    ·exact hR.off RC
  ·have ei:i=rows.length:=by omega
   subst ei
   refine .inl ⟨⟨_,zc,by rw[List.length_map];omega⟩,?_⟩
   refine⟨l,_,rfl,.inl ⟨bZ.of hl3,λPp hPn=>?_⟩⟩
   generalize hH4:upd H3 Pp (.tup (qs.map V.ref))=H4
   have s4:ai H2 H4:=by rw[←hH4];exact s3.trans (ai.upd hPn)
   have m4:Bq K H4 Pp (yM rows):=by
    rw[←hH4]
    refine⟨qs,cP.of af,?_⟩
    rw[List.take_of_length_le (by unfold yM;rw[List.length_map];exact Nat.le_refl _)]at hP
    exact Paired.g8 hP λa b z=>z.same (ai.upd hPn)
   have UD:=s4 _ _ hx2
   refine⟨_,rfl,x,_,dx,_,rfl,UD,T.aY,T.nh,pl1,?_⟩
   generalize ZP:upd H4 x (.ins p.aq dx (aG "pairs" (.ref Pp) (aG "signs" (.str sg) [])))=H5
   have hx5:H5 x=some (.ins p.aq dx (aG "pairs" (.ref Pp) (aG "signs" (.str sg) []))):=by rw[←ZP];exact af
   have f5:Off x H H5:=by rw[←ZP];exact(f2.trans (Off.of s4)).trans Off.set
   have d5:Dat H4 H5:=by rw[←ZP];exact Dat.set UD
   refine⟨_,rfl,o,fo,rfl,hfo.dat (f5.dat hx),Ko.1,λo' ho'=>?_⟩
   generalize hH6:upd H5 o' (.tup [.int (kD fo).1,.int (kD fo).2])=H6
   have s6:ai H5 H6:=by rw[←hH6];exact ai.upd ho'
   have ho6:ku K H6 o' (kD fo):=by rw[←hH6];exact cP.of af
   have Od:=s6 _ _ hx5
   refine⟨_,rfl,x,_,dx,_,rfl,Od,T.aY,T.kN,pl2,?_⟩
   generalize ZO:upd H6 x (.ins p.aq dx (aG "opening" (.ref o') (aG "pairs" (.ref Pp) (aG "signs" (.str sg) []))))=H7
   have hx7:H7 x=some (.ins p.aq dx (aG "opening" (.ref o') (aG "pairs" (.ref Pp) (aG "signs" (.str sg) [])))):=by rw[←ZO];exact af
   have f7:Off x H H7:=by rw[←ZO];exact(f5.trans (Off.of s6)).trans Off.set
   have d7:Dat H6 H7:=by rw[←ZO];exact Dat.set Od
   refine⟨_,rfl,m,fm,rfl,hfm.dat (f7.dat hx),Kq.1,λm' hm'=>?_⟩
   generalize hH8:upd H7 m' (.tup [.int (kD fm).1,.int (kD fm).2])=H8
   have s8:ai H7 H8:=by rw[←hH8];exact ai.upd hm'
   have hm8:ku K H8 m' (kD fm):=by rw[←hH8];exact cP.of af
   have hx8:=s8 _ _ hx7
   refine⟨_,rfl,x,_,dx,_,rfl,hx8,T.aY,T.oi,pl3,?_⟩
   generalize ZN:upd H8 x (.ins p.aq dx (aG "more" (.ref m') (aG "opening" (.ref o') (aG "pairs" (.ref Pp) (aG "signs" (.str sg) [])))))=H9
   have UC:H9 x=some (.ins p.aq dx (aG "more" (.ref m') (aG "opening" (.ref o') (aG "pairs" (.ref Pp) (aG "signs" (.str sg) []))))):=by rw[←ZN];exact af
   have f9:Off x H H9:=by rw[←ZN];exact(f7.trans (Off.of s8)).trans Off.set
   have d9:Dat H8 H9:=by rw[←ZN];exact Dat.set hx8
   have e69:Dat H6 H9:=d7.trans ((Dat.of s8).trans d9)
   have e49:Dat H4 H9:=d5.trans ((Dat.of s6).trans e69)
   have M9:Bq K H9 Pp (yM rows):=m4.dat e49
   have O9:ku K H9 o' (kD fo):=ho6.dat e69
   have m9:ku K H9 m' (kD fm):=hm8.dat d9
   have Tu:∀r∈yM rows,∀f∈r,DU f:=AX λr hr f hf=>ql (hok r hr f hf).1
   have QJ:=MY V4
   refine⟨_,rfl,x,_,_,_,_,rfl,UC,T.aY,T.nh,KC,_,rfl,x,_,_,_,_,rfl,UC,T.aY,T.kN,EX,_,rfl,x,_,_,_,_,rfl,UC,T.aY,T.oi,MU,?_⟩
   refine⟨Pp,o',m',yM rows,kD fo,kD fm,rfl,M9.mat,O9,m9,by rw[QJ.1];exact h12,λr hr=>by rw[QJ.2 r hr];exact h12,λl1 Ha sa hl1 hla=>?_⟩
   have okU:∀n∈lQ (kD fo) (kD fm) (yM rows),ow n:=λn hn=>by
    have z:∀{f:cu},DU f->ow f.2:=λq=>⟨by have:=q.1;omega,q.2⟩
    rcases List.mem_cons.mp hn with e|hn
    ·rw[e];exact z (ql Ko.1)
    rcases List.mem_cons.mp hn with e|hn
    ·rw[e];exact z (ql Kq.1)
    obtain⟨f,hf,rfl⟩:=List.mem_map.mp hn
    obtain⟨r,hr,hfr⟩:=List.mem_flatten.mp hf
    exact z (Tu r hr f hfr)
   have YS:(lQ (kD fo) (kD fm) (yM rows)).length<=1000:=by
    unfold lQ
    rw[List.length_cons,List.length_cons,List.length_map,xR QJ.2,QJ.1]
    have:sg.cps.size*sg.cps.size<=12*12:=Nat.mul_le_mul h12 h12
    omega
   refine⟨l1,_,rfl,bZ.of hla,YS,okU,λfl Hb sb hfl hlb=>?_⟩
   have FI:=Nr okU
   have eU:rm (oO (lQ (kD fo) (kD fm) (yM rows))).1=bO (kD fo).2 (kD fm).2 (yM rows):=by rw[FI.prod,FI.unit,BZ]
   have hsm:=FI.small
   generalize (oO (lQ (kD fo) (kD fm) (yM rows))).1=Wh at hlb eU hsm
   clear FI
   have hxb:=sb _ _ (sa _ _ UC)
   refine⟨_,rfl,x,_,dx,_,rfl,hxb,T.aY,T.kO,pl4,?_⟩
   generalize Wf:upd Hb x (.ins p.aq dx (aG "factors" (.ref fl) (aG "more" (.ref m') (aG "opening" (.ref o') (aG "pairs" (.ref Pp) (aG "signs" (.str sg) []))))))=Hc
   have hxc:Hc x=some (.ins p.aq dx (aG "factors" (.ref fl) (aG "more" (.ref m') (aG "opening" (.ref o') (aG "pairs" (.ref Pp) (aG "signs" (.str sg) [])))))):=by rw[←Wf];exact af
   have fc:Off x H Hc:=by rw[←Wf];exact((f9.trans (Off.of sa)).trans (Off.of sb)).trans Off.set
   have dc:Dat H9 Hc:=by rw[←Wf];exact((Dat.of sa).trans (Dat.of sb)).trans (Dat.set hxb)
   have UU:Hc fl=some (.lst (Wh.map V.int)):=by rw[←Wf];exact Dat.set hxb fl _ (λ_ _ _ z=>by cases z) hlb
   refine⟨_,rfl,x,_,_,_,_,rfl,hxc,T.aY,T.kO,EY,fl,Wh,rfl,bZ.of UU,hsm,?_⟩
   have up:=Jl (ql Ko.1) (ql Kq.1) Tu
   have ub:=Jm h12 QJ (ql Ko.1) (ql Kq.1) Tu
   have Se:∀{f:cu},Vp f->Vq (bO (kD fo).2 (kD fm).2 (yM rows)) (kD f):=λz=>⟨ql z.1,MZ z.2,Bu.div ub _⟩
   rw[eU]
   generalize hu:bO (kD fo).2 (kD fm).2 (yM rows)=u at *
   refine⟨_,rfl,x,_,dx,_,rfl,hxc,T.aY,T.lP,VU,?_⟩
   generalize RJ:upd Hc x (.ins p.aq dx (aG "unit" (.int u) (aG "factors" (.ref fl) (aG "more" (.ref m') (aG "opening" (.ref o') (aG "pairs" (.ref Pp) (aG "signs" (.str sg) [])))))))=NI
   have Ng:NI x=some (.ins p.aq dx (aG "unit" (.int u) (aG "factors" (.ref fl) (aG "more" (.ref m') (aG "opening" (.ref o') (aG "pairs" (.ref Pp) (aG "signs" (.str sg) []))))))):=by rw[←RJ];exact af
   have f10:Off x H NI:=by rw[←RJ];exact fc.trans Off.set
   have Ve:Dat Hc NI:=by rw[←RJ];exact Dat.set hxc
   have Su:Dat H9 NI:=dc.trans Ve
   have UW:NI fl=some (.lst (Wh.map V.int)):=Ve fl _ (λ_ _ _ z=>by cases z) UU
   refine⟨_,rfl,x,_,_,_,_,rfl,Ng,T.aY,T.fR,KA,_,rfl,x,_,_,_,_,rfl,Ng,T.aY,T.nh,HL,_,rfl,x,_,_,_,_,rfl,Ng,T.aY,T.lP,MT,?_⟩
   refine⟨sg,Pp,u,yM rows,rfl,M9.dat Su,q2,q4,QJ,AX λr hr f hf=>Se (hok r hr f hf),λd H11 kvs NU hdn ZE hc=>?_⟩
   have Rq:=NU _ _ Ng
   refine⟨_,rfl,x,_,dx,_,rfl,Rq,T.aY,T.qh,pl6,?_⟩
   generalize Nk:upd H11 x (.ins p.aq dx (aG "costs" (.ref d) (aG "unit" (.int u) (aG "factors" (.ref fl) (aG "more" (.ref m') (aG "opening" (.ref o') (aG "pairs" (.ref Pp) (aG "signs" (.str sg) []))))))))=R9
   have Nf:R9 x=some (.ins p.aq dx (jj sg Pp o' m' u (d,fl))):=by rw[←Nk];exact af
   have Z2:Dat NI R9:=by rw[←Nk];exact(Dat.of NU).trans (Dat.set Rq)
   have f12:Off x H R9:=by rw[←Nk];exact(f10.trans (Off.of NU)).trans Off.set
   have ZD:R9 d=some (.dT kvs):=by rw[←Nk];exact Dat.set Rq d _ (λ_ _ _ z=>by cases z) ZE
   obtain⟨w1,w2,w3⟩:=Se Ko
   obtain⟨y1,y2,y3⟩:=Se Kq
   refine⟨_,rfl,x,_,_,_,_,rfl,Nf,T.aY,T.kN,yQ,_,rfl,x,_,_,_,_,rfl,Nf,T.aY,T.lP,xQ,o',kD fo,u,rfl,(O9.dat Su).dat Z2,w1,w2.bg,w3.bg,?_⟩
   refine⟨_,rfl,x,_,dx,_,rfl,Nf,T.aY,T.kc,pl7,?_⟩
   generalize RI:upd R9 x (.ins p.aq dx (aG "opening_units" (.int ((kD fo).1*(u / (kD fo).2))) (jj sg Pp o' m' u (d,fl))))=VC
   have K5:VC x=some (.ins p.aq dx (aG "opening_units" (.int ((kD fo).1*(u / (kD fo).2))) (jj sg Pp o' m' u (d,fl)))):=by rw[←RI];exact af
   have Z1:Dat R9 VC:=by rw[←RI];exact Dat.set Nf
   have f13:Off x H VC:=by rw[←RI];exact f12.trans Off.set
   refine⟨_,rfl,x,_,_,_,_,rfl,K5,T.aY,T.oi,(rF (by decide +kernel)).trans Fi,_,rfl,x,_,_,_,_,rfl,K5,T.aY,T.lP,(rF (by decide +kernel)).trans xQ,m',kD fm,u,rfl,((m9.dat Su).dat Z2).dat Z1,y1,y2.bg,y3.bg,?_⟩
   refine⟨_,rfl,x,_,dx,_,rfl,K5,T.aY,T.lZ,pl8,?_⟩
   have Wl:Dat NI (upd VC x (.ins p.aq dx (vS sg Pp o' m' u (d,fl) ((kD fo).1*(u / (kD fo).2)) ((kD fm).1*(u / (kD fm).2))))):=Z2.trans (Z1.trans (Dat.set K5))
   have f14:Off x H (upd VC x (.ins p.aq dx (vS sg Pp o' m' u (d,fl) ((kD fo).1*(u / (kD fo).2)) ((kD fm).1*(u / (kD fm).2))))):=f13.trans Off.set
   refine k _ ⟨hS,QJ,?_,?_,?_,?_,?_,dx,Pp,o',m',(d,fl),kvs,?_,(M9.dat Su).dat Wl,(O9.dat Su).dat Wl,(m9.dat Su).dat Wl,?_,?_,Wh,hsm,?_,?_⟩ f14 (λc0 hc0 C' dx' fs' hx' hl'=>?_)
   ·rw[hu];exact AX λr hr f hf=>Se (hok r hr f hf)
   ·rw[hu];exact Se Ko
   ·rw[hu];exact Se Kq
   ·rw[hu];exact up
   ·rw[hu];exact ub
   ·rw[hu];exact af
   ·exact(Z1.trans (Dat.set K5)) d _ (λ_ _ _ z=>by cases z) ZD
   ·rw[hu];exact hc
   ·rw[hu];exact eU
   ·exact Wl fl _ (λ_ _ _ z=>by cases z) UW
   ·rw[af]at hx'
    cases hx'
    have e:fl=c0:=V.ref.inj (Option.some.inj ((pH (x:=sg) (P:=Pp) (o:=o') (m:=m') (u:=u) (d:=(d,fl))).symm.trans hl'))
    subst e
    cases q:H fl with
    |none=>exact hc0 q
    |some u0 =>
     by_cases ex:fl=x
     ·rw[ex,sa _ _ UC]at hfl
      cases hfl
     ·rw[(f9.trans (Off.of sa)) fl u0 q ex]at hfl
      cases hfl
end
section
variable{P:Program}{w:World}{K:PySem.W.Frag}{mg:Str->Option Value}{base:Heap}
end
section
variable{P:Program}{w:World}{K:PySem.W.Frag}{mg:Str->Option Value}{base:Heap}
end
section
variable{P:Program}{w:World}{K:PySem.W.Frag}{mg:Str->Option Value}{base:Heap}
end
section
variable{P:Program}{w:World}{K:PySem.W.Frag}{mg:Str->Option Value}{base:Heap}
theorem rZ {aV:Addr} {ee:FuncData} {p:Pm} (T:Txt K mg p base) (c8:Dm K "__init__" "NoSign.__init__" bU Si aV ee)  :aJ P w K mg base (vz P w) 1 aV ee Si (Ci p.aA):=by
 refine c8.fn.QZ rS (λvs H Q E h=>?_) (λcdv A outer s H vs Q E hr h=>?_)
 ·obtain⟨e,i,j,rfl,_⟩:=h
  rfl
 ·obtain⟨e,i,j,rfl,he,hi,hj,k⟩:=h
  obtain⟨fI,xc⟩:=T.Hh
  refine⟨_,(aj (cj (MK T.yq rfl T.yL (aa (pv 0) (aa (Gv (qO bC (qO (Kf (pv 1)) (qO bC (qO (Kf (pv 2)) Ka))))) ah))))
   (aj (Gm (pv 0) (pv 1) rfl)
   (ao (Gm (pv 0) (pv 2) rfl)))),?_⟩
  have li:=zR hi
  have lj:=zR hj
  have ti:=PyProof.Rows.int_text_len_1921 li
  have tj:=PyProof.Rows.int_text_len_1921 lj
  have l0:(Str.empty++Str.ofString "no sign that may stand there: row ").length<=50:=by decide
  have l1:=A8 l0 ti
  have l2:=A8 l1 (show(Str.ofString ", place ").length<=20 by decide)
  have l3:=A8 l2 tj
  refine⟨_,rfl,_,rfl,Nat.le_trans l0 (by decide),_,rfl,_,rfl,li,_,rfl,Nat.le_trans l1 (by decide),_,rfl,Nat.le_trans l2 (by decide),_,rfl,_,rfl,lj,_,rfl,Nat.le_trans l3 (by decide),Nat.le_trans l3 (by decide),?_⟩
  refine⟨e,p.aA,fI,none,_,rfl,he,xc,?_⟩
  refine⟨_,rfl,_,rfl,e,p.aA,rfl,T.zv,T.tF,.inl ⟨he,λdx hdx=>?_⟩⟩
  have ne:dx≠e:=λz=>by rw[z,he]at hdx;cases hdx
  refine⟨_,rfl,_,rfl,e,p.aA,rfl,T.zv,T.qi,.inr ⟨dx,_,by rw[au (Ne.symm ne),af],af,pl1,?_⟩⟩
  refine k dx _ (λb u hb Le=>?_) hdx (by rw[au (Ne.symm ne),au (Ne.symm ne),af]) af
  have nb:b≠dx:=λz=>by rw[z,hdx]at hb;cases hb
  rw[au nb,au nb,au Le,au nb]
  exact hb
theorem uC {gX aV:Addr} {fW ee:FuncData} {p:Pm} (T:Txt K mg p base) (dQ:Dn K mg "check_known" lM Uh gX fW) (c8:Dm K "__init__" "NoSign.__init__" bU Si aV ee) (yd:XMk K p.aA aV) (uh:aJ P w K mg base (vz P w) 1 aV ee Si (Ci p.aA)):aJ P w K mg base (vz P w) 3 gX fW Uh (Cj p.aA):=by
 refine dQ.fn.QZ ic (λvs H Q E h=>?_) (λcdv A outer s H vs Q E hr h=>?_)
 ·obtain⟨sg,l,a,b,rfl,_⟩:=h
  rfl
 ·obtain⟨sg,l,a,b,rfl,hl,la,lb,kq,k⟩:=h
  refine⟨_,(ao (cy sX rfl (wk rfl T.nG (aa (pv 1) ah)) (m7 (n:=2) rfl (bG (aK (i:=2) ic.nd rfl (Or.inl rfl)) (bG (aK (i:=3) ic.nd rfl (Or.inl rfl)) jo))) (ao (cy sX rfl (wk rfl T.nG (aa (pv 3) ah)) (m7 (n:=2) rfl (bG (aK (i:=4) ic.nd rfl (Or.inl rfl)) (bG (aK (i:=5) ic.nd rfl (Or.inl rfl)) jo))) (ao (bN (aP sY (pv 5) (pv 0) (by with_unfolding_all rfl)) (ao (Hy nV yd uh (hr.mono (by decide)) c8.b rfl rfl T.uF (aa (pv 2) (aa (pv 4) ah)))) aN)))))),?_⟩
  refine⟨_,rfl,.lst l,_,rfl,bZ.of hl,tT (K:=K) (c:=.lst l) (xs:=[.str a,.str b]) (λi σ H2=>∃v2 v3 v4 v5,σ=[some (.str sg),some (.ref l),v2,v3,v4,v5]/\ai H H2/\(0<i->Of sg a)/\(1<i->Of sg b)) ⟨_,_,_,_,rfl,ai.refl _,λz=>absurd z (Nat.lt_irrefl _),λz=>absurd z (Nat.not_lt_zero _)⟩ (λi σ H2 _ ⟨_,_,_,_,_,s2,_⟩=>bZ.of (s2 _ _ hl)) ?_ ?_⟩
  ·rintro i y p1 σ H2 hy hp1 ⟨v2,v3,v4,v5,rfl,s2,oa,ob⟩
   obtain⟨z,rfl,hz,hi,hgo,hbad⟩:∃z:Str,y= .str z/\z.cps.size<=1000/\i<=1/\(Of sg z->(0<i+1->Of sg a)/\(1<i+1->Of sg b))/\(∀j,(∃c,z.cps[j]? =some c/\c∉sg.cps.toList)->(∀k c,k<j->z.cps[k]? =some c->c∈sg.cps.toList)->uu sg a b i j):=by
    match i,hy,oa with
    | 0,hy,oa=>exact⟨a,(Option.some.inj hy).symm,la,Nat.zero_le _,λq=>⟨λ_=>q,λz=>absurd z (Nat.lt_irrefl _)⟩,λj h1 h2=>.inl ⟨rfl,h1,h2⟩⟩
    | 1,hy,oa=>exact⟨b,(Option.some.inj hy).symm,lb,Nat.le_refl _,λq=>⟨λ_=>oa (Nat.zero_lt_succ _),λ_=>q⟩,λj h1 h2=>.inr ⟨rfl,oa (Nat.zero_lt_succ _),h1,h2⟩⟩
    |i+2,hy,oa=>simp at hy
   refine⟨p1,_,rfl,cP.of af,rfl,_,_,rfl,_,_,rfl,rfl,?_⟩
   refine⟨_,rfl,.txt z,_,rfl,rfl,tT (K:=K) (c:=.txt z) (xs:=eK z) (λj σ H3=>∃v4 v5,σ=[some (.str sg),some (.ref l),some (.int (i:Int)),some (.str z),v4,v5]/\ai H H3/\∀k c,k<j->z.cps[k]? =some c->c∈sg.cps.toList) ⟨_,_,rfl,s2.trans (ai.upd hp1),λk c z=>absurd z (Nat.not_lt_zero _)⟩ (λj σ H3 _ _=>rfl) ?_ ?_⟩
   ·rintro j y p2 σ H3 hy hp2 ⟨v4,v5,rfl,s3,hp⟩
    obtain⟨c,hc,rfl⟩:=signs_get hy
    have hj:=RQ hc
    have s4:=s3.trans (ai.upd (o:=.tup [.int (j:Int),.str ⟨#[c]⟩]) hp2)
    refine⟨p2,_,rfl,cP.of af,rfl,_,_,rfl,_,_,rfl,rfl,?_⟩
    refine⟨_,rfl,_,rfl,_,_,rfl,rfl,_,rfl,?_⟩
    rw[StrLaws.found_one]
    by_cases hm:c∈sg.cps.toList
    ·rw[decide_eq_true hm]
     refine ve ⟨_,_,rfl,s4,λk d hk hd=>?_⟩
     by_cases z:k=j
     ·subst z
      rw[hc]at hd
      cases hd
      exact hm
     ·exact hp k d (by omega) hd
    ·rw[decide_eq_false hm]
     refine zV ⟨_,rfl,_,rfl,by show 2<=sizeLine;decide,λe hn=>?_⟩
     have hne:H e=none:=ai.free s4 hn
     refine⟨e,i,j,rfl,af,by omega,by omega,λdx H' hk hdx hx hd=>⟨rfl,some dx,hx,k i j (hbad j ⟨c,hc,hm⟩ hp) dx _ (λb u hb=>?_) ?_⟩⟩
     ·have nb:b≠e:=λz=>by rw[z,hne]at hb;cases hb
      rw[qt nb]
      exact hk b u (by rw[au nb];exact s4 b u hb) nb
     ·have ne:dx≠e:=λz=>by rw[z,af]at hdx;cases hdx
      rw[qt ne]
      exact hd
   ·rintro σ H3 ⟨v4,v5,rfl,s3,hp⟩
    have oz:Of sg z:=λc hc=>by
     obtain⟨k,hk,e⟩:=List.getElem_of_mem hc
     have hk':k<z.cps.size:=by simpa using hk
     exact hp k c (by rw[signs_length];exact hk') (by rw[←Array.getElem?_toList,List.getElem?_eq_getElem hk,e])
    exact⟨_,_,_,_,rfl,s3,(hgo oz).1,(hgo oz).2⟩
  ·rintro σ H2 ⟨v2,v3,v4,v5,rfl,s2,oa,ob⟩
   exact kq (oa (show 0<2 by decide)) (ob (show 1<2 by decide)) H2 s2
theorem vK {dH gX:Addr} {cN fW:FuncData} {p:Pm} (T:Txt K mg p base) (bQ:Dn K mg "check_rows" j5 Rg dH cN) (dQ:Dn K mg "check_known" lM Uh gX fW) (zl:aJ P w K mg base (vz P w) 3 gX fW Uh (Cj p.aA)):aJ P w K mg base (vz P w) 4 dH cN Rg (Au K p.aq p.aA):=by
 refine bQ.fn.QZ yw (λvs H Q E h=>?_) (λcdv A outer s H vs Q E hr h=>?_)
 ·obtain⟨x,l,sg,rows,fo,fm,a,b,rfl,_⟩:=h
  rfl
 ·obtain⟨x,l,sg,rows,fo,fm,a,b,rfl,⟨_,_,_,_,_,_,_,dx,Pp,o,m,d,kvs,h1,h2,h3,h4,h5,h6⟩,hl,la,lb,kq,k⟩:=h
  refine⟨_,(ao (cj (az zl (hr.mono (by decide)) rfl dQ.m dQ.fn.kp dQ.b .nil (Lets.passes nV) (aa (dh (pv 0) rfl) (aa (pv 1) ah))))),?_⟩
  exact⟨_,rfl,x,_,_,_,_,rfl,h1,T.aY,T.fR,pG,_,rfl,sg,l,a,b,rfl,hl,la,lb,kq,k⟩
theorem yI {dI jF f6:Addr} {cO iM eV:FuncData} {p:Pm} (T:Txt K mg p base) (bh:Dn K mg "alone_cost" j7 Rf dI cO) (cV:Dn K mg "more_cost" nK l8 jF iM) (vv:aJ P w K mg base ck 2 jF iM l8 (JI K p.aq)) (cU:Dn K mg "opening_cost" j3 l8 f6 eV) (yi:aJ P w K mg base ck 2 f6 eV l8 (zH K p.aq)):aJ P w K mg base ck 3 dI cO Rf (Ax K p.aq):=by
 refine bh.fn.ok yx (λvs H Q E h=>?_) (λcdv A outer s H vs Q E hr h=>?_)
 ·obtain⟨x,sg,rows,fo,fm,a,b,rfl,_⟩:=h
  rfl
 ·obtain⟨x,sg,rows,fo,fm,a,b,rfl,hP,k⟩:=h
  refine⟨_,(aj (bN (aP gi (pv 1) (pv 2) (aZ _)) (ao (aL (az vv (hr.mono (by decide)) rfl cV.m cV.fn.kp cV.b .nil aO (aa (pv 0) ah)))) aN)
   (ao (aL (aF cK (az yi (hr.mono (by decide)) rfl cU.m cU.fn.kp cU.b .nil aO (aa (pv 0) ah)) (az vv (hr.mono (by decide)) rfl cV.m cV.fn.kp cV.b .nil aO (aa (pv 0) ah)))))),?_⟩
  refine⟨_,rfl,_,rfl,rfl,_,rfl,?_⟩
  by_cases e:a=b
  ·rw[if_pos e]at k
   rw[decide_eq_true (show V.str a=V.str b by rw[e])]
   refine pC ?_
   exact⟨_,rfl,x,sg,rows,fo,fm,rfl,hP,k⟩
  ·rw[if_neg e]at k
   rw[decide_eq_false (show ¬V.str a=V.str b from λz=>e (V.str.inj z))]
   refine kI ?_
   exact⟨_,rfl,x,sg,rows,fo,fm,rfl,hP,_,rfl,x,sg,rows,fo,fm,rfl,hP,_,_,rfl,rfl,k⟩
theorem AL {jG:Addr} {iN:FuncData} {p:Pm} (T:Txt K mg p base) (gj:Dn K mg "may_begin" nL Ug jG iN)  :aJ P w K mg base ck 1 jG iN Ug (JK K):=by
 refine gj.fn.ok AB (λvs H Q E h=>?_) (λcdv A outer s H vs Q E hr h=>?_)
 ·obtain⟨m,a,q,rfl,_⟩:=h
  rfl
 ·obtain⟨m,a,q,rfl,hq,k⟩:=h
  refine⟨_,(aj (bN (aP gi (pv 0) bC (aZ _)) (ao (aL (ng (g9 gi (aU bK (pv 1) ak (λ_ _=>rfl)) ak (aZ _)) (o8 (g9 gi (aU bK (pv 1) ak (λ_ _=>rfl)) ak (aZ _)))))) aN)
   (aj (bN (aP gi (pv 0) bC (aZ _)) (ao (aL (g9 gi (aU bK (pv 1) ak (λ_ _=>rfl)) ak (aZ _)))) aN)
   (aj (bN (aP gi (pv 0) bC (aZ _)) (ao (aL (g9 gi (aU bK (pv 1) ak (λ_ _=>rfl)) ak (aZ _)))) aN)
   (ao (aL Km))))),?_⟩
  unfold De at k
  refine⟨_,rfl,rfl,_,rfl,?_⟩
  refine ite_str (λh1=>?_) λh1=>?_
  ·rw[if_pos h1]at k
   refine⟨_,rfl,_,_,_,_,rfl,rfl,hq,rfl,rfl,_,rfl,?_⟩
   refine qo (λz=>?_) λz=>?_
   ·refine⟨_,rfl,_,_,_,_,rfl,rfl,hq,rfl,rfl,?_⟩
    rw[decide_eq_true z,Bool.true_and]at k
    rw[qu]
    exact k
   ·rw[decide_eq_false z,Bool.false_and]at k
    exact k
  rw[if_neg h1]at k
  refine⟨_,rfl,rfl,_,rfl,?_⟩
  refine ite_str (λh2=>?_) λh2=>?_
  ·rw[if_pos h2]at k
   refine⟨_,rfl,_,_,_,_,rfl,rfl,hq,rfl,rfl,?_⟩
   rw[qu]
   exact k
  rw[if_neg h2]at k
  refine⟨_,rfl,rfl,_,rfl,?_⟩
  refine ite_str (λh3=>?_) λh3=>?_
  ·rw[if_pos h3]at k
   refine⟨_,rfl,_,_,_,_,rfl,rfl,hq,rfl,rfl,?_⟩
   rw[qu]
   exact k
  rw[if_neg h3]at k
  exact k
theorem EH {mV:Addr} {kW:FuncData} {p:Pm} (T:Txt K mg p base) (jQ:Dn K mg "may_end" qJ Ue mV kW)  :aJ P w K mg base ck 1 mV kW Ue (JJ K):=by
 refine jQ.fn.ok Eu (λvs H Q E h=>?_) (λcdv A outer s H vs Q E hr h=>?_)
 ·obtain⟨m,f,s,a,q,rfl,_⟩:=h
  rfl
 ·obtain⟨m,f,s,a,q,rfl,hq,hf,hs,k⟩:=h
  have zf:f.length<=sizeLine:=Nat.le_trans hf (by decide)
  have zs:s.length<=sizeLine:=Nat.le_trans hs (by decide)
  refine⟨_,(aj (bN (aP gi (pv 0) bC (aZ _)) (ao (aL (ng (g9 gi (aU bK (pv 3) ak (λ_ _=>rfl)) (aD (bq) rfl T.cY bP (aa (pv 1) ah)) (aZ _)) (o8 (g9 gi (aU bK (pv 3) ak (λ_ _=>rfl)) (aD (bq) rfl T.cY bP (aa (pv 2) ah)) (aZ _)))))) aN)
   (aj (bN (aP gi (pv 0) bC (aZ _)) (ao (aL Km)) aN)
   (ao (aL (g9 gi (aU bK (pv 3) ak (λ_ _=>rfl)) (aD (bq) rfl T.cY bP (aa (pv 1) ah)) (aZ _)))))),?_⟩
  unfold Dd at k
  refine⟨_,rfl,rfl,_,rfl,?_⟩
  refine ite_str (λh1=>?_) λh1=>?_
  ·rw[if_pos h1]at k
   refine⟨_,rfl,_,_,_,_,rfl,rfl,hq,rfl,_,rfl,_,_,rfl,⟨zf,rfl⟩,rfl,_,rfl,?_⟩
   refine qo (λz=>?_) λz=>?_
   ·refine⟨_,rfl,_,_,_,_,rfl,rfl,hq,rfl,_,rfl,_,_,rfl,⟨zs,rfl⟩,rfl,?_⟩
    rw[decide_eq_true (show q.1=(f.cps.size:Int) from z),Bool.true_and]at k
    rw[qu]
    exact k
   ·rw[decide_eq_false (show ¬q.1=(f.cps.size:Int) from z),Bool.false_and]at k
    exact k
  rw[if_neg h1]at k
  refine⟨_,rfl,rfl,_,rfl,?_⟩
  refine ite_str (λh2=>?_) λh2=>?_
  ·rw[if_pos h2]at k
   exact k
  rw[if_neg h2]at k
  refine⟨_,rfl,_,_,_,_,rfl,rfl,hq,rfl,_,rfl,_,_,rfl,⟨zf,rfl⟩,rfl,?_⟩
  rw[qu]
  exact k
end
section
variable{P:Program}{w:World}{K:PySem.W.Frag}{mg:Str->Option Value}{base:Heap}
theorem tw {gf:Addr} {eX:FuncData} {p:Pm} (T:Txt K mg p base) (cX:Dn K mg "check_manner" j6 ["manner"] gf eX)  :aJ P w K mg base (vz P w) 1 gf eX ["manner"] (pX p.bz):=by
 refine cX.fn.QZ vD (λvs H Q E h=>?_) (λcdv A outer s H vs Q E hr h=>?_)
 ·obtain⟨m,rfl,_⟩:=h
  rfl
 ·obtain⟨m,rfl,kq,ke⟩:=h
  refine⟨_,(ao (bN (aP sZ (pv 0) (e7 (v:=.ref p.lz) rfl T.Ik rfl) (by with_unfolding_all rfl)) (ao (CC nV T.BW rfl rfl T.vc (aa (Gv (qO (MH (pv 0)) (qO bC Ka))) ah))) aN)),?_⟩
  refine⟨_,rfl,_,_,rfl,.inr (T.Hx _),rfl,rfl,_,rfl,?_⟩
  show if(if true=true then !N9 (.str m) [.str (Str.ofString "whole"),.str (Str.ofString "within"),.str (Str.ofString "over"),.str (Str.ofString "stretch")]else _)=true then _ else _
  rw[if_pos rfl]
  cases hm:vf m with
  |true =>
   have e:N9 (.str m) [.str (Str.ofString "whole"),.str (Str.ofString "within"),.str (Str.ofString "over"),.str (Str.ofString "stretch")]=true:=hm
   rw[e]
   exact ve (kq hm)
  |false =>
   obtain⟨hl,k⟩:=ke hm
   have e:N9 (.str m) [.str (Str.ofString "whole"),.str (Str.ofString "within"),.str (Str.ofString "over"),.str (Str.ofString "stretch")]=false:=hm
   rw[e]
   refine zV ⟨_,rfl,_,rfl,Nat.le_trans hl (by decide),_,rfl,?_,_,rfl,?_,?_,by show 1<=sizeLine;decide,k⟩
   ·exact LL hl (by decide)
   ·exact Ag hl (by decide)
   ·exact Ag hl (by decide)
end
section
variable{P:Program}{w:World}{K:PySem.W.Frag}{mg:Str->Option Value}{base:Heap}
theorem yK {jb:Addr} {gP:FuncData} {p:Pm} (T:Txt K mg p base) (fE:Dn K mg "all_places" mL Ud jb gP)  :aJ P w K mg base ck 1 jb gP Ud NS:=by
 refine fE.fn.ok lF (λvs H Q E h=>?_) (λcdv A outer s H vs Q E hr h=>?_)
 ·obtain⟨f,s,rfl,_⟩:=h
  rfl
 ·obtain⟨f,s,rfl,hf,hs,kk⟩:=h
  have lf:f.length<=sizeLine:=Nat.le_trans hf (by decide)
  have ls:s.length<=sizeLine:=Nat.le_trans hs (by decide)
  have hf':f.length<=12:=hf
  have hs':s.length<=12:=hs
  refine⟨_,(aj (aC (i:=2) lF.nd rfl (Or.inl rfl) (g6 ah))
   (aj (cy PassesOwn.never rfl (gC rfl T.jl (aa (aF cK (aD (bq) rfl T.cY bP (aa (pv 0) ah)) ak) ah)) (aK (i:=3) lF.nd rfl (Or.inl rfl)) (ao (cy PassesOwn.never rfl (gC rfl T.jl (aa (aF cK (aD (bq) rfl T.cY bP (aa (pv 1) ah)) ak) ah)) (aK (i:=4) lF.nd rfl (Or.inl rfl)) (ao (cj (lS PySem.F.plainAttrs_list PySem.F.slot_list_append PySem.F.type_list_append cE (pv 2) (aa (bA (aa (pv 3) (aa (pv 4) ah))) ah)))))))
   (ao (aL (pv 2))))),?_⟩
  refine⟨by show 0<=sizeLine;decide,λl hl=>?_⟩
  refine⟨_,rfl,_,_,rfl,⟨lf,rfl⟩,_,_,rfl,rfl,_,rfl,by omega,by omega,?_⟩
  rw[show((f.length:Int)+1).toNat=f.cps.size+1 from by show((f.cps.size:Int)+1).toNat=_;omega]
  refine kR (lo:=0) (n:=f.cps.size+1) (λi σ H2=>∃v3 v4,∃ps:List Addr,σ=[some (.str f),some (.str s),some (.ref l),v3,v4]/\ai H H2/\H2 l=some (.lst (ps.map V.ref))/\Paired (Hf (Wo l H2)) ps (rws s.cps.size i))
   ⟨_,_,[],rfl,ai.upd hl,af,.nil⟩ ?_ ?_
  ·rintro i σ H2 hi ⟨v3,v4,ps,rfl,s2,h2,pp⟩
   refine⟨_,rfl,_,_,rfl,⟨ls,rfl⟩,_,_,rfl,rfl,_,rfl,by omega,by omega,?_⟩
   rw[show((s.length:Int)+1).toNat=s.cps.size+1 from by show((s.cps.size:Int)+1).toNat=_;omega]
   refine kR (lo:=0) (n:=s.cps.size+1) (λj σ H3=>∃v4,∃ps:List Addr,σ=[some (.str f),some (.str s),some (.ref l),some (.int (0+(i:Int))),v4]/\ai H H3/\H3 l=some (.lst (ps.map V.ref))/\Paired (Hf (Wo l H3)) ps ((rws s.cps.size i)++(List.range j).map λj=>(i,j)))
    ⟨_,ps,rfl,s2,h2,by simpa using pp⟩ ?_ ?_
   ·rintro j σ H3 hj ⟨v4,ps,rfl,s3,h3,pp⟩
    refine⟨_,rfl,.inl ⟨rfl,_,bZ.of h3⟩,_,rfl,_,rfl,by show 2<=sizeLine;decide,λp hp=>?_⟩
    have np:p≠l:=λz=>by rw[z,h3]at hp;cases hp
    have hlen:=Paired.len pp
    rw[List.length_append,MA,List.length_map,List.length_range]at hlen
    refine⟨l,_,_,rfl,rfl,by rw[au (Ne.symm np)];exact h3,?_,?_⟩
    ·rw[List.length_map,hlen]
     have:i*(s.cps.size+1)<=f.cps.size*(s.cps.size+1):=Nat.mul_le_mul_right _ (by omega)
     have e:(f.cps.size+1)*(s.cps.size+1)=f.cps.size*(s.cps.size+1)+(s.cps.size+1):=Nat.succ_mul _ _
     exact KZ hf hs (by omega)
    ·refine⟨_,ps++[p],rfl,sQ s3 hl hp,by rw[af,List.map_append];rfl,?_⟩
     rw[List.range_succ,List.map_append,←List.append_assoc]
     refine GP.Paired.snoc (Paired.g8 pp λ_ _ z=>z.same (OG hp)) ?_
     show Wo l _ p=some (.tup [.int (i:Int),.int (j:Int)])
     rw[Jf np,Int.zero_add,Int.zero_add]
   ·rintro σ H3 ⟨v4,ps,rfl,s3,h3,pp⟩
    exact⟨_,_,ps,rfl,s3,h3,by rw[Cv];exact pp⟩
  ·rintro σ H2 ⟨v3,v4,ps,rfl,s2,h2,pp⟩
   exact⟨_,rfl,kk l H2 s2 hl (QT h2 pp)⟩
theorem yC {iX ff dI:Addr} {gF dG cO:FuncData} {p:Pm} (T:Txt K mg p base) (fj:Dn K mg "steps_from" mD Uc iX gF) (b9:Dn K mg "pair_cost" lR Rh ff dG) (qB:aJ P w K mg base ck 1 ff dG Rh (rP K p.aq)) (bh:Dn K mg "alone_cost" j7 Rf dI cO) (kr:aJ P w K mg base ck 3 dI cO Rf (Ax K p.aq)):aJ P w K mg base ck 4 iX gF Uc (Ga K p.aq):=by
 refine fj.fn.ok lD (λvs H Q E h=>?_) (λcdv A outer s H vs Q E hr h=>?_)
 ·obtain⟨x,pl,T1,f,s,i,j,c,rfl,_⟩:=h
  rfl
 ·obtain⟨x,pl,T1,f,s,i,j,c,rfl,hP,of,os,hf,hs,hp,kk⟩:=h
  have lf:f.length<=sizeLine:=Nat.le_trans hf (by decide)
  have ls:s.length<=sizeLine:=Nat.le_trans hs (by decide)
  refine⟨_,(aj (aC (i:=5) lD.nd rfl (Or.inl rfl) (aU bK (pv 3) ak (λ_ _=>rfl)))
   (aj (aC (i:=6) lD.nd rfl (Or.inl rfl) (aU bK (pv 3) ak (λ_ _=>rfl)))
   (aj (aC (i:=7) lD.nd rfl (Or.inl rfl) (g6 ah))
   (bE (bN (PW.pt (QO (aP CK (pv 5) (aD (bq) rfl T.cY bP (aa (pv 1) ah)) (aZ _)) (ME (aP CK (pv 6) (aD (bq) rfl T.cY bP (aa (pv 2) ah)) (aZ _))))) (ao (cj (lS PySem.F.plainAttrs_list PySem.F.slot_list_append PySem.F.type_list_append cE (pv 7) (aa (bA (aa (bA (aa (bA (aa (aF cK (pv 5) ak) (aa (aF cK (pv 6) ak) ah))) (aa bC ah))) (aa (az qB (hr.mono (by decide)) rfl b9.m b9.fn.kp b9.b .nil aO (aa (pv 0) (aa (aU uL (pv 1) (pv 5) (λ_ _=>rfl)) (aa (aU uL (pv 2) (pv 6) (λ_ _=>rfl)) ah)))) ah))) ah)))) aN)
   (bE (bN (aP CK (pv 5) (aD (bq) rfl T.cY bP (aa (pv 1) ah)) (aZ _)) (ao (cj (lS PySem.F.plainAttrs_list PySem.F.slot_list_append PySem.F.type_list_append cE (pv 7) (aa (bA (aa (bA (aa (bA (aa (aF cK (pv 5) ak) (aa (pv 6) ah))) (aa bC ah))) (aa (az kr (hr.mono (by decide)) rfl bh.m bh.fn.kp bh.b .nil aO (aa (pv 0) (aa bC (aa (pv 4) ah)))) ah))) ah)))) aN)
   (bE (bN (aP CK (pv 6) (aD (bq) rfl T.cY bP (aa (pv 2) ah)) (aZ _)) (ao (cj (lS PySem.F.plainAttrs_list PySem.F.slot_list_append PySem.F.type_list_append cE (pv 7) (aa (bA (aa (bA (aa (bA (aa (pv 5) (aa (aF cK (pv 6) ak) ah))) (aa bC ah))) (aa (az kr (hr.mono (by decide)) rfl bh.m bh.fn.kp bh.b .nil aO (aa (pv 0) (aa bC (aa (pv 4) ah)))) ah))) ah)))) aN)
   (ao (aL (pv 7))))))))),?_⟩
  refine⟨_,rfl,pl,_,_,_,rfl,rfl,cP.of hp,rfl,?_⟩
  refine⟨_,rfl,pl,_,_,_,rfl,rfl,cP.of hp,rfl,?_⟩
  refine⟨by show 0<=sizeLine;decide,λl hl=>?_⟩
  have ZJ:∀{H2},ai H H2->nB K p.aq H2 x T1.1 T1.2.1 T1.2.2.1 T1.2.2.2:=λe=>nB.same e hP
  refine⟨λσ H'=>∃ps:List Addr,σ=[some (.ref x),some (.str f),some (.str s),some (.ref pl),some (.str ⟨#[c]⟩),some (.int (i:Int)),some (.int (j:Int)),some (.ref l)]/\ai H H'/\H' l=some (.lst (ps.map V.ref))/\ps.length<=1 ∧
   Paired (NG (Wo l H')) ps (if i<f.cps.size/\j<s.cps.size then [((i+1,j+1,112),(fL T1 f f s).pc i j)]else []),?_,?_⟩
  ·refine⟨_,rfl,_,rfl,_,_,rfl,⟨lf,rfl⟩,_,_,rfl,rfl,_,rfl,?_⟩
   refine dF (λh1=>?_) (λh1=>?_)
   ·refine⟨_,rfl,_,rfl,_,_,rfl,⟨ls,rfl⟩,_,_,rfl,rfl,_,rfl,?_⟩
    have rE:i<f.cps.size:=by have z:(i:Int)<(f.cps.size:Int):=h1;omega
    refine dF (λh2=>?_) (λh2=>?_)
    ·have h2':j<s.cps.size:=by have z:(j:Int)<(s.cps.size:Int):=h2;omega
     obtain⟨a,ha⟩:=A9 rE
     obtain⟨b,hb⟩:=A9 h2'
     obtain⟨i',j',fr,hi',hj',hat,ZW⟩:=Kn (u:=uT T1) hP.sqr (of a (nY ha)) (os b (nY hb))
     refine⟨_,rfl,.inl ⟨rfl,_,bZ.of af⟩,_,rfl,_,_,rfl,rfl,_,rfl,_,_,rfl,rfl,by show 2<=sizeLine;decide,λp1 hp1=>⟨by show 2<=sizeLine;decide,λq1 hq1=>?_⟩⟩
     have s0:=(ai.upd (o:=.lst []) hl).trans ((ai.upd hp1).trans (ai.upd (o:=.tup [.ref p1,.str (Str.ofString "p")]) hq1))
     refine⟨_,rfl,_,rfl,_,rfl,f,_,a,rfl,rfl,lf,fQ (jk ha),_,rfl,_,rfl,s,_,b,rfl,rfl,ls,fQ (jk hb),x,T1.1,T1.2.1,T1.2.2.1,T1.2.2.2,i',j',a,b,fr,rfl,ZJ s0,hi',hj',hat,λH5 s5=>⟨by show 2<=sizeLine;decide,λr1 hr1=>?_⟩⟩
     obtain⟨h5,nr,sw,st⟩:=Ep (t:=((i+1,j+1,112),(fL T1 f f s).pc i j)) (y:=.lst ([]++[.ref r1])) af hp1 hq1 s5 hr1 rfl rfl sP (by
      show V.int (fr.1*(uT T1 / fr.2))=V.int (Tq T1.1 T1.2.1 (uT T1) (f.cps.toList.getD i 0) (s.cps.toList.getD j 0))
      rw[List.getD_eq_getElem?_getD,List.getD_eq_getElem?_getD,jk ha,jk hb]
      exact congrArg V.int ZW.symm)
     refine⟨l,_,_,rfl,rfl,by rw[au (Ne.symm nr)];exact h5,by show 0<sizeLine;decide,[r1],rfl,sQ (s0.trans s5) hl hr1,af,Nat.le_refl _,?_⟩
     rw[if_pos ⟨rE,h2'⟩]
     exact .cons st .nil
    ·have h2':¬j<s.cps.size:=λz=>h2 (by show(j:Int)<(s.cps.size:Int);omega)
     exact⟨[],rfl,ai.upd hl,af,Nat.zero_le _,by rw[if_neg (λz=>h2' z.2)];exact .nil⟩
   ·have rE:¬i<f.cps.size:=λz=>h1 (by show(i:Int)<(f.cps.size:Int);omega)
    refine kI ?_
    exact⟨[],rfl,ai.upd hl,af,Nat.zero_le _,by rw[if_neg (λz=>rE z.1)];exact .nil⟩
  rintro σ H2 ⟨ps,rfl,s2,h2,l2,pp⟩
  refine⟨λσ H'=>∃ps:List Addr,σ=[some (.ref x),some (.str f),some (.str s),some (.ref pl),some (.str ⟨#[c]⟩),some (.int (i:Int)),some (.int (j:Int)),some (.ref l)]/\ai H H'/\H' l=some (.lst (ps.map V.ref))/\ps.length<=2 ∧
   Paired (NG (Wo l H')) ps ((if i<f.cps.size/\j<s.cps.size then [((i+1,j+1,112),(fL T1 f f s).pc i j)]else [])++(if i<f.cps.size then [((i+1,j,97),(fL T1 f f s).ac 97 c)]else [])),?_,?_⟩
  ·refine⟨_,rfl,_,rfl,_,_,rfl,⟨lf,rfl⟩,_,_,rfl,rfl,_,rfl,?_⟩
   refine dF (λh1=>?_) (λh1=>?_)
   ·have rE:i<f.cps.size:=by have z:(i:Int)<(f.cps.size:Int):=h1;omega
    refine⟨_,rfl,.inl ⟨rfl,_,bZ.of h2⟩,_,rfl,_,_,rfl,rfl,_,rfl,by show 2<=sizeLine;decide,λp1 hp1=>⟨by show 2<=sizeLine;decide,λq1 hq1=>?_⟩⟩
    have s0:=s2.trans ((ai.upd hp1).trans (ai.upd (o:=.tup [.ref p1,.str (Str.ofString "a")]) hq1))
    refine⟨_,rfl,_,rfl,x,T1.1,T1.2.1,T1.2.2.1,T1.2.2.2,_,_,rfl,ZJ s0,by show 2<=sizeLine;decide,λr1 hr1=>?_⟩
    obtain⟨h5,nr,sw,st⟩:=Ep (t:=((i+1,j,97),(fL T1 f f s).ac 97 c)) (y:=.lst (ps.map V.ref++[.ref r1])) h2 hp1 hq1 (ai.refl _) hr1 rfl rfl sA (LN sA)
    refine⟨l,_,_,rfl,rfl,by rw[au (Ne.symm nr)];exact h5,by rw[List.length_map];exact Nat.lt_of_le_of_lt l2 (by decide),ps++[r1],rfl,sQ s0 hl hr1,by rw[af,List.map_append];rfl,by rw[List.length_append];exact Nat.succ_le_succ l2,?_⟩
    rw[if_pos rE]
    exact GP.Paired.snoc (Paired.g8 pp λ_ _ z=>z.same sw) st
   ·have rE:¬i<f.cps.size:=λz=>h1 (by show(i:Int)<(f.cps.size:Int);omega)
    exact⟨ps,rfl,s2,h2,by omega,by rw[if_neg rE,List.append_nil];exact pp⟩
  rintro σ H3 ⟨ps,rfl,s3,h3,l3,pp⟩
  refine⟨λσ H'=>∃ps:List Addr,σ=[some (.ref x),some (.str f),some (.str s),some (.ref pl),some (.str ⟨#[c]⟩),some (.int (i:Int)),some (.int (j:Int)),some (.ref l)]/\ai H H'/\H' l=some (.lst (ps.map V.ref)) ∧
   Paired (NG (Wo l H')) ps (((if i<f.cps.size/\j<s.cps.size then [((i+1,j+1,112),(fL T1 f f s).pc i j)]else [])++(if i<f.cps.size then [((i+1,j,97),(fL T1 f f s).ac 97 c)]else []))++(if j<s.cps.size then [((i,j+1,98),(fL T1 f f s).ac 98 c)]else [])),?_,?_⟩
  ·refine⟨_,rfl,_,rfl,_,_,rfl,⟨ls,rfl⟩,_,_,rfl,rfl,_,rfl,?_⟩
   refine dF (λh1=>?_) (λh1=>?_)
   ·have rE:j<s.cps.size:=by have z:(j:Int)<(s.cps.size:Int):=h1;omega
    refine⟨_,rfl,.inl ⟨rfl,_,bZ.of h3⟩,_,rfl,_,rfl,_,_,rfl,rfl,by show 2<=sizeLine;decide,λp1 hp1=>⟨by show 2<=sizeLine;decide,λq1 hq1=>?_⟩⟩
    have s0:=s3.trans ((ai.upd hp1).trans (ai.upd (o:=.tup [.ref p1,.str (Str.ofString "b")]) hq1))
    refine⟨_,rfl,_,rfl,x,T1.1,T1.2.1,T1.2.2.1,T1.2.2.2,_,_,rfl,ZJ s0,by show 2<=sizeLine;decide,λr1 hr1=>?_⟩
    obtain⟨h5,nr,sw,st⟩:=Ep (t:=((i,j+1,98),(fL T1 f f s).ac 98 c)) (y:=.lst (ps.map V.ref++[.ref r1])) h3 hp1 hq1 (ai.refl _) hr1 rfl rfl sB (LN sB)
    refine⟨l,_,_,rfl,rfl,by rw[au (Ne.symm nr)];exact h5,by rw[List.length_map];exact Nat.lt_of_le_of_lt l3 (by decide),ps++[r1],rfl,sQ s0 hl hr1,by rw[af,List.map_append];rfl,?_⟩
    rw[if_pos rE]
    exact GP.Paired.snoc (Paired.g8 pp λ_ _ z=>z.same sw) st
   ·have rE:¬j<s.cps.size:=λz=>h1 (by show(j:Int)<(s.cps.size:Int);omega)
    exact⟨ps,rfl,s3,h3,by rw[if_neg rE,List.append_nil];exact pp⟩
  rintro σ H4 ⟨ps,rfl,s4,h4,pp⟩
  refine⟨_,rfl,kk l H4 s4 hl λm=>⟨ps,h4,?_⟩⟩
  rw[List.append_assoc]at pp
  exact Paired.g8 pp λ_ _ z=>z.same Wo.sub
end
section
variable{P:Program}{w:World}{K:PySem.W.Frag}{mg:Str->Option Value}{base:Heap}
theorem AU {jN iX:Addr} {iU gF:FuncData} {p:Pm} (T:Txt K mg p base) (gu:Dn K mg "all_steps" nT Ub jN iU) (fj:Dn K mg "steps_from" mD Uc iX gF) (BI:aJ P w K mg base ck 4 iX gF Uc (Ga K p.aq)):aJ P w K mg base ck 5 jN iU Ub (JP P w K p.aq):=by
 refine gu.fn.ok mq (λvs H Q E h=>?_) (λcdv A outer s H vs Q E hr h=>?_)
 ·obtain⟨x,lp,T1,f,s,rfl,_⟩:=h
  rfl
 ·obtain⟨x,lp,T1,f,s,rfl,hP,of,os,hf,hs,⟨ps,Lb,pp⟩,kk⟩:=h
  have pw:=zN f.cps.size s.cps.size
  refine⟨_,(aj (aC (i:=4) mq.nd rfl (Or.inl rfl) (Gr (Pr:=P) (wo:=w) rfl rfl))
   (aj (cy PassesOwn.never rfl (nU (pv 3)) (aK (i:=5) mq.nd rfl (Or.inl rfl)) (ao (cy PassesOwn.never rfl (Kc (e7 (v:=.ref p.jv) rfl T.Fe rfl)) (aK (i:=6) mq.nd rfl (Or.inl rfl)) (ao (Gk (Pr:=P) (wo:=w) (su hr) (pv 4) (bA (aa (pv 5) (aa (pv 6) ah))) (az BI (hr.mono (by decide)) rfl fj.m fj.fn.kp fj.b .nil aO (aa (pv 0) (aa (pv 1) (aa (pv 2) (aa (pv 5) (aa (pv 6) ah)))))) rfl rfl rfl)))))
   (ao (aL (pv 4))))),?_⟩
  refine λd hd=>?_
  have s1:ai H (L2.upd H d (D5 P w d [])):=ai.upd hd
  refine⟨_,rfl,lp,rfl,⟨_,bZ.of (s1 _ _ Lb)⟩,?_⟩
  refine oM (K:=K) (a:=lp) (xs:=ps.map V.ref) (λa σ H2=>∃v5 v6 kvs,σ=[some (.ref x),some (.str f),some (.str s),some (.ref lp),some (.ref d),v5,v6]/\ai H H2/\H2 d=some (D5 P w d kvs)/\(∀e∈kvs,lU (Wo d H2) e.2.1 e.1)/\∀m,II (Wo d H2) (fL T1 m f s) kvs (cR ((placesOf f.cps.size s.cps.size).take a)))
   ⟨_,_,[],rfl,s1,af,(λe he=>nomatch he),λm=>by rw[List.take_zero];exact .nil⟩ (λa σ H2 _ ⟨_,_,_,_,s2,_⟩=>bZ.of (s2 _ _ Lb)) ?_ ?_
  ·rintro a y σ H2 hy ⟨v5,v6,kvs,rfl,s2,hd2,hk2,hst⟩
   obtain⟨pl,hpl,rfl⟩:=g7 hy
   obtain⟨q,hq,hpq⟩:=GP.Paired.at pp hpl
   have hqn:=kQ.mp (List.mem_of_getElem? hq)
   refine⟨p.jv,rfl,⟨_,T.w9 _⟩,?_⟩
   refine GO (K:=K) (a:=p.jv) (xs:=[V.str (Str.ofString "p"),V.str (Str.ofString "a"),V.str (Str.ofString "b")]) (λb σ H3=>∃v6 kvs,σ=[some (.ref x),some (.str f),some (.str s),some (.ref lp),some (.ref d),some (.ref pl),v6]/\ai H H3/\H3 d=some (D5 P w d kvs)/\(∀e∈kvs,lU (Wo d H3) e.2.1 e.1)/\∀m,II (Wo d H3) (fL T1 m f s) kvs (cR ((placesOf f.cps.size s.cps.size).take a)++st3 q b))
    ⟨_,kvs,rfl,s2,hd2,hk2,λm=>by show II _ _ _ (_++[]);rw[List.append_nil];exact hst m⟩ (λb σ H3 _ _=>T.w9 _) ?_ ?_
   ·rintro b y σ H3 hy ⟨v6,kvs,rfl,s3,Nj,V8,hst⟩
    obtain⟨c,hc,rfl⟩:=RU hy
    refine⟨_,rfl,_,rfl,_,rfl,_,rfl,_,rfl,x,pl,T1,f,s,q.1,q.2,c,rfl,hP.same s3,of,os,hf,hs,s3 _ _ hpq,λl H4 s4 hl hsl=>?_⟩
    refine⟨_,rfl,_,rfl,_,rfl,by show 2<=sizeLine;decide,λq1 hq1=>?_⟩
    have Ld:=s4 _ _ Nj
    have nq:q1≠d:=λz=>by rw[z,Ld]at hq1;cases hq1
    have nl:l≠d:=λz=>by rw[z,Nj]at hl;cases hl
    have kq:lU (L2.upd H4 q1 (.tup [.ref pl,.str ⟨#[c]⟩])) q1 (j8 (q.1,q.2,c)):=⟨pl,af,by rw[au (aM (s4 _ _ (s3 _ _ hpq)) hq1)];exact s4 _ _ (s3 _ _ hpq)⟩
    have sw:ai (Wo d H3) (L2.upd H4 q1 (.tup [.ref pl,.str ⟨#[c]⟩])):=λb u h=>ai.upd hq1 b u (s4 b u (Wo.sub b u h))
    have hno:=NR (hst f) (QG pw hq hc)
    have hal:a<(placesOf f.cps.size s.cps.size).length:=(List.getElem?_eq_some_iff.mp hq).1
    have hlen:kvs.length<sizeLine:=by
     have z:=QH (q:=q) (b:=b) hal
     rw[←Paired.len (hst f),places_len]at z
     exact KZ hf hs z
    refine⟨d,kvs,_,q1,rfl,rfl,⟨by rw[au (Ne.symm nq)];exact Ld,λe he=>lU.same (V8 e he) sw⟩,kq,hlen,?_⟩
    rw[Ks hno]
    have sw2:ai (Wo d H3) (Wo d (L2.upd (L2.upd H4 q1 (.tup [.ref pl,.str ⟨#[c]⟩])) d (D5 P w d (kvs++[(j8 (q.1,q.2,c),q1,.ref l)])))):=λb u h=>Wo.in (Wo.ne h) (by rw[au (Wo.ne h)];exact sw b u h)
    refine⟨_,_,rfl,?_,af,λe he=>?_,λm=>?_⟩
    ·exact ai.at ((s3.trans s4).trans (ai.upd hq1)) hd
    ·rcases List.mem_append.mp he with he|he
     ·exact lU.same (V8 e he) sw2
     ·rw[List.mem_singleton.mp he]
      obtain⟨pl',k1,k2⟩:=kq
      exact⟨pl',Wo.in nq (by rw[au nq];exact k1),Wo.in (λz=>by rw[z,au (Ne.symm nq),Ld]at k2;cases k2) (by rw[au (λz=>by rw[z,au (Ne.symm nq),Ld]at k2;cases k2)];exact k2)⟩
    ·rw[JA hc,←List.append_assoc]
     refine GP.Paired.snoc ((hst m).same sw2) ⟨rfl,l,rfl,(hsl m).da.same λb u h=>?_⟩
     have h':H4 b=some u:=by
      unfold sL at h
      split at h
      ·next e=>cases h;exact e
      ·next e=>cases h;exact e
      ·cases h
     have nb:b≠d:=λz=>by
      rw[z,Ld]at h'
      unfold sL at h
      rw[z,Ld]at h
      cases h
     exact Wo.in nb (by rw[au nb];exact ai.upd hq1 _ _ h')
   ·rintro σ H3 ⟨v6,kvs,rfl,s3,Nj,V8,hst⟩
    exact⟨_,_,kvs,rfl,s3,Nj,V8,λm=>by rw[Cb hq];exact hst m⟩
  ·rintro σ H2 ⟨v5,v6,kvs,rfl,s2,hd2,hk2,hst⟩
   refine⟨_,rfl,kk d kvs H2 s2 hd ⟨hd2,λe he=>lU.same (hk2 e he) Wo.sub⟩ λm=>?_⟩
   have z:=(hst m).same Wo.sub
   rw[List.length_map,Paired.len pp,List.take_length]at z
   exact z
theorem CV {ly mV:Addr} {jE kW:FuncData} {p:Pm} (T:Txt K mg p base) (iF:Dn K mg "all_ends" o6 Ua ly jE) (jQ:Dn K mg "may_end" qJ Ue mV kW) (IU:aJ P w K mg base ck 1 mV kW Ue (JJ K)):aJ P w K mg base ck 2 ly jE Ua Gf:=by
 refine iF.fn.ok qb (λvs H Q E h=>?_) (λcdv A outer s H vs Q E hr h=>?_)
 ·obtain⟨lp,f,s,m,rfl,_⟩:=h
  rfl
 ·obtain⟨lp,f,s,m,rfl,hf,hs,⟨ps,Lb,pp⟩,kk⟩:=h
  refine⟨_,(aj (aC (i:=4) qb.nd rfl (Or.inl rfl) CI)
   (aj (cy PassesOwn.never rfl (nU (pv 2)) (aK (i:=5) qb.nd rfl (Or.inl rfl)) (ao (sS (kJ hr) (pv 4) (pv 5) (az IU (hr.mono (by decide)) rfl jQ.m jQ.fn.kp jQ.b .nil aO (aa (pv 3) (aa (pv 0) (aa (pv 1) (aa (pv 5) ah))))) rfl)))
   (ao (aL (pv 4))))),?_⟩
  refine λd hd=>?_
  have s1:ai H (L2.upd H d (.dT [])):=ai.upd hd
  refine⟨_,rfl,lp,rfl,⟨_,bZ.of (s1 _ _ Lb)⟩,?_⟩
  refine oM (K:=K) (a:=lp) (xs:=ps.map V.ref) (λa σ H2=>∃v5 kvs,σ=[some (.str f),some (.str s),some (.ref lp),some (.str m),some (.ref d),v5]/\ai H H2/\H2 d=some (.dT kvs)/\kvs.length<=a/\∀q∈(placesOf f.cps.size s.cps.size).take a,kF kvs [.inl (q.1:Int),.inl (q.2:Int)]=some (.bl (Dd m f s (q.1,q.2))))
   ⟨_,[],rfl,s1,af,Nat.le_refl _,λq hq=>by rw[List.take_zero]at hq;exact nomatch hq⟩ (λa σ H2 _ ⟨_,_,_,s2,_⟩=>bZ.of (s2 _ _ Lb)) ?_ ?_
  ·rintro a y σ H2 hy ⟨v5,kvs,rfl,s2,hd2,hk2,hst⟩
   obtain⟨pl,hpl,rfl⟩:=g7 hy
   obtain⟨q,hq,hpq⟩:=GP.Paired.at pp hpl
   have hal:=(List.getElem?_eq_some_iff.mp hq).1
   rw[places_len]at hal
   refine⟨_,rfl,_,rfl,_,rfl,_,rfl,m,f,s,pl,((q.1:Int),(q.2:Int)),rfl,cP.of (s2 _ _ hpq),by omega,by omega,?_⟩
   refine⟨_,rfl,_,rfl,d,_,rfl,yl.t (k:=[.inl (q.1:Int),.inl (q.2:Int)]) hd2 (s2 _ _ hpq) (KZ hf hs (by omega)),?_⟩
   refine⟨_,_,rfl,ai.at s2 hd,af,Nat.le_trans (iw _ _ _) (Nat.succ_le_succ hk2),λr hr=>?_⟩
   rw[take_snoc hq]at hr
   rw[BX]
   by_cases e:r=q
   ·rw[if_pos (by rw[e]),e]
   ·rw[if_neg (λz=>e ?_)]
    ·rcases List.mem_append.mp hr with hr|hr
     ·exact hst r hr
     ·exact absurd (List.mem_singleton.mp hr) e
    ·have z1:=(List.cons.inj z).1
     have z2:=(List.cons.inj (List.cons.inj z).2).1
     have e1:(r.1:Int)=q.1:=Sum.inl.inj z1
     have e2:(r.2:Int)=q.2:=Sum.inl.inj z2
     exact Prod.ext (by omega) (by omega)
  ·rintro σ H2 ⟨v5,kvs,rfl,s2,hd2,hk2,hst⟩
   refine⟨_,rfl,kk d kvs H2 s2 hd hd2 λT1 i j hi hj=>?_⟩
   rw[List.length_map,Paired.len pp,List.take_length]at hst
   exact hst (i,j) (kQ.mpr ⟨hi,hj⟩)
theorem r9 {bx dH gf jb jN jG ly:Addr} {eB cN eX gP iU iN jE:FuncData} {p:Pm} (T:Txt K mg p base) (c9:Dm K "__init__" "Ground.__init__" bV Sh bx eB) (bQ:Dn K mg "check_rows" j5 Rg dH cN) (pK:aJ P w K mg base (vz P w) 4 dH cN Rg (Au K p.aq p.aA)) (cX:Dn K mg "check_manner" j6 ["manner"] gf eX) (yk:aJ P w K mg base (vz P w) 1 gf eX ["manner"] (pX p.bz)) (fE:Dn K mg "all_places" mL Ud jb gP) (BQ:aJ P w K mg base ck 1 jb gP Ud NS) (gu:Dn K mg "all_steps" nT Ub jN iU) (D3:aJ P w K mg base ck 5 jN iU Ub (JP P w K p.aq)) (gj:Dn K mg "may_begin" nL Ug jG iN) (DW:aJ P w K mg base ck 1 jG iN Ug (JK K)) (iF:Dn K mg "all_ends" o6 Ua ly jE) (FT:aJ P w K mg base ck 2 ly jE Ua Gf):aJ P w K mg base (vz P w) 6 bx eB Sh (Cm P w K p.aq p.aQ p.aA p.bz):=by
 refine c9.fn.QZ mZ (λvs H Q E h=>?_) (λcdv A outer s H vs Q E hr h=>?_)
 ·obtain⟨x,dx,pr,T1,f,s,m,rfl,_⟩:=h
  rfl
 ·obtain⟨x,dx,pr,T1,f,s,m,rfl,hx,hP,hf,hs,kk,kS,kM⟩:=h
  refine⟨_,(aj (cj (az pK (hr.mono (by decide)) rfl bQ.m bQ.fn.kp bQ.b .nil (Lets.passes nV) (aa (pv 1) (aa (g6 (aa (pv 2) (aa (pv 3) ah))) ah))))
   (aj (cj (az yk (hr.mono (by decide)) rfl cX.m cX.fn.kp cX.b .nil (Lets.passes nV) (aa (pv 4) ah)))
   (aj (aC (i:=5) mZ.nd rfl (Or.inl rfl) (az BQ (hr.mono (by decide)) rfl fE.m fE.fn.kp fE.b .nil aO (aa (pv 2) (aa (pv 3) ah))))
   (aj (lX (pv 0) (az D3 (hr.mono (by decide)) rfl gu.m gu.fn.kp gu.b .nil aO (aa (pv 1) (aa (pv 2) (aa (pv 3) (aa (pv 5) ah))))) rfl)
   (aj (lX (pv 0) (CJ (N:=["place","manner"]) rfl (dm.vm (nt:=1) (ix:=[4]) rfl (by decide +kernel) (by decide +kernel) (by kernel_rfl) rfl (by kernel_rfl)) (nU (pv 5)) (λ_ _ _ _ _ _ _=>(aK (i:=0) (show(["place","manner"]:List Str).Nodup by decide +kernel) rfl (Or.inl rfl))) (λ_ _ _ _ _ _ _=>(pv 0)) (λ_ _ _ _ _ _ _=>(lW (az DW (hr.mono (by decide)) rfl gj.m gj.fn.kp gj.b .nil aO (aa (pv 1) (aa (pv 0) ah)))))) rfl)
   (ao (lX (pv 0) (az FT (hr.mono (by decide)) rfl iF.m iF.fn.kp iF.b .nil aO (aa (pv 2) (aa (pv 3) (aa (pv 5) (aa (pv 4) ah))))) rfl))))))),?_⟩
  refine⟨_,rfl,_,rfl,_,rfl,by show 2<=sizeLine;decide,λl hl=>?_⟩
  refine⟨pr,l,T1.1,T1.2.1,T1.2.2.1,T1.2.2.2,f,s,rfl,hP.same (ai.upd hl),af,by omega,by omega,λof os H1 s1=>?_,λi j bad dx H1 s1 hd=>kS i j bad dx H1 ((ai.upd hl).trans s1) hd⟩
  have Mz:=(ai.upd (o:=.lst [.str f,.str s]) hl).trans s1
  refine⟨_,rfl,m,rfl,λhm=>?_,λhm=>⟨(kM of os hm).1,(kM of os hm).2 H1 Mz⟩⟩
  obtain⟨vQ,vP,kk⟩:=kk of os hm
  refine⟨_,rfl,_,rfl,f,s,rfl,vQ,vP,λlp H2 s2 Lb hpl=>?_⟩
  have Ti:=Mz.trans s2
  refine⟨_,rfl,_,rfl,_,rfl,_,rfl,pr,lp,T1,f,s,rfl,hP.same Ti,of,os,vQ,vP,hpl,λd kvs H3 s3 hd hnd hst=>?_⟩
  have Hu:=Ti.trans s3
  have hx3:=Hu _ _ hx
  refine⟨_,rfl,x,_,dx,[],rfl,hx3,T.jc,T.kg,by show 0<1000;decide,?_⟩
  have d3:=Dat.set (fs':=aG "steps" (.ref d) []) hx3
  have UI:=(hpl.same s3).da.same (sL.dat d3)
  obtain⟨ps,hps,pp⟩:=id UI
  have hlen:=Paired.len pp
  rw[places_len]at hlen
  refine⟨_,rfl,lp,rfl,⟨_,bZ.of hps⟩,λlB hlB=>?_⟩
  have at_:∀i,i<ps.length->ps[i]? =some (ps.getD i 0)/\Hf (L2.upd H3 x (.ins p.aQ dx (aG "steps" (.ref d) []))) (ps.getD i 0) ((placesOf f.cps.size s.cps.size).getD i (0,0)):=λi hi=>by
   have e:ps[i]? =some (ps.getD i 0):=by rw[List.getD_eq_getElem?_getD,List.getElem?_eq_getElem hi];rfl
   obtain⟨q,hq,hpq⟩:=GP.Paired.at pp e
   refine⟨e,?_⟩
   rw[List.getD_eq_getElem?_getD (l:=placesOf _ _),hq]
   exact hpq
  refine G0 ps.length (λi=>De m (((placesOf f.cps.size s.cps.size).getD i (0,0)).1,((placesOf f.cps.size s.cps.size).getD i (0,0)).2)) (λi=>.ref (ps.getD i 0)) hlB (KZ vQ vP (by omega)) (λi H4 s4 hi=>?_) (λH4 s4=>?_) (λi y H4 H5 R S s4 hi hy hR hS=>?_) λH4 s4 V7=>?_
  ·exact⟨_,_,bZ.of (s4 _ _ hps),by rw[List.getElem?_map,(at_ i hi).1];rfl⟩
  ·exact⟨_,bZ.of (s4 _ _ hps),by rw[List.length_map];exact Nat.le_refl _⟩
  ·obtain⟨rfl,hy⟩:=hy
   have ey:=hy _ (bZ.of (s4 _ _ hps))
   rw[List.getElem?_map,(at_ i hi).1]at ey
   cases ey
   refine⟨Kp.JR,_,rfl,_,rfl,m,_,((((placesOf f.cps.size s.cps.size).getD i (0,0)).1:Int),(((placesOf f.cps.size s.cps.size).getD i (0,0)).2:Int)),rfl,cP.of (s4 _ _ (at_ i hi).2),_,rfl,?_⟩
   cases z:De m (((placesOf f.cps.size s.cps.size).getD i (0,0)).1,((placesOf f.cps.size s.cps.size).getD i (0,0)).2)with
   |true=>exact pC ⟨_,rfl,hR z _ (ai.refl _)⟩
   |false=>exact kI (hS z _ (ai.refl _))
  have UD:=s4 _ _ (af (H:=H3) (a:=x) (o:=.ins p.aQ dx (aG "steps" (.ref d) [])))
  refine⟨_,rfl,x,_,dx,_,rfl,UD,T.jc,T.pN,by show 1<1000;decide,?_⟩
  have d4:=Dat.set (fs':=aG "begins" (.ref lB) (aG "steps" (.ref d) [])) UD
  have Zj:G9 H4 lp (placesOf f.cps.size s.cps.size):=UI.same s4
  have Zi:=Zj.da.same (sL.dat d4)
  refine⟨_,rfl,_,rfl,_,rfl,_,rfl,lp,f,s,m,rfl,vQ,vP,Zi,λdE kE H6 s6 hdE hE6 hE=>?_⟩
  have Od:=s6 _ _ (af (H:=H4) (a:=x) (o:=.ins p.aQ dx (aG "begins" (.ref lB) (aG "steps" (.ref d) []))))
  refine⟨_,rfl,x,_,dx,_,rfl,Od,T.jc,T.oj,by show 2<1000;decide,?_⟩
  have d6:=Dat.set (fs':=aG "ends" (.ref dE) (aG "begins" (.ref lB) (aG "steps" (.ref d) []))) Od
  have dd:Dat H3 (L2.upd H6 x (.ins p.aQ dx (aG "ends" (.ref dE) (aG "begins" (.ref lB) (aG "steps" (.ref d) []))))):=(((d3.trans (Dat.of s4)).trans d4).trans (Dat.of s6)).trans d6
  have de:Dat H4 (L2.upd H6 x (.ins p.aQ dx (aG "ends" (.ref dE) (aG "begins" (.ref lB) (aG "steps" (.ref d) []))))):=(d4.trans (Dat.of s6)).trans d6
  refine kk _ (λb u nb hb=>?_) ⟨dx,d,lB,dE,kvs,kE,af,ND.dat hnd dd,(hst m).da.same (sL.dat dd),?_,d6 _ _ (λ_ _ _ z=>by cases z) hE6,hE T1⟩
  ·rw[au nb]
   refine s6 _ _ ?_
   rw[au nb]
   refine s4 _ _ ?_
   rw[au nb]
   exact Hu _ _ hb
  ·refine⟨((List.range ps.length).filter λi=>De m (((placesOf f.cps.size s.cps.size).getD i (0,0)).1,((placesOf f.cps.size s.cps.size).getD i (0,0)).2)).map λi=>ps.getD i 0,?_,?_⟩
   ·rw[List.map_map]
    exact de _ _ (λ_ _ _ z=>by cases z) V7
   ·unfold LI
    rw[←GQ (placesOf f.cps.size s.cps.size) (0,0),places_len,←hlen]
    refine uY λi hi=>?_
    have hi':=List.mem_range.mp (List.mem_filter.mp hi).1
    exact de _ _ (λ_ _ _ z=>by cases z) (s4 _ _ (at_ i hi').2)
end
section
variable{P:Program}{w:World}{K:PySem.W.Frag}{mg:Str->Option Value}{base:Heap}
theorem xq {gQ:Addr} {fS:FuncData} {p:Pm} (T:Txt K mg p base) (dN:Dn K mg "least_rests" lG ["ground"] gQ fS)  :aJ P w K mg base ck 1 gQ fS ["ground"] (JE P w p.aQ):=by
 refine dN.fn.ok jV (λvs H Q E h=>?_) (λcdv A outer s H vs Q E hr h=>?_)
 ·obtain⟨x,g,bs,rfl,_⟩:=h
  rfl
 ·obtain⟨x,g,bs,rfl,hG,ok,hn,hm,kk⟩:=h
  obtain⟨dx,dS,lB,dE,kS,kE,hx,hS,hst,hB,hE,U0⟩:=id hG
  have hN:kS.length=g.states.length:=Paired.len hst
  have hN3:g.states.length=3*((g.n+1)*(g.m+1)):=by unfold Gd.states;rw[wQ,places_len]
  refine⟨_,(aj (aC (i:=1) jV.nd rfl (Or.inr rfl) (Gr (Pr:=P) (wo:=w) rfl rfl))
   (aj (cy PassesOwn.never rfl (QU rfl T.Ea (aa (oJ (Bd (Pr:=P) (wo:=w) rfl rfl rfl) rfl T.wD tZ (aa (dh (pv 0) rfl) ah)) ah)) (aK (i:=2) jV.nd rfl (Or.inl rfl)) (aj (xh (i:=3) (N:=YT) jV.nd rfl (Or.inl rfl) rfl (dm.vm (nt:=2) (ix:=[1]) rfl (by decide +kernel) (by decide +kernel) (by kernel_rfl) rfl (by kernel_rfl)) (nU (sU (Pr:=P) (wo:=w) (su hr) (dh (pv 0) rfl) (pv 2) (λ_ _=>rfl) rfl rfl)) (λ_ _ _ _ _ _ _=>(Gq (K':=K) (n:=2) rfl rfl (bG (aK (i:=0) (show(YT:List Str).Nodup by decide +kernel) rfl (Or.inl rfl)) (bG (aK (i:=1) (show(YT:List Str).Nodup by decide +kernel) rfl (Or.inl rfl)) jo)))) (λ_ _ _ _ _ _ _=>(aF cK (pv 1) (sU (Pr:=P) (wo:=w) (su hr) (pv 2) (pv 0) (λ_ _=>rfl) rfl rfl))))
   (bE (bN (lW (lO (kJ hr) (dh (pv 0) rfl) (aU bK (pv 2) ak (λ_ _=>rfl)) (λ_ _=>rfl))) (ao (cj (lS PySem.F.plainAttrs_list PySem.F.slot_list_append PySem.F.type_list_append cE (pv 3) (aa ak ah)))) aN)
   (ao (Gk (Pr:=P) (wo:=w) (su hr) (pv 1) (pv 2) (aD (IC rfl) rfl T.F0 Bl (aa (pv 3) ah)) rfl rfl rfl)))))
   (ao (aL (pv 1))))),?_⟩
  refine λd hd=>?_
  have s1:ai H (L2.upd H d (D5 P w d [])):=ai.upd hd
  refine⟨_,rfl,x,_,dx,_,_,rfl,s1 _ _ hx,T.jc,T.kg,uN,dS,kS,rfl,ND.same hS s1,λl hl=>?_⟩
  have s2:=s1.trans (ai.upd (o:=.lst (kS.map λe=>.ref e.2.1)) hl)
  have ndl:l≠d:=λz=>by rw[z,af]at hl;cases hl
  refine⟨l,_,rfl,bZ.of af,?_⟩
  refine Nq (K:=K) (a:=l) (xs:=kS.map λe=>V.ref e.2.1) (λk σ H2=>∃v2 v3 kvs,σ=[some (.ref x),some (.ref d),v2,v3]/\ai H H2/\H2 l=some (.lst (kS.map λe=>V.ref e.2.1))/\H2 d=some (D5 P w d kvs)/\kvs.length<=k/\(∀e∈kvs,lU (Wo d H2) e.2.1 e.1)/\∀s∈g.states.drop (g.states.length-k),kH kvs (j8 s)=some (.int (g.rest s)))
   ⟨_,_,[],rfl,s2,af,by rw[au (Ne.symm ndl),af],Nat.le_refl _,(λe he=>nomatch he),λs hs=>by rw[Nat.sub_zero,List.drop_length]at hs;exact nomatch hs⟩ (λk σ H2 _ ⟨_,_,_,_,_,h2,_⟩=>bZ.of h2) ?_ ?_
  ·rintro k y σ H2 hk hy ⟨v2,v3,kvs,rfl,s2,hl2,hd2,hlen,hkey,hval⟩
   rw[List.length_map,hN]at hk
   rw[List.length_map,hN]at hy
   obtain⟨e,he,rfl⟩:=g7 hy
   obtain⟨s,hs,hek,l',hel,hsl⟩:=GP.Paired.at hst he
   have hin:=Gd.gw.mp (List.mem_of_getElem? hs)
   have hke:lU H e.2.1 (j8 s):=by rw[←hek];exact hS.keys e (List.mem_of_getElem? he)
   obtain⟨l'',Zm,UE⟩:=As hst (Gd.gw.mpr hin)
   obtain⟨ps,hps,pp⟩:=UE
   have hpl:=Paired.len pp
   refine⟨_,rfl,x,_,dx,_,_,rfl,s2 _ _ hx,T.jc,T.kg,uN,_,rfl,dS,kS,j8 s,e.2.1,.ref l'',rfl,rfl,ND.same hS s2,lU.same hke s2,Zm,l'',rfl,⟨_,bZ.of (s2 _ _ hps)⟩,λlc Ni=>?_⟩
   have Zc:(g.steps s).length<=3:=by unfold Gd.steps;split<;>split<;>split<;>simp
   refine Fw ps.length (λi=>.int (g.key ((g.steps s).getD i (s,0)))) Ni (Nat.lt_of_le_of_lt (show ps.length<=3 by omega) (by decide)) (λi H3 s3 hi=>?_) (λH3 s3=>?_) (λi y H3 H4 R s3 hi hy hR=>?_) λH3 s3 hl3=>?_
   ·exact⟨_,_,bZ.of (s3 _ _ (s2 _ _ hps)),by rw[List.getElem?_map,List.getElem?_eq_getElem hi];rfl⟩
   ·exact⟨_,bZ.of (s3 _ _ (s2 _ _ hps)),by rw[List.length_map];exact Nat.le_refl _⟩
   ·obtain⟨rfl,hy⟩:=hy
    have ey:=hy _ (bZ.of (s3 _ _ (s2 _ _ hps)))
    rw[List.getElem?_map,List.getElem?_eq_getElem hi]at ey
    cases ey
    obtain⟨t,ht,q,hq1,hq2⟩:=GP.Paired.at pp (List.getElem?_eq_getElem hi)
    have et:(g.steps s).getD i (s,0)=t:=by rw[List.getD_eq_getElem?_getD,ht];rfl
    rw[et]at hR
    have hb:=Gd.Ca hs (List.mem_of_getElem? ht)
    rw[show g.states.length-1-k+1=g.states.length-k by omega]at hb
    refine⟨_,_,rfl,cP.of (s3 _ _ (s2 _ _ hq1)),rfl,_,_,rfl,_,_,rfl,rfl,Kp2,?_⟩
    exact⟨_,rfl,_,rfl,_,rfl,d,kvs,j8 t.1,q,_,rfl,rfl,⟨s3 _ _ hd2,λe he=>lU.same (lU.same (hkey e he) Wo.sub) s3⟩,lU.same (lU.same hq2 s2) s3,hval t.1 hb,_,_,rfl,rfl,hR _ (ai.refl _)⟩
   have hls:(List.range ps.length).map (λi=>V.int (g.key ((g.steps s).getD i (s,0))))=((g.steps s).map g.key).map V.int:=by
    rw[List.map_map,hpl]
    refine List.ext_getElem (by simp) λi h1 h2=>?_
    simp only[List.getElem_map,List.getElem_range,Function.comp_apply]
    rw[List.getD_eq_getElem?_getD,List.getElem?_eq_getElem (by simpa using h2)]
    rfl
   rw[hls]at hl3
   have Hu:=s2.trans s3
   have hcn:H2 lc=none:=Ni
   have ncd:lc≠d:=λz=>by rw[z,hd2]at hcn;cases hcn
   have ncl:lc≠l:=λz=>by rw[z,hl2]at hcn;cases hcn
   obtain⟨pk,hk1,hk2⟩:=hke
   refine⟨λσ H'=>σ=[some (.ref x),some (.ref d),some (.ref e.2.1),some (.ref lc)]/\ai H2 H'/\H' lc=some (.lst ((g.costs g.rest s).map V.int)),?_,?_⟩
   ·refine⟨_,rfl,x,_,dx,_,_,rfl,Hu _ _ hx,T.jc,T.oj,Dq,_,rfl,e.2.1,_,_,_,rfl,rfl,cP.of (Hu _ _ hk1),rfl,dE,.bl (g.en s.1 s.2.1),rfl,?_,_,rfl,?_⟩
    ·rw[←U0 s.1 s.2.1 hin.1 hin.2.1]
     exact pR.t (Hu _ _ hE) (Hu _ _ hk2)
    ·unfold Gd.costs
     cases z:g.en s.1 s.2.1 with
     |true =>
      refine pC ⟨_,rfl,.inl ⟨rfl,_,bZ.of hl3⟩,lc,_,_,rfl,rfl,hl3,by rw[List.length_map,List.length_map];exact Nat.lt_of_le_of_lt Zc (by decide),rfl,ai.at s3 hcn,?_⟩
      rw[af,if_pos rfl,List.map_append]
      rfl
     |false=>exact kI ⟨rfl,s3,by rw[if_neg Bool.false_ne_true,List.append_nil];exact hl3⟩
   rintro σ H4 ⟨rfl,s4,V7⟩
   refine⟨_,rfl,lc,_,rfl,bZ.of V7,Gd.DE ok hin,_,rfl,_,rfl,d,kvs,j8 s,e.2.1,rfl,rfl,⟨s4 _ _ hd2,λe he=>lU.same (lU.same (hkey e he) Wo.sub) s4⟩,⟨pk,s4 _ _ (s2 _ _ hk1),s4 _ _ (s2 _ _ hk2)⟩,KZ hn hm (by omega),?_⟩
   rw[←g.rest_eq]
   have sw:ai (Wo d H2) (Wo d (L2.upd H4 d (D5 P w d (tD kvs (j8 s) e.2.1 (.int (g.rest s)))))):=λb u h=>Wo.in (Wo.ne h) (by rw[au (Wo.ne h)];exact s4 _ _ (Wo.sub b u h))
   have VZ:∀{b:Addr} {xs:List V},H2 b=some (.tup xs)->b≠d:=λ{b xs} h z=>by rw[z,hd2]at h;cases h
   refine⟨_,_,_,rfl,ai.at (s2.trans s4) hd,by rw[au ndl];exact s4 _ _ hl2,af,Nat.le_trans (CY _ _ _ _) (Nat.succ_le_succ hlen),HC (λe he=>lU.same (hkey e he) sw) (lU.same ⟨pk,Wo.in (VZ (s2 _ _ hk1)) (s2 _ _ hk1),Wo.in (VZ (s2 _ _ hk2)) (s2 _ _ hk2)⟩ sw),λr hr=>?_⟩
   rw[Kr]
   rw[show g.states.length-(k+1)=g.states.length-1-k by omega,List.drop_eq_getElem_cons (by omega)]at hr
   rw[(List.getElem?_eq_some_iff.mp hs).2]at hr
   by_cases er:j8 r=j8 s
   ·rw[if_pos er,wY er]
   ·rw[if_neg er]
    rcases List.mem_cons.mp hr with hr|hr
    ·exact absurd (by rw[hr]) er
    ·exact hval r (by rw[show g.states.length-k=g.states.length-1-k+1 by omega];exact hr)
  ·rintro σ H2 ⟨v2,v3,kvs,rfl,s2,hl2,hd2,hlen,hkey,hval⟩
   rw[List.length_map,hN,Nat.sub_self,List.drop_zero]at hval
   exact⟨_,rfl,kk d kvs H2 s2 hd ⟨hd2,λe he=>lU.same (hkey e he) Wo.sub⟩ λs hs=>hval s (Gd.gw.mpr hs)⟩
theorem yH {i7:Addr} {gM:FuncData} {p:Pm} (T:Txt K mg p base) (fC:Dn K mg "ends_there" mJ l9 i7 gM)  :aJ P w K mg base ck 1 i7 gM l9 (F8 P w p.aQ):=by
 refine fC.fn.ok yu (λvs H Q E h=>?_) (λcdv A outer s H vs Q E hr h=>?_)
 ·obtain⟨x,d,q,g,bs,kvs,s,rfl,_⟩:=h
  rfl
 ·obtain⟨x,d,q,g,bs,kvs,s,rfl,⟨hG,hd,hR⟩,hq,hin,kk⟩:=h
  obtain⟨dx,dS,lB,dE,kS,kE,hx,hS,hst,hB,hE,U0⟩:=id hG
  obtain⟨pk,hk1,hk2⟩:=id hq
  refine⟨_,(ao (aL (ng (lO (kJ hr) (dh (pv 0) rfl) (aU bK (pv 2) ak (λ_ _=>rfl)) (λ_ _=>rfl)) (o8 (g9 gi (sU (Pr:=P) (wo:=w) (su hr) (pv 1) (pv 2) (λ_ _=>rfl) rfl rfl) ak (aZ _)))))),?_⟩
  refine⟨_,rfl,x,_,dx,_,_,rfl,hx,T.jc,T.oj,Dq,_,rfl,q,_,_,_,rfl,rfl,cP.of hk1,rfl,dE,.bl (g.en s.1 s.2.1),rfl,?_,_,rfl,?_⟩
  ·rw[←U0 s.1 s.2.1 hin.1 hin.2.1]
   exact pR.t hE hk2
  ·unfold Gd.stop at kk
   cases z:g.en s.1 s.2.1 with
   |true =>
    rw[z,Bool.true_and]at kk
    refine pC ⟨_,rfl,_,rfl,d,kvs,j8 s,q,_,rfl,rfl,hd,hq,hR s hin,rfl,?_⟩
    rw[mP]
    exact kk
   |false =>
    rw[z,Bool.false_and]at kk
    exact kI kk
theorem xw {gU:Addr} {fU:FuncData} {p:Pm} (T:Txt K mg p base) (cQ:Dn K mg "first_begin" lJ T9 gU fU)  :aJ P w K mg base ck 1 gU fU T9 (Co P w p.aQ (yN K)):=by
 refine cQ.fn.okL T.xJ (T.xH _ cQ.m) wW (λvs H Q E h=>?_) (λcdv A outer s H vs Q E hC hr h=>?_)
 ·obtain⟨x,d,g,bs,kvs,rfl,_⟩:=h
  rfl
 ·obtain⟨x,d,g,bs,kvs,rfl,⟨hG,hd,hR⟩,hT,hne,hbs,kk⟩:=h
  obtain⟨dx,dS,lB,dE,kS,kE,hx,hS,hst,⟨ps,hps,pp⟩,hE,U0⟩:=id hG
  have hlen:=Paired.len pp
  have at_:∀(i:Nat) (v:V),(ps.map V.ref)[i]? =some v->∃pl b,v= .ref pl/\bs[i]? =some b/\Hf H pl b:=λi v hv=>by
   obtain⟨pl,hpl,rfl⟩:=g7 hv
   obtain⟨b,hb,K9⟩:=GP.Paired.at pp hpl
   exact⟨pl,b,rfl,hb,K9⟩
  refine⟨_,(ao (aL (Gs (Pr:=P) (wo:=w) (P:=dZ K "first_begin") (ir:=1) (M5 ⟨λ_ _ _ _ _ _=>rfl,rfl,rfl,by decide +kernel,rfl,rfl,rfl,by decide,by decide,by decide⟩) M8 rfl rfl hC T.bm rfl (AE hr) (GJ hr) rfl T.F0 Bl rfl rfl (aa (dh (pv 0) rfl) ah) rfl rfl rfl))),?_⟩
  refine⟨_,rfl,x,_,dx,_,_,rfl,hx,T.jc,T.pN,E9,lB,_,.ref d,λi=>g.Nz (bs.getD i (0,0)),rfl,rfl,bZ.of hps,?_,λi v hv=>?_,hT.a,λH2 ap e t i v hv hL=>?_⟩
  ·rw[List.length_map,hlen]
   exact List.length_pos_iff.mpr hne
  ·obtain⟨pl,b,rfl,hb,K9⟩:=at_ i v hv
   have hb':=hbs b (List.mem_of_getElem? hb)
   refine⟨pl,d,kvs,b.1,b.2,rfl,K9,rfl,hd,?_⟩
   have z:=hR (b.1,b.2,112) ⟨hb'.1,hb'.2,.inl rfl⟩
   have e:bs.getD i (0,0)=b:=by rw[List.getD_eq_getElem?_getD,hb];rfl
   dsimp only
   rw[e,sP]
   exact z
  ·obtain⟨pl,b,rfl,hb,K9⟩:=at_ i v hv
   have lo:=Lo.one (P:=P) (w:=w) (L:=yN K) hT ap e t
   refine kk pl b H2 lo (wm hb λj y hy=>?_) (lo.tup K9)
   have z:=hL j (by rw[List.length_map,hlen];exact(List.getElem?_eq_some_iff.mp hy).1)
   dsimp only at z
   rw[List.getD_eq_getElem?_getD,List.getD_eq_getElem?_getD,hb,hy]at z
   exact z
theorem vG {fZ:Addr} {eT:FuncData} {p:Pm} (T:Txt K mg p base) (cD:Dn K mg "state_behind" j0 l9 fZ eT)  :aJ P w K mg base ck 1 fZ eT l9 (JO P w p.aQ (yN K)):=by
 refine cD.fn.okL T.vN (T.vM _ cD.m) vA (λvs H Q E h=>?_) (λcdv A outer s H vs Q E hC hr h=>?_)
 ·obtain⟨x,d,q,g,bs,kvs,s,rfl,_⟩:=h
  rfl
 ·obtain⟨x,d,q,g,bs,kvs,s,rfl,⟨hG,hd,hR⟩,hq,hin,hne,hT,kk⟩:=h
  obtain⟨dx,dS,lB,dE,kS,kE,hx,hS,hst,hB,hE,U0⟩:=id hG
  obtain⟨l,Zm,ps,hps,pp⟩:=As hst (Gd.gw.mpr hin)
  have hlen:=Paired.len pp
  have at_:∀(i:Nat) (v:V),(ps.map V.ref)[i]? =some v->∃pl t,v= .ref pl/\(g.steps s)[i]? =some t/\NG H pl t:=λi v hv=>by
   obtain⟨pl,hpl,rfl⟩:=g7 hv
   obtain⟨b,hb,K9⟩:=GP.Paired.at pp hpl
   exact⟨pl,b,rfl,hb,K9⟩
  refine⟨_,(ao (aL (aU bK (Gs (Pr:=P) (wo:=w) (P:=dZ K "state_behind") (ir:=1) (M4 ⟨λ_ _ _ _ _ _=>rfl,rfl,rfl,by decide +kernel,rfl,rfl,rfl,by decide,by decide,by decide⟩) M7 rfl rfl hC T.bm rfl (AE hr) (GJ hr) rfl T.F0 Bl rfl rfl (aa (sU (Pr:=P) (wo:=w) (su hr) (dh (pv 0) rfl) (pv 2) (λ_ _=>rfl) rfl rfl) ah) rfl rfl rfl) ak (λ_ _=>rfl)))),?_⟩
  refine⟨_,rfl,x,_,dx,_,_,rfl,hx,T.jc,T.kg,uN,_,rfl,dS,kS,j8 s,q,.ref l,rfl,rfl,hS,hq,Zm,l,_,.ref d,λi=>g.key ((g.steps s).getD i (s,0)),rfl,rfl,bZ.of hps,?_,λi v hv=>?_,hT.b,λH2 ap e t i v hv hL=>?_⟩
  ·rw[List.length_map,hlen]
   exact List.length_pos_iff.mpr hne
  ·obtain⟨pl,t,rfl,ht,q',h1,h2⟩:=at_ i v hv
   refine⟨pl,d,q',kvs,j8 t.1,t.2,g.rest t.1,rfl,h1,h2,rfl,hd,hR t.1 (Gd.oU (List.mem_of_getElem? ht) hin),?_⟩
   show g.key _=_
   rw[List.getD_eq_getElem?_getD,ht]
   rfl
  ·obtain⟨pl,u,rfl,hu,q',h1,h2⟩:=at_ i v hv
   have lo:=Lo.two (P:=P) (w:=w) (L:=yN K) hT ap e t
   refine⟨pl,_,_,_,rfl,rfl,cP.of (lo.tup h1),rfl,kk q' u H2 lo (wm hu λj y hy=>?_) (lo.kat h2)⟩
   have z:=hL j (by rw[List.length_map,hlen];exact(List.getElem?_eq_some_iff.mp hy).1)
   dsimp only at z
   rw[List.getD_eq_getElem?_getD,List.getD_eq_getElem?_getD,hu,hy]at z
   exact z
theorem xu {gT i7 fZ:Addr} {fT gM eT:FuncData} {p:Pm} (T:Txt K mg p base) (dO:Dn K mg "first_moves" lH T8 gT fT) (fC:Dn K mg "ends_there" mJ l9 i7 gM) (BO:aJ P w K mg base ck 1 i7 gM l9 (F8 P w p.aQ)) (cD:Dn K mg "state_behind" j0 l9 fZ eT) (yh:aJ P w K mg base ck 1 fZ eT l9 (JO P w p.aQ (yN K))):aJ P w K mg base ck 2 gT fT T8 (JH P w p.aQ (yN K)):=by
 refine dO.fn.ok jX (λvs H Q E h=>?_) (λcdv A outer s H vs Q E hr h=>?_)
 ·obtain⟨x,d,pl,g,bs,kvs,b,rfl,_⟩:=h
  rfl
 ·obtain⟨x,d,pl,g,bs,kvs,b,rfl,hG,hb,hin,ok,hn,hm,hT,kk⟩:=h
  refine⟨_,(aj (aC (i:=3) jX.nd rfl (Or.inl rfl) (bA (aa (pv 2) (aa bC ah))))
   (aj (aC (i:=4) jX.nd rfl (Or.inl rfl) (g6 ah))
   (aj (CB PassesOwn.never (xg (lW (az BO (hr.mono (by decide)) rfl fC.m fC.fn.kp fC.b .nil aO (aa (pv 0) (aa (pv 1) (aa (pv 3) ah)))))) (aj (aC (i:=3) jX.nd rfl (Or.inl rfl) (az yh (hr.mono (by decide)) rfl cD.m cD.fn.kp cD.b .nil aO (aa (pv 0) (aa (pv 1) (aa (pv 3) ah)))))
   (ao (cj (lS PySem.F.plainAttrs_list PySem.F.slot_list_append PySem.F.type_list_append cE (pv 4) (aa (aU bK (pv 3) ak (λ_ _=>rfl)) ah))))))
   (ao (aL (lS PySem.F.plainAttrs_str PySem.F.slot_str_join PySem.F.type_str_join Gz bC (aa (pv 4) ah))))))),?_⟩
  refine⟨_,rfl,by show 2<=sizeLine;decide,λq hq=>⟨by show 0<=sizeLine;decide,λl hl=>?_⟩⟩
  have s1:ai H (L2.upd H q (.tup [.ref pl,.str (Str.ofString "p")])):=ai.upd hq
  have hln:H l=none:=ai.free s1 hl
  have VW:q≠l:=λz=>by rw[z,af]at hl;cases hl
  have k0:lU (L2.upd (L2.upd H q (.tup [.ref pl,.str (Str.ofString "p")])) l (.lst [])) q (j8 (b.1,b.2,112)):=by
   refine⟨pl,by rw[au VW,af,sP];rfl,?_⟩
   exact ai.upd hl _ _ (s1 _ _ hb)
  refine⟨λn σ H'=>∃(q:Addr) (s:bR) (mv:List Nat),n=g.ht s/\σ=[some (.ref x),some (.ref d),some (.ref pl),some (.ref q),some (.ref l)]/\Lo P w (yN K) H H'/\lU H' q (j8 s)/\g.In s/\H' l=some (.lst (mv.map sg))/\g.moves (b.1,b.2,112)=mv++g.moves s/\mv.length+g.ht s<=g.n+g.m,
   ⟨_,q,(b.1,b.2,112),[],rfl,rfl,.of hT (s1.trans (ai.upd hl)),k0,hin,af,rfl,by show 0+(g.n-b.1+(g.m-b.2))<=_;omega⟩,?_⟩
  rintro n σ H1 ⟨q,s,mv,rfl,rfl,lo,hk,hs,hl1,Rz,hle⟩
  refine⟨_,rfl,_,rfl,_,rfl,x,d,q,g,bs,kvs,s,rfl,lo.gR hG,hk,hs,_,rfl,?_⟩
  cases z:g.stop s with
  |true =>
   refine ve ⟨rfl,_,rfl,l,mv,rfl,rfl,bZ.of hl1,by omega,?_⟩
   rw[Gd.se z,List.append_nil]at Rz
   rw[←Rz]
   exact kk H1 lo
  |false =>
   obtain⟨t,hf,ht,hnx,_⟩:=g.go ok hs z
   refine zV ⟨λσ' H'=>∃m',m'<g.ht s/\∃(q:Addr) (s:bR) (mv:List Nat),m'=g.ht s/\σ'=[some (.ref x),some (.ref d),some (.ref pl),some (.ref q),some (.ref l)]/\Lo P w (yN K) H H'/\lU H' q (j8 s)/\g.In s/\H' l=some (.lst (mv.map sg))/\g.moves (b.1,b.2,112)=mv++g.moves s/\mv.length+g.ht s<=g.n+g.m,λσ' H' h=>h,?_⟩
   refine⟨_,rfl,_,rfl,_,rfl,x,d,q,g,bs,kvs,s,rfl,lo.gR hG,hk,hs,List.ne_nil_of_mem ht,lo.lt,λq' t' H2 lo2 hf' hk'=>?_⟩
   obtain rfl:t=t':=Option.some.inj (hf.symm.trans hf')
   have hl2:=lo2.nx _ _ (Nt.lst hl1)
   obtain⟨pk,hk1,hk2⟩:=id hk'
   have hht:=Gd.iK ht
   refine⟨_,rfl,.inl ⟨rfl,_,bZ.of hl2⟩,_,rfl,q',_,_,_,rfl,rfl,cP.of hk1,rfl,l,_,_,rfl,rfl,hl2,by rw[List.length_map];exact Nat.lt_of_le_of_lt (show mv.length<=24 by omega) (by decide),g.ht t.1,hht,q',t.1,mv++[t.1.2.2],rfl,rfl,(lo.trans lo2).put hln hl2,Nb hk' hl2,Gd.oU ht hs,by rw[af,List.map_append];rfl,?_,?_⟩
   ·rw[Rz,Gd.xC ok hs z,hnx,List.append_assoc]
    rfl
   ·rw[List.length_append]
    show mv.length+1+_<=_
    omega
theorem CT {k8 bx gQ gU k6 gT:Addr} {iz eB fS fU jC fT:FuncData} {p:Pm} (T:Txt K mg p base) (iD:Dn K mg "cheapest" o4 T7 k8 iz) (c9:Dm K "__init__" "Ground.__init__" bV Sh bx eB) (ye:Mk K p.aQ bx) (um:aJ P w K mg base (vz P w) 6 bx eB Sh (Cm P w K p.aq p.aQ p.aA p.bz)) (dN:Dn K mg "least_rests" lG ["ground"] gQ fS) (zd:aJ P w K mg base ck 1 gQ fS ["ground"] (JE P w p.aQ)) (cQ:Dn K mg "first_begin" lJ T9 gU fU) (zj:aJ P w K mg base ck 1 gU fU T9 (Co P w p.aQ (yN K))) (iC:Dn K mg "in_units" oZ Ui k6 jC) (FO:aJ P w K mg base ck 2 k6 jC Ui (zI K p.aq)) (dO:Dn K mg "first_moves" lH T8 gT fT) (zh:aJ P w K mg base ck 2 gT fT T8 (JH P w p.aQ (yN K))):aJ P w K mg base (vz P w) 8 k8 iz T7 (Gh P w K p.aq p.aA p.bz (yN K)):=by
 refine iD.fn.QZ nJ (λvs H Q E h=>?_) (λcdv A outer s H vs Q E hr h=>?_)
 ·obtain⟨pr,T1,f,s,m,rfl,_⟩:=h
  rfl
 ·obtain⟨pr,T1,f,s,m,rfl,hP,hT,hf,hs,kk,kS,kM⟩:=h
  refine⟨_,(aj (aC (i:=4) nJ.nd rfl (Or.inl rfl) (Gu ye um (hr.mono (by decide)) rfl T.HU c9.b .nil (Lets.passes nV) (aa (pv 0) (aa (pv 1) (aa (pv 2) (aa (pv 3) ah))))))
   (aj (aC (i:=5) nJ.nd rfl (Or.inl rfl) (az zd (hr.mono (by decide)) rfl dN.m dN.fn.kp dN.b .nil aO (aa (pv 4) ah)))
   (aj (aC (i:=6) nJ.nd rfl (Or.inl rfl) (az zj (hr.mono (by decide)) rfl cQ.m cQ.fn.kp cQ.b .nil aO (aa (pv 4) (aa (pv 5) ah))))
   (ao (aL (bA (aa (az FO (hr.mono (by decide)) rfl iC.m iC.fn.kp iC.b .nil aO (aa (pv 0) (aa (sU (Pr:=P) (wo:=w) (su hr) (pv 5) (bA (aa (pv 6) (aa bC ah))) (λ_ _=>rfl) rfl rfl) ah))) (aa (pv 6) (aa (az zh (hr.mono (by decide)) rfl dO.m dO.fn.kp dO.b .nil aO (aa (pv 4) (aa (pv 5) (aa (pv 6) ah)))) ah))))))))),?_⟩
  refine⟨_,rfl,_,rfl,_,rfl,_,rfl,λx dx hx hdx ndx=>?_⟩
  have s1:ai H (L2.upd (L2.upd H dx (.own x)) x (.ins p.aQ dx [])):=ai.at (ai.upd hdx) hx
  refine⟨x,dx,pr,T1,f,s,m,rfl,af,hP.same s1,hf,hs,λof os hm=>?_,λi j bad dx H1 s2 hd=>kS i j bad dx H1 (s1.trans s2) hd,λof os hm=>⟨(kM of os hm).1,λH1 s2=>(kM of os hm).2 H1 (s1.trans s2)⟩⟩
  obtain⟨vQ,vP,kk⟩:=kk of os hm
  refine⟨vQ,vP,λH1 e1 hG=>⟨rfl,?_⟩⟩
  have Mz:ai H H1:=λb u q=>e1 b u (aM q hx) (s1 b u q)
  have ok:=Li T1 m f s
  refine⟨_,rfl,x,_,_,rfl,hG,ok,vQ,vP,λd kvs H2 s2 hd hnd hR=>?_⟩
  have Ti:=Mz.trans s2
  refine⟨_,rfl,_,rfl,x,d,_,_,kvs,rfl,⟨hG.same s2,hnd,hR⟩,hT.same Ti,NB _ _ _,λb hb=>kQ.mp (List.mem_filter.mp hb).1,λpb b H3 YQ hb K9=>?_⟩
  have TN:=ai.lo Ti hT YQ
  have hG3:=YQ.gR ⟨hG.same s2,hnd,hR⟩
  have hbi:(fL T1 m f s).In (b.1,b.2,112):=by
   have:=kQ.mp (List.mem_filter.mp (oN hb)).1
   exact⟨this.1,this.2,.inl rfl⟩
  refine⟨_,rfl,_,rfl,_,rfl,by show 2<=sizeLine;decide,λq hq=>?_⟩
  have s4:ai H3 (L2.upd H3 q (.tup [.ref pb,.str (Str.ofString "p")])):=ai.upd hq
  refine⟨d,kvs,j8 (b.1,b.2,112),q,_,rfl,rfl,ND.same hG3.2.1 s4,⟨pb,by rw[af,sP];rfl,s4 _ _ K9⟩,hR _ hbi,pr,_,T1.1,T1.2.1,T1.2.2.1,T1.2.2.2,rfl,(TN.pr hP).same s4,λc H5 s5 hc hc5=>?_⟩
  have Th:=s4.trans s5
  refine⟨_,rfl,_,rfl,_,rfl,_,rfl,x,d,pb,_,_,kvs,b,rfl,hG3.same Th,Th _ _ K9,hbi,ok,vQ,vP,YQ.lt.same Th,λH6 N5=>⟨by show 3<=sizeLine;decide,λr hr=>?_⟩⟩
  have M0:=(TN.then Th).trans N5
  have s7:ai H6 (L2.upd H6 r _):=ai.upd (o:=.tup [.ref c,.ref pb,.str ⟨((fL T1 m f s).moves (b.1,b.2,112)).toArray⟩]) hr
  exact kk r _ (M0.then s7) (M0.dom r hr) ⟨b,c,pb,hb,af,s7 _ _ (N5.tup hc5),s7 _ _ (N5.tup (Th _ _ K9))⟩
end
section
variable{P:Program}{w:World}{K:PySem.W.Frag}{mg:Str->Option Value}{base:Heap}
theorem EG {mU:Addr} {kU:FuncData} {p:Pm} (T:Txt K mg p base) (jP:Dn K mg "rest_of" qI ["way"] mU kU)  :aJ P w K mg base ck 1 mU kU ["way"] S5:=by
 refine jP.fn.ok Et (λvs H Q E h=>?_) (λcdv A outer s H vs Q E hr h=>?_)
 ·obtain⟨a,n,xs,rfl,_⟩:=h
  rfl
 ·obtain⟨a,n,xs,rfl,ha,kk⟩:=h
  refine⟨_,(ao (aL (aU bK (pv 0) ak (λ_ _=>rfl)))),?_⟩
  exact⟨_,rfl,a,_,_,_,rfl,rfl,cP.of ha,(show Af (V.int n::xs) ((0:Nat):Int)=some (V.int n) from fQ rfl),kk⟩
theorem CU {k9 dI mU:Addr} {jD cO kU:FuncData} {p:Pm} (T:Txt K mg p base) (iE:Dn K mg "best_way" o5 T6 k9 jD) (bh:Dn K mg "alone_cost" j7 Rf dI cO) (kr:aJ P w K mg base ck 3 dI cO Rf (Ax K p.aq)) (jP:Dn K mg "rest_of" qI ["way"] mU kU) (Sz:aJ P w K mg base ck 1 mU kU ["way"] S5):aJ P w K mg base ck 4 k9 jD T6 (JN K p.aq):=by
 refine iE.fn.ok uW (λvs H Q E h=>?_) (λcdv A outer s H vs Q E hr h=>?_)
 ·obtain⟨pr,A1,U1,B1,T1,c,pair,fa,fu,fb,rfl,_⟩:=h
  rfl
 ·obtain⟨pr,A1,U1,B1,T1,c,pair,fa,fu,fb,rfl,hP,hA,hU,hB,kk⟩:=h
  refine⟨_,(aj (aC (i:=6) uW.nd rfl (Or.inl rfl) (g6 ah))
   (bE (bN (aP (AI (kJ hr)) bC (pv 3) (by with_unfolding_all rfl)) (ao (cj (lS PySem.F.plainAttrs_list PySem.F.slot_list_append PySem.F.type_list_append cE (pv 6) (aa (bA (aa (aF cK (pv 2) (aU bK (lO (kJ hr) (pv 3) bC (λ_ _=>rfl)) ak (λ_ _=>rfl))) (aa (aU bK (lO (kJ hr) (pv 3) bC (λ_ _=>rfl)) ak (λ_ _=>rfl)) ah))) ah)))) aN)
   (bE (bN (aP (AI (kJ hr)) bC (pv 4) (by with_unfolding_all rfl)) (ao (cj (lS PySem.F.plainAttrs_list PySem.F.slot_list_append PySem.F.type_list_append cE (pv 6) (aa (bA (aa (aF cK (az kr (hr.mono (by decide)) rfl bh.m bh.fn.kp bh.b .nil aO (aa (pv 0) (aa bC (aa (pv 1) ah)))) (aU bK (lO (kJ hr) (pv 4) bC (λ_ _=>rfl)) ak (λ_ _=>rfl))) (aa (aU bK (lO (kJ hr) (pv 4) bC (λ_ _=>rfl)) ak (λ_ _=>rfl)) ah))) ah)))) aN)
   (bE (bN (aP (AI (kJ hr)) bC (pv 5) (by with_unfolding_all rfl)) (ao (cj (lS PySem.F.plainAttrs_list PySem.F.slot_list_append PySem.F.type_list_append cE (pv 6) (aa (bA (aa (aF cK (az kr (hr.mono (by decide)) rfl bh.m bh.fn.kp bh.b .nil aO (aa (pv 0) (aa bC (aa (pv 1) ah)))) (aU bK (lO (kJ hr) (pv 5) bC (λ_ _=>rfl)) ak (λ_ _=>rfl))) (aa (aU bK (lO (kJ hr) (pv 5) bC (λ_ _=>rfl)) ak (λ_ _=>rfl)) ah))) ah)))) aN)
   (ao (aL (MG jP.fn ⟨⟨_,_,_,_,_,rfl⟩,rfl,by decide +kernel,rfl,rfl,rfl,by decide⟩ jP.b rfl jP.m rfl (AE hr) rfl T.F0 Bl (aa (pv 6) ah) rfl))))))),?_⟩
  refine⟨by show 0<=sizeLine;decide,λlw V6=>?_⟩
  have s0:ai H (L2.upd H lw (.lst [])):=ai.upd V6
  have W0:Bp (L2.upd H lw (.lst [])) lw []:=⟨[],af,.nil⟩
  have acR:([]:List (Int×xZ)).length<=0:=Nat.le_refl _
  generalize L2.upd H lw (.lst [])=H0 at s0 W0 ⊢
  refine⟨λσ H2=>σ=[some (.ref pr),some (.str ⟨#[c]⟩),some (.int pair),some (.ref A1),some (.ref U1),some (.ref B1),some (.ref lw)]/\ai H H2/\Bp H2 lw (((fa 112).map λw=>(pair+w.1,w.2)).toList)/\(((fa 112).map λw=>(pair+w.1,w.2)).toList).length<=1,?_,?_⟩
  ·obtain⟨ps,hps,pp⟩:=id W0
   have hpl:=Paired.len pp
   rcases(hA.same s0).val 112 with⟨e,g⟩|⟨w1,v1,e,g,q1,x1,rfl,hq1,I0⟩
   ·exact⟨_,rfl,A1,none,rfl,by rw[sP];exact g,_,rfl,kI ⟨rfl,s0,by rw[e];exact W0,by rw[e];exact Nat.zero_le _⟩⟩
   ·have g':pR H0 A1 (.str (Str.ofString "p")) (some (.ref q1)):=by rw[sP];exact g
    refine⟨_,rfl,A1,some _,rfl,g',_,rfl,pC ⟨_,rfl,.inl ⟨rfl,_,bZ.of hps⟩,_,rfl,_,rfl,A1,_,rfl,g',q1,_,_,_,rfl,rfl,cP.of hq1,rfl,_,_,rfl,rfl,_,rfl,A1,_,rfl,g',q1,_,_,_,rfl,rfl,cP.of hq1,rfl,by show 2<=sizeLine;decide,λq hq=>?_⟩⟩
    have sq:=λo=>ai.upd (o:=o) hq
    refine⟨lw,_,_,rfl,rfl,sq _ _ _ hps,by rw[List.length_map,hpl];exact Nat.lt_of_le_of_lt (show _<=100 by omega) (by decide),rfl,ai.at (s0.trans (sq _)) V6,?_,?_⟩
    ·have z:=Bp.put (w:=(pair+w1.1,w1.2)) hps pp (ai.refl _) hq I0
     rw[e]
     exact z
    ·rw[e]
     exact Nat.le_refl _
  rintro σ H2 ⟨rfl,s1,W1,Zr⟩
  refine⟨λσ H3=>σ=[some (.ref pr),some (.str ⟨#[c]⟩),some (.int pair),some (.ref A1),some (.ref U1),some (.ref B1),some (.ref lw)]/\ai H H3/\Bp H3 lw (((fa 112).map λw=>(pair+w.1,w.2)).toList++((fu 97).map λw=>(LP T1 97 c+w.1,w.2)).toList)/\(((fa 112).map λw=>(pair+w.1,w.2)).toList++((fu 97).map λw=>(LP T1 97 c+w.1,w.2)).toList).length<=2,?_,?_⟩
  ·obtain⟨ps,hps,pp⟩:=id W1
   have hpl:=Paired.len pp
   rcases(hU.same s1).val 97 with⟨e,g⟩|⟨w1,v1,e,g,q1,x1,rfl,hq1,I0⟩
   ·exact⟨_,rfl,U1,none,rfl,by rw[sA];exact g,_,rfl,kI ⟨rfl,s1,by rw[e];rw[Option.map_none,Option.toList_none,List.append_nil];exact W1,by rw[e];rw[Option.map_none,Option.toList_none,List.append_nil];omega⟩⟩
   ·have g':pR H2 U1 (.str (Str.ofString "a")) (some (.ref q1)):=by rw[sA];exact g
    refine⟨_,rfl,U1,some _,rfl,g',_,rfl,pC ⟨_,rfl,.inl ⟨rfl,_,bZ.of hps⟩,_,rfl,_,rfl,pr,T1.1,T1.2.1,T1.2.2.1,T1.2.2.2,_,_,rfl,hP.same s1,_,rfl,U1,_,rfl,g',q1,_,_,_,rfl,rfl,cP.of hq1,rfl,_,_,rfl,rfl,_,rfl,U1,_,rfl,g',q1,_,_,_,rfl,rfl,cP.of hq1,rfl,by show 2<=sizeLine;decide,λq hq=>?_⟩⟩
    have sq:=λo=>ai.upd (o:=o) hq
    refine⟨lw,_,_,rfl,rfl,sq _ _ _ hps,by rw[List.length_map,hpl];exact Nat.lt_of_le_of_lt (show _<=100 by omega) (by decide),rfl,ai.at (s1.trans (sq _)) V6,?_,?_⟩
    ·have z:=Bp.put (w:=(LP T1 97 c+w1.1,w1.2)) hps pp (ai.refl _) hq I0
     rw[e]
     rw[LO sA]
     exact z
    ·rw[e]
     rw[List.length_append];exact Nat.succ_le_succ Zr
  rintro σ H3 ⟨rfl,s2,W2,Zq⟩
  refine⟨λσ H4=>σ=[some (.ref pr),some (.str ⟨#[c]⟩),some (.int pair),some (.ref A1),some (.ref U1),some (.ref B1),some (.ref lw)]/\ai H H4/\Bp H4 lw ((((fa 112).map λw=>(pair+w.1,w.2)).toList++((fu 97).map λw=>(LP T1 97 c+w.1,w.2)).toList)++((fb 98).map λw=>(LP T1 98 c+w.1,w.2)).toList)/\((((fa 112).map λw=>(pair+w.1,w.2)).toList++((fu 97).map λw=>(LP T1 97 c+w.1,w.2)).toList)++((fb 98).map λw=>(LP T1 98 c+w.1,w.2)).toList).length<=3,?_,?_⟩
  ·obtain⟨ps,hps,pp⟩:=id W2
   have hpl:=Paired.len pp
   rcases(hB.same s2).val 98 with⟨e,g⟩|⟨w1,v1,e,g,q1,x1,rfl,hq1,I0⟩
   ·exact⟨_,rfl,B1,none,rfl,by rw[sB];exact g,_,rfl,kI ⟨rfl,s2,by rw[e];rw[Option.map_none,Option.toList_none,List.append_nil];exact W2,by rw[e];rw[Option.map_none,Option.toList_none,List.append_nil];omega⟩⟩
   ·have g':pR H3 B1 (.str (Str.ofString "b")) (some (.ref q1)):=by rw[sB];exact g
    refine⟨_,rfl,B1,some _,rfl,g',_,rfl,pC ⟨_,rfl,.inl ⟨rfl,_,bZ.of hps⟩,_,rfl,_,rfl,pr,T1.1,T1.2.1,T1.2.2.1,T1.2.2.2,_,_,rfl,hP.same s2,_,rfl,B1,_,rfl,g',q1,_,_,_,rfl,rfl,cP.of hq1,rfl,_,_,rfl,rfl,_,rfl,B1,_,rfl,g',q1,_,_,_,rfl,rfl,cP.of hq1,rfl,by show 2<=sizeLine;decide,λq hq=>?_⟩⟩
    have sq:=λo=>ai.upd (o:=o) hq
    refine⟨lw,_,_,rfl,rfl,sq _ _ _ hps,by rw[List.length_map,hpl];exact Nat.lt_of_le_of_lt (show _<=100 by omega) (by decide),rfl,ai.at (s2.trans (sq _)) V6,?_,?_⟩
    ·have z:=Bp.put (w:=(LP T1 98 c+w1.1,w1.2)) hps pp (ai.refl _) hq I0
     rw[e]
     rw[LO sB]
     exact z
    ·rw[e]
     rw[List.length_append];exact Nat.succ_le_succ Zq
  rintro σ H4 ⟨rfl,s3,W3,acQ⟩
  rw[List.append_assoc]at W3
  obtain⟨ps,hps,pp⟩:=id W3
  refine⟨_,rfl,lw,ps.map V.ref,λi=>((oB T1 c pair fa fu fb).getD i (0,none)).1,rfl,bZ.of hps,λi v hv=>?_,λhn=>?_,λi v hv hL=>kk v H4 s3 (Mi pp hv hL)⟩
  ·obtain⟨q,hq,rfl⟩:=g7 hv
   obtain⟨w1,hw,q',x,e,hq',_⟩:=GP.Paired.at pp hq
   cases e
   refine⟨q,[x],rfl,cP.of ?_⟩
   simp only[show(oB T1 c pair fa fu fb).getD i (0,none)=w1 from nX hw]
   exact hq'
  ·have e:oB T1 c pair fa fu fb=[]:=List.eq_nil_of_length_eq_zero ((Paired.len pp).symm.trans (by rw[←List.length_map (f:=V.ref),hn];rfl))
   refine kk .gB H4 s3 ?_
   rw[e]
   rfl
theorem EK {i8 k9:Addr} {gx jD:FuncData} {p:Pm} (T:Txt K mg p base) (cF:Dn K mg "cell_of" oG Rc i8 gx) (iE:Dn K mg "best_way" o5 T6 k9 jD) (FQ:aJ P w K mg base ck 4 k9 jD T6 (JN K p.aq)):aJ P w K mg base ck 5 i8 gx Rc (Aw K p.aq):=by
 refine cF.fn.ok oX (λvs H Q E h=>?_) (λcdv A outer s H vs Q E hr h=>?_)
 ·obtain⟨pr,A1,U1,B1,T1,pair,fa,fu,fb,rfl,_⟩:=h
  rfl
 ·obtain⟨pr,A1,U1,B1,T1,pair,fa,fu,fb,rfl,hP,hA,hU,hB,kk⟩:=h
  refine⟨_,(aj (aC (i:=5) oX.nd rfl (Or.inl rfl) m8)
   (aj (cy PassesOwn.never rfl (Kc (e7 (v:=.ref p.jv) rfl T.Fe rfl)) (aK (i:=6) oX.nd rfl (Or.inl rfl)) (aj (aC (i:=7) oX.nd rfl (Or.inl rfl) (az FQ (hr.mono (by decide)) rfl iE.m iE.fn.kp iE.b .nil aO (aa (pv 0) (aa (pv 6) (aa (pv 1) (aa (pv 2) (aa (pv 3) (aa (pv 4) ah))))))))
   (ao (bN (aP ML (pv 7) uy (by with_unfolding_all rfl)) (ao (sS (kJ hr) (pv 5) (pv 6) (pv 7) rfl)) aN))))
   (ao (aL (pv 5))))),?_⟩
  refine λd hd=>?_
  have s1:ai H (L2.upd H d (.dK [])):=ai.upd hd
  refine⟨p.jv,rfl,⟨_,T.w9 _⟩,?_⟩
  refine GO (K:=K) (a:=p.jv) (xs:=vU.map λc=>V.str ⟨#[c]⟩) (λi σ H2=>∃v6 v7 kvs,σ=[some (.ref pr),some (.int pair),some (.ref A1),some (.ref U1),some (.ref B1),some (.ref d),v6,v7]/\ai H H2/\H2 d=some (.dK kvs)/\IW H2 (kK T1 pair fa fu fb) kvs ((vU.take i).filter λc=>(kK T1 pair fa fu fb c).isSome)/\kvs.length<=i)
   ⟨_,_,[],rfl,s1,af,⟨List.nodup_nil,.nil⟩,Nat.le_refl _⟩ (λi σ H2 _ _=>T.w9 _) ?_ ?_
  ·rintro i y σ H2 hy ⟨v6,v7,kvs,rfl,s2,hd2,hL,hlen⟩
   obtain⟨c,hc,rfl⟩:=g7 hy
   have hcm:=List.mem_of_getElem? hc
   have ZX:kK T1 pair fa fu fb c=fmin (·.1) (oB T1 c pair fa fu fb):=if_pos hcm
   have hi:i<3:=(List.getElem?_eq_some_iff.mp hc).1
   have hnc:c∉(vU.take i).filter λc=>(kK T1 pair fa fu fb c).isSome:=λz=>by
    have hn:=(List.mem_filter.mp z).1
    match i,hi,hc,hn with
    | 0,_,hc,hn=>exact nomatch hn
    | 1,_,hc,hn=>rw[←Option.some.inj hc]at hn;exact absurd hn (by decide)
    | 2,_,hc,hn=>rw[←Option.some.inj hc]at hn;exact absurd hn (by decide)
   refine⟨_,rfl,_,rfl,_,rfl,_,rfl,_,rfl,_,rfl,pr,A1,U1,B1,T1,c,pair,fa,fu,fb,rfl,hP.same s2,hA.same s2,hU.same s2,hB.same s2,λv H3 s3 hw=>?_⟩
   cases hf:fmin (·.1) (oB T1 c pair fa fu fb)with
   |none =>
    rw[hf]at hw
    obtain rfl:v= .gB:=hw
    refine⟨_,rfl,rfl,_,rfl,kI ⟨_,_,kvs,rfl,s2.trans s3,s3 _ _ hd2,?_,by omega⟩⟩
    rw[take_snoc hc,List.filter_append,List.filter_cons_of_neg (by rw[ZX,hf];decide),List.filter_nil,List.append_nil]
    exact hL.tps (rJ s3)
   |some w1 =>
    rw[hf]at hw
    obtain⟨q,x,rfl,hq,hx⟩:=hw
    refine⟨_,rfl,rfl,_,rfl,pC ⟨_,rfl,_,rfl,_,rfl,d,_,rfl,yl.k (k:=kS c) (s3 _ _ hd2) (Nat.lt_of_le_of_lt (show _<=100 by omega) (by decide)),_,_,_,rfl,ai.at (s2.trans s3) hd,af,?_,Nat.le_trans (iw _ _ _) (Nat.succ_le_succ hlen)⟩⟩
    rw[take_snoc hc,List.filter_append,List.filter_cons_of_pos (by rw[ZX,hf];rfl),List.filter_nil]
    have tp:=rK (o:=.dK (putK kvs (kS c) (.ref q))) (s3 _ _ hd2) (λ_ z=>by cases z)
    exact IW.put (hL.tps ((rJ s3).trans tp)) hnc (ZX.trans hf) (sH.tps ⟨q,x,rfl,hq,hx⟩ tp)
  ·rintro σ H2 ⟨v6,v7,kvs,rfl,s2,hd2,hL,hlen⟩
   refine⟨_,rfl,kk d H2 s2 hd ⟨kvs,_,hd2,hL,λc hc=>?_,?_⟩⟩
   ·refine List.mem_filter.mpr ⟨?_,hc⟩
    show c∈vU
    unfold kK at hc
    split at hc
    ·assumption
    ·cases hc
   ·exact Nat.le_trans (List.length_filter_le _ _) (by decide)
end
section
variable{P:Program}{w:World}{K:PySem.W.Frag}{mg:Str->Option Value}{base:Heap}
theorem yG {i6 i8:Addr} {gK gx:FuncData} {p:Pm} (T:Txt K mg p base) (fB:Dn K mg "last_cells" mH T5 i6 gK) (cF:Dn K mg "cell_of" oG Rc i8 gx) (qS:aJ P w K mg base ck 5 i8 gx Rc (Aw K p.aq)):aJ P w K mg base ck 6 i6 gK T5 (JL K p.aq):=by
 refine fB.fn.ok jg (λvs H Q E h=>?_) (λcdv A outer s H vs Q E hr h=>?_)
 ·obtain⟨pr,v,T1,s,L,rfl,_⟩:=h
  rfl
 ·obtain⟨pr,v,T1,s,L,rfl,hP,hs,⟨c,rfl,hc,hLn,hLl⟩,kk⟩:=h
  have V0:s.length<=sizeLine:=Nat.le_trans hs (by decide)
  refine⟨_,(aj (aC (i:=3) jg.nd rfl (Or.inl rfl) m8)
   (bE (cy PassesOwn.never rfl (zP (pv 2)) (aK (i:=4) jg.nd rfl (Or.inl rfl)) (ao (sS (kJ hr) (pv 3) (pv 4) (bA (aa ak (aa uy ah))) rfl)))
   (aj (aC (i:=5) jg.nd rfl (Or.inl rfl) (g6 (aa (pv 3) ah)))
   (bE (cy PassesOwn.never rfl (gC rfl T.jl (aa (aD (bq) rfl T.cY bP (aa (pv 1) ah)) ah)) (aK (i:=6) jg.nd rfl (Or.inl rfl)) (ao (cj (lS PySem.F.plainAttrs_list PySem.F.slot_list_append PySem.F.type_list_append cE (pv 5) (aa (az qS (hr.mono (by decide)) rfl cF.m cF.fn.kp cF.b .nil aO (aa (pv 0) (aa ak (aa m8 (aa m8 (aa (aU bM (pv 5) (pv 6) (λ_ _=>rfl)) ah)))))) ah)))))
   (aj (cj (Kl PySem.F.plainAttrs_list PySem.F.slot_list_reverse PySem.F.type_list_reverse xB (pv 5)))
   (ao (aL (pv 5)))))))),?_⟩
  refine λd hd=>?_
  have s1:ai H (L2.upd H d (.dK [])):=ai.upd hd
  refine⟨λσ H2=>∃v4,σ=[some (.ref pr),some (.str s),some c.val,some (.ref d),v4,none,none]/\ai H H2/\jy H2 d (jd T1 L 0),?_,?_⟩
  ·refine⟨_,rfl,c,_,rfl,GY hc s1,?_⟩
   refine Ff (K:=K) (c:=c) (xs:=L.map λa=>V.str ⟨#[a]⟩) (λi σ H2=>∃v4 kvs,σ=[some (.ref pr),some (.str s),some c.val,some (.ref d),v4,none,none]/\ai H H2/\H2 d=some (.dK kvs)/\IW H2 (jd T1 L 0) kvs (L.take i)/\kvs.length<=i)
    ⟨_,[],rfl,s1,af,⟨List.nodup_nil,.nil⟩,Nat.le_refl _⟩ (λi σ H2 _ ⟨_,_,_,s2,_⟩=>GY hc s2) ?_ ?_
   ·rintro i y σ H2 hy ⟨v4,kvs,rfl,s2,hd2,hL,hlen⟩
    obtain⟨a,ha,rfl⟩:=g7 hy
    have hil:i<L.length:=(List.getElem?_eq_some_iff.mp ha).1
    have hna:a∉L.take i:=λz=>by
     have e:L=L.take i++L.drop i:=(List.take_append_drop _ _).symm
     have nd:=hLn
     rw[e]at nd
     refine(List.nodup_append.mp nd).2.2 a z a ?_ rfl
     rw[List.drop_eq_getElem_cons hil,(List.getElem?_eq_some_iff.mp ha).2]
     exact List.mem_cons_self
    refine⟨by show 2<=sizeLine;decide,λq hq=>?_⟩
    have s3:=ai.upd (o:=.tup [.int 0,.gB]) hq
    refine⟨_,rfl,_,rfl,d,_,rfl,yl.k (k:=kS a) (s3 _ _ hd2) (Nat.lt_of_le_of_lt (show _<=100 by omega) (by decide)),_,_,rfl,ai.at (s2.trans s3) hd,af,?_,Nat.le_trans (iw _ _ _) (Nat.succ_le_succ hlen)⟩
    have tp:=rK (o:=.dK (putK kvs (kS a) (.ref q))) (s3 _ _ hd2) (λ_ z=>by cases z)
    rw[take_snoc ha]
    exact IW.put (hL.tps ((rJ s3).trans tp)) hna (w:=(0,none)) (if_pos (List.mem_of_getElem? ha)) (sH.tps ⟨q,.gB,rfl,af,rfl⟩ tp)
   ·rintro σ H2 ⟨v4,kvs,rfl,s2,hd2,hL,hlen⟩
    rw[List.length_map,List.take_length]at hL
    refine⟨_,rfl,s2,kvs,L,hd2,hL,λa ha=>?_,hLl⟩
    show a∈L
    have ha':((if a∈L then some ((0:Int),(none:xZ))else none).isSome)=true:=ha
    split at ha'
    ·assumption
    ·cases ha'
  rintro σ H2 ⟨v4,rfl,s2,hc2⟩
  refine⟨_,rfl,by show 1<=sizeLine;decide,λlc Ni=>?_⟩
  have s3:=ai.upd (o:=.lst [.ref d]) Ni
  have E8:=ai.free s2 Ni
  have C3:jT (L2.upd H2 lc (.lst [.ref d])) lc (jd T1 L) 0:=⟨[d],af,rfl,λj q hq=>by
   have:j<1:=(List.getElem?_eq_some_iff.mp hq).1
   have ej:j=0:=by omega
   subst ej
   cases hq
   exact hc2.same s3⟩
  have Hu:=s2.trans s3
  generalize L2.upd H2 lc (.lst [.ref d])=H3 at C3 Hu ⊢
  refine⟨λσ H4=>∃v6,σ=[some (.ref pr),some (.str s),some c.val,some (.ref d),v4,some (.ref lc),v6]/\ai H H4/\jT H4 lc (jd T1 L) s.cps.size,?_,?_⟩
  ·refine⟨_,rfl,_,_,rfl,⟨V0,rfl⟩,_,rfl,?_,?_,?_⟩
   ·show _<=(s.cps.size:Int)
    omega
   ·show(s.cps.size:Int)<_
    omega
   have en:(((s.length:Nat):Int)).toNat=s.cps.size:=by show((s.cps.size:Int)).toNat=_;omega
   rw[en]
   refine kR (lo:=0) (n:=s.cps.size) (λi σ H4=>∃v6,σ=[some (.ref pr),some (.str s),some c.val,some (.ref d),v4,some (.ref lc),v6]/\ai H H4/\jT H4 lc (jd T1 L) i)
    ⟨_,rfl,Hu,C3⟩ ?_ ?_
   ·rintro i σ H4 hi ⟨v6,rfl,s4,C4⟩
    obtain⟨ds,hds,hdl,hdc⟩:=id C4
    refine⟨_,rfl,.inl ⟨rfl,_,bZ.of hds⟩,_,rfl,λd1 hd1 d2 hd2=>?_⟩
    have s5:=(ai.upd (o:=.dK []) hd1).trans (ai.upd (o:=.dK []) hd2)
    have e1:L2.upd (L2.upd H4 d1 (.dK [])) d2 (.dK []) d1=some (.dK []):=ai.upd hd2 _ _ af
    obtain⟨ds',dj,g1,g2,g3,g4⟩:=(C4.same s5).get (Nat.le_refl i)
    refine⟨_,rfl,_,rfl,lc,_,_,_,rfl,rfl,bZ.of g1,by rw[Int.zero_add];exact g2,pr,d1,d2,dj,T1,0,iA,iA,jd T1 L i,rfl,hP.same (s4.trans s5),jy.empty e1,jy.empty af,g4,λdn H6 s6 hdn Z5=>?_⟩
    have Ys:=s5.trans s6
    exact⟨lc,_,_,rfl,rfl,Ys _ _ hds,by rw[List.length_map,hdl];exact Nat.lt_of_le_of_lt (show _<=100 by omega) (by decide),_,rfl,ai.at (s4.trans Ys) E8,jT.grow (F:=jd T1 L) hds hdl hdc Ys Z5⟩
   ·rintro σ H4 ⟨v6,rfl,s4,C4⟩
    exact⟨_,rfl,s4,C4⟩
  rintro σ H4 ⟨v6,rfl,s4,ds,hds,hdl,hdc⟩
  refine⟨_,rfl,.inl ⟨rfl,_,bZ.of hds⟩,lc,_,rfl,rfl,hds,_,rfl,?_⟩
  exact kk lc _ (ai.at s4 E8) E8 (jT.rev hds hdl hdc)
theorem xy {gY ff i8:Addr} {fX dG gx:FuncData} {p:Pm} (T:Txt K mg p base) (dR:Dn K mg "cells_ahead" lN T4 gY fX) (b9:Dn K mg "pair_cost" lR Rh ff dG) (qB:aJ P w K mg base ck 1 ff dG Rh (rP K p.aq)) (cF:Dn K mg "cell_of" oG Rc i8 gx) (qS:aJ P w K mg base ck 5 i8 gx Rc (Aw K p.aq)):aJ P w K mg base ck 6 gY fX T4 (Gj K p.aq):=by
 refine dR.fn.ok jY (λvs H Q E h=>?_) (λcdv A outer s H vs Q E hr h=>?_)
 ·obtain⟨pr,lu,T1,mn,f,s,i,a,U,rfl,_⟩:=h
  rfl
 ·obtain⟨pr,lu,T1,mn,f,s,i,a,U,rfl,hP,Zy,of,os,hs,hU,kk⟩:=h
  have V0:s.length<=sizeLine:=Nat.le_trans hs (by decide)
  refine⟨_,(aj (aC (i:=4) jY.nd rfl (Or.inl rfl) (g6 (aa (az qS (hr.mono (by decide)) rfl cF.m cF.fn.kp cF.b .nil aO (aa (pv 0) (aa ak (aa m8 (aa (aU bM (pv 3) (uX pV ak) (λ_ _=>rfl)) (aa m8 ah)))))) ah)))
   (bE (cy PassesOwn.never rfl (zO rfl T.jl (aa (aF rX (aD (bq) rfl T.cY bP (aa (pv 2) ah)) ak) (aa (uX pV ak) (aa (uX pV ak) ah)))) (aK (i:=5) jY.nd rfl (Or.inl rfl)) (aj (aC (i:=6) jY.nd rfl (Or.inl rfl) (az qB (hr.mono (by decide)) rfl b9.m b9.fn.kp b9.b .nil aO (aa (pv 0) (aa (pv 1) (aa (aU uL (pv 2) (pv 5) (λ_ _=>rfl)) ah)))))
   (ao (cj (lS PySem.F.plainAttrs_list PySem.F.slot_list_append PySem.F.type_list_append cE (pv 4) (aa (az qS (hr.mono (by decide)) rfl cF.m cF.fn.kp cF.b .nil aO (aa (pv 0) (aa (pv 6) (aa (aU bM (pv 3) (aF cK (pv 5) ak) (λ_ _=>rfl)) (aa (aU bM (pv 3) (pv 5) (λ_ _=>rfl)) (aa (aU bM (pv 4) (uX pV ak) (λ_ _=>rfl)) ah)))))) ah))))))
   (aj (cj (Kl PySem.F.plainAttrs_list PySem.F.slot_list_reverse PySem.F.type_list_reverse xB (pv 4)))
   (ao (aL (pv 4)))))),?_⟩
  refine⟨_,rfl,λd1 hd1=>?_⟩
  have s1:=ai.upd (o:=.dK []) hd1
  have e1:L2.upd H d1 (.dK []) d1=some (.dK []):=af
  generalize L2.upd H d1 (.dK [])=H1 at s1 e1 ⊢
  obtain⟨dU,du,u1,u2,u3⟩:=(hU.same s1).last
  refine⟨_,rfl,_,rfl,lu,_,_,_,rfl,rfl,bZ.of u1,u2,λd2 hd2=>?_⟩
  have s2:=s1.trans (ai.upd (o:=.dK []) hd2)
  have s12:=ai.upd (o:=.dK []) hd2
  refine⟨pr,d1,du,d2,T1,0,iA,U s.cps.size,iA,rfl,hP.same s2,jy.empty (s12 _ _ e1),u3.same s12,jy.empty af,λdn H3 s3 hdn Z5=>⟨by show 1<=sizeLine;decide,λlc Ni=>?_⟩⟩
  have Hu:=s2.trans s3
  have E8:=ai.free Hu Ni
  have s4:=ai.upd (o:=.lst [.ref dn]) Ni
  have C4:jT (L2.upd H3 lc (.lst [.ref dn])) lc (cS T1 ((fL T1 mn f s).pc i) U s.cps.size) 0:=⟨[dn],af,rfl,λj q hq=>by
   have:j<1:=(List.getElem?_eq_some_iff.mp hq).1
   have ej:j=0:=by omega
   subst ej
   cases hq
   exact Z5.same s4⟩
  have s04:=Hu.trans s4
  generalize L2.upd H3 lc (.lst [.ref dn])=H4 at C4 s04 ⊢
  refine⟨λσ H5=>∃v5 v6,σ=[some (.ref pr),some (.str ⟨#[a]⟩),some (.str s),some (.ref lu),some (.ref lc),v5,v6]/\ai H H5/\jT H5 lc (cS T1 ((fL T1 mn f s).pc i) U s.cps.size) s.cps.size,?_,?_⟩
  ·refine⟨_,rfl,_,_,rfl,⟨V0,rfl⟩,_,_,rfl,rfl,_,rfl,_,rfl,_,_,rfl,⟨?_,?_,by decide,by decide⟩,?_⟩
   ·show _<=(s.cps.size:Int)-1
    omega
   ·show(s.cps.size:Int)-1<_
    omega
   have en:(((s.length:Nat):Int)-1- -1).toNat=s.cps.size:=by show((s.cps.size:Int)-1- -1).toNat=_;omega
   rw[show((((s.length:Nat):Int)-1)-(-1:Int)).toNat=s.cps.size from en]
   refine Du (lo:=((s.length:Nat):Int)-1) (n:=s.cps.size) (λk σ H5=>∃v5 v6,σ=[some (.ref pr),some (.str ⟨#[a]⟩),some (.str s),some (.ref lu),some (.ref lc),v5,v6]/\ai H H5/\jT H5 lc (cS T1 ((fL T1 mn f s).pc i) U s.cps.size) k)
    ⟨_,_,rfl,s04,C4⟩ ?_ ?_
   ·rintro k σ H5 hk ⟨v5,v6,rfl,s5,C5⟩
    obtain⟨ds,hds,hdl,hdc⟩:=id C5
    have ej:((s.length:Nat):Int)-1-(k:Int)=((s.cps.size-(k+1):Nat):Int):=by show((s.cps.size:Nat):Int)-1-(k:Int)=_;omega
    have hjl:s.cps.size-(k+1)<s.cps.size:=by omega
    obtain⟨b,hb⟩:=A9 hjl
    have ha:=Zy
    obtain⟨i',j',fr,hi',hj',hat,ZW⟩:=Kn (u:=uT T1) hP.sqr (of a (nY ha)) (os b (nY hb))
    have epr:fr.1*(uT T1 / fr.2)=(fL T1 mn f s).pc i (s.cps.size-(k+1)):=by
     show _=Tq T1.1 T1.2.1 (uT T1) (f.cps.toList.getD i 0) (s.cps.toList.getD (s.cps.size-(k+1)) 0)
     rw[List.getD_eq_getElem?_getD,List.getD_eq_getElem?_getD,jk ha,jk hb]
     exact ZW.symm
    refine⟨_,rfl,_,rfl,_,rfl,_,rfl,s,_,b,rfl,rfl,V0,by rw[ej];exact fQ (jk hb),pr,T1.1,T1.2.1,T1.2.2.1,T1.2.2.2,i',j',a,b,fr,rfl,nB.same s5 hP,hi',hj',hat,λH6 s6=>?_⟩
    have Yt:=s5.trans s6
    obtain⟨dU1,dp,g1,g2,g3,g4⟩:=(hU.same Yt).get (j:=s.cps.size-(k+1)+1) (by omega)
    obtain⟨dU2,dq,h1,h2,h3,h4⟩:=(hU.same Yt).get (j:=s.cps.size-(k+1)) (by omega)
    obtain⟨dL,db,l1,l2,l3⟩:=(C5.same s6).last
    refine⟨_,rfl,.inl ⟨rfl,_,bZ.of (s6 _ _ hds)⟩,_,rfl,_,rfl,_,rfl,_,rfl,_,_,rfl,rfl,lu,_,_,_,rfl,rfl,bZ.of g1,?_,_,rfl,_,rfl,lu,_,_,_,rfl,rfl,bZ.of h1,by rw[ej];exact h2,_,rfl,_,rfl,lc,_,_,_,rfl,rfl,bZ.of l1,l2,pr,dp,dq,db,T1,_,U (s.cps.size-(k+1)+1),U (s.cps.size-(k+1)),cS T1 ((fL T1 mn f s).pc i) U s.cps.size k,rfl,hP.same Yt,g4,h4,l3,λde H7 s7 hde cde=>?_⟩
    ·rw[show((s.length:Nat):Int)-1-(k:Int)+1=((s.cps.size-(k+1)+1:Nat):Int) by rw[ej];rfl]
     exact g2
    have Yr:=s6.trans s7
    have Z6:jy H7 de (cS T1 ((fL T1 mn f s).pc i) U s.cps.size (k+1)):=by
     have z:=cde
     rw[show fr.1*(bO T1.2.2.1.2 T1.2.2.2.2 T1.2.1 / fr.2)=(fL T1 mn f s).pc i (s.cps.size-(k+1)) from epr]at z
     exact z
    exact⟨lc,_,_,rfl,rfl,Yr _ _ hds,by rw[List.length_map,hdl];exact Nat.lt_of_le_of_lt (show _<=100 by omega) (by decide),_,_,rfl,ai.at (s5.trans Yr) E8,jT.grow (F:=cS T1 ((fL T1 mn f s).pc i) U s.cps.size) hds hdl hdc Yr Z6⟩
   ·rintro σ H5 ⟨v5,v6,rfl,s5,C5⟩
    exact⟨_,_,rfl,s5,C5⟩
  rintro σ H5 ⟨v5,v6,rfl,s5,ds,hds,hdl,hdc⟩
  refine⟨_,rfl,.inl ⟨rfl,_,bZ.of hds⟩,lc,_,rfl,rfl,hds,_,rfl,?_⟩
  exact kk lc _ (ai.at s5 E8) E8 (jT.rev hds hdl hdc)
theorem yy {iV:Addr} {gD:FuncData} {p:Pm} (T:Txt K mg p base) (cC:Dn K mg "with_stops" mw ["cells"] iV gD)  :aJ P w K mg base ck 1 iV gD ["cells"] JC:=by
 refine cC.fn.ok fG (λvs H Q E h=>?_) (λcdv A outer s H vs Q E hr h=>?_)
 ·obtain⟨l,F,m,rfl,_⟩:=h
  rfl
 ·obtain⟨l,F,m,rfl,⟨ds,hds,hdl,hdc⟩,hm,kk⟩:=h
  refine⟨_,(aj (aC (i:=1) fG.nd rfl (Or.inl rfl) (g6 ah))
   (aj (cy PassesOwn.never rfl (wk rfl T.nG (aa (pv 0) ah)) (m7 (n:=2) rfl (bG (aK (i:=2) fG.nd rfl (Or.inl rfl)) (bG (aK (i:=3) fG.nd rfl (Or.inl rfl)) jo))) (aj (aC (i:=4) fG.nd rfl (Or.inl rfl) m8)
   (aj (JZ (H0:=H) (cy PassesOwn.never rfl (Kd (pv 3)) (m7 (n:=2) rfl (bG (aK (i:=5) fG.nd rfl (Or.inl rfl)) (bG (aK (i:=6) fG.nd rfl (Or.inl rfl)) jo))) (ao (sS (kJ hr) (pv 4) (pv 5) (bA (aa (aU bK (pv 6) ak (λ_ _=>rfl)) (aa (bA (aa (pv 2) (aa (pv 5) ah))) ah))) rfl))) rfl)
   (ao (cj (lS PySem.F.plainAttrs_list PySem.F.slot_list_append PySem.F.type_list_append cE (pv 1) (aa (pv 4) ah)))))))
   (ao (aL (pv 1))))),?_⟩
  refine⟨by show 0<=sizeLine;decide,λlp Lb=>?_⟩
  have s1:=ai.upd (o:=.lst []) Lb
  have e1:L2.upd H lp (.lst []) lp=some (.lst []):=af
  generalize L2.upd H lp (.lst [])=H1 at s1 e1 ⊢
  refine⟨_,rfl,.lst l,_,rfl,bZ.of (s1 _ _ hds),?_⟩
  refine tT (K:=K) (c:=.lst l) (xs:=ds.map V.ref) (λi σ H2=>∃v2 v3 v4 v5 v6 es,σ=[some (.ref l),some (.ref lp),v2,v3,v4,v5,v6]/\ai H H2/\H2 lp=some (.lst (es.map V.ref))/\es.length=i/\∀j d,es[j]? =some d->jy H2 d (sM F j))
   ⟨_,_,_,_,_,[],rfl,s1,e1,rfl,λj d hd=>by simp at hd⟩ (λi σ H2 _ ⟨_,_,_,_,_,_,_,s2,_⟩=>bZ.of (s2 _ _ hds)) ?_ ?_
  ·rintro i y q σ H2 hy hq ⟨v2,v3,v4,v5,v6,es,rfl,s2,La,hel,ZA⟩
   obtain⟨d,hd,rfl⟩:=g7 hy
   have hil:i<m+1:=by rw[←hdl];exact(List.getElem?_eq_some_iff.mp hd).1
   have s3:=ai.upd (o:=.tup [.int (i:Int),.ref d]) hq
   obtain⟨kvs,cs,hk,hL,hcs,hc3⟩:=hdc i d hd
   refine⟨_,_,rfl,cP.of af,rfl,_,_,rfl,_,_,rfl,rfl,?_⟩
   generalize L2.upd H2 q (.tup [.int (i:Int),.ref d])=H3 at s3 ⊢
   refine λe he=>?_
   have s4:=ai.upd (o:=.dK []) he
   have VR:=s2.trans (s3.trans s4)
   have e4:L2.upd H3 e (.dK []) e=some (.dK []):=af
   generalize L2.upd H3 e (.dK [])=H4 at s4 VR e4 ⊢
   refine⟨_,rfl,d,kvs,rfl,VR _ _ hk,λo=>?_⟩
   have YL:e≠d:=λz=>by rw[z]at he;rw[s3 _ _ (s2 _ _ hk)]at he;cases he
   have kl:kvs.length<=3:=by rw[Paired.len hL.2];exact hc3
   refine Im (a:=d) (o:=o) (kvs:=kvs) (λk σ H5=>∃v5 v6 N7,σ=[some (.ref l),some (.ref lp),some (.int (i:Int)),some (.ref d),some (.ref e),v5,v6]/\(∀b u,b≠d->b≠e->H4 b=some u->H5 b=some u)/\H5 d=some (.tS o (.dK kvs))/\H5 e=some (.dK N7)/\IW H5 (sM F i) N7 (cs.take k)/\N7.length<=k)
    ⟨_,_,[],rfl,λb u n1 n2 q=>by rw[au n1];exact q,af,by rw[au YL];exact e4,⟨List.nodup_nil,.nil⟩,Nat.le_refl _⟩ (λk σ H5 _ ⟨_,_,_,_,_,q,_⟩=>q) ?_ ?_
   ·rintro k ky x pp σ H5 hkx hpp ⟨v5,v6,N7,rfl,s5,Oo,Wa,We,RC⟩
    obtain⟨c,hc,hky,w1,hw1,qx,x',hx,UH,hx'⟩:=GP.Paired.at hL.2 hkx
    have US:k<cs.length:=(List.getElem?_eq_some_iff.mp hc).1
    obtain rfl:ky=kS c:=hky
    obtain rfl:x= .ref qx:=hx
    have Zf:=VR _ _ UH
    have nqd:qx≠d:=λz=>by rw[z,hk]at UH;cases UH
    have nqe:qx≠e:=λz=>by rw[z]at UH;rw[s3 _ _ (s2 _ _ UH)]at he;cases he
    have s6:=ai.upd (o:=.tup [kV (kS c),.ref qx]) hpp
    have UG:=s6 _ _ (s5 _ _ nqd nqe Zf)
    refine⟨_,_,rfl,cP.of af,rfl,_,_,rfl,_,_,rfl,rfl,?_⟩
    generalize L2.upd H5 pp (.tup [kV (kS c),.ref qx])=H6 at s6 UG ⊢
    refine⟨_,rfl,qx,_,_,_,rfl,rfl,cP.of UG,rfl,_,rfl,_,rfl,by show 2<=sizeLine;decide,λq1 hq1=>⟨by show 2<=sizeLine;decide,λq2 hq2=>?_⟩⟩
    have t1:=ai.upd (o:=.tup [.int (i:Int),.str ⟨#[c]⟩]) hq1
    have t2:=ai.upd (o:=.tup [.int w1.1,.ref q1]) hq2
    have S2:=s6.trans (t1.trans t2)
    have hna:c∉cs.take k:=λz=>by
     have e:cs=cs.take k++cs.drop k:=(List.take_append_drop _ _).symm
     have nd:=hL.1
     rw[e]at nd
     refine(List.nodup_append.mp nd).2.2 c z c ?_ rfl
     rw[List.drop_eq_getElem_cons US,(List.getElem?_eq_some_iff.mp hc).2]
     exact List.mem_cons_self
    refine⟨_,rfl,_,rfl,e,_,rfl,yl.k (k:=kS c) (S2 _ _ Wa) (Nat.lt_of_le_of_lt (show _<=100 by omega) (by decide)),_,_,_,rfl,λb u n1 n2 q=>by rw[au n2];exact S2 _ _ (s5 b u n1 n2 q),by rw[au (Ne.symm YL)];exact S2 _ _ Oo,af,?_,Nat.le_trans (iw _ _ _) (Nat.succ_le_succ RC)⟩
    have tp:=rK (o:=.dK (putK N7 (kS c) (.ref q2))) (S2 _ _ Wa) (λ_ z=>by cases z)
    rw[take_snoc hc]
    exact IW.put (We.tps ((rJ S2).trans tp)) hna (w:=(w1.1,some (i,c))) (by unfold sM;rw[hw1];rfl) (sH.tps ⟨q2,.ref q1,rfl,af,q1,rfl,t2 _ _ af⟩ tp)
   ·rintro σ H5 ⟨v5,v6,N7,rfl,s5,Oo,Wa,We,RC⟩
    rw[Paired.len hL.2,List.take_length]at We
    have Ld:=VR _ _ hk
    refine⟨d,o,.dK kvs,Oo,(λo u z=>by rw[hk]at z;cases z),?_⟩
    have he7:L2.upd H5 d (.dK kvs) e=some (.dK N7):=by rw[au YL];exact Wa
    have s7:ai H3 (L2.upd H5 d (.dK kvs)):=λb u q=>by
     have ne:b≠e:=λz=>by rw[z,he]at q;cases q
     by_cases z:b=d
     ·have q4:=s4 _ _ q
      rw[z,Ld]at q4
      rw[z,af]
      exact q4
     ·rw[au z]
      exact s5 b u z ne (s4 _ _ q)
    have cd7:jy (L2.upd H5 d (.dK kvs)) e (sM F i):=⟨N7,cs,he7,We.tps (rK Oo (λ_ z=>by cases z)),λc hcc=>hcs c (by
     unfold sM at hcc
     cases hF:F i c with
     |none=>rw[hF]at hcc;cases hcc
     |some w1=>rfl),hc3⟩
    generalize L2.upd H5 d (.dK kvs)=H7 at he7 s7 cd7 ⊢
    have VS:=s3.trans s7
    refine⟨_,rfl,.inl ⟨rfl,_,bZ.of (VS _ _ La)⟩,_,rfl,lp,_,_,rfl,rfl,VS _ _ La,by rw[List.length_map,hel];exact Nat.lt_of_le_of_lt (show i<=100 by omega) (by decide),?_⟩
    obtain⟨es',g1,g2,g3⟩:=jT.grow (F:=sM F) (d:=e) La hel ZA VS cd7
    exact⟨_,_,_,_,_,es',rfl,ai.at (s2.trans VS) Lb,g1,g2,g3⟩
  ·rintro σ H2 ⟨v2,v3,v4,v5,v6,es,rfl,s2,La,hel,ZA⟩
   rw[List.length_map]at hel
   exact⟨_,rfl,kk lp H2 s2 Lb ⟨es,La,by rw[hel,hdl],ZA⟩⟩
end
section
variable{P:Program}{w:World}{K:PySem.W.Frag}{mg:Str->Option Value}{base:Heap}
theorem EF {mT i6 iV gY:Addr} {kT gK gD fX:FuncData} {p:Pm} (T:Txt K mg p base) (jO:Dn K mg "stop_at" qH T3 mT kT) (fB:Dn K mg "last_cells" mH T5 i6 gK) (BN:aJ P w K mg base ck 6 i6 gK T5 (JL K p.aq)) (cC:Dn K mg "with_stops" mw ["cells"] iV gD) (uf:aJ P w K mg base ck 1 iV gD ["cells"] JC) (dR:Dn K mg "cells_ahead" lN T4 gY fX) (zm:aJ P w K mg base ck 6 gY fX T4 (Gj K p.aq)):aJ P w K mg base ck 7 mT kT T3 (Cd K p.aq):=by
 refine jO.fn.ok kL (λvs H Q E h=>?_) (λcdv A outer s H vs Q E hr h=>?_)
 ·obtain⟨pr,v,T1,mn,f,s,c,u,L,w1,rfl,_⟩:=h
  rfl
 ·obtain⟨pr,v,T1,mn,f,s,c,u,L,w1,rfl,hP,of,os,hf,hs,hu,hc,hLc,hL,hw,kk⟩:=h
  have lf:f.length<=sizeLine:=Nat.le_trans hf (by decide)
  refine⟨_,(aj (aC (i:=6) kL.nd rfl (Or.inl rfl) (az BN (hr.mono (by decide)) rfl fB.m fB.fn.kp fB.b .nil aO (aa (pv 0) (aa (pv 2) (aa (pv 4) ah)))))
   (bE (bN (aP gi (pv 5) (aD (bq) rfl T.cY bP (aa (pv 1) ah)) (aZ _)) (ao (aC (i:=6) kL.nd rfl (Or.inl rfl) (az uf (hr.mono (by decide)) rfl cC.m cC.fn.kp cC.b .nil aO (aa (pv 6) ah)))) aN)
   (bE (cy PassesOwn.never rfl (zO rfl T.jl (aa (aF rX (aD (bq) rfl T.cY bP (aa (pv 1) ah)) ak) (aa (uX pV ak) (aa (uX pV ak) ah)))) (aK (i:=7) kL.nd rfl (Or.inl rfl)) (aj (aC (i:=6) kL.nd rfl (Or.inl rfl) (az zm (hr.mono (by decide)) rfl dR.m dR.fn.kp dR.b .nil aO (aa (pv 0) (aa (aU uL (pv 1) (pv 7) (λ_ _=>rfl)) (aa (pv 2) (aa (pv 6) ah))))))
   (ao (bN (aP gi (pv 5) (pv 7) (aZ _)) (ao (aC (i:=6) kL.nd rfl (Or.inl rfl) (az uf (hr.mono (by decide)) rfl cC.m cC.fn.kp cC.b .nil aO (aa (pv 6) ah)))) aN))))
   (ao (aL (aU bK (lO (kJ hr) (aU bM (pv 6) ak (λ_ _=>rfl)) (pv 3) (λ_ _=>rfl)) ak (λ_ _=>rfl))))))),?_⟩
  refine⟨_,rfl,_,rfl,_,rfl,pr,v,T1,s,L,rfl,hP,hs,hL,λlc H1 s1 Ni C1=>?_⟩
  have R1:∀j,j<=s.cps.size->vV (fL T1 mn f s) (qp f.cps.size s.cps.size L) u f.cps.size (λj=>jd T1 L (s.cps.size-j)) j:=λj hj=>by
   have z:=zS (T:=T1) (mn:=mn) (f:=f) (s:=s) (u:=u) hLc (s.cps.size-j) (by omega)
   rw[show s.cps.size-(s.cps.size-j)=j by omega]at z
   exact z
  refine⟨λσ H2=>∃(lc:Addr) (F:Nat->CF),σ=[some (.ref pr),some (.str f),some (.str s),some (.str ⟨#[c]⟩),some v,some (.int (u:Int)),some (.ref lc),none]/\ai H H2/\jT H2 lc F s.cps.size/\DK (fL T1 mn f s) (qp f.cps.size s.cps.size L) u f.cps.size F,?_,?_⟩
  ·refine⟨_,rfl,_,rfl,_,_,rfl,⟨lf,rfl⟩,rfl,_,rfl,?_⟩
   rw[mP]
   refine dF (λz=>?_) λz=>⟨lc,_,rfl,s1,C1,vV.s R1 (λq=>z (by rw[←q];rfl))⟩
   have e:u=f.cps.size:=by have z':(u:Int)=(f.cps.size:Int):=z;omega
   refine⟨_,rfl,lc,_,s.cps.size,rfl,C1,hs,λl' H2 s2 hl' C2=>⟨l',_,rfl,s1.trans s2,C2,?_⟩⟩
   rw[←e]at R1 ⊢
   exact vV.stops R1
  rintro σ H2 ⟨lc,F,rfl,s2,C2,R2⟩
  refine⟨λσ H3=>∃(lc:Addr) (F:Nat->CF) (v7:Option V),σ=[some (.ref pr),some (.str f),some (.str s),some (.str ⟨#[c]⟩),some v,some (.int (u:Int)),some (.ref lc),v7]/\ai H H3/\jT H3 lc F s.cps.size/\DK (fL T1 mn f s) (qp f.cps.size s.cps.size L) u 0 F,?_,?_⟩
  ·refine⟨_,rfl,_,_,rfl,⟨lf,rfl⟩,_,_,rfl,rfl,_,rfl,_,rfl,_,_,rfl,⟨?_,?_,by decide,by decide⟩,?_⟩
   ·show _<=(f.cps.size:Int)-1
    omega
   ·show(f.cps.size:Int)-1<_
    omega
   have en:(((f.length:Nat):Int)-1- -1).toNat=f.cps.size:=by show((f.cps.size:Int)-1- -1).toNat=_;omega
   rw[show((((f.length:Nat):Int)-1)-(-1:Int)).toNat=f.cps.size from en]
   refine Du (lo:=((f.length:Nat):Int)-1) (n:=f.cps.size) (λk σ H3=>∃(lc:Addr) (F:Nat->CF) (v7:Option V),σ=[some (.ref pr),some (.str f),some (.str s),some (.str ⟨#[c]⟩),some v,some (.int (u:Int)),some (.ref lc),v7]/\ai H H3/\jT H3 lc F s.cps.size/\DK (fL T1 mn f s) (qp f.cps.size s.cps.size L) u (f.cps.size-k) F)
    ⟨lc,F,_,rfl,s2,C2,by rw[Nat.sub_zero];exact R2⟩ ?_ ?_
   ·rintro k σ H3 hk ⟨lc,F,v7,rfl,s3,C3,R3⟩
    have ei:((f.length:Nat):Int)-1-(k:Int)=((f.cps.size-(k+1):Nat):Int):=by show((f.cps.size:Nat):Int)-1-(k:Int)=_;omega
    have hil:f.cps.size-(k+1)<f.cps.size:=by omega
    have er:f.cps.size-k=f.cps.size-(k+1)+1:=by omega
    rw[er]at R3
    obtain⟨a,ha⟩:=A9 hil
    refine⟨_,rfl,_,rfl,_,rfl,f,_,a,rfl,rfl,lf,by rw[ei];exact fQ (jk ha),_,rfl,_,rfl,pr,lc,T1,mn,f,s,f.cps.size-(k+1),a,F,rfl,hP.same s3,ha,of,os,hs,C3,λl4 H4 s4 V7 C4=>?_⟩
    have R4:∀j,j<=s.cps.size->vV (fL T1 mn f s) (qp f.cps.size s.cps.size L) u (f.cps.size-(k+1)) (λj=>cS T1 ((fL T1 mn f s).pc (f.cps.size-(k+1))) F s.cps.size (s.cps.size-j)) j:=λj hj=>by
     have z:=FA (T:=T1) (mn:=mn) (f:=f) (s:=s) (u:=u) (L:=L) hil R3 (s.cps.size-j) (by omega)
     rw[show s.cps.size-(s.cps.size-j)=j by omega]at z
     exact z
    refine⟨_,rfl,_,rfl,rfl,_,rfl,?_⟩
    rw[mP]
    refine dF (λz=>?_) λz=>⟨l4,_,_,rfl,s3.trans s4,C4,vV.s R4 (λq=>z (by rw[ei,←q]))⟩
    have e:u=f.cps.size-(k+1):=by
     have z':(u:Int)=((f.length:Nat):Int)-1-(k:Int):=z
     rw[ei]at z'
     omega
    refine⟨_,rfl,l4,_,s.cps.size,rfl,C4,hs,λl5 H5 s5 RC C5=>⟨l5,_,_,rfl,(s3.trans s4).trans s5,C5,?_⟩⟩
    rw[←e]at R4 ⊢
    exact vV.stops R4
   ·rintro σ H3 ⟨lc,F,v7,rfl,s3,C3,R3⟩
    rw[Nat.sub_self]at R3
    exact⟨lc,F,v7,rfl,s3,C3,R3⟩
  rintro σ H3 ⟨lc,F,v7,rfl,s3,C3,R3⟩
  obtain⟨ds,d,g1,g2,g3,g4⟩:=C3.get (j:=0) (Nat.zero_le _)
  have hv:=R3 0 (Nat.zero_le _) c hc
  rw[hw]at hv
  rcases g4.val c with⟨e,_⟩|⟨w2,v2,e,g,q,x,rfl,hq,hx⟩
  ·rw[hv]at e;cases e
  rw[hv]at e
  cases e
  exact⟨_,rfl,lc,_,_,_,rfl,rfl,bZ.of g1,g2,_,rfl,d,_,rfl,g,q,_,_,_,rfl,rfl,cP.of hq,rfl,kk x H3 s3 hx⟩
theorem yz {iW mT:Addr} {gE kT:FuncData} {p:Pm} (T:Txt K mg p base) (fh:Dn K mg "whole_stop" mz Ma iW gE) (jO:Dn K mg "stop_at" qH T3 mT kT) (IT:aJ P w K mg base ck 7 mT kT T3 (Cd K p.aq)):aJ P w K mg base ck 8 iW gE Ma (F7 K p.aq):=by
 refine fh.fn.ok yt (λvs H Q E h=>?_) (λcdv A outer s H vs Q E hr h=>?_)
 ·obtain⟨pr,T1,f,s,u,t1,rfl,_⟩:=h
  rfl
 ·obtain⟨pr,T1,f,s,u,t1,rfl,hP,of,os,hf,hs,hu,ht,kk⟩:=h
  refine⟨_,(ao (aL (az IT (hr.mono (by decide)) rfl jO.m jO.fn.kp jO.b .nil aO (aa (pv 0) (aa (pv 1) (aa (pv 2) (aa bC (aa (e7 (v:=.ref p.jv) rfl T.Fe rfl) (aa (pv 3) ah))))))))),?_⟩
  have hsv:=QE T1 f s u
  rw[ht]at hsv
  refine⟨_,rfl,_,rfl,_,rfl,_,rfl,pr,.ref p.jv,T1,sW,f,s,112,u,vU,_,by rw[sP];rfl,hP,of,os,hf,hs,hu,Lz,λa ha=>ha,⟨.tup p.jv,rfl,T.w9 _,by decide,by decide⟩,hsv,λx H' s' hx=>?_⟩
  obtain⟨q,rfl,hq⟩:=hx
  exact kk q H' s' hq
theorem CN {kZ dH iW:Addr} {jB cN gE:FuncData} {p:Pm} (T:Txt K mg p base) (iB:Dn K mg "place_at" oY Ma kZ jB) (bQ:Dn K mg "check_rows" j5 Rg dH cN) (pK:aJ P w K mg base (vz P w) 4 dH cN Rg (Au K p.aq p.aA)) (fh:Dn K mg "whole_stop" mz Ma iW gE) (BH:aJ P w K mg base ck 8 iW gE Ma (F7 K p.aq)):aJ P w K mg base (vz P w) 9 kZ jB Ma (zG K p.aq p.aA p.aB):=by
 refine iB.fn.QZ Cu (λvs H Q E h=>?_) (λcdv A outer s H vs Q E hr h=>?_)
 ·obtain⟨pr,T1,f,s,u,rfl,_⟩:=h
  rfl
 ·obtain⟨pr,T1,f,s,u,rfl,hP,hf,hs,kk,kS,kP⟩:=h
  have lf:f.length<=sizeLine:=Nat.le_trans hf (by decide)
  refine⟨_,(aj (cj (az pK (hr.mono (by decide)) rfl bQ.m bQ.fn.kp bQ.b .nil (Lets.passes nV) (aa (pv 0) (aa (g6 (aa (pv 1) (aa (pv 2) ah))) ah))))
   (aj (bN (xg (JY Gx Gx ak (pv 3) (aD (bq) rfl T.cY bP (aa (pv 1) ah)))) (ao (CC nV T.Ed rfl rfl T.xD (aa bC ah))) aN)
   (ao (aL (bA (aa (pv 3) (aa (aU bK (az BH (hr.mono (by decide)) rfl fh.m fh.fn.kp fh.b .nil aO (aa (pv 0) (aa (pv 1) (aa (pv 2) (aa (pv 3) ah))))) ak (λ_ _=>rfl)) ah))))))),?_⟩
  refine⟨_,rfl,_,rfl,_,rfl,by show 2<=sizeLine;decide,λl hl=>?_⟩
  refine⟨pr,l,T1.1,T1.2.1,T1.2.2.1,T1.2.2.2,f,s,rfl,hP.same (ai.upd hl),af,by omega,by omega,λof os H1 s1=>?_,λi j bad dx H1 s1 hd=>kS i j bad dx H1 ((ai.upd hl).trans s1) hd⟩
  have Mz:=(ai.upd (o:=.lst [.str f,.str s]) hl).trans s1
  have one:1<=sizeLine:=by decide
  refine⟨_,rfl,_,_,rfl,rfl,_,rfl,?_⟩
  refine dF (λi1=>?_) λz=>⟨_,rfl,zV ⟨one,kP of os (λi=>z i.1) H1 Mz⟩⟩
  refine⟨_,rfl,_,_,rfl,⟨lf,rfl⟩,_,_,rfl,rfl,_,rfl,?_⟩
  by_cases i2:u<=((f.length:Nat):Int)
  ·rw[decide_eq_true i2]
   obtain⟨vQ,vP,kk⟩:=kk of os i1 i2
   have i2':u<=(f.cps.size:Int):=i2
   have hul:u.toNat<(A5 T1 f s).length:=by rw[GL];omega
   have ht:=List.getElem?_eq_getElem hul
   refine ve ⟨_,rfl,_,rfl,_,rfl,_,rfl,_,rfl,pr,T1,f,s,u.toNat,_,by rw[Int.toNat_of_nonneg i1];rfl,hP.same Mz,of,os,vQ,vP,by omega,ht,λq H2 s2 hq=>?_⟩
   refine⟨q,_,_,_,rfl,rfl,cP.of hq,rfl,by show 2<=sizeLine;decide,λr hr=>?_⟩
   exact kk _ ht r _ ((Mz.trans s2).trans (ai.upd hr)) af
  ·rw[decide_eq_false i2]
   exact zV ⟨one,kP of os (λi=>i2 i.2) H1 Mz⟩
end
section
variable{P:Program}{w:World}{K:PySem.W.Frag}{mg:Str->Option Value}{base:Heap}
theorem CO {bf:Addr} {aR:FuncData} {p:Pm} (T:Txt K mg p base) (aE:Dn K mg "_law_next" fJ l6 bf aR)  :aJ P w K mg base ck 1 bf aR l6 (pW K):=by
 refine aE.fn.ok qa (λvs H Q E h=>?_) (λcdv A outer s H vs Q E hr h=>?_)
 ·obtain⟨s,t,ns,k,rfl,_⟩:=h
  rfl
 ·obtain⟨s,t,ns,k,rfl,hC,hk2,kk⟩:=h
  have ht:=hC.at_
  have hk:=hC.k0
  refine⟨_,(aj (rT (aF cK (aU bM (pv 1) ak (λ_ _=>rfl)) ak) (AH (pv 1) ak set_list))
   (bE (aC (i:=2) qa.nd rfl (Or.inl rfl) (sV (aP xm (aD (bq) rfl T.cY bP (aa (pv 0) ah)) ak (aZ _)) (aU bM (pv 0) (aF b8 (aU bM (pv 1) ak (λ_ _=>rfl)) (aD (bq) rfl T.cY bP (aa (pv 0) ah))) (λ_ _=>rfl)) ak))
   (aj (aC (i:=3) qa.nd rfl (Or.inl rfl) (aF b8 (aF lY (aF cK (aF cK (aF b8 (pv 2) ak) (aF lY (aF lY (aU bM (pv 1) ak (λ_ _=>rfl)) (aU bM (pv 1) ak (λ_ _=>rfl))) ak)) ak) ak) ak))
   (ao (aL (aF b8 (aF lY (pv 3) (pv 3)) ak)))))),?_⟩
  refine⟨_,rfl,t,_,_,_,rfl,rfl,bZ.of ht,rfl,_,_,rfl,rfl,_,rfl,t,_,_,0,rfl,rfl,ht,rfl,?_⟩
  have hq:bZ K (upd H t (.lst [.int (k+1)])) s (ns.map V.int):=hC.S9 _
  have U3:bZ K (upd H t (.lst [.int (k+1)])) t [.int (k+1)]:=bZ.of af
  have rest:∀c:Int,∀m1:Int,m1=(c % 2147483647+(k+1)*(k+1)*7919+11)*48271 % 2147483647->Q (.int (m1*m1 % 1999999973)) (upd H t (.lst [.int (k+1)])):=λc m1 _ =>
   kk _ (Int.emod_nonneg _ (by decide)) (Int.emod_lt_of_pos _ (by decide))
  refine⟨λσ H2=>H2=upd H t (.lst [.int (k+1)])/\∃c:Int,σ=[some (.ref s),some (.ref t),some (.int c),none],?_,?_⟩
  ·refine⟨_,rfl,_,_,rfl,.inl ⟨_,hq,rfl⟩,_,_,rfl,rfl,_,rfl,?_⟩
   refine dF (λh0=>?_) (λh0=>?_)
   ·have hn:0<ns.length:=by rw[List.length_map]at h0;omega
    have i1:=Int.emod_nonneg (k+1) (show((ns.length:Nat):Int)≠0 by omega)
    have i2:=Int.emod_lt_of_pos (k+1) (show(0:Int)<((ns.length:Nat):Int) by omega)
    obtain⟨j,hj⟩:∃j:Nat,(k+1) % ((ns.length:Nat):Int)=(j:Int):=⟨_,(Int.toNat_of_nonneg i1).symm⟩
    have hjl:j<ns.length:=by omega
    refine⟨_,rfl,_,rfl,t,_,_,_,rfl,rfl,U3,rfl,_,rfl,_,_,rfl,.inl ⟨_,hq,rfl⟩,_,_,rfl,rfl,(by show(0:Int)<(((ns.map V.int).length:Nat):Int);rw[List.length_map];omega),?_⟩
    refine⟨s,_,_,.int ns[j],rfl,rfl,hq,?_,rfl,_,rfl⟩
    rw[List.length_map,hj]
    exact fQ (by rw[List.getElem?_map,List.getElem?_eq_getElem hjl];rfl)
   ·exact⟨rfl,_,rfl⟩
  ·rintro σ H2 ⟨rfl,c,rfl⟩
   refine⟨_,rfl,_,_,rfl,rfl,(by show(0:Int)<_;decide),?_⟩
   refine⟨_,rfl,t,_,_,_,rfl,rfl,U3,rfl,_,rfl,t,_,_,_,rfl,rfl,U3,rfl,_,_,rfl,rfl,.inl ⟨by omega,by omega⟩,_,_,rfl,rfl,.inr ⟨by decide,by decide⟩,_,_,rfl,rfl,_,_,rfl,rfl,_,_,rfl,rfl,.inr ⟨by decide,by decide⟩,_,_,rfl,rfl,(by show(0:Int)<_;decide),?_⟩
   have m0:=Int.emod_nonneg ((c % 2147483647+(k+1)*(k+1)*7919+11)*48271) (show(2147483647:Int)≠0 by decide)
   have m1:=Int.emod_lt_of_pos ((c % 2147483647+(k+1)*(k+1)*7919+11)*48271) (show(0:Int)<2147483647 by decide)
   exact⟨_,rfl,_,rfl,_,_,rfl,rfl,.inl ⟨by omega,by omega⟩,_,_,rfl,rfl,(by show(0:Int)<_;decide),rest c _ rfl⟩
theorem AQ {jK bf:Addr} {iR aR:FuncData} {p:Pm} (T:Txt K mg p base) (gp:Dn K mg "_law_great" nP l6 jK iR) (aE:Dn K mg "_law_next" fJ l6 bf aR) (cB:aJ P w K mg base ck 1 bf aR l6 (pW K)):aJ P w K mg base ck 2 jK iR l6 (Gb K):=by
 refine gp.fn.ok oW (λvs H Q E h=>?_) (λcdv A outer s H vs Q E hr h=>?_)
 ·obtain⟨s,t,ns,k,rfl,_⟩:=h
  rfl
 ·obtain⟨s,t,ns,k,rfl,hC,hk2,kk⟩:=h
  have hk:=hC.k0
  refine⟨_,(aj (aC (i:=2) oW.nd rfl (Or.inl rfl) (az cB (hr.mono (by decide)) rfl aE.m aE.fn.kp aE.b .nil aO (aa (pv 0) (aa (pv 1) ah))))
   (bE (aC (i:=3) oW.nd rfl (Or.inl rfl) (sV (aP xm (aD (bq) rfl T.cY bP (aa (pv 0) ah)) ak (aZ _)) (aU bM (pv 0) (aF b8 (aU bM (pv 1) ak (λ_ _=>rfl)) (aD (bq) rfl T.cY bP (aa (pv 0) ah))) (λ_ _=>rfl)) ak))
   (ao (aL (aF rX (aF b8 (aF cK (aF b8 (pv 3) (aF xj ak ak)) (aF lY (pv 2) (aF xj ak ak))) (aF lY ak (aF xj ak ak))) (aF xj ak ak)))))),?_⟩
  refine⟨_,rfl,_,rfl,s,t,ns,k,rfl,hC,hk2,λm hm hm2=>?_⟩
  have hq:bZ K (upd H t (.lst [.int (k+1)])) s (ns.map V.int):=hC.S9 _
  have U3:bZ K (upd H t (.lst [.int (k+1)])) t [.int (k+1)]:=bZ.of af
  refine⟨λσ H2=>H2=upd H t (.lst [.int (k+1)])/\∃c:Int,σ=[some (.ref s),some (.ref t),some (.int m),some (.int c)],?_,?_⟩
  ·refine⟨_,rfl,_,_,rfl,.inl ⟨_,hq,rfl⟩,_,_,rfl,rfl,_,rfl,?_⟩
   refine dF (λh0=>?_) (λh0=>?_)
   ·have hn:0<ns.length:=by rw[List.length_map]at h0;omega
    have i1:=Int.emod_nonneg (k+1) (show((ns.length:Nat):Int)≠0 by omega)
    have i2:=Int.emod_lt_of_pos (k+1) (show(0:Int)<((ns.length:Nat):Int) by omega)
    obtain⟨j,hj⟩:∃j:Nat,(k+1) % ((ns.length:Nat):Int)=(j:Int):=⟨_,(Int.toNat_of_nonneg i1).symm⟩
    have hjl:j<ns.length:=by omega
    refine⟨_,rfl,_,rfl,t,_,_,_,rfl,rfl,U3,rfl,_,rfl,_,_,rfl,.inl ⟨_,hq,rfl⟩,_,_,rfl,rfl,(by show(0:Int)<(((ns.map V.int).length:Nat):Int);rw[List.length_map];omega),?_⟩
    refine⟨s,_,_,.int ns[j],rfl,rfl,hq,?_,rfl,_,rfl⟩
    rw[List.length_map,hj]
    exact fQ (by rw[List.getElem?_map,List.getElem?_eq_getElem hjl];rfl)
   ·exact⟨rfl,_,rfl⟩
  ·rintro σ H2 ⟨rfl,c,rfl⟩
   have p39:(0:Int)<(10:Int) ^ (39:Int).toNat:=by decide +kernel
   refine⟨_,rfl,_,_,rfl,rfl,⟨by decide,by decide,by decide⟩,_,_,rfl,rfl,p39,_,rfl,_,_,rfl,rfl,⟨by decide,by decide,by decide⟩,_,_,rfl,rfl,.inl ⟨by omega,by omega⟩,_,_,rfl,rfl,?_⟩
   have p2:(0:Int)<2*(10:Int) ^ (39:Int).toNat:=by omega
   refine⟨_,_,rfl,rfl,⟨by decide,by decide,by decide⟩,_,_,rfl,rfl,.inl ⟨by decide,by decide⟩,_,_,rfl,rfl,p2,_,_,rfl,rfl,⟨by decide,by decide,by decide⟩,_,_,rfl,rfl,?_⟩
   have m0:=Int.emod_nonneg (c % (10:Int) ^ (39:Int).toNat+m*(10:Int) ^ (28:Int).toNat) (Int.ne_of_gt p2)
   have m1:=Int.emod_lt_of_pos (c % (10:Int) ^ (39:Int).toNat+m*(10:Int) ^ (28:Int).toNat) p2
   have e39:(10:Int) ^ (39:Int).toNat=10 ^ 39:=rfl
   refine kk _ ?_ ?_
   ·rw[←e39];omega
   ·rw[←e39];omega
theorem AN {jI bf:Addr} {iP aR:FuncData} {p:Pm} (T:Txt K mg p base) (gm:Dn K mg "_law_signs" nN L8 jI iP) (aE:Dn K mg "_law_next" fJ l6 bf aR) (cB:aJ P w K mg base ck 1 bf aR l6 (pW K)):aJ P w K mg base ck 2 jI iP L8 (Cf K):=by
 refine gm.fn.ok jW (λvs H Q E h=>?_) (λcdv A outer s H vs Q E hr h=>?_)
 ·obtain⟨s,t,ns,k,n,rfl,_⟩:=h
  rfl
 ·obtain⟨s,t,ns,k,n,rfl,hC,hk,hn1,hn,kk⟩:=h
  refine⟨_,(aj (aC (i:=3) jW.nd rfl (Or.inr rfl) bC)
   (aj (aC (i:=3) jW.nd rfl (Or.inr rfl) (aF pA (pv 3) bC))
   (aj (aC (i:=4) jW.nd rfl (Or.inr rfl) (az cB (hr.mono (by decide)) rfl aE.m aE.fn.kp aE.b .nil aO (aa (pv 0) (aa (pv 1) ah))))
   (aj (aC (i:=5) jW.nd rfl (Or.inr rfl) (aU bM (g6 (aa ak (aa ak (aa ak (aa ak (aa ak (aa ak ah))))))) (aF b8 (pv 4) ak) (λ_ _=>rfl)))
   (ao (aL (lS PySem.F.plainAttrs_str PySem.F.slot_str_join PySem.F.type_str_join Gz bC (aa (o9 (N:=l48) rfl (dm.vm (nt:=1) (ix:=[3,4,5]) rfl (by decide +kernel) (by decide +kernel) (by kernel_rfl) rfl (by kernel_rfl)) (gC rfl T.jl (aa (pv 2) ah)) (λ_ _ _ _ _ _ _=>(aK (i:=0) (show(l48:List Str).Nodup by decide +kernel) rfl (Or.inl rfl))) (λ_ _ _ _ _ _ _=>(aU uL (pv 1) (aF b8 (aF cK (aF cM (pv 2) ak) (aF lY (pv 0) (pv 3))) (aD (Be) rfl T.cY bP (aa (pv 1) ah))) (λ_ _=>rfl)))) ah)))))))),?_⟩
  refine⟨_,rfl,_,_,rfl,rfl,(by decide +kernel),?_⟩
  obtain⟨S,hS⟩:∃S:Str,S=Str.ofString " !#$&'()*+,./0123456789:;<=>?@ABCDEFGHIJKLMNOPQRSTUVWXYZ" ++Str.ofString "[\\]^_`abcdefghijklmnopqrstuvwxyz{|}~" :=⟨_,rfl⟩
  have hS1:S.cps.size=92:=by rw[hS];kernel_rfl
  have ZG:S.cps.all pD=true:=by rw[hS];kernel_rfl
  have hS3:S.cps.toList.Nodup:=xN (by rw[hS];kernel_rfl)
  rw[←hS]
  refine⟨_,rfl,_,rfl,s,t,ns,k,rfl,hC,hk,λm hm hm2=>?_⟩
  refine⟨by show 6<=sizeLine;decide,λq hq=>?_⟩
  have s1:ai (upd H t (.lst [.int (k+1)])) (upd (upd H t (.lst [.int (k+1)])) q (.lst [.int 1,.int 3,.int 5,.int 7,.int 9,.int 11])):=ai.upd hq
  have hq1:upd (upd H t (.lst [.int (k+1)])) q (.lst [.int 1,.int 3,.int 5,.int 7,.int 9,.int 11]) q=some (.lst [.int 1,.int 3,.int 5,.int 7,.int 9,.int 11]):=af
  generalize upd (upd H t (.lst [.int (k+1)])) q (.lst [.int 1,.int 3,.int 5,.int 7,.int 9,.int 11])=H1 at s1 hq1 ⊢
  obtain⟨tv,htv,⟨ht1,Dl⟩,hat⟩:∃tv:Int,(tv=1\/tv=3\/tv=5\/tv=7\/tv=9\/tv=11)/\(0<=tv/\tv<=11)/\Af [V.int 1,.int 3,.int 5,.int 7,.int 9,.int 11] (m % 6)=some (.int tv):=by
   have h1:=Int.emod_nonneg m (show(6:Int)≠0 by decide)
   have h2:=Int.emod_lt_of_pos m (show(0:Int)<6 by decide)
   have e:m % 6=0\/m % 6=1\/m % 6=2\/m % 6=3\/m % 6=4\/m % 6=5:=by omega
   rcases e with e|e|e|e|e|e<;>rw[e]
   ·exact⟨1,by decide,by decide,rfl⟩
   ·exact⟨3,by decide,by decide,rfl⟩
   ·exact⟨5,by decide,by decide,rfl⟩
   ·exact⟨7,by decide,by decide,rfl⟩
   ·exact⟨9,by decide,by decide,rfl⟩
   ·exact⟨11,by decide,by decide,rfl⟩
  refine⟨_,rfl,_,_,rfl,rfl,(by show(0:Int)<6;decide),?_⟩
  refine⟨q,_,_,.int tv,rfl,rfl,bZ.of hq1,hat,?_⟩
  refine⟨rfl,_,rfl,n,rfl,by omega,by omega,λl hl=>?_⟩
  refine Fw n (λi=>sg (S.cps.toList.getD ((m / 6+(i:Int)*tv) % 92).toNat 0)) hl (Nat.lt_of_le_of_lt hn (by decide)) (λi H2 s2 hi=>?_) (λH2 s2=>?_) (λi x H2 H3 R s2 hi y hR=>?_) λH2 s2 hl2=>?_
  ·show i<((n:Nat):Int).toNat
   omega
  ·show((n:Nat):Int).toNat<=n
   omega
  ·obtain⟨rfl,rfl⟩:=y
   refine⟨Kp.JR,?_⟩
   have i1:=Int.emod_nonneg (m / 6+(i:Int)*tv) (show(92:Int)≠0 by decide)
   have i2:=Int.emod_lt_of_pos (m / 6+(i:Int)*tv) (show(0:Int)<92 by decide)
   obtain⟨j,hj⟩:∃j:Nat,(m / 6+(i:Int)*tv) % 92=(j:Int):=⟨_,(Int.toNat_of_nonneg i1).symm⟩
   have hjl:j<S.cps.toList.length:=by rw[Array.length_toList];omega
   refine⟨_,rfl,_,rfl,_,_,rfl,rfl,⟨by decide,by decide⟩,_,rfl,_,rfl,_,_,rfl,rfl,.inl ⟨by omega,by omega⟩,_,_,rfl,rfl,_,rfl,S,rfl,(by show S.cps.size<=_;rw[hS1];decide),_,_,rfl,rfl,(by show(0:Int)<(S.cps.size:Int);omega),?_⟩
   have eS:((S.length:Nat):Int)=92:=by show((S.cps.size:Nat):Int)=92;omega
   refine⟨S,_,S.cps.toList[j],rfl,rfl,(by show S.cps.size<=_;rw[hS1];decide),(by rw[Int.zero_add,eS,hj];exact fQ (List.getElem?_eq_getElem hjl)),?_⟩
   have e:S.cps.toList[j]=S.cps.toList.getD ((m / 6+(i:Int)*tv) % 92).toNat 0:=by
    rw[hj,Int.toNat_natCast,nX (List.getElem?_eq_getElem hjl)]
   rw[e]
   exact hR _ (ai.refl _)
  ·refine⟨l,(List.range n).map (λi:Nat=>S.cps.toList.getD ((m / 6+(i:Int)*tv) % 92).toNat 0),rfl,rfl,?_,?_,kk _ H2 ⟨?_,?_,λc hc=>?_,ES hS3 n (λi _=>?_) λi j hij hj=>Mp htv hij (by omega)⟩ ?_ (s1.trans s2)⟩
   ·rw[List.map_map]
    exact bZ.of hl2
   ·rw[List.length_map,List.length_range];omega
   ·show 0<((List.range n).map _).length
    rw[List.length_map,List.length_range];omega
   ·show((List.range n).map _).length<=100
    rw[List.length_map,List.length_range];omega
   ·obtain⟨i,hi,rfl⟩:=List.mem_map.mp (show c∈(List.range n).map _ from hc)
    have i1:=Int.emod_nonneg (m / 6+(i:Int)*tv) (show(92:Int)≠0 by decide)
    have i2:=Int.emod_lt_of_pos (m / 6+(i:Int)*tv) (show(0:Int)<92 by decide)
    obtain⟨j,hj⟩:∃j:Nat,(m / 6+(i:Int)*tv) % 92=(j:Int):=⟨_,(Int.toNat_of_nonneg i1).symm⟩
    have hjl:j<S.cps.toList.length:=by rw[Array.length_toList];omega
    rw[hj,Int.toNat_natCast,nX (List.getElem?_eq_getElem hjl)]
    exact Array.all_eq_true_iff_forall_mem.mp ZG _ (Array.mem_toList_iff.mp (List.getElem_mem hjl))
   ·have i1:=Int.emod_nonneg (m / 6+(i:Int)*tv) (show(92:Int)≠0 by decide)
    have i2:=Int.emod_lt_of_pos (m / 6+(i:Int)*tv) (show(0:Int)<92 by decide)
    rw[Array.length_toList]
    omega
   ·show((List.range n).map _).length=n
    rw[List.length_map,List.length_range]
theorem AO {jJ bf jK:Addr} {iQ aR iR:FuncData} {p:Pm} (T:Txt K mg p base) (bW:Dn K mg "_law_price" nO TZ jJ iQ) (aE:Dn K mg "_law_next" fJ l6 bf aR) (cB:aJ P w K mg base ck 1 bf aR l6 (pW K)) (gp:Dn K mg "_law_great" nP l6 jK iR) (DZ:aJ P w K mg base ck 2 jK iR l6 (Gb K)):aJ P w K mg base ck 3 jJ iQ TZ (Cg K):=by
 refine bW.fn.ok sO (λvs H Q E h=>?_) (λcdv A outer s H vs Q E hr h=>?_)
 ·obtain⟨s,t,ns,k,c,rfl,_⟩:=h
  rfl
 ·obtain⟨s,t,ns,k,c,rfl,hC,hk2,kk⟩:=h
  have hk:=hC.k0
  refine⟨_,(aj (aC (i:=3) sO.nd rfl (Or.inl rfl) (az cB (hr.mono (by decide)) rfl aE.m aE.fn.kp aE.b .nil aO (aa (pv 0) (aa (pv 1) ah))))
   (aj (bN (aP gi (pv 2) ak (aZ _)) (ao (aL (bA (aa (aF rX (aF b8 (pv 3) ak) ak) (aa ak ah))))) aN)
   (aj (bN (aP gi (pv 2) ak (aZ _)) (ao (aL (bA (aa (aF rX (aF b8 (pv 3) ak) ak) (aa (aF cK ak (aF b8 (aF cM (pv 3) ak) ak)) ah))))) aN)
   (aj (bN (aP gi (pv 2) ak (aZ _)) (ao (aL (bA (aa (aF rX (aF b8 (pv 3) ak) ak) (aa ak ah))))) aN)
   (ao (aL (bA (aa (az DZ (hr.mono (by decide)) rfl gp.m gp.fn.kp gp.b .nil aO (aa (pv 0) (aa (pv 1) ah))) (aa (aF cK ak (aF b8 (aF cM (pv 3) ak) ak)) ah))))))))),?_⟩
  refine⟨_,rfl,_,rfl,s,t,ns,k,rfl,hC,by omega,λm hm hm2=>?_⟩
  have ht:upd H t (.lst [.int (k+1)]) t=some (.lst [.int (k+1)]):=af
  have last:∀(f:cu) (r:Addr),R5 f->upd H t (.lst [.int (k+1)]) r=none->Q (.ref r) (upd (upd H t (.lst [.int (k+1)])) r (.tup [.int f.1,.int f.2])):=λf r hf hr=>by
   have nr:r≠t:=λz=>by rw[z,ht]at hr;cases hr
   exact kk f r _ (k+1) hf (Wo.step (ai.upd hr)) (by rw[au (Ne.symm nr)];exact ht) (by omega) (by omega) (wJ hr) af
  refine⟨_,rfl,rfl,_,rfl,qo (λh0=>?_) λh0=>?_⟩
  ·exact⟨_,rfl,_,_,rfl,rfl,(by show(0:Int)<_;decide),_,_,rfl,rfl,by show 2<=sizeLine;decide,λr hr=>last (m % 7-1,1) r ⟨by show(1:Int)<=1;omega,by show(1:Int)<=999;omega,by show _<=m % 7-1;omega,by show m % 7-1<=_;omega⟩ hr⟩
  refine⟨_,rfl,rfl,_,rfl,qo (λh1=>?_) λh1=>?_⟩
  ·exact⟨_,rfl,_,_,rfl,rfl,(by show(0:Int)<_;decide),_,_,rfl,rfl,_,rfl,_,_,rfl,rfl,⟨by decide,by decide⟩,_,_,rfl,rfl,(by show(0:Int)<_;decide),_,_,rfl,rfl,by show 2<=sizeLine;decide,λr hr=>last (m % 13-4,1+m / 13 % 4) r ⟨by show 1<=1+m / 13 % 4;omega,by show 1+m / 13 % 4<=999;omega,by show _<=m % 13-4;omega,by show m % 13-4<=_;omega⟩ hr⟩
  refine⟨_,rfl,rfl,_,rfl,qo (λh2=>?_) λh2=>?_⟩
  ·exact⟨_,rfl,_,_,rfl,rfl,(by show(0:Int)<_;decide),_,_,rfl,rfl,by show 2<=sizeLine;decide,λr hr=>last (m % 9-6,1) r ⟨by show(1:Int)<=1;omega,by show(1:Int)<=999;omega,by show _<=m % 9-6;omega,by show m % 9-6<=_;omega⟩ hr⟩
  refine⟨_,rfl,_,rfl,s,t,ns,k+1,rfl,hC.step (by omega),by omega,λg g1 g2=>?_⟩
  refine⟨_,rfl,_,_,rfl,rfl,⟨by decide,by decide⟩,_,_,rfl,rfl,(by show(0:Int)<_;decide),_,_,rfl,rfl,by show 2<=sizeLine;decide,λr hr=>?_⟩
  have Dl:upd (upd H t (.lst [.int (k+1)])) t (.lst [.int (k+1+1)]) t=some (.lst [.int (k+1+1)]):=af
  have nr:r≠t:=λz=>by rw[z,Dl]at hr;cases hr
  refine kk (g,1+m / 13 % 999) r _ (k+1+1) ⟨by show 1<=1+m / 13 % 999;omega,by show 1+m / 13 % 999<=999;omega,g1,g2⟩ ?_ (by rw[au (Ne.symm nr)];exact Dl) (by omega) (by omega) (wJ (wJ hr)) af
  have e:=Wo.step (H:=upd H t (.lst [.int (k+1)])) (ai.upd (o:=.tup [.int g,.int (1+m / 13 % 999)]) hr)
  rw[Wo.set]at e
  exact e
end
section
variable{P:Program}{w:World}{K:PySem.W.Frag}{mg:Str->Option Value}{base:Heap}
theorem AM {jH bf jI jJ:Addr} {iO aR iP iQ:FuncData} {p:Pm} (T:Txt K mg p base) (gk:Dn K mg "_law_table" nM L8 jH iO) (aE:Dn K mg "_law_next" fJ l6 bf aR) (cB:aJ P w K mg base ck 1 bf aR l6 (pW K)) (gm:Dn K mg "_law_signs" nN L8 jI iP) (DY:aJ P w K mg base ck 2 jI iP L8 (Cf K)) (bW:Dn K mg "_law_price" nO TZ jJ iQ) (qC:aJ P w K mg base ck 3 jJ iQ TZ (Cg K)):aJ P w K mg base ck 4 jH iO L8 (F9 K):=by
 refine gk.fn.ok dD (λvs H Q E h=>?_) (λcdv A outer s H vs Q E hr h=>?_)
 ·obtain⟨s,t,ns,k,n,rfl,_⟩:=h
  rfl
 ·obtain⟨s,t,ns,k,n,rfl,hC,hk,hn1,hn6,kk⟩:=h
  have hk0:=hC.k0
  refine⟨_,(aj (aC (i:=3) dD.nd rfl (Or.inl rfl) (az cB (hr.mono (by decide)) rfl aE.m aE.fn.kp aE.b .nil aO (aa (pv 0) (aa (pv 1) ah))))
   (bE (aC (i:=4) dD.nd rfl (Or.inr rfl) (aU bM (g6 (aa ak (aa ak (aa ak (aa ak (aa ak (aa ak (aa ak (aa ak ah))))))))) (aF b8 (pv 3) ak) (λ_ _=>rfl)))
   (bE (aC (i:=5) dD.nd rfl (Or.inl rfl) (az DY (hr.mono (by decide)) rfl gm.m gm.fn.kp gm.b .nil aO (aa (pv 0) (aa (pv 1) (aa (pv 2) ah)))))
   (bE (xh (i:=6) (N:=l49) dD.nd rfl (Or.inl rfl) rfl (dm.vm (nt:=1) (ix:=[0,1,2,4]) rfl (by decide +kernel) (by decide +kernel) (by kernel_rfl) rfl (by kernel_rfl)) (gC rfl T.jl (aa (pv 2) ah)) (λ_ _ _ _ _ _ _=>(aK (i:=0) (show(l49:List Str).Nodup by decide +kernel) rfl (Or.inl rfl))) (λ_ _ _ _ _ _ _=>(o9 (N:=l50) rfl (dm.vm (nt:=1) (ix:=[1,2,4]) rfl (by decide +kernel) (by decide +kernel) (by kernel_rfl) rfl (by kernel_rfl)) (gC rfl T.jl (aa (pv 3) ah)) (λ_ _ _ _ _ _ _=>(aK (i:=0) (show(l50:List Str).Nodup by decide +kernel) rfl (Or.inl rfl))) (λ_ _ _ _ _ _ _=>(az qC (hr.mono (by decide)) rfl bW.m bW.fn.kp bW.b .nil aO (aa (pv 1) (aa (pv 2) (aa (pv 3) ah))))))))
   (bE (cy PassesOwn.never rfl (gC rfl T.jl (aa (pv 2) ah)) (aK (i:=7) dD.nd rfl (Or.inl rfl)) (bE (bN (aP xm (aF b8 (aF cM (pv 3) ak) ak) ak (aZ _)) (ao (rT (bA (aa (aF rX (aU bK (aU bM (aU bM (pv 6) (pv 7) (λ_ _=>rfl)) (pv 7) (λ_ _=>rfl)) ak (λ_ _=>rfl)) ak) (aa (aU bK (aU bM (aU bM (pv 6) (pv 7) (λ_ _=>rfl)) (pv 7) (λ_ _=>rfl)) ak (λ_ _=>rfl)) ah))) (AH (aU bM (pv 6) (pv 7) (λ_ _=>rfl)) (pv 7) set_list))) aN)
   (ao (cy PassesOwn.never rfl (gC rfl T.jl (aa (pv 7) ah)) (aK (i:=8) dD.nd rfl (Or.inl rfl)) (ao (bN (aP gi (aF b8 (aF cM (pv 3) ak) ak) ak (aZ _)) (ao (rT (aU bM (aU bM (pv 6) (pv 8) (λ_ _=>rfl)) (pv 7) (λ_ _=>rfl)) (AH (aU bM (pv 6) (pv 7) (λ_ _=>rfl)) (pv 8) set_list))) aN))))))
   (bE (aC (i:=9) dD.nd rfl (Or.inl rfl) (sV (aP xm (aF b8 (aF cM (pv 3) ak) ak) ak (aZ _)) (bA (aa (aF b8 (aF cM (pv 3) ak) ak) (aa ak ah))) (az qC (hr.mono (by decide)) rfl bW.m bW.fn.kp bW.b .nil aO (aa (pv 0) (aa (pv 1) (aa (pv 4) ah))))))
   (bE (aC (i:=10) dD.nd rfl (Or.inl rfl) (sV (aP xm (aF b8 (aF cM (pv 3) ak) ak) ak (aZ _)) (bA (aa (aF b8 (aF cM (pv 3) ak) ak) (aa ak ah))) (az qC (hr.mono (by decide)) rfl bW.m bW.fn.kp bW.b .nil aO (aa (pv 0) (aa (pv 1) (aa (pv 4) ah))))))
   (ao (aL (bA (aa (pv 5) (aa (pv 6) (aa (pv 9) (aa (pv 10) ah)))))))))))))),?_⟩
  refine⟨_,rfl,_,rfl,s,t,ns,k,rfl,hC,by omega,λm hm hm2=>?_⟩
  have w1:ai (Wo t H) (Wo t (upd H t (.lst [.int (k+1)]))):=by rw[Wo.set];exact ai.refl _
  have ht1:upd H t (.lst [.int (k+1)]) t=some (.lst [.int (k+1)]):=af
  have C1:=hC.step (k':=k+1) (by omega)
  generalize upd H t (.lst [.int (k+1)])=H1 at w1 ht1 C1 ⊢
  refine⟨λσ H2=>∃c:Int,σ=[some (.ref s),some (.ref t),some (.int n),some (.int m),some (.int c),none,none,none,none,none,none]/\ai H1 H2,?_,?_⟩
  ·refine⟨by show 8<=sizeLine;decide,λq hq=>⟨_,rfl,_,_,rfl,rfl,(by show(0:Int)<8;decide),?_⟩⟩
   obtain⟨c,hc⟩:∃c:Int,Af [V.int 0,.int 1,.int 2,.int 0,.int 3,.int 2,.int 0,.int 1] (m % 8)=some (.int c):=by
    have e:m % 8=0\/m % 8=1\/m % 8=2\/m % 8=3\/m % 8=4\/m % 8=5\/m % 8=6\/m % 8=7:=by omega
    rcases e with e|e|e|e|e|e|e|e<;>rw[e]<;>exact⟨_,rfl⟩
   exact⟨q,_,_,.int c,rfl,rfl,bZ.of af,hc,c,rfl,ai.upd hq⟩
  rintro σ H2 ⟨c,rfl,s2⟩
  refine⟨λσ H3=>∃sg,Ah sg/\sg.cps.size=n/\σ=[some (.ref s),some (.ref t),some (.int n),some (.int m),some (.int c),some (.str sg),none,none,none,none,none]/\ai (Wo t H) (Wo t H3)/\H3 t=some (.lst [.int (k+1+1)]),?_,?_⟩
  ·refine⟨_,rfl,_,rfl,_,rfl,s,t,ns,k+1,n,rfl,C1.same s2,by omega,hn1,hn6,λsg H3 hsg hz s3=>⟨sg,hsg,hz,rfl,w1.trans ((Wo.same s2).trans (Wo.step s3)),s3 _ _ af⟩⟩
  rintro σ H3 ⟨sg,hsg,hz,rfl,w3,GK⟩
  refine⟨λσ H4=>∃l k1,σ=[some (.ref s),some (.ref t),some (.int n),some (.int m),some (.int c),some (.str sg),some (.ref l),none,none,none,none]/\yb K H t l n 0 k1 H4/\H l=none/\k<=k1/\k1<=k+100,?_,?_⟩
  ·refine⟨_,rfl,n,rfl,by omega,by omega,λl hl=>?_⟩
   have Sf:l≠t:=λz=>by rw[z,GK]at hl;cases hl
   have hlH:H l=none:=Wo.back w3 GK hl
   refine⟨λi m' ys H4=>m'=n-i/\i<=n/\∃rs rows k1,ys=rs.map V.ref/\rs.length=i/\ue K (Wo t H4) l rs rows/\(∀r∈rows,r.length=n)/\(∀r∈rows,∀f∈r,R5 f)/\(∀r∈rs,H r=none)/\ai (Wo t H3) (Wo t H4)/\H4 t=some (.lst [.int k1])/\k+2<=k1/\k1<=k+2+12*(i:Int),
    ⟨n,rfl,Nat.zero_le _,[],[],_,rfl,rfl,?_,(λr hr=>by cases hr),(λr hr=>by cases hr),(λr hr=>by cases hr),?_,(by rw[au Sf.symm];exact GK),by omega,by omega⟩,?_⟩
   ·rw[Wo.au Sf]
    exact⟨rfl,af,List.nodup_nil,(by simp),λi r row h1=>by simp at h1⟩
   ·rw[Wo.au Sf];exact ai.upd (Wo.free hl)
   rintro i m' ys H4 ⟨rfl,hi,rs,rows,k1,rfl,hrs,LM,r1,r2,r3,s4,V3,Sn,V2⟩
   have w4:=w3.trans s4
   by_cases hlt:i<n
   ·refine .inr ⟨(by show i<((n:Nat):Int).toNat;omega),?_⟩
    rintro x H5 ⟨rfl,rfl⟩
    refine⟨Kp.JR,?_⟩
    refine⟨_,rfl,n,rfl,by omega,by omega,λl2 hl2=>?_⟩
    have ET:l2≠t:=λz=>by rw[z,V3]at hl2;cases hl2
    have Zv:H l2=none:=Wo.back w4 V3 hl2
    refine⟨λj m' ys H6=>m'=n-j/\j<=n/\H6 l2=some (.lst ys)/\∃ps row k2,ys=ps.map V.ref/\ps.length=j/\Paired (ku K (Wo t H6)) ps row/\(∀f∈row,R5 f)/\ai (Wo t H5) (Wo t H6)/\H6 t=some (.lst [.int k2])/\k1<=k2/\k2<=k1+2*(j:Int),
     ⟨n,rfl,Nat.zero_le _,af,[],[],k1,rfl,rfl,.nil,(λf hf=>by cases hf),?_,(by rw[au ET.symm];exact V3),by omega,by omega⟩,?_⟩
    ·rw[Wo.au ET];exact ai.upd (Wo.free hl2)
    rintro j m' ys H6 ⟨rfl,hj,hl6,ps,row,k2,rfl,hps,hP,ok,s6,Ig,V1,YX⟩
    by_cases V9:j<n
    ·refine .inr ⟨(by show j<((n:Nat):Int).toNat;omega),?_⟩
     rintro x H7 ⟨rfl,rfl⟩
     refine⟨Kp.JR,?_⟩
     refine⟨_,rfl,_,rfl,_,rfl,s,t,ns,k2,c,rfl,hC.off (w4.trans s6) Ig (by omega),by omega,λf q H8 k3 L7 w8 ht8 Sl Sk hqn hq8=>?_⟩
     have nq:q≠t:=qg hq8 ht8 (by intro z;cases z)
     have Zu:Wo t H8 l2=some (.lst (ps.map V.ref)):=w8 _ _ (Wo.in ET hl6)
     refine⟨Wo.sub _ _ Zu,?_,n-(j+1),by omega,rfl,V9,af,ps++[q],row++[f],k3,by rw[List.map_append];rfl,by rw[List.length_append,hps];rfl,?_,?_,?_,by rw[au ET.symm];exact ht8,by omega,by omega⟩
     ·rw[List.length_map,hps]
      exact Nat.lt_of_lt_of_le (show j<100 by omega) (by decide)
     ·rw[Wo.au ET]
      refine GP.Paired.snoc (Paired.g8 hP λa b z=>cP.off Zu (z.same w8)) ?_
      exact cP.off Zu (cP.of (Wo.in nq hq8))
     ·intro g hg
      rcases List.mem_append.mp hg with hg|hg
      ·exact ok g hg
      ·rw[List.mem_singleton.mp hg];exact L7
     ·rw[Wo.au ET]
      exact ai.at (s6.trans w8) (Wo.free hl2)
    ·have ej:j=n:=by omega
     refine .inl ⟨(by show((n:Nat):Int).toNat<=j;omega),?_⟩
     have hlo:Wo t H6 l=some (.lst (rs.map V.ref)):=s6 _ _ LM.at_
     refine⟨Wo.sub _ _ hlo,?_,n-(i+1),by omega,rfl,hlt,rs++[l2],rows++[row],k2,by rw[List.map_append];rfl,by rw[List.length_append,hrs];rfl,?_,?_,?_,?_,?_,by rw[au Sf.symm];exact Ig,by omega,by omega⟩
     ·rw[List.length_map,hrs]
      exact Nat.lt_of_lt_of_le (show i<100 by omega) (by decide)
     ·rw[Wo.au Sf]
      exact LM.snoc s6 (Wo.free hl2) (Wo.in ET hl6) hP
     ·intro r hr
      rcases List.mem_append.mp hr with hr|hr
      ·exact r1 r hr
      ·rw[List.mem_singleton.mp hr,←Paired.len hP,hps,ej]
     ·intro r hr
      rcases List.mem_append.mp hr with hr|hr
      ·exact r2 r hr
      ·rw[List.mem_singleton.mp hr];exact ok
     ·intro r hr
      rcases List.mem_append.mp hr with hr|hr
      ·exact r3 r hr
      ·rw[List.mem_singleton.mp hr];exact Zv
     ·rw[Wo.au Sf]
      exact ai.at (s4.trans s6) (Wo.free hl)
   ·have ei:i=n:=by omega
    subst ei
    refine .inl ⟨(by show((i:Nat):Int).toNat<=i;omega),?_⟩
    refine⟨l,k1,rfl,⟨rs,rows,LM,⟨by rw[←LM.len,hrs],r1⟩,λa b f hf=>?_,r3,w4,V3⟩,hlH,by omega,by omega⟩
    obtain⟨r,hr,hfr⟩:=hf.mem
    exact⟨(r2 r hr f hfr).l,λ_ _=>r2 r hr f hfr⟩
  rintro σ H4 ⟨l,k1,rfl,P4,hlH,Sn,V2⟩
  refine⟨λσ H5=>∃v7 v8,σ=[some (.ref s),some (.ref t),some (.int n),some (.int m),some (.int c),some (.str sg),some (.ref l),v7,v8,none,none]/\yb K H t l n n k1 H5,?_,?_⟩
  ·refine⟨_,rfl,n,rfl,by omega,by omega,?_⟩
   rw[show((n:Nat):Int).toNat=n by omega]
   refine kR (lo:=0) (n:=n) (λa σ H5=>∃v7 v8,σ=[some (.ref s),some (.ref t),some (.int n),some (.int m),some (.int c),some (.str sg),some (.ref l),v7,v8,none,none]/\yb K H t l n a k1 H5) ⟨_,_,rfl,P4⟩ ?_ (λσ H5 h=>h)
   rintro a σ H5 ha ⟨v7,v8,rfl,P5⟩
   refine⟨λσ H6=>σ=[some (.ref s),some (.ref t),some (.int n),some (.int m),some (.int c),some (.str sg),some (.ref l),some (.int (0+(a:Int))),v8,none,none]/\yb K H t l n (a+1) k1 H6,?_,?_⟩
   ·refine⟨_,rfl,_,_,rfl,rfl,⟨by decide,by decide⟩,_,_,rfl,rfl,(by show(0:Int)<3;decide),_,_,rfl,rfl,_,rfl,?_⟩
    obtain⟨rs,rows,LM,sq,dg,nw,s5,I8⟩:=P5
    refine dF (λ_=>?_) λ_=>⟨rfl,rs,rows,LM,sq,λi j f hf=>⟨(dg i j f hf).1,λe h=>(dg i j f hf).2 e (by omega)⟩,nw,s5,I8⟩
    have ha':a<rows.length:=by rw[sq.1];exact ha
    have ha2:a<rs.length:=by rw[LM.len];exact ha'
    obtain⟨ps,Rv,hPa⟩:=LM.row a _ _ (List.getElem?_eq_getElem ha2) (List.getElem?_eq_getElem ha')
    have la:=sq.2 rows[a] (List.getElem_mem ha')
    have hap:a<ps.length:=by rw[Paired.len hPa,la];exact ha
    obtain⟨f,ef,hf⟩:=Paired.at hPa (List.getElem?_eq_getElem hap)
    have L7:=(dg a a f ⟨_,List.getElem?_eq_getElem ha',ef⟩).2 rfl (Nat.le_refl _)
    have So:=Wo.sub _ _ LM.at_
    have Ru:=Wo.sub _ _ Rv
    have hf':cP K H5 ps[a] [.int f.1,.int f.2]:=ku.same Wo.sub hf
    have ea:Af (rs.map V.ref) (0+(a:Int))=some (.ref rs[a]):=by rw[Int.zero_add];exact fQ (by rw[List.getElem?_map,List.getElem?_eq_getElem ha2];rfl)
    have eb:Af (ps.map V.ref) (0+(a:Int))=some (.ref ps[a]):=by rw[Int.zero_add];exact fQ (by rw[List.getElem?_map,List.getElem?_eq_getElem hap];rfl)
    refine⟨_,rfl,_,rfl,l,_,_,_,rfl,rfl,bZ.of So,ea,_,rfl,rs[a],_,_,_,rfl,rfl,bZ.of Ru,eb,ps[a],_,_,_,rfl,rfl,hf',rfl,_,_,rfl,rfl,_,rfl,_,rfl,l,_,_,_,rfl,rfl,bZ.of So,ea,_,rfl,rs[a],_,_,_,rfl,rfl,bZ.of Ru,eb,ps[a],_,_,_,rfl,rfl,hf',rfl,by show 2<=sizeLine;decide,λq hq=>?_⟩
    have nq:q≠t:=λz=>by rw[z,I8]at hq;cases hq
    have QK:ai H5 (upd H5 q (.tup [.int (f.1-4),.int f.2])):=ai.upd hq
    have LM1:=LM.same (Wo.same (t:=t) QK)
    have Ze:=Wo.same (t:=t) QK _ _ Rv
    have Q2:rs[a]≠t:=Wo.ne Rv
    refine⟨_,rfl,_,rfl,l,_,_,.ref rs[a],rfl,rfl,bZ.of (QK _ _ So),ea,_,rfl,rs[a],_,_,a,rfl,rfl,QK _ _ Ru,by rw[Int.zero_add];exact E6 (by rw[List.length_map];exact hap),rfl,rs,rows.set a (rows[a].set a (f.1-4,f.2)),?_,⟨by rw[List.length_set];exact sq.1,λr hr=>?_⟩,λi j g hg=>?_,nw,?_,?_⟩
    ·rw[Wo.au Q2]
     exact LM1.put (List.getElem?_eq_getElem ha2) (List.getElem?_eq_getElem ha') Ze (Paired.g8 hPa λ_ _ z=>z.same (Wo.same QK)) (cP.of (Wo.in nq af))
    ·rcases List.mem_or_eq_of_mem_set hr with hr|hr
     ·exact sq.2 r hr
     ·rw[hr,List.length_set];exact la
    ·rcases G5 (List.getElem?_eq_getElem ha') hg with⟨rfl,rfl,rfl⟩|hg
     ·exact⟨⟨L7.1,L7.2.1,S6 (by have:=L7.2.2.1;show _<=f.1-4;omega) (by have:=L7.2.2.2;show f.1-4<=_;omega)⟩,λ_ z=>by omega⟩
     ·exact⟨(dg i j g hg).1,λe h=>(dg i j g hg).2 e (by omega)⟩
    ·rw[Wo.au Q2]
     exact ai.at (s5.trans (Wo.same QK)) (Wo.free (nw _ (List.getElem_mem ha2)))
    ·rw[au Q2.symm];exact QK _ _ I8
   rintro σ H6 ⟨rfl,P6⟩
   refine⟨_,rfl,_,rfl,by omega,by omega,?_⟩
   rw[show(0+(a:Int)).toNat=a by omega]
   refine kR (lo:=0) (n:=a) (λb σ H7=>∃v8,σ=[some (.ref s),some (.ref t),some (.int n),some (.int m),some (.int c),some (.str sg),some (.ref l),some (.int (0+(a:Int))),v8,none,none]/\yb K H t l n (a+1) k1 H7) ⟨_,rfl,P6⟩ ?_ (λσ H7 ⟨v8,h1,h2⟩=>⟨_,v8,h1,h2⟩)
   rintro b σ H7 hb ⟨v8,rfl,P7⟩
   obtain⟨rs,rows,LM,sq,dg,nw,s7,Rt⟩:=P7
   refine⟨_,rfl,_,_,rfl,rfl,⟨by decide,by decide⟩,_,_,rfl,rfl,(by show(0:Int)<2;decide),rfl,_,rfl,?_⟩
   refine qo (λ_=>?_) λ_=>⟨_,rfl,rs,rows,LM,sq,dg,nw,s7,Rt⟩
   have ha':a<rows.length:=by rw[sq.1];exact ha
   have hb':b<rows.length:=by rw[sq.1];omega
   have ha2:a<rs.length:=by rw[LM.len];exact ha'
   have hb2:b<rs.length:=by rw[LM.len];exact hb'
   obtain⟨psa,Rv,hPa⟩:=LM.row a _ _ (List.getElem?_eq_getElem ha2) (List.getElem?_eq_getElem ha')
   obtain⟨psb,hrb,hPb⟩:=LM.row b _ _ (List.getElem?_eq_getElem hb2) (List.getElem?_eq_getElem hb')
   have la:=sq.2 rows[a] (List.getElem_mem ha')
   have lb:=sq.2 rows[b] (List.getElem_mem hb')
   have hab:a<psb.length:=by rw[Paired.len hPb,lb];exact ha
   have hba:b<psa.length:=by rw[Paired.len hPa,la];omega
   obtain⟨f,ef,hf⟩:=Paired.at hPb (List.getElem?_eq_getElem hab)
   have So:=Wo.sub _ _ LM.at_
   have Q2:rs[a]≠t:=Wo.ne Rv
   refine⟨_,rfl,_,rfl,l,_,_,.ref rs[b],rfl,rfl,bZ.of So,(by rw[Int.zero_add];exact fQ (by rw[List.getElem?_map,List.getElem?_eq_getElem hb2];rfl)),?_⟩
   refine⟨_,rfl,rs[b],_,_,.ref psb[a],rfl,rfl,bZ.of (Wo.sub _ _ hrb),(by rw[Int.zero_add];exact fQ (by rw[List.getElem?_map,List.getElem?_eq_getElem hab];rfl)),?_⟩
   refine⟨_,rfl,_,rfl,l,_,_,.ref rs[a],rfl,rfl,bZ.of So,(by rw[Int.zero_add];exact fQ (by rw[List.getElem?_map,List.getElem?_eq_getElem ha2];rfl)),?_⟩
   refine⟨_,rfl,rs[a],_,_,b,rfl,rfl,Wo.sub _ _ Rv,by rw[Int.zero_add];exact E6 (by rw[List.length_map];exact hba),_,rfl,rs,rows.set a (rows[a].set b f),?_,⟨by rw[List.length_set];exact sq.1,λr hr=>?_⟩,λi j g hg=>?_,nw,?_,?_⟩
   ·rw[Wo.au Q2]
    exact LM.put (List.getElem?_eq_getElem ha2) (List.getElem?_eq_getElem ha') Rv hPa hf
   ·rcases List.mem_or_eq_of_mem_set hr with hr|hr
    ·exact sq.2 r hr
    ·rw[hr,List.length_set];exact la
   ·rcases G5 (List.getElem?_eq_getElem ha') hg with⟨rfl,rfl,rfl⟩|hg
    ·exact⟨(dg _ _ _ ⟨_,List.getElem?_eq_getElem hb',ef⟩).1,λz=>by omega⟩
    ·exact dg i j g hg
   ·rw[Wo.au Q2]
    exact ai.at s7 (Wo.free (nw _ (List.getElem_mem ha2)))
   ·rw[au Q2.symm];exact Rt
  rintro σ H5 ⟨v7,v8,rfl,rs,rows,LM,sq,dg,nw,w5,I8⟩
  have C5:wC K H5 s t ns k1:=hC.off w5 I8 (by omega)
  refine⟨λσ H6=>∃o fo k2,σ=[some (.ref s),some (.ref t),some (.int n),some (.int m),some (.int c),some (.str sg),some (.ref l),v7,v8,some (.ref o),none]/\Mf fo/\TupAt (Wo t H6) o fo/\ai (Wo t H5) (Wo t H6)/\H6 t=some (.lst [.int k2])/\k1<=k2/\k2<=k1+2,?_,?_⟩
  ·refine⟨_,rfl,_,_,rfl,rfl,⟨by decide,by decide⟩,_,_,rfl,rfl,(by show(0:Int)<3;decide),_,_,rfl,rfl,_,rfl,?_⟩
   refine dF (λ_=>?_) λ_=>?_
   ·refine⟨_,rfl,_,_,rfl,rfl,⟨by decide,by decide⟩,_,_,rfl,rfl,(by show(0:Int)<4;decide),by show 2<=sizeLine;decide,λq hq=>?_⟩
    have nq:q≠t:=λz=>by rw[z,I8]at hq;cases hq
    exact⟨q,(m / 48 % 4,1),k1,rfl,⟨by show(1:Int)<=1;omega,by show(1:Int)<=999;omega,xW (by show _<=m / 48 % 4;omega) (by show m / 48 % 4<=_;omega)⟩,Wo.in nq af,Wo.same (ai.upd hq),ai.upd hq _ _ I8,by omega,by omega⟩
   ·exact⟨_,rfl,_,rfl,_,rfl,s,t,ns,k1,c,rfl,C5,by omega,λf q H6 k3 L7 w6 Ig Sl Sk hqn hq6=>⟨q,f,k3,rfl,L7.l,Wo.in (qg hq6 Ig (by intro z;cases z)) hq6,w6,Ig,Sl,Sk⟩⟩
  rintro σ H6 ⟨o,fo,k2,rfl,Ko,ho,w6,Ig,V1,YX⟩
  have C6:wC K H6 s t ns k2:=C5.off w6 Ig (by omega)
  refine⟨λσ H7=>∃mo fm k3,σ=[some (.ref s),some (.ref t),some (.int n),some (.int m),some (.int c),some (.str sg),some (.ref l),v7,v8,some (.ref o),some (.ref mo)]/\Mf fm/\TupAt (Wo t H7) mo fm/\ai (Wo t H6) (Wo t H7)/\H7 t=some (.lst [.int k3])/\k2<=k3/\k3<=k2+2,?_,?_⟩
  ·refine⟨_,rfl,_,_,rfl,rfl,⟨by decide,by decide⟩,_,_,rfl,rfl,(by show(0:Int)<3;decide),_,_,rfl,rfl,_,rfl,?_⟩
   refine dF (λ_=>?_) λ_=>?_
   ·refine⟨_,rfl,_,_,rfl,rfl,⟨by decide,by decide⟩,_,_,rfl,rfl,(by show(0:Int)<4;decide),by show 2<=sizeLine;decide,λq hq=>?_⟩
    have nq:q≠t:=λz=>by rw[z,Ig]at hq;cases hq
    exact⟨q,(m / 768 % 4,1),k2,rfl,⟨by show(1:Int)<=1;omega,by show(1:Int)<=999;omega,xW (by show _<=m / 768 % 4;omega) (by show m / 768 % 4<=_;omega)⟩,Wo.in nq af,Wo.same (ai.upd hq),ai.upd hq _ _ Ig,by omega,by omega⟩
   ·exact⟨_,rfl,_,rfl,_,rfl,s,t,ns,k2,c,rfl,C6,by omega,λf q H7 k3 L7 w7 Rt Sl Sk hqn hq7=>⟨q,f,k3,rfl,L7.l,Wo.in (qg hq7 Rt (by intro z;cases z)) hq7,w7,Rt,Sl,Sk⟩⟩
  rintro σ H7 ⟨mo,fm,k3,rfl,Kq,hm7,w7,Rt,Sl,Sk⟩
  refine⟨_,rfl,_,rfl,_,rfl,_,rfl,by show 4<=sizeLine;decide,λr hr=>?_⟩
  have s8:ai H7 (upd H7 r (.tup [.str sg,.ref l,.ref o,.ref mo])):=ai.upd hr
  have w8:=Wo.same (t:=t) s8
  exact kk r l o mo rs rows fo fm sg _ k3 hsg hz af (LM.same ((w6.trans w7).trans w8)) sq (Lv dg) ((ho.same w7).same w8) Ko (hm7.same w8) Kq (((w5.trans w6).trans w7).trans w8) (s8 _ _ Rt) (by omega) (by omega)
end
section
variable{P:Program}{w:World}{K:PySem.W.Frag}{mg:Str->Option Value}{base:Heap}
theorem yE {iZ bf jH bu:Addr} {gH aR iO d8:FuncData} {p:Pm} (T:Txt K mg p base) (fq:Dn K mg "_law_prices" mF l6 iZ gH) (aE:Dn K mg "_law_next" fJ l6 bf aR) (cB:aJ P w K mg base ck 1 bf aR l6 (pW K)) (gk:Dn K mg "_law_table" nM L8 jH iO) (DX:aJ P w K mg base ck 4 jH iO L8 (F9 K)) (c7:Dm K "__init__" "Prices.__init__" bT Sj bu d8) (yc:Mk K p.aq bu) (ug:aJ P w K mg base ck 5 bu d8 Sj (JM K p.aq)):aJ P w K mg base ck 7 iZ gH l6 (zF K p.aq):=by
 refine fq.fn.ok jf (λvs H Q E h=>?_) (λcdv A outer s H vs Q E hr h=>?_)
 ·obtain⟨s,t,ns,k,rfl,_⟩:=h
  rfl
 ·obtain⟨s,t,ns,k,rfl,hC,hk,kk⟩:=h
  have hk0:=hC.k0
  refine⟨_,(aj (rT (az DX (hr.mono (by decide)) rfl gk.m gk.fn.kp gk.b .nil aO (aa (pv 0) (aa (pv 1) (aa (aF cK ak (aF b8 (az cB (hr.mono (by decide)) rfl aE.m aE.fn.kp aE.b .nil aO (aa (pv 0) (aa (pv 1) ah))) ak)) ah)))) (m7 (n:=4) rfl (bG (aK (i:=2) jf.nd rfl (Or.inl rfl)) (bG (aK (i:=3) jf.nd rfl (Or.inl rfl)) (bG (aK (i:=4) jf.nd rfl (Or.inl rfl)) (bG (aK (i:=5) jf.nd rfl (Or.inl rfl)) jo))))))
   (ao (aL (Gu yc ug (hr.mono (by decide)) rfl T.HN c7.b .nil aO (aa (pv 2) (aa (pv 3) (aa (pv 4) (aa (pv 5) ah)))))))),?_⟩
  refine⟨_,rfl,_,rfl,_,rfl,_,rfl,s,t,ns,k,rfl,hC,by omega,λm hm hm2=>?_⟩
  refine⟨_,_,rfl,rfl,(by show(0:Int)<4;decide),_,_,rfl,rfl,?_⟩
  obtain⟨n,hn⟩:∃n:Nat,1+m % 4=(n:Int):=⟨(1+m % 4).toNat,by omega⟩
  refine⟨s,t,ns,k+1,n,(by show [V.ref s,V.ref t,V.int (1+m % 4)]=_;rw[hn]),hC.step (by omega),by omega,by omega,by omega,λr l o mo rs rows fo fm sg H5 k5 hsg hz hr LM sq Tu ho Ko hmo Kq w5 I8 k51 k52=>?_⟩
  rw[Wo.set]at w5
  refine⟨r,_,rfl,cP.of hr,rfl,_,_,rfl,_,_,rfl,_,_,rfl,_,_,rfl,rfl,?_⟩
  refine⟨_,rfl,_,rfl,_,rfl,_,rfl,λx dx hx hdx ndx=>?_⟩
  have s6:ai H5 (upd (upd H5 dx (.own x)) x (.ins p.aq dx [])):=ai.at (ai.upd hdx) hx
  have Od:upd (upd H5 dx (.own x)) x (.ins p.aq dx []) x=some (.ins p.aq dx []):=af
  generalize upd (upd H5 dx (.own x)) x (.ins p.aq dx [])=H6 at s6 Od ⊢
  refine⟨x,dx,o,mo,sg,.lst l,rows,fo,fm,rfl,Od,hsg,by omega,((LM.same Wo.sub).same s6).YM,(by rw[hz];exact sq),λr hr f hf=>(Tu r hr f hf).h,TupAt.fr ((ho.same Wo.sub).same s6),Ko.h,TupAt.fr ((hmo.same Wo.sub).same s6),Kq.h,λH7 P7 f7 nf7=>⟨rfl,?_⟩⟩
  have s7:ai H5 H7:=λb u e=>f7 b u (s6 b u e) λz=>by rw[z,hx]at e;cases e
  exact kk x H7 k5 (sg,yM rows,kD fo,kD fm) (P7.wo (s7 _ _ I8) (nf7 t (by rw[s6 _ _ I8];exact λz=>nomatch z))) (by show sg.cps.size<=4;omega) (Wo.back w5 I8 hx) (w5.trans (Wo.same s7)) (s7 _ _ I8) (by omega) (by omega)
theorem EI {mW bf:Addr} {kX aR:FuncData} {p:Pm} (T:Txt K mg p base) (gg:Dn K mg "_law_row" qK TY mW kX) (aE:Dn K mg "_law_next" fJ l6 bf aR) (cB:aJ P w K mg base ck 1 bf aR l6 (pW K)):aJ P w K mg base ck 2 mW kX TY (JD K):=by
 refine gg.fn.ok jq (λvs H Q E h=>?_) (λcdv A outer s H vs Q E hr h=>?_)
 ·obtain⟨s,t,ns,k,n,sg,rfl,_⟩:=h
  rfl
 ·obtain⟨s,t,ns,k,n,sg,rfl,hC,hk,hn,hs0,hs1,kk⟩:=h
  have hk0:=hC.k0
  have lsg:sg.length<=sizeLine:=Nat.le_trans hs1 (by decide)
  refine⟨_,(aj (aC (i:=4) jq.nd rfl (Or.inl rfl) (az cB (hr.mono (by decide)) rfl aE.m aE.fn.kp aE.b .nil aO (aa (pv 0) (aa (pv 1) ah))))
   (aj (aC (i:=5) jq.nd rfl (Or.inl rfl) (aF b8 (aF cM (pv 4) ak) ak))
   (aj (aC (i:=6) jq.nd rfl (Or.inl rfl) bC)
   (aj (cy PassesOwn.never rfl (gC rfl T.jl (aa (aF b8 (pv 4) (aF cK (pv 3) ak)) ah)) (aK (i:=7) jq.nd rfl (Or.inl rfl)) (bE (bN (aP xm (pv 5) ak (aZ _)) (ao (aC (i:=4) jq.nd rfl (Or.inl rfl) (az cB (hr.mono (by decide)) rfl aE.m aE.fn.kp aE.b .nil aO (aa (pv 0) (aa (pv 1) ah))))) aN)
   (ao (aC (i:=6) jq.nd rfl (Or.inl rfl) (aF pA (pv 6) (aU uL (pv 2) (aF b8 (aF cM (pv 4) ak) (aD (bq) rfl T.cY bP (aa (pv 2) ah))) (λ_ _=>rfl)))))))
   (ao (aL (pv 6))))))),?_⟩
  refine⟨_,rfl,_,rfl,s,t,ns,k,rfl,hC,by omega,λm hm hm2=>?_⟩
  refine⟨_,rfl,_,_,rfl,rfl,⟨by decide,by decide⟩,_,_,rfl,rfl,(by show(0:Int)<4;decide),?_⟩
  have hm0:=Int.emod_nonneg m (show((n:Int)+1)≠0 by omega)
  have hm1:=Int.emod_lt_of_pos m (show(0:Int)<(n:Int)+1 by omega)
  refine⟨_,rfl,_,rfl,_,_,rfl,rfl,_,_,rfl,rfl,(by show(0:Int)<(n:Int)+1;omega),_,rfl,by omega,by omega,?_⟩
  have w1:ai (Wo t H) (Wo t (upd H t (.lst [.int (k+1)]))):=by rw[Wo.set];exact ai.refl _
  refine kR (lo:=0) (n:=(m % ((n:Int)+1)).toNat) (λi σ H2=>∃(m1 k1:Int) (f:Str) (v7:Option V),σ=[some (.ref s),some (.ref t),some (.str sg),some (.int n),some (.int m1),some (.int (m / 97 % 4)),some (.str f),v7]/\0<=m1/\Of sg f/\f.cps.size=i/\ai (Wo t H) (Wo t H2)/\H2 t=some (.lst [.int k1])/\k<=k1/\k1<=k+1+(i:Int))
   ⟨m,k+1,_,_,rfl,hm,(λc hc=>by cases hc),rfl,w1,af,by omega,by omega⟩ ?_ ?_
  ·rintro i σ H2 hi ⟨m1,k1,f,v7,rfl,UP,of,hf,w2,Dl,Sn,V2⟩
   refine⟨λσ H3=>∃(m2 k2:Int),σ=[some (.ref s),some (.ref t),some (.str sg),some (.int n),some (.int m2),some (.int (m / 97 % 4)),some (.str f),some (.int (0+(i:Int)))]/\0<=m2/\ai (Wo t H) (Wo t H3)/\H3 t=some (.lst [.int k2])/\k<=k2/\k2<=k1+1,?_,?_⟩
   ·refine⟨_,rfl,_,_,rfl,rfl,_,rfl,?_⟩
    refine dF (λ_=>?_) λ_=>⟨m1,k1,rfl,UP,w2,Dl,Sn,by omega⟩
    refine⟨_,rfl,_,rfl,s,t,ns,k1,rfl,hC.off w2 Dl (by omega),by omega,λm3 h3 _=>⟨m3,k1+1,rfl,h3,by rw[Wo.set];exact w2,af,by omega,by omega⟩⟩
   rintro σ H3 ⟨m2,k2,rfl,Zo,w3,GK,V1,YX⟩
   have i1:=Int.emod_nonneg (m2 / 5) (show((sg.cps.size:Nat):Int)≠0 by omega)
   have i2:=Int.emod_lt_of_pos (m2 / 5) (show(0:Int)<((sg.cps.size:Nat):Int) by omega)
   obtain⟨j,hj⟩:∃j:Nat,(m2 / 5) % ((sg.cps.size:Nat):Int)=(j:Int):=⟨_,(Int.toNat_of_nonneg i1).symm⟩
   have hjl:j<sg.cps.toList.length:=by rw[Array.length_toList];omega
   refine⟨_,rfl,_,rfl,_,rfl,_,_,rfl,rfl,⟨by decide,by decide⟩,_,rfl,_,_,rfl,⟨lsg,rfl⟩,_,_,rfl,rfl,(by show(0:Int)<(sg.cps.size:Int);omega),sg,_,sg.cps.toList[j],rfl,rfl,lsg,?_,_,_,rfl,rfl,?_,?_⟩
   ·show Af sg.cps.toList ((m2 / 5) % ((sg.cps.size:Nat):Int))=_
    rw[hj]
    exact fQ (List.getElem?_eq_getElem hjl)
   ·show f.cps.size+1<=sizeLine
    exact Nat.le_trans (show _<=100 by omega) (by decide)
   ·refine⟨m2,k2,_,_,rfl,Zo,λc hc=>?_,?_,w3,GK,V1,by omega⟩
    ·have e:(f.cps++ #[sg.cps.toList[j]]).toList=f.cps.toList++[sg.cps.toList[j]]:=by simp
     have hc':c∈f.cps.toList++[sg.cps.toList[j]]:=by rw[←e];exact hc
     rcases List.mem_append.mp hc' with hc|hc
     ·exact of c hc
     ·rw[List.mem_singleton.mp hc];exact List.getElem_mem hjl
    ·show(f.cps++ #[sg.cps.toList[j]]).size=i+1
     rw[Array.size_append,hf]
     rfl
  ·rintro σ H2 ⟨m1,k1,f,v7,rfl,UP,of,hf,w2,Dl,Sn,V2⟩
   exact⟨_,rfl,kk f H2 k1 of (by omega) w2 Dl Sn (by omega)⟩
end
section
variable{P:Program}{w:World}{K:PySem.W.Frag}{mg:Str->Option Value}{base:Heap}
theorem xr {fK:Addr} {dM:FuncData} {p:Pm} (T:Txt K mg p base) (bD:Dn K mg "_law_same" m5 N6 fK dM)  :aJ P w K mg base ck 1 fK dM N6 (wj K 0):=by
 refine bD.fn.ok uV (λvs H Q E h=>?_) (λcdv A outer s H vs Q E hr h=>?_)
 ·obtain⟨v,u,rfl,_⟩:=h
  rfl
 ·obtain⟨v,u,rfl,hE,k⟩:=h
  refine⟨_,(aj (bN (PW.pt (JW (lW (aD (bF) rfl T.bB br (aa (pv 1) (aa (fO (v:=.ty "list") rfl T.wD tZ rfl) ah)))) (EA (lW (aD (bF) rfl T.bB br (aa (pv 1) (aa (fO (v:=.ty "tuple") rfl T.qF oS rfl) ah))))))) eN aN)
   (aj (bN (aP EE (pv 1) uy (by with_unfolding_all rfl)) eN aN)
   (aj (bN (lW (aD (bF) rfl T.bB br (aa (pv 1) (aa (fO (v:=.ty "str") rfl T.FZ Bk rfl) ah)))) (ao (aL (ng (aD (bF) rfl T.bB br (aa (pv 0) (aa (fO (v:=.ty "str") rfl T.FZ Bk rfl) ah))) (o8 (g9 gi (pv 0) (pv 1) (aZ _)))))) aN)
   (ao (aL (ng (aD (bF) rfl T.bB br (aa (pv 0) (aa (fO (v:=.ty "int") rfl T.Jd Fy rfl) ah))) (ng (Ke (aD (bF) rfl T.bB br (aa (pv 0) (aa (fO (v:=.ty "bool") rfl T.Je G3 rfl) ah)))) (o8 (g9 gi (pv 0) (pv 1) (aZ _)))))))))),?_⟩
  rcases hE with⟨x,rfl,rfl⟩|⟨n,rfl,rfl⟩
  ·refine⟨_,rfl,_,_,_,_,rfl,.inl (.str x),tK,_,rfl,kI ?_⟩
   refine⟨_,rfl,_,_,_,_,rfl,.inl (.str x),rC,_,rfl,kI ?_⟩
   refine⟨_,rfl,rfl,_,rfl,kI ?_⟩
   refine⟨_,rfl,_,_,_,_,rfl,.inl (.str x),kh,_,rfl,pC ?_⟩
   refine⟨_,rfl,_,_,_,_,rfl,.inl (.str x),kh,_,rfl,pC ?_⟩
   refine⟨_,rfl,_,rfl,rfl,?_⟩
   rw[decide_eq_true rfl]
   exact k H (ai.refl H)
  ·refine⟨_,rfl,_,_,_,_,rfl,.inl (.int n),tL,_,rfl,kI ?_⟩
   refine⟨_,rfl,_,_,_,_,rfl,.inl (.int n),rD,_,rfl,kI ?_⟩
   refine⟨_,rfl,rfl,_,rfl,kI ?_⟩
   refine⟨_,rfl,_,_,_,_,rfl,.inl (.int n),vd,_,rfl,kI ?_⟩
   refine⟨_,rfl,_,_,_,_,rfl,.inl (.int n),kh,_,rfl,pC ?_⟩
   refine⟨_,rfl,_,_,_,_,rfl,.inl (.int n),tM,_,rfl,_,rfl,pC ?_⟩
   refine⟨_,rfl,_,rfl,rfl,?_⟩
   rw[decide_eq_true rfl]
   exact k H (ai.refl H)
theorem rq {d:Nat} {fK:Addr} {dM:FuncData} {p:Pm} (T:Txt K mg p base) (bD:Dn K mg "_law_same" m5 N6 fK dM) (nD:aJ P w K mg base ck (d+1) fK dM N6 (wj K d)):aJ P w K mg base ck (d+2) fK dM N6 (wj K (d+1)):=by
 refine bD.fn.ok uV (λvs H Q E h=>?_) (λcdv A outer s H vs Q E hr h=>?_)
 ·obtain⟨v,u,rfl,_⟩:=h
  rfl
 ·obtain⟨v,u,rfl,hE,k⟩:=h
  refine⟨_,(aj (bN (PW.pt (JW (lW (aD (bF) rfl T.bB br (aa (pv 1) (aa (fO (v:=.ty "list") rfl T.wD tZ rfl) ah)))) (EA (lW (aD (bF) rfl T.bB br (aa (pv 1) (aa (fO (v:=.ty "tuple") rfl T.qF oS rfl) ah))))))) (aj (bN (PW.pt (JW (aP qf (aD (bF) rfl T.bB br (aa (pv 0) (aa (fO (v:=.ty "list") rfl T.wD tZ rfl) ah))) (aD (bF) rfl T.bB br (aa (pv 1) (aa (fO (v:=.ty "list") rfl T.wD tZ rfl) ah))) (aZ _)) (EA (aP qf (aD (bF) rfl T.bB br (aa (pv 0) (aa (fO (v:=.ty "tuple") rfl T.qF oS rfl) ah))) (aD (bF) rfl T.bB br (aa (pv 1) (aa (fO (v:=.ty "tuple") rfl T.qF oS rfl) ah))) (aZ _))))) (ao (aL Km)) aN)
   (ao (aL (ng (g9 gi (aD (bq) rfl T.cY bP (aa (pv 0) ah)) (aD (bq) rfl T.cY bP (aa (pv 1) ah)) (aZ _)) (o8 (aD (vp rfl) rfl T.NL LH (aa (o9 (N:=["_law_a","_law_b"]) rfl (λ_=>⟨[],dm.plain (by decide +kernel) rfl (by decide +kernel) (by decide +kernel)⟩) (EC rfl rfl T.Jc (aa (pv 0) (aa (pv 1) ah))) (λ_ _ _ _ _ _ _=>(Gq (K':=K) (n:=2) rfl rfl (bG (aK (i:=0) (show(["_law_a","_law_b"]:List Str).Nodup by decide +kernel) rfl (Or.inl rfl)) (bG (aK (i:=1) (show(["_law_a","_law_b"]:List Str).Nodup by decide +kernel) rfl (Or.inl rfl)) jo)))) (λ_ _ _ _ _ _ _=>(az nD (hr.mono (by omega)) rfl bD.m bD.fn.kp bD.b .nil aO (aa (pv 0) (aa (pv 1) ah))))) ah))))))) aN)
   (aj (bN (aP EE (pv 1) uy (by with_unfolding_all rfl)) eN aN)
   (aj (bN (lW (aD (bF) rfl T.bB br (aa (pv 1) (aa (fO (v:=.ty "str") rfl T.FZ Bk rfl) ah)))) (ao (aL (ng (aD (bF) rfl T.bB br (aa (pv 0) (aa (fO (v:=.ty "str") rfl T.FZ Bk rfl) ah))) (o8 (g9 gi (pv 0) (pv 1) (aZ _)))))) aN)
   (ao (aL (ng (aD (bF) rfl T.bB br (aa (pv 0) (aa (fO (v:=.ty "int") rfl T.Jd Fy rfl) ah))) (ng (Ke (aD (bF) rfl T.bB br (aa (pv 0) (aa (fO (v:=.ty "bool") rfl T.Je G3 rfl) ah)))) (o8 (g9 gi (pv 0) (pv 1) (aZ _)))))))))),?_⟩
  rcases hE with(⟨x,rfl,rfl⟩|⟨n,rfl,rfl⟩)|⟨p,q,xs,ys,rfl,rfl,hp,hq,hlen,UR,hall⟩
  ·refine⟨_,rfl,_,_,_,_,rfl,.inl (.str x),tK,_,rfl,kI ?_⟩
   refine⟨_,rfl,_,_,_,_,rfl,.inl (.str x),rC,_,rfl,kI ?_⟩
   refine⟨_,rfl,rfl,_,rfl,kI ?_⟩
   refine⟨_,rfl,_,_,_,_,rfl,.inl (.str x),kh,_,rfl,pC ?_⟩
   refine⟨_,rfl,_,_,_,_,rfl,.inl (.str x),kh,_,rfl,pC ?_⟩
   refine⟨_,rfl,_,rfl,rfl,?_⟩
   rw[decide_eq_true rfl]
   exact k H (ai.refl H)
  ·refine⟨_,rfl,_,_,_,_,rfl,.inl (.int n),tL,_,rfl,kI ?_⟩
   refine⟨_,rfl,_,_,_,_,rfl,.inl (.int n),rD,_,rfl,kI ?_⟩
   refine⟨_,rfl,rfl,_,rfl,kI ?_⟩
   refine⟨_,rfl,_,_,_,_,rfl,.inl (.int n),vd,_,rfl,kI ?_⟩
   refine⟨_,rfl,_,_,_,_,rfl,.inl (.int n),kh,_,rfl,pC ?_⟩
   refine⟨_,rfl,_,_,_,_,rfl,.inl (.int n),tM,_,rfl,_,rfl,pC ?_⟩
   refine⟨_,rfl,_,rfl,rfl,?_⟩
   rw[decide_eq_true rfl]
   exact k H (ai.refl H)
  ·have tp:∀{H':Hp} {a:Addr} {zs:List V},cP K H' a zs->(t7 K H' (.ref a) (.type "tuple")\/∃b ws,V.ref a= .ref b/\cP K H' b ws/\Value.type "tuple" = .type "tuple"):=λ{H' a zs} z=>.inr ⟨a,zs,rfl,z,rfl⟩
   refine⟨_,rfl,_,_,_,_,rfl,tp hq,ny,_,rfl,kI ?_⟩
   refine⟨_,rfl,_,_,_,_,rfl,tp hq,kh,_,rfl,pC ?_⟩
   refine⟨_,rfl,_,_,_,_,rfl,tp hp,ny,_,rfl,_,_,_,_,rfl,tp hq,ny,rfl,_,rfl,kI ?_⟩
   refine⟨_,rfl,_,_,_,_,rfl,tp hp,kh,_,rfl,_,_,_,_,rfl,tp hq,kh,rfl,_,rfl,kI ?_⟩
   refine⟨_,rfl,_,_,rfl,.inr ⟨_,hp,rfl⟩,_,rfl,_,_,rfl,.inr ⟨_,hq,rfl⟩,rfl,_,rfl,?_⟩
   refine qo (λ_=>?_) λz=>absurd (congrArg Nat.cast hlen) z
   refine⟨_,rfl,_,rfl,.tup p,.tup q,_,_,rfl,hp,hq,λl hl=>?_⟩
   refine Fw xs.length (λ_=>V.bl true) hl (Nat.lt_of_le_of_lt UR (by decide)) (λi H2 s2 hi=>?_) (λH2 s2=>⟨_,_,ai.tup s2 hp,ai.tup s2 hq,.inl (Nat.le_refl _)⟩) (λi z H2 H3 R s2 hi hy hR=>?_) λH2 s2 hl2=>?_
   ·exact⟨_,_,_,_,ai.tup s2 hp,ai.tup s2 hq,List.getElem?_eq_getElem hi,List.getElem?_eq_getElem (by rw[←hlen];exact hi)⟩
   ·obtain⟨p',x',y',rfl,V5,rfl,hxy⟩:=hy
    obtain⟨ex,ey⟩:=hxy _ _ (ai.tup s2 hp) (ai.tup s2 hq)
    refine⟨p',_,rfl,cP.of af,rfl,_,_,rfl,_,_,rfl,rfl,Kp.rep _ _,?_⟩
    exact⟨_,rfl,_,rfl,x',y',rfl,(hall i x' y' ex ey).same (s2.trans (ai.upd V5)),λH5 s5=>hR H5 ((ai.upd V5).trans s5)⟩
   ·refine⟨l,(List.range xs.length).map λ_=>true,rfl,bZ.of (by rw[hl2,List.map_map];rfl),?_⟩
    rw[show((List.range xs.length).map λ_=>true).all id=true from List.all_eq_true.mpr λb hb=>by
     obtain⟨_,_,rfl⟩:=List.mem_map.mp hb
     rfl]
    exact k H2 s2
end
section
variable{P:Program}{w:World}{K:PySem.W.Frag}{mg:Str->Option Value}{base:Heap}
theorem vJ {gb:Addr} {eW:FuncData} {p:Pm} (T:Txt K mg p base) (cW:Dn K mg "_law_odd_rows" j4 TX gb eW)  :aJ P w K mg base ck 1 gb eW TX (JG K p.aq):=by
 refine cW.fn.ok cH (λvs H Q E h=>?_) (λcdv A outer s H vs Q E hr h=>?_)
 ·obtain⟨m,pr,T1,f,g,rfl,_⟩:=h
  rfl
 ·obtain⟨m,pr,T1,f,g,rfl,hm,hP,h4,of,og,hf,hg,kk⟩:=h
  have lf:f.length<=sizeLine:=Nat.le_trans hf (by decide)
  have lg:g.length<=sizeLine:=Nat.le_trans hg (by decide)
  refine⟨_,(bE (aC (i:=4) cH.nd rfl (Or.inl rfl) (aU bM (CJ (N:=["_law_sign","_law_prices_here"]) rfl (dm.vm (nt:=1) (ix:=[1]) rfl (by decide +kernel) (by decide +kernel) (by kernel_rfl) rfl (by kernel_rfl)) (ED bC) (λ_ _ _ _ _ _ _=>(aK (i:=0) (show(["_law_sign","_law_prices_here"]:List Str).Nodup by decide +kernel) rfl (Or.inl rfl))) (λ_ _ _ _ _ _ _=>(pv 0)) (λ_ _ _ _ _ _ _=>(aP sY (pv 0) (MI (K':=K) rfl (pv 1) rfl) (by with_unfolding_all rfl)))) ak (λ_ _=>rfl)))
   (aj (aC (i:=5) cH.nd rfl (Or.inl rfl) (g6 (aa (pv 2) (aa (pv 3) ah))))
   (aj (aC (i:=6) cH.nd rfl (Or.inl rfl) uy)
   (bE (cy PassesOwn.never rfl (gC rfl T.jl (aa ak ah)) (aK (i:=7) cH.nd rfl (Or.inl rfl)) (ao (bN (aP qf (aF b8 (pv 0) ak) (pv 7) (aZ _)) (aj (aC (i:=8) cH.nd rfl (Or.inl rfl) (aU bM (pv 5) (pv 7) (λ_ _=>rfl)))
   (bE (aC (i:=9) cH.nd rfl (Or.inl rfl) (aF b8 (aF cM (pv 0) (aF cK ak (aF lY ak (pv 7)))) (aF cK (aD (bq) rfl T.cY bP (aa (pv 8) ah)) ak)))
   (aj (rT (aF pA (aF pA (CD JQ (pv 8) Gp (Gn (pv 9))) (pv 4)) (CD JQ (pv 8) (Gn (pv 9)) Gp)) (AH (pv 5) (pv 7) set_list))
   (ao (bN (aP EE (pv 6) uy (by with_unfolding_all rfl)) (ao (aC (i:=6) cH.nd rfl (Or.inl rfl) (bA (aa (pv 7) (aa (pv 9) ah))))) aN))))) aN)))
   (ao (aL (bA (aa (pv 5) (aa (pv 6) ah))))))))),?_⟩
  refine⟨λσ H2=>∃c:Nat,c∉T1.1.cps.toList/\σ=[some (.int m),some (.ref pr),some (.str f),some (.str g),some (.str ⟨#[c]⟩),none,none,none,none,none]/\ai H H2,?_,?_⟩
  ·refine⟨_,rfl,λl hl=>?_⟩
   have e9:(Str.ofString "qxQX07+~ ").cps.size=9:=by kernel_rfl
   obtain⟨_,_,_,_,_,_,_,dx,Pp,o,mo,d,kvs,I0,_⟩:=id hP
   refine G0 9 (λi=>!decide (uD.getD i 0∈T1.1.cps.toList)) (λi=>sg (uD.getD i 0)) hl (by decide) (λi H2 s2 hi=>?_) (λH2 s2=>?_) (λi y H2 H3 R S s2 hi hy hR hS=>?_) λH2 s2 hl2=>?_
   ·show i<_;rw[e9];exact hi
   ·show _<=9;rw[e9];exact Nat.le_refl _
   ·obtain⟨rfl,c,hc,rfl⟩:=hy
    have ec:uD.getD i 0=c:=nX (by rw[←MQ];exact jk hc)
    rw[ec]at hR hS
    refine⟨Kp.JR,_,rfl,_,rfl,pr,_,dx,_,_,rfl,s2 _ _ I0,T.aY,T.fR,pG,_,_,rfl,rfl,_,rfl,?_⟩
    rw[StrLaws.found_one]
    by_cases q:c∈T1.1.cps.toList
    ·rw[decide_eq_true q]at hS ⊢
     exact ve (hS rfl _ (ai.refl _))
    ·rw[decide_eq_false q]at hR ⊢
     exact zV ⟨_,rfl,hR rfl _ (ai.refl _)⟩
   ·have BU:=MR h4
    have e:((List.range 9).filter λi=>!decide (uD.getD i 0∈T1.1.cps.toList)).map (λi=>sg (uD.getD i 0))=(uZ T1.1).map sg:=by
     unfold uZ
     rw[←GQ uD 0,List.map_map]
     rfl
    rw[e]at hl2
    have hjl:0<(uZ T1.1).length:=by omega
    exact⟨l,_,_,_,rfl,rfl,bZ.of hl2,(show Af _ ((0:Nat):Int)=_ from fQ (by rw[List.getElem?_map,List.getElem?_eq_getElem hjl];rfl)),(uZ T1.1)[0],Q0 (List.getElem_mem hjl),rfl,s2⟩
  rintro σ H1 ⟨c,hc,rfl,s1⟩
  refine⟨_,rfl,_,rfl,by show 2<=sizeLine;decide,λlr hlr=>?_⟩
  have m0:=Int.emod_nonneg (m / 3) (show(f.cps.size:Int)+1≠0 by omega)
  have m1:=Int.emod_lt_of_pos (m / 3) (show(0:Int)<(f.cps.size:Int)+1 by omega)
  have n0:=Int.emod_nonneg (m / 50) (show(g.cps.size:Int)+1≠0 by omega)
  have n1:=Int.emod_lt_of_pos (m / 50) (show(0:Int)<(g.cps.size:Int)+1 by omega)
  obtain⟨a1,ha1⟩:∃a:Nat,m / 3 % ((f.cps.size:Int)+1)=(a:Int):=⟨_,(Int.toNat_of_nonneg m0).symm⟩
  obtain⟨b1,hb1⟩:∃a:Nat,m / 50 % ((g.cps.size:Int)+1)=(a:Int):=⟨_,(Int.toNat_of_nonneg n0).symm⟩
  have a1f:(a1:Int)<=(f.cps.size:Int):=by omega
  have b1g:(b1:Int)<=(g.cps.size:Int):=by omega
  have zf:=GH (c:=c) (Int.natCast_nonneg a1) a1f
  have zg:=GH (c:=c) (Int.natCast_nonneg b1) b1g
  have Bf:=Ae (b:=f) (Int.natCast_nonneg a1) a1f of hc
  have Bg:=Ae (b:=g) (Int.natCast_nonneg b1) b1g og hc
  rw[Int.toNat_natCast]at Bf Bg
  refine⟨λσ H5=>∃(a b:Str) (d:Addr) (i j:Nat) (v7 v8 v9:Option V),σ=[some (.int m),some (.ref pr),some (.str f),some (.str g),some (.str ⟨#[c]⟩),some (.ref lr),some (.ref d),v7,v8,v9]/\ai H1 H5/\H5 lr=some (.lst [.str a,.str b])/\uu T1.1 a b i j/\a.cps.size<=20/\b.cps.size<=20/\H5 d=some (.tup [.int (i:Int),.int (j:Int)]),?_,?_⟩
  ·refine⟨2,rfl,by decide,by decide,?_⟩
   refine kR (lo:=0) (n:=2) (λi σ H5=>∃(a b:Str) (v:V) (v7 v8 v9:Option V),σ=[some (.int m),some (.ref pr),some (.str f),some (.str g),some (.str ⟨#[c]⟩),some (.ref lr),some v,v7,v8,v9]/\ai H1 H5/\H5 lr=some (.lst [.str a,.str b]) ∧
    ((i=0/\a=f/\b=g/\v= .gB)\/(i=1/\b=g/\m % 3=0/\a=f/\v= .gB)\/(1<=i/\m % 3≠0/\a=yO f a1 c/\(b=g\/b=yO g b1 c)/\(i=1->b=g)/\∃d,v= .ref d/\H5 d=some (.tup [.int ((0:Nat):Int),.int (a1:Int)]))\/(i=2/\a=f/\b=yO g b1 c/\∃d,v= .ref d/\H5 d=some (.tup [.int ((1:Nat):Int),.int (b1:Int)]))))
    ⟨f,g,.gB,_,_,_,rfl,ai.upd hlr,af,.inl ⟨rfl,rfl,rfl,rfl⟩⟩ ?_ ?_
   ·rintro i σ H5 hi ⟨a,b,v,v7,v8,v9,rfl,s5,A0,hcn⟩
    refine⟨_,rfl,_,_,rfl,rfl,(by show(0:Int)<3;decide),_,rfl,rfl,_,rfl,uM (λhk=>?_) λhk=>?_⟩
    ·obtain⟨x,sp,hx,D7,hxz,acC⟩:∃(x:Str) (sp:Nat),Af [V.str a,.str b] (0+(i:Int))=some (.str x)/\(x=f/\sp=a1/\i=0\/x=g/\sp=b1/\i=1)/\(i=0->x=a/\sp=a1)/\(i=1->x=b/\sp=b1):=by
      rcases(show i=0\/i=1 by omega)with rfl|rfl
      ·refine⟨a,a1,rfl,.inl ⟨?_,rfl,rfl⟩,λ_=>⟨rfl,rfl⟩,λz=>absurd z (by decide)⟩
       rcases hcn with⟨_,h,_⟩|⟨z,_⟩|⟨z,_⟩|⟨z,_⟩
       ·exact h
       all_goals exact absurd z (by decide)
      ·refine⟨b,b1,rfl,.inr ⟨?_,rfl,rfl⟩,(λz=>absurd z (by decide)),λ_=>⟨rfl,rfl⟩⟩
       rcases hcn with⟨z,_⟩|⟨_,h,_⟩|⟨_,_,_,_,h,_⟩|⟨z,_⟩
       ·exact absurd z (by decide)
       ·exact h
       ·exact h rfl
       ·exact absurd z (by decide)
     have hxs:x.cps.size<=12/\(sp:Int)<=(x.cps.size:Int):=by rcases D7 with⟨rfl,rfl,_⟩|⟨rfl,rfl,_⟩<;>omega
     have hsv:m / (3+47*(0+(i:Int))) % ((x.cps.size:Int)+1)=(sp:Int):=by
      rcases D7 with⟨rfl,rfl,rfl⟩|⟨rfl,rfl,rfl⟩
      ·exact ha1
      ·exact hb1
     have lx:x.length<=sizeLine:=Nat.le_trans hxs.1 (by decide)
     have l1:=Txt.slice_le x none (some (sp:Int))
     have l2:=Txt.slice_le x (some (sp:Int)) none
     have xl:x.length<=12:=hxs.1
     have l3:(Txt.slice x none (some (sp:Int))++(⟨#[c]⟩:Str)).length=(Txt.slice x none (some (sp:Int))).length+1:=by
      show((Txt.slice x none (some (sp:Int))).cps++ #[c]).size=_
      rw[Array.size_append]
      rfl
     refine⟨_,rfl,_,rfl,lr,_,_,_,rfl,rfl,bZ.of A0,hx,?_⟩
     refine⟨λσ H6=>σ=[some (.int m),some (.ref pr),some (.str f),some (.str g),some (.str ⟨#[c]⟩),some (.ref lr),some v,some (.int (0+(i:Int))),some (.str x),some (.int (sp:Int))]/\H5=H6,?_,?_⟩
     ·refine⟨_,rfl,_,rfl,_,_,rfl,rfl,.inl ⟨by decide,by decide⟩,_,_,rfl,rfl,_,_,rfl,rfl,⟨by show(0:Int)<3+47*(0+(i:Int));omega,by show 3+47*(0+(i:Int))<1073741824;omega⟩,_,rfl,_,_,rfl,⟨lx,rfl⟩,_,_,rfl,rfl,_,_,rfl,rfl,(by show(0:Int)<(x.cps.size:Int)+1;omega),?_,rfl⟩
      rw[←hsv]
      rfl
     rintro σ _ ⟨rfl,rfl⟩
     refine⟨_,rfl,_,rfl,_,rfl,x,rfl,lx,_,rfl,_,_,rfl,rfl,Nat.le_trans (show _+1<=100 by omega) (by decide),_,rfl,_,rfl,_,rfl,x,rfl,lx,_,_,rfl,rfl,Nat.le_trans (show _<=100 by omega) (by decide),?_⟩
     refine⟨_,rfl,_,rfl,lr,_,_,i,rfl,rfl,A0,by rw[Int.zero_add];exact E6 hi,?_⟩
     have s6:ai H1 (upd H5 lr (.lst ([V.str a,.str b].set i (.str (yO x sp c))))):=ai.at s5 hlr
     have RB:upd H5 lr (.lst ([V.str a,.str b].set i (.str (yO x sp c)))) lr=some (.lst ([V.str a,.str b].set i (.str (yO x sp c)))):=af
     have hd6:∀{d ys},H5 d=some (.tup ys)->upd H5 lr (.lst ([V.str a,.str b].set i (.str (yO x sp c)))) d=some (.tup ys):=λ{d ys} h=>by rw[au (λz=>by rw[z,A0]at h;cases h)];exact h
     rcases D7 with⟨rfl,rfl,rfl⟩|⟨rfl,rfl,rfl⟩
     ·obtain⟨_,rfl⟩:_/\v= .gB:=by
       rcases hcn with⟨_,_,_,h⟩|⟨z,_⟩|⟨z,_⟩|⟨z,_⟩
       ·exact⟨trivial,h⟩
       all_goals exact absurd z (by decide)
      have hbg:b=g:=by
       rcases hcn with⟨_,_,h,_⟩|⟨z,_⟩|⟨z,_⟩|⟨z,_⟩
       ·exact h
       all_goals exact absurd z (by decide)
      refine⟨_,rfl,rfl,_,rfl,itd rfl ⟨_,rfl,_,rfl,by show 2<=sizeLine;decide,λd hd=>?_⟩⟩
      have s7:=ai.upd (o:=.tup [.int (0+((0:Nat):Int)),.int (sp:Int)]) hd
      exact⟨_,b,_,_,_,_,rfl,s6.trans s7,s7 _ _ RB,.inr (.inr (.inl ⟨Nat.le_refl _,hk,rfl,.inl hbg,λ_=>hbg,d,rfl,af⟩))⟩
     ·rcases hcn with⟨z,_⟩|⟨_,_,h3,rfl,rfl⟩|⟨_,h3,rfl,_,_,d,rfl,hd⟩|⟨z,_⟩
      ·exact absurd z (by decide)
      ·refine⟨_,rfl,rfl,_,rfl,itd rfl ⟨_,rfl,_,rfl,by show 2<=sizeLine;decide,λd hd=>?_⟩⟩
       have s7:=ai.upd (o:=.tup [.int (0+((1:Nat):Int)),.int (sp:Int)]) hd
       exact⟨_,_,_,_,_,_,rfl,s6.trans s7,s7 _ _ RB,.inr (.inr (.inr ⟨rfl,rfl,rfl,d,rfl,af⟩))⟩
      ·exact⟨_,rfl,rfl,_,rfl,YY (λz=>by cases z) ⟨_,_,_,_,_,_,rfl,s6,RB,.inr (.inr (.inl ⟨by decide,h3,rfl,.inr rfl,(λz=>absurd z (by decide)),d,rfl,hd6 hd⟩))⟩⟩
      ·exact absurd z (by decide)
    ·refine⟨a,b,v,_,_,_,rfl,s5,A0,?_⟩
     rcases hcn with⟨rfl,rfl,rfl,rfl⟩|⟨rfl,rfl,h3,rfl,rfl⟩|⟨h1,h3,ha,hb,_,hd⟩|⟨rfl,_⟩
     ·exact .inr (.inl ⟨rfl,rfl,hk,rfl,rfl⟩)
     ·rw[h3]at hk;exact absurd hk (by decide)
     ·exact .inr (.inr (.inl ⟨by omega,h3,ha,hb,λz=>by omega,hd⟩))
     ·exact absurd hi (by decide)
   ·rintro σ H5 ⟨a,b,v,v7,v8,v9,rfl,s5,A0,⟨z,_⟩|⟨z,_⟩|⟨_,hm3,rfl,hb,_,d,rfl,hd⟩|⟨_,rfl,rfl,d,rfl,hd⟩⟩
    ·cases z
    ·cases z
    ·refine⟨_,b,d,0,a1,_,_,_,rfl,s5,A0,.inl ⟨rfl,Bf.1,Bf.2⟩,by unfold yO;omega,?_,hd⟩
     rcases hb with rfl|rfl
     ·omega
     ·unfold yO;omega
    ·exact⟨a,_,d,1,b1,_,_,_,rfl,s5,A0,.inr ⟨rfl,of,Bg.1,Bg.2⟩,by omega,by unfold yO;omega,hd⟩
  rintro σ H5 ⟨a,b,d,i,j,v7,v8,v9,rfl,s5,A0,hB,za,zb,hd⟩
  refine⟨_,rfl,_,rfl,by show 2<=sizeLine;decide,λr hr=>?_⟩
  have s6:=ai.upd (o:=.tup [.ref lr,.ref d]) hr
  exact kk r lr d a b i j _ ((s1.trans s5).trans s6) af (s6 _ _ A0) (s6 _ _ hd) hB za zb
end
section
variable{P:Program}{w:World}{K:PySem.W.Frag}{mg:Str->Option Value}{base:Heap}
theorem AR {jL kZ:Addr} {iS jB:FuncData} {p:Pm} (T:Txt K mg p base) (bX:Dn K mg "_law_asked" nQ TV jL iS) (iB:Dn K mg "place_at" oY Ma kZ jB) (FN:aJ P w K mg base (vz P w) 9 kZ jB Ma (zG K p.aq p.aA p.aB)):aJ P w K mg base ck 11 jL iS TV (Gi K p.aq):=by
 refine bX.fn.ok gv (λvs H Q E h=>?_) (λcdv A outer s H vs Q E hr h=>?_)
 ·obtain⟨pr,T1,f,s,u,rfl,_⟩:=h
  rfl
 ·obtain⟨pr,T1,f,s,u,rfl,hP,hf,hs,kk⟩:=h
  refine⟨_,(bE (QS RL (λ_ _ _ LT PO=>(ao (aC (i:=4) gv.nd rfl (Or.inl rfl) (bA (aa bC (aa (Kh FN (hr.mono (by decide)) rfl iB.m iB.fn.kp iB.b .nil LT (aa (pv 0) (aa (pv 1) (aa (pv 2) (aa (pv 3) ah))))) ah)))))) (N1 (i:=6) gv.nd rfl rfl rfl T.xD T.Ef (λea=>(aj (aC (i:=5) gv.nd rfl (Or.inl rfl) (aD (xV (K':=K) rfl) rfl T.bB br (aa (pv 6) (aa (bA (aa (e7 (v:=.ref p.gh) rfl T.EZ rfl) (aa (e7 (v:=.ref p.eG) rfl T.C9 rfl) (aa (e7 (v:=.ref p.bz) rfl T.vc rfl) (aa (e7 (v:=.ref p.iJ) rfl T.HS rfl) (aa (e7 (v:=.ref p.iI) rfl T.HR rfl) (aa (e7 (v:=.ref p.eF) rfl T.C8 rfl) (aa (e7 (v:=.ref p.kC) rfl T.KH rfl) (aa (e7 (v:=.ref p.aA) rfl T.uF rfl) (aa (e7 (v:=.ref p.iH) rfl T.HQ rfl) (aa (e7 (v:=.ref p.iG) rfl T.HP rfl) ah))))))))))) ah))))
   (ao (aC (i:=4) gv.nd rfl (Or.inl rfl) (bA (aa bC (aa (oJ (IF) rfl T.Jd Fy (aa (pv 5) ah)) ah))))))) (N1 (i:=6) gv.nd rfl rfl rfl T.uF T.Hi (λea=>(ao (aC (i:=4) gv.nd rfl (Or.inl rfl) (bA (aa bC (aa (CH (K':=K) rfl (pv 6) rfl) (aa (CH (K':=K) rfl (pv 6) rfl) ah))))))) QV)))
   (ao (aL (pv 4)))),?_⟩
  refine⟨λσ' H'=>∃r v5 v6,σ'=[some (.ref pr),some (.str f),some (.str s),some (.int u),some (.ref r),v5,v6]/\Q (.ref r) H',?_,?_⟩
  ·refine⟨_,rfl,_,rfl,_,rfl,_,rfl,pr,T1,f,s,u,rfl,hP,hf,hs,λof os u0 u1=>?_,λi j bad dx H' s' hd=>?_,λof os hu H' s'=>?_⟩
   ·rcases kk with⟨_,_,vQ,vP,_,_,kk⟩|⟨_,_,hn,_⟩|⟨i,j,hB,_⟩
    ·refine⟨vQ,vP,λt ht r H' s' hr=>⟨by show 2<=sizeLine;decide,λt1 ht1=>?_⟩⟩
     have s2:=ai.upd (o:=.tup [.str (Str.ofString "told"),.ref r]) ht1
     exact⟨t1,_,_,rfl,kk t t1 r _ (s'.trans s2) ht af (s2 _ _ hr)⟩
    ·exact absurd ⟨u0,u1⟩ hn
    ·exact absurd ⟨of,os⟩ hB.no
   ·rcases kk with⟨of,os,_⟩|⟨of,os,_⟩|⟨i',j',hB,kk⟩
    ·exact absurd ⟨of,os⟩ bad.no
    ·exact absurd ⟨of,os⟩ bad.no
    ·obtain⟨rfl,rfl⟩:=hB.uniq bad
     refine⟨_,_,rfl,T.tH,kI ⟨_,_,rfl,T.uI,pC λea ZC=>?_⟩⟩
     have s2:ai H' (upd H' ea (Lq ea (.ref p.aA) (some dx))):=ai.upd ZC
     refine⟨_,rfl,ea,_,dx,_,_,rfl,af,s2 _ _ hd,T.zu,T.tF,Ll,_,rfl,ea,_,dx,_,_,rfl,af,s2 _ _ hd,T.zu,T.qi,Fj,by show 3<=sizeLine;decide,λt1 ht1=>?_⟩
     exact⟨t1,_,_,rfl,kk t1 _ ((s'.trans s2).trans (ai.upd ht1)) af⟩
   ·rcases kk with⟨_,_,_,_,u0,u1,_⟩|⟨_,_,_,kk⟩|⟨i,j,hB,_⟩
    ·exact absurd ⟨u0,u1⟩ hu
    ·refine⟨_,_,rfl,T.sj,pC λea ZC=>?_⟩
     have s2:ai H' (upd H' ea (Lq ea (.ref p.aB) none)):=ai.upd ZC
     have k10:PySem.W.kitAny K (.ref p.aB) ([p.gh,p.eG,p.bz,p.iJ,p.iI,p.eF,p.kC,p.aA,p.iH,p.iG].map Value.ref)=some false:=(jh T.sr (jh T.qZ (jh T.qY (jh T.tR (jh T.tQ (jh T.qX (jh T.uJ (jh T.tP (jh T.tO (jh T.tN Na))))))))))
     refine⟨_,rfl,by show 10<=sizeLine;decide,λt1 ht1=>?_⟩
     have s3:=s2.trans (ai.upd (o:=.tup ([p.gh,p.eG,p.bz,p.iJ,p.iI,p.eF,p.kC,p.aA,p.iH,p.iG].map V.ref)) ht1)
     have he3:upd (upd H' ea (Lq ea (.ref p.aB) none)) t1 (.tup ([p.gh,p.eG,p.bz,p.iJ,p.iI,p.eF,p.kC,p.aA,p.iH,p.iG].map V.ref)) ea=some (Lq ea (.ref p.aB) none):=ai.upd ht1 _ _ af
     refine⟨ea,p.aB,none,t1,[p.gh,p.eG,p.bz,p.iJ,p.iI,p.eF,p.kC,p.aA,p.iH,p.iG],false,rfl,af,he3,.inl rfl,T.Eb,k10,?_⟩
     refine⟨_,rfl,.inr ⟨false,rfl,by show 2<=sizeLine;decide,λt2 Dl=>?_⟩⟩
     exact⟨t2,_,_,rfl,kk t2 _ ((s'.trans s3).trans (ai.upd Dl)) af⟩
    ·exact absurd ⟨of,os⟩ hB.no
  ·rintro σ' H1 ⟨r,v5,v6,rfl,q⟩
   exact⟨_,rfl,q⟩
theorem yF {i0:Addr} {gJ:FuncData} {p:Pm} (T:Txt K mg p base) (fz:Dn K mg "_law_firsts" mG TU i0 gJ)  :aJ P w K mg base ck 1 i0 gJ TU Cn:=by
 refine fz.fn.ok fH (λvs H Q E h=>?_) (λcdv A outer s H vs Q E hr h=>?_)
 ·obtain⟨f,mv,rfl,_⟩:=h
  rfl
 ·obtain⟨f,mv,rfl,Rz,kk⟩:=h
  refine⟨_,(aj (aC (i:=2) fH.nd rfl (Or.inl rfl) (g6 (aa (bA (aa ak (aa ak ah))) ah)))
   (aj (rT (bA (aa ak (aa ak ah))) (m7 (n:=2) rfl (bG (aK (i:=3) fH.nd rfl (Or.inl rfl)) (bG (aK (i:=4) fH.nd rfl (Or.inl rfl)) jo))))
   (aj (cy PassesOwn.never rfl (ED (pv 1)) (aK (i:=5) fH.nd rfl (Or.inl rfl)) (bE (bN (aP qf (pv 5) bC (aZ _)) (ao (aC (i:=3) fH.nd rfl (Or.inl rfl) (aF cK (pv 3) ak))) aN)
   (bE (bN (aP qf (pv 5) bC (aZ _)) (ao (aC (i:=4) fH.nd rfl (Or.inl rfl) (aF cK (pv 4) ak))) aN)
   (ao (bN (aP qf (pv 5) bC (aZ _)) (ao (cj (lS PySem.F.plainAttrs_list PySem.F.slot_list_append PySem.F.type_list_append cE (pv 2) (aa (bA (aa (pv 3) (aa (pv 4) ah))) ah)))) aN)))))
   (ao (aL (pv 2)))))),?_⟩
  refine⟨by show 2<=sizeLine;decide,λq0 hq0=>⟨by show 1<=sizeLine;decide,λl hl=>?_⟩⟩
  have s1:=(ai.upd (o:=.tup [.int 0,.int 0]) hq0).trans (ai.upd (o:=.lst [.ref q0]) hl)
  have Oj:=ai.free (ai.upd (o:=.tup [.int 0,.int 0]) hq0) hl
  have e1:L2.upd (L2.upd H q0 (.tup [.int 0,.int 0])) l (.lst [.ref q0]) l=some (.lst [.ref q0]):=af
  have e0:L2.upd (L2.upd H q0 (.tup [.int 0,.int 0])) l (.lst [.ref q0]) q0=some (.tup [.int 0,.int 0]):=ai.upd hl _ _ af
  generalize L2.upd (L2.upd H q0 (.tup [.int 0,.int 0])) l (.lst [.ref q0])=H1 at s1 e1 e0 ⊢
  refine⟨by show 2<=sizeLine;decide,λq1 hq1=>⟨_,_,rfl,cP.of af,rfl,_,_,rfl,_,_,rfl,rfl,?_⟩⟩
  have s2:=ai.upd (o:=.tup [.int 0,.int 0]) hq1
  refine⟨_,rfl,mv,rfl,?_⟩
  refine Np (x:=mv) (λk σ H2=>∃v5 ps,σ=[some (.str f),some (.str mv),some (.ref l),some (.int ((yS vE (mv.cps.toList.take k)).1:Int)),some (.int ((yS vE (mv.cps.toList.take k)).2.1:Int)),v5]/\ai H H2/\H2 l=some (.lst (ps.map V.ref))/\Paired (Hf H2) ps ((vE::downs vE (mv.cps.toList.take k)).map MF)/\ps.length<=k+1)
   ⟨_,[q0],rfl,s1.trans s2,s2 _ _ e1,.cons (s2 _ _ e0) .nil,Nat.le_refl _⟩ ?_ ?_
  ·rintro k c σ H2 hc ⟨v5,ps,rfl,s2,hl2,pp,hpl⟩
   have hk:k<mv.cps.size:=by
    rcases Array.getElem?_eq_some_iff.mp hc with⟨h,_⟩
    exact h
   have et:=take_snoc (jk hc)
   obtain⟨e,he⟩:∃e,yS vE (mv.cps.toList.take k)=e:=⟨_,rfl⟩
   have he':yS vE (mv.cps.toList.take (k+1))=fM e c:=by rw[et,Ir,he]
   have hd':downs vE (mv.cps.toList.take (k+1))=downs vE (mv.cps.toList.take k)++if c=98 then []else [fM e c]:=by rw[et,Fo,he]
   rw[he',hd']
   simp only[he]
   refine⟨λσ H3=>σ=[some (.str f),some (.str mv),some (.ref l),some (.int ((fM e c).1:Int)),some (.int (e.2.1:Int)),some (.str ⟨#[c]⟩)]/\H2=H3,?_,?_⟩
   ·refine⟨_,rfl,rfl,_,rfl,?_⟩
    rw[Fp sB]
    unfold fM
    exact K2 (λz=>⟨_,rfl,_,_,rfl,rfl,by rw[if_neg z];rfl,rfl⟩) λz=>⟨by rw[if_pos z];rfl,rfl⟩
   rintro σ _ ⟨rfl,rfl⟩
   refine⟨λσ H3=>σ=[some (.str f),some (.str mv),some (.ref l),some (.int ((fM e c).1:Int)),some (.int ((fM e c).2.1:Int)),some (.str ⟨#[c]⟩)]/\H2=H3,?_,?_⟩
   ·refine⟨_,rfl,rfl,_,rfl,?_⟩
    rw[Fp sA]
    exact K2 (λz=>⟨_,rfl,_,_,rfl,rfl,by show _=[_,_,_,_,some (V.int ((if c=97 then e.2.1 else e.2.1+1:Nat):Int)),_];rw[if_neg z];rfl,rfl⟩) λz=>⟨by show _=[_,_,_,_,some (V.int ((if c=97 then e.2.1 else e.2.1+1:Nat):Int)),_];rw[if_pos z],rfl⟩
   rintro σ _ ⟨rfl,rfl⟩
   refine⟨_,rfl,rfl,_,rfl,?_⟩
   rw[Fp sB]
   refine K2 (λz=>?_) λz=>⟨_,ps,rfl,s2,hl2,by rw[if_pos z,List.append_nil];exact pp,by omega⟩
   refine⟨_,rfl,.inl ⟨rfl,_,bZ.of hl2⟩,_,rfl,_,rfl,by show 2<=sizeLine;decide,λq hq=>?_⟩
   have s3:=ai.upd (o:=.tup [.int ((fM e c).1:Int),.int ((fM e c).2.1:Int)]) hq
   have tp:=rK (o:=.lst (ps.map V.ref++[.ref q])) (s3 _ _ hl2) (λ_ z=>by cases z)
   refine⟨l,_,_,rfl,rfl,s3 _ _ hl2,by rw[List.length_map];exact Nat.lt_of_le_of_lt (show _<=1000 by omega) (by decide),_,ps++[q],rfl,ai.at (s2.trans s3) Oj,by rw[af,List.map_append];rfl,?_,by rw[List.length_append];exact Nat.succ_le_succ hpl⟩
   rw[if_neg z,←List.cons_append,List.map_append]
   exact GP.Paired.snoc (Paired.g8 pp λ_ _ z=>tp _ _ (s3 _ _ z)) (tp _ _ af)
  ·rintro σ H2 ⟨v5,ps,rfl,s2,hl2,pp,hpl⟩
   rw[show mv.cps.size=mv.cps.toList.length by simp,List.take_length]at pp
   exact⟨_,rfl,kk l H2 s2 Oj ⟨ps,hl2,pp⟩⟩
end
section
variable{P:Program}{w:World}{K:PySem.W.Frag}{mg:Str->Option Value}{base:Heap}
theorem QY {zZ iZ mW k8 i0 fK jL bf gb:Addr} {Ln gH kX iz gJ dM iS aR eW:FuncData} {p:Pm} (T:Txt K mg p base) (L5:Dn K mg "law" rj Sg zZ Ln) (fq:Dn K mg "_law_prices" mF l6 iZ gH) (BK:aJ P w K mg base ck 7 iZ gH l6 (zF K p.aq)) (gg:Dn K mg "_law_row" qK TY mW kX) (Al:aJ P w K mg base ck 2 mW kX TY (JD K)) (iD:Dn K mg "cheapest" o4 T7 k8 iz) {wL:Tok} (ym:Binds K iz T7 [.str (Str.ofString "whole") wL]) (FP:aJ P w K mg base ck 8 k8 iz T7 (nv (Gh P w K p.aq p.aA p.bz (yN K)))) (fz:Dn K mg "_law_firsts" mG TU i0 gJ) (BL:aJ P w K mg base ck 1 i0 gJ TU Cn) (bD:Dn K mg "_law_same" m5 N6 fK dM) (nD:aJ P w K mg base ck 3 fK dM N6 (wj K 2)) (bX:Dn K mg "_law_asked" nQ TV jL iS) (qD:aJ P w K mg base ck 11 jL iS TV (Gi K p.aq)) (aE:Dn K mg "_law_next" fJ l6 bf aR) (cB:aJ P w K mg base ck 1 bf aR l6 (pW K)) (cW:Dn K mg "_law_odd_rows" j4 TX gb eW) (yj:aJ P w K mg base ck 1 gb eW TX (JG K p.aq)):aJ P w K mg base ck 13 zZ Ln Sg (Av K (yN K)):=by
 refine L5.fn.ok jr (λvs H Q E h=>?_) (λcdv A outer s H vs Q E hr h=>?_)
 ·obtain⟨s,ns,rfl,_⟩:=h
  rfl
 ·obtain⟨s,ns,rfl,ha,hl,hT,kk⟩:=h
  refine⟨_,(aj (aC (i:=1) jr.nd rfl (Or.inl rfl) (g6 (aa ak ah)))
   (aj (aC (i:=2) jr.nd rfl (Or.inl rfl) (az BK (hr.mono (by decide)) rfl fq.m fq.fn.kp fq.b .nil aO (aa (pv 0) (aa (pv 1) ah))))
   (aj (aC (i:=3) jr.nd rfl (Or.inl rfl) (az Al (hr.mono (by decide)) rfl gg.m gg.fn.kp gg.b .nil aO (aa (pv 0) (aa (pv 1) (aa (dh (pv 2) rfl) (aa ak ah))))))
   (aj (aC (i:=4) jr.nd rfl (Or.inl rfl) (az Al (hr.mono (by decide)) rfl gg.m gg.fn.kp gg.b .nil aO (aa (pv 0) (aa (pv 1) (aa (dh (pv 2) rfl) (aa ak ah))))))
   (bE (aC (i:=5) jr.nd rfl (Or.inl rfl) (aU bK (az FP (hr.mono (by decide)) rfl iD.m iD.fn.kp iD.b .nil aO (aa (pv 2) (aa (pv 3) (aa (pv 4) (aa bC ah))))) ak (λ_ _=>rfl)))
   (bE (aC (i:=6) jr.nd rfl (Or.inl rfl) (az BL (hr.mono (by decide)) rfl fz.m fz.fn.kp fz.b .nil aO (aa (pv 3) (aa (pv 5) ah))))
   (bE (bN (aP qf (aD (bq) rfl T.cY bP (aa (pv 6) ah)) (aF cK (aD (bq) rfl T.cY bP (aa (pv 3) ah)) ak) (aZ _)) eN aN)
   (bE (cy PassesOwn.never rfl (wk rfl T.nG (aa (pv 6) ah)) (m7 (n:=2) rfl (bG (aK (i:=7) jr.nd rfl (Or.inl rfl)) (bG (aK (i:=8) jr.nd rfl (Or.inl rfl)) jo))) (ao (bN (xg (lW (az nD (hr.mono (by decide)) rfl bD.m bD.fn.kp bD.b .nil aO (aa (az qD (hr.mono (by decide)) rfl bX.m bX.fn.kp bX.b .nil aO (aa (pv 2) (aa (pv 3) (aa (pv 4) (aa (pv 7) ah))))) (aa (bA (aa bC (aa (pv 8) ah))) ah))))) eN aN)))
   (aj (aC (i:=9) jr.nd rfl (Or.inl rfl) (az cB (hr.mono (by decide)) rfl aE.m aE.fn.kp aE.b .nil aO (aa (pv 0) (aa (pv 1) ah))))
   (bE (aC (i:=10) jr.nd rfl (Or.inl rfl) (aF cK ak (aF lY (aF b8 (pv 9) ak) (aF b8 (aF cM (pv 9) ak) (aF xj ak ak)))))
   (bE (cy PassesOwn.never rfl (nU (g6 (aa (uX pV (pv 10)) (aa (aF cK (aD (bq) rfl T.cY bP (aa (pv 3) ah)) (pv 10)) ah)))) (aK (i:=7) jr.nd rfl (Or.inl rfl)) (ao (bN (xg (lW (az nD (hr.mono (by decide)) rfl bD.m bD.fn.kp bD.b .nil aO (aa (az qD (hr.mono (by decide)) rfl bX.m bX.fn.kp bX.b .nil aO (aa (pv 2) (aa (pv 3) (aa (pv 4) (aa (pv 7) ah))))) (aa (bA (aa bC (aa ak ah))) ah))))) eN aN)))
   (aj (rT (az yj (hr.mono (by decide)) rfl cW.m cW.fn.kp cW.b .nil aO (aa (aF cM (pv 9) ak) (aa (pv 2) (aa (pv 3) (aa (pv 4) ah))))) (m7 (n:=2) rfl (bG (aK (i:=11) jr.nd rfl (Or.inl rfl)) (bG (aK (i:=8) jr.nd rfl (Or.inl rfl)) jo))))
   (aj (aC (i:=12) jr.nd rfl (Or.inl rfl) (az qD (hr.mono (by decide)) rfl bX.m bX.fn.kp bX.b .nil aO (aa (pv 2) (aa (aU bM (pv 11) ak (λ_ _=>rfl)) (aa (aU bM (pv 11) ak (λ_ _=>rfl)) (aa (aU bM (g6 (aa (uX pV ak) (aa ak (aa (aD (bq) rfl T.cY bP (aa (pv 3) ah)) ah)))) (aF b8 (aF cM (pv 9) ak) ak) (λ_ _=>rfl)) ah))))))
   (ao (aL (az nD (hr.mono (by decide)) rfl bD.m bD.fn.kp bD.b .nil aO (aa (pv 12) (aa (aF MN (bA (aa bC ah)) (pv 8)) ah)))))))))))))))))),?_⟩
  refine⟨by show 1<=sizeLine;decide,λt ht=>?_⟩
  have hC:wC K (upd H t (.lst [.int 0])) s t ns 0:=by
   refine⟨?_,hl,af,by decide⟩
   rw[Wo.set]
   exact ai.seq (λb u e=>Wo.in (aM e ht) e) ha
  have ZF:LT (yN K) (upd H t (.lst [.int 0])):=hT.same (ai.upd ht)
  generalize upd H t (.lst [.int 0])=H0 at hC ZF ⊢
  refine⟨_,rfl,_,rfl,s,t,ns,0,rfl,hC,by decide,λx H1 k1 T1 ZI h4 hx w1 ht1 Sn V2=>?_⟩
  have C1:=hC.off w1 ht1 (by omega)
  obtain⟨sig,_,_,_,_,_,_,dx,Pp,o,mo,d,kvs,I0,_⟩:=id ZI
  have Y9:=Wo.sub _ _ I0
  refine⟨_,rfl,_,rfl,_,rfl,x,_,dx,_,_,rfl,Y9,T.aY,T.fR,pG,s,t,ns,k1,8,T1.1,rfl,C1,by omega,by decide,sig.1,sig.2.1,λf H2 k2 of hf w2 Dl V1 YX=>?_⟩
  have C2:=C1.off w2 Dl (by omega)
  refine⟨_,rfl,_,rfl,_,rfl,x,_,dx,_,_,rfl,Wo.sub _ _ (w2 _ _ I0),T.aY,T.fR,pG,s,t,ns,k2,8,T1.1,rfl,C2,by omega,by decide,sig.1,sig.2.1,λg H3 k3 og hg w3 GK Sl Sk=>?_⟩
  have C3:=C2.off w3 GK (by omega)
  have w03:=(w1.trans w2).trans w3
  have C3t:=C3
  have acA:=GK
  have hT3:=ZF.step hC.at_ w03
  have hP3:=(ZI.same (w2.trans w3)).same Wo.sub
  have hm:vf sW=true:=by decide +kernel
  have lf:f.length<=sizeLine:=Nat.le_trans (show f.cps.size<=12 by omega) (by decide)
  refine⟨λσ H4=>∃mv:Str,mv.cps.toList=(fL T1 sW f g).moves vE/\σ=[some (.ref s),some (.ref t),some (.ref x),some (.str f),some (.str g),some (.str mv),none,none,none,none,none,none,none]/\Lo P w (yN K) H3 H4,?_,?_⟩
  ·refine⟨_,rfl,_,rfl,_,rfl,x,T1,f,g,sW,rfl,hP3,hT3,by omega,by omega,λ_ _ _=>⟨by omega,by omega,λq H4 YN _ hch=>?_⟩,λi j bad=>absurd ⟨of,og⟩ bad.no,λ_ _ z=>by rw[hm]at z;cases z⟩
   obtain⟨b,c,pb,hb,hq,hc,_⟩:=hch
   have hb0:b=(0,0):=by
    have z:=(List.mem_filter.mp (oN hb)).2
    have z':(decide ((b.1:Int)=0)&&decide ((b.2:Int)=0))=true:=z
    rw[Bool.and_eq_true]at z'
    have z1:=of_decide_eq_true z'.1
    have z2:=of_decide_eq_true z'.2
    exact Prod.ext (by show b.1=0;omega) (by show b.2=0;omega)
   subst hb0
   exact⟨q,_,_,_,rfl,rfl,cP.of hq,rfl,_,by simp,rfl,YN⟩
  rintro σ H4 ⟨mv,Rz,rfl,YN⟩
  have hml:mv.cps.size<=100:=by
   rw[←Array.length_toList,Rz]
   exact Nat.le_trans (Gd.HK _) (by show f.cps.size-0+(g.cps.size-0)<=100;omega)
  refine⟨λσ H5=>∃lp,σ=[some (.ref s),some (.ref t),some (.ref x),some (.str f),some (.str g),some (.str mv),some (.ref lp),none,none,none,none,none,none]/\Lo P w (yN K) H3 H5/\G9 H5 lp ((A5 T1 f g).map MF),?_,?_⟩
  ·refine⟨_,rfl,_,rfl,f,mv,rfl,hml,λlp H5 s5 Lb VU=>⟨lp,rfl,YN.then s5,?_⟩⟩
   rw[Rz]at VU
   exact VU
  rintro σ H5 ⟨lp,rfl,lo5,ps,hps,pp⟩
  have hpl:ps.length=f.cps.size+1:=by rw[Paired.len pp,List.length_map,GL]
  refine⟨λσ H6=>σ=[some (.ref s),some (.ref t),some (.ref x),some (.str f),some (.str g),some (.str mv),some (.ref lp),none,none,none,none,none,none]/\H5=H6,?_,?_⟩
  ·refine⟨_,rfl,_,_,rfl,.inl ⟨_,bZ.of hps,rfl⟩,_,rfl,_,_,rfl,⟨lf,rfl⟩,_,_,rfl,rfl,rfl,_,rfl,uM (λz=>absurd ?_ z) λ_=>⟨rfl,rfl⟩⟩
   rw[List.length_map,hpl]
   show((f.cps.size+1:Nat):Int)=(f.cps.size:Int)+1
   omega
  rintro σ _ ⟨rfl,rfl⟩
  have hP5:=lo5.pr hP3
  refine⟨λσ H6=>∃v7 v8,σ=[some (.ref s),some (.ref t),some (.ref x),some (.str f),some (.str g),some (.str mv),some (.ref lp),v7,v8,none,none,none,none]/\ai H5 H6,?_,?_⟩
  ·refine⟨_,rfl,.lst lp,_,rfl,bZ.of hps,?_⟩
   refine tT (K:=K) (c:=.lst lp) (xs:=ps.map V.ref) (λi σ H6=>∃v7 v8,σ=[some (.ref s),some (.ref t),some (.ref x),some (.str f),some (.str g),some (.str mv),some (.ref lp),v7,v8,none,none,none,none]/\ai H5 H6)
    ⟨_,_,rfl,ai.refl _⟩ (λi σ H6 _ ⟨_,_,_,s6⟩=>bZ.of (s6 _ _ hps)) ?_ ?_
   ·rintro i y q σ H6 hy hq ⟨v7,v8,rfl,s6⟩
    obtain⟨pt,hpt,rfl⟩:=g7 hy
    obtain⟨pq,hpq,Zk⟩:=GP.Paired.at pp hpt
    obtain⟨st,hst,rfl⟩:=g7 hpq
    have hi:i<f.cps.size+1:=by rw[←hpl];exact(List.getElem?_eq_some_iff.mp hpt).1
    have s7:=ai.upd (o:=.tup [.int (i:Int),.ref pt]) hq
    refine⟨_,_,rfl,cP.of af,rfl,_,_,rfl,_,_,rfl,rfl,?_⟩
    have Yq:=s6.trans s7
    have Zh:=Yq _ _ Zk
    have K8:=Nm hst
    refine⟨_,rfl,_,rfl,_,rfl,_,rfl,x,T1,f,g,(i:Int),rfl,hP5.same Yq,by omega,by omega,.inl ⟨of,og,by omega,by omega,by omega,by omega,λt2 r2 q2 H8 s8 Dl hr2 hq2=>⟨_,rfl,by show 2<=sizeLine;decide,λt3 GK=>?_⟩⟩⟩
    have s9:=ai.upd (o:=.tup [.str (Str.ofString "told"),.ref pt]) GK
    rw[Int.toNat_natCast,hst]at Dl
    cases Dl
    have Zg:L2.upd H8 t3 (.tup [.str (Str.ofString "told"),.ref pt]) pt=some (.tup [.int (i:Int),.int (st.2.1:Int)]):=by
     have z:=s9 _ _ (s8 _ _ Zh)
     rw[show((MF st).1:Int)=(i:Int) by rw[←K8];rfl]at z
     exact z
    exact⟨_,_,rfl,BR.of (cP.of (s9 _ _ hr2)) (cP.of af) (by show 2<=100;decide) (.cons .str (.cons (BR.of (cP.of (s9 _ _ hq2)) (cP.of Zg) (by show 2<=100;decide) (.cons .int (.cons .int .nil))) .nil)),λNI Sd=>⟨_,rfl,ve ⟨_,_,rfl,Yq.trans ((s8.trans s9).trans Sd)⟩⟩⟩
   ·rintro σ H6 ⟨v7,v8,rfl,s6⟩
    exact⟨_,_,rfl,s6⟩
  rintro σ H6 ⟨v7,v8,rfl,s6⟩
  have N5:=lo5.then s6
  have Ig:=N5.nx _ _ (Nt.lst GK)
  have M0:Lo P w (yN K) (Wo t H0) H6:=(Lo.of (ZF.wo hC.at_) (w03.trans Wo.sub)).trans N5
  have C6:wC K H6 s t ns k3:=M0.ctr hC Ig (by omega)
  have YO:Lo P w (yN K) (Wo t H3) (Wo t H6):=(N5.cut hT3 GK).wo Ig
  have hP6:yp K p.aq (Wo t H6) x T1:=YO.pr (ZI.same (w2.trans w3))
  refine⟨_,rfl,_,rfl,s,t,ns,k3,rfl,C6,by omega,λm hm0 _=>?_⟩
  have Wd:yp K p.aq (L2.upd H6 t (.lst [.int (k3+1)])) x T1:=by
   have z:yp K p.aq (Wo t (L2.upd H6 t (.lst [.int (k3+1)]))) x T1:=by rw[Wo.set];exact hP6
   exact z.same Wo.sub
  have hT7:=N5.lt.put (o:=.lst [.int (k3+1)]) Ig
  generalize L2.upd H6 t (.lst [.int (k3+1)])=H7 at Wd hT7 ⊢
  refine⟨λσ H8=>∃D8:Int,1<=D8/\σ=[some (.ref s),some (.ref t),some (.ref x),some (.str f),some (.str g),some (.str mv),some (.ref lp),v7,v8,some (.int m),some (.int D8),none,none]/\H7=H8,?_,?_⟩
  ·have a1:0<=m % 3/\m % 3<3:=⟨Int.emod_nonneg _ (by decide),Int.emod_lt_of_pos _ (by decide)⟩
   have a2:0<=m / 3 % (10:Int) ^ (6:Int).toNat/\m / 3 % (10:Int) ^ (6:Int).toNat<1000000:=⟨Int.emod_nonneg _ (by decide),Int.emod_lt_of_pos _ (by decide)⟩
   refine⟨_,rfl,_,_,rfl,rfl,(by show(0:Int)<3;decide),_,rfl,_,_,rfl,rfl,⟨by decide,by decide⟩,_,_,rfl,rfl,?_,_,_,rfl,rfl,(by show(0:Int)<10 ^ (6:Int).toNat;decide),_,_,rfl,rfl,?_,_,_,rfl,rfl,_,?_,rfl,rfl⟩
   ·exact⟨by decide,by decide,by decide⟩
   ·exact .inl ⟨by omega,by omega⟩
   ·have z:=Int.mul_nonneg a1.1 a2.1
    show 1<=1+m % 3*(m / 3 % (10:Int) ^ (6:Int).toNat)
    omega
  rintro σ _ ⟨D8,acZ,rfl,rfl⟩
  refine⟨λσ H8=>∃v7,σ=[some (.ref s),some (.ref t),some (.ref x),some (.str f),some (.str g),some (.str mv),some (.ref lp),v7,v8,some (.int m),some (.int D8),none,none]/\ai H7 H8,?_,?_⟩
  ·refine⟨_,rfl,_,rfl,_,rfl,_,_,rfl,⟨lf,rfl⟩,_,rfl,_,_,rfl,rfl,by show 2<=sizeLine;decide,λlq Zs=>?_⟩
   have s8:=ai.upd (o:=.lst [.int (-D8),.int (((f.length:Nat):Int)+D8)]) Zs
   have e8:L2.upd H7 lq (.lst [.int (-D8),.int (((f.length:Nat):Int)+D8)]) lq=some (.lst [.int (-D8),.int (((f.length:Nat):Int)+D8)]):=af
   generalize L2.upd H7 lq (.lst [.int (-D8),.int (((f.length:Nat):Int)+D8)])=H8 at s8 e8 ⊢
   refine⟨lq,rfl,⟨_,bZ.of e8⟩,?_⟩
   refine oM (K:=K) (a:=lq) (xs:=[.int (-D8),.int (((f.length:Nat):Int)+D8)]) (λi σ H9=>∃v7,σ=[some (.ref s),some (.ref t),some (.ref x),some (.str f),some (.str g),some (.str mv),some (.ref lp),v7,v8,some (.int m),some (.int D8),none,none]/\ai H8 H9)
    ⟨_,rfl,ai.refl _⟩ (λi σ H9 _ ⟨_,_,s9⟩=>bZ.of (s9 _ _ e8)) ?_ ?_
   ·rintro i y σ H9 hy ⟨v7,rfl,s9⟩
    obtain⟨u,rfl,hu⟩:∃u:Int,y= .int u/\¬(0<=u/\u<=(f.cps.size:Int)):=by
     match i,hy with
     | 0,hy=>cases hy;exact⟨_,rfl,by omega⟩
     | 1,hy=>cases hy;exact⟨_,rfl,by show ¬(_/\((f.cps.size:Nat):Int)+D8<=_);omega⟩
    refine⟨_,rfl,_,rfl,_,rfl,_,rfl,x,T1,f,g,u,rfl,Wd.same (s8.trans s9),by omega,by omega,.inr (.inl ⟨of,og,hu,λr2 NI Sd hr2=>⟨by show 2<=sizeLine;decide,λt3 GK=>?_⟩⟩)⟩
    have NU:=ai.upd (o:=.tup [.str (Str.ofString "no place"),.int 0]) GK
    exact⟨_,_,rfl,BR.of (cP.of (NU _ _ hr2)) (cP.of af) (by show 2<=100;decide) (.cons .str (.cons .int .nil)),λR9 s12=>⟨_,rfl,ve ⟨_,rfl,(s9.trans Sd).trans (NU.trans s12)⟩⟩⟩
   ·rintro σ H9 ⟨v7,rfl,s9⟩
    exact⟨_,rfl,s8.trans s9⟩
  rintro σ H8 ⟨v7,rfl,s8⟩
  refine⟨_,rfl,_,_,rfl,rfl,⟨by decide,by decide⟩,_,rfl,_,rfl,_,rfl,m / 7,x,T1,f,g,rfl,by omega,Wd.same s8,h4,of,og,by omega,by omega,λr lr d a b i j H9 s9 hr9 hlr hd hB za zb=>?_⟩
  refine⟨_,_,rfl,cP.of hr9,rfl,_,_,rfl,_,_,rfl,rfl,?_⟩
  have s79:=s8.trans s9
  refine⟨_,rfl,_,rfl,lr,_,_,.str a,rfl,rfl,bZ.of hlr,rfl,_,rfl,lr,_,_,.str b,rfl,rfl,bZ.of hlr,rfl,?_⟩
  refine⟨_,rfl,_,rfl,_,_,rfl,⟨lf,rfl⟩,by show 3<=sizeLine;decide,λlq Zs=>?_⟩
  have Sd:=ai.upd (o:=.lst [.int (-1),.int 0,.int ((f.length:Nat):Int)]) Zs
  obtain⟨u,hua⟩:∃u:Int,Af [V.int (-1),.int 0,.int ((f.length:Nat):Int)] (m / 77 % 3)=some (.int u):=by
   have e:m / 77 % 3=0\/m / 77 % 3=1\/m / 77 % 3=2:=by omega
   rcases e with e|e|e<;>rw[e]<;>exact⟨_,rfl⟩
  refine⟨_,rfl,_,_,rfl,rfl,⟨by decide,by decide⟩,_,_,rfl,rfl,(by show(0:Int)<3;decide),lq,_,_,_,rfl,rfl,bZ.of af,hua,x,T1,a,b,u,rfl,Wd.same (s79.trans Sd),za,zb,.inr (.inr ⟨i,j,hB,λr4 H11 NU hr4=>?_⟩)⟩
  have Tg:=Sd.trans NU
  refine⟨_,rfl,by show 1<=sizeLine;decide,λt1 ht1=>?_⟩
  have s12:=ai.upd (o:=.tup [.str (Str.ofString "no sign")]) ht1
  refine⟨_,rfl,t1,d,_,_,rfl,rfl,cP.of af,cP.of ((Tg.trans s12) _ _ hd),by simp,by show 3<=sizeLine;decide,(λz=>by cases z),λ_ t2 Dl=>?_⟩
  have s13:=s12.trans (ai.upd (o:=.tup ([.str (Str.ofString "no sign")]++[.int (i:Int),.int (j:Int)])) Dl)
  exact⟨_,_,rfl,BR.of (cP.of (s13 _ _ hr4)) (cP.of af) (by show 3<=100;decide) (.cons .str (.cons .int (.cons .int .nil))),λH14 s14=>kk H14 (hT7.same ((s79.trans Tg).trans (s13.trans s14)))⟩
end
def kB(K:PySem.W.Frag)(x y:Str)(s:Stmt):Prop:=∃f oc od sl kV dc pm an cd ct,PySem.W.nsIn K mainGlobals x=some (some (.ref f))/\K.lookup f=some ⟨oc,od,.func (PySem.W.fnOf y y (fP s) (c6 s) (ay s) .none kV dc pm an cd ct),sl⟩/\PySem.W.codeIn K cd y=true/\PySem.W.keepIn K (.ref f)=true
theorem kB.mk{K:PySem.W.Frag}{x y:Str}{s:Stmt}{f:Addr}{oc kV dc pm cd ct:Value}{od an:Option Addr}{sl:Array (Option Value)}(a:PySem.W.nsIn K mainGlobals x=some (some (.ref f)))(l:K.lookup f=some ⟨oc,od,.func (PySem.W.fnOf y y (fP s) (c6 s) (ay s) .none kV dc pm an cd ct),sl⟩)(c:PySem.W.codeIn K cd y=true)(k:PySem.W.keepIn K (.ref f)=true):kB K x y s:=⟨f,oc,od,sl,kV,dc,pm,an,cd,ct,a,l,c,k⟩
theorem Vf{K:PySem.W.Frag}{h:Heap}{mg:Str->Option Value}{x y:Str}{s:Stmt}{ps:List Str}(X:K.In h)(G:h.Ns mainGlobals mg)(d:kB K x y s)(b:∀(kV doc pm:Value) (an:Option Addr) (cdv ct:Value) (us:List Value),us.length=ps.length->bindArgs (PySem.W.fnOf y y (fP s) (c6 s) (ay s) .none kV doc pm an cdv ct) ⟨us,[]⟩=pure (ps.zip us):=by intro _ _ _ _ _ _ us hl;first|(obtain⟨_,rfl⟩:=GP.M3 hl;exact rfl)|(obtain⟨_,_,rfl⟩:=GP.Rb hl;exact rfl)|(obtain⟨_,_,_,rfl⟩:=GP.KY hl;exact rfl)|(obtain⟨_,_,_,_,rfl⟩:=GP.M1 hl;exact rfl)|(obtain⟨_,_,_,_,_,rfl⟩:=GP.KW hl;exact rfl)|(obtain⟨_,_,_,_,_,_,rfl⟩:=GP.TR hl;exact rfl)):∃f fd,Da K mg x y s ps f fd:=by
 obtain⟨f,oc,od,sl,kV,dc,pm,an,cd,ct,a,l,c,k⟩:=d
 exact⟨f,_,uO l c k,Binds.all (b kV dc pm an cd ct),PySem.W.mg_of X G a⟩
theorem bH{K:PySem.W.Frag}{h:Heap}{mg:Str->Option Value}{x:Str}{s:Stmt}{ps:List Str}(X:K.In h)(G:h.Ns mainGlobals mg)(d:kB K x x s)(b:∀(kV doc pm:Value) (an:Option Addr) (cdv ct:Value) (us:List Value),us.length=ps.length->bindArgs (PySem.W.fnOf x x (fP s) (c6 s) (ay s) .none kV doc pm an cdv ct) ⟨us,[]⟩=pure (ps.zip us):=by intro _ _ _ _ _ _ us hl;first|(obtain⟨_,rfl⟩:=GP.M3 hl;exact rfl)|(obtain⟨_,_,rfl⟩:=GP.Rb hl;exact rfl)|(obtain⟨_,_,_,rfl⟩:=GP.KY hl;exact rfl)|(obtain⟨_,_,_,_,rfl⟩:=GP.M1 hl;exact rfl)|(obtain⟨_,_,_,_,_,rfl⟩:=GP.KW hl;exact rfl)|(obtain⟨_,_,_,_,_,_,rfl⟩:=GP.TR hl;exact rfl)):∃f fd,Dn K mg x s ps f fd:=by
 obtain⟨f,fd,e⟩:=Vf X G d b
 exact⟨f,fd,e.fn,e.b,e.m⟩
theorem kB.ns{K:PySem.W.Frag}{h:Heap}{mg:Str->Option Value}{x y:Str}{s:Stmt}(d:kB K x y s)(X:K.In h)(G:h.Ns mainGlobals mg):∀f,mg x=some (.ref f)->PySem.W.nsIn K mainGlobals x=some (some (.ref f)):=λf hf=>by
 obtain⟨f',oc,od,sl,kV,dc,pm,an,cd,ct,a,_⟩:=d
 have e:=(PySem.W.mg_of X G a).symm.trans hf
 cases e
 exact a
def VG(K:PySem.W.Frag)(x:Str)(s:Stmt)(v:Str):Prop:=∃f oc od sl D u Tv n sl2 kV dc pm an cd ct,PySem.W.nsIn K mainGlobals x=some (some (.ref f))/\K.lookup f=some ⟨oc,od,.func (PySem.W.fnOf x x (fP s) (c6 s) (ay s) (.ref D) kV dc pm an cd ct),sl⟩/\PySem.W.codeIn K cd x=true/\PySem.W.keepIn K (.ref f)=true/\K.lookup D=some ⟨.type "tuple",Tv,.seq #[.str v u] n,sl2⟩
theorem VG.mk {K:PySem.W.Frag} {x v:Str} {s:Stmt} {f D:Addr} {oc kV dc pm cd ct:Value} {od Tv an:Option Addr} {sl sl2:Array (Option Value)} {u:Tok} {n:Nat} (a:PySem.W.nsIn K mainGlobals x=some (some (.ref f))) (l:K.lookup f=some ⟨oc,od,.func (PySem.W.fnOf x x (fP s) (c6 s) (ay s) (.ref D) kV dc pm an cd ct),sl⟩) (c:PySem.W.codeIn K cd x=true) (k:PySem.W.keepIn K (.ref f)=true) (e:K.lookup D=some ⟨.type "tuple",Tv,.seq #[.str v u] n,sl2⟩):VG K x s v:=⟨f,oc,od,sl,D,u,Tv,n,sl2,kV,dc,pm,an,cd,ct,a,l,c,k,e⟩
theorem RP{K:PySem.W.Frag}{h:Heap}{mg:Str->Option Value}{x v a1 a2 a3 a4:Str}{s:Stmt}(X:K.In h)(G:h.Ns mainGlobals mg)(d:VG K x s v)
  (b:∀(D:Addr) (kV doc pm:Value) (an:Option Addr) (cdv ct v1 v2 v3 v4:Value) (sh:Shared) (o:Obj) (u:Tok) (n:Nat),sh.heap.get? D=some o->o.data= .seq #[.str v u] n->BindsTo sh (PySem.W.fnOf x x (fP s) (c6 s) (ay s) (.ref D) kV doc pm an cdv ct) ⟨[v1,v2,v3,v4],[]⟩ [(a1,v1),(a2,v2),(a3,v3),(a4,v4)]:=by intro _ _ _ _ _ _ _ _ _ _ _ _ _ _ _ ho hs;exact BindsTo.of_defaults rfl ho hs rfl rfl)
  (b2:∀(D:Addr) (kV doc pm:Value) (an:Option Addr) (cdv ct v1 v2 v3:Value) (sh:Shared) (o:Obj) (u:Tok) (n:Nat),sh.heap.get? D=some o->o.data= .seq #[.str v u] n->BindsTo sh (PySem.W.fnOf x x (fP s) (c6 s) (ay s) (.ref D) kV doc pm an cdv ct) ⟨[v1,v2,v3],[]⟩ [(a1,v1),(a2,v2),(a3,v3),(a4,.str v u)]:=by intro _ _ _ _ _ _ _ _ _ _ _ _ _ _ ho hs;exact BindsTo.of_defaults rfl ho hs rfl rfl):∃f fd u,Dn K mg x s [a1,a2,a3,a4] f fd/\Binds K fd [a1,a2,a3,a4] [.str v u]:=by
 obtain⟨f,oc,od,sl,D,u,Tv,n,sl2,kV,dc,pm,an,cd,ct,a,l,c,k,e⟩:=d
 refine⟨f,_,u,⟨uO l c k,λsh us hX hl=>?_,PySem.W.mg_of X G a⟩,λsh us hX hl=>?_⟩
 ·rw[List.append_nil]at hl ⊢
  obtain⟨v1,v2,v3,v4,rfl⟩:=GP.M1 hl
  exact b D kV dc pm an cd ct v1 v2 v3 v4 sh _ u n (hX _ _ e) rfl
 ·obtain⟨v1,v2,v3,rfl⟩:=GP.KY (show us.length=3 by rw[List.length_append]at hl;exact Nat.succ.inj hl)
  exact b2 D kV dc pm an cd ct v1 v2 v3 sh _ u n (hX _ _ e) rfl
theorem all_mk {l:PySem.W.OpenLaw} {w:World} {K:PySem.W.Frag} {h:Heap} {mg:Str->Option Value} {fa:Addr} (X:K.In h) (G:h.Ns mainGlobals mg) (hfa:mg "law" =some (.ref fa))
  {mh:Tok}
  {nH:Tok}
  {ju:Addr} {CW:Option Addr} {EW:Nat} {Ct:Array (Option Value)} {B8 B7 B6:Tok}
  {lz:Addr} {EM:Option Addr} {HH:Nat} {Er:Array (Option Value)} {Em El Ek Ej:Tok}
  {jv:Addr} {MS:Option Addr} {Q6:Nat} {Mx:Array (Option Value)} {Mt Ms Mr:Tok}
  {aq:Addr}
  {aQ:Addr}
  {fF:Addr}
  {bz:Addr}
  {aB:Addr}
  {aA:Addr}
  {gh:Addr}
  {eG:Addr}
  {iJ:Addr}
  {iI:Addr}
  {eF:Addr}
  {kC:Addr}
  {iH:Addr}
  {iG:Addr}
  (u0:pP K "first_begin" =true)
  (u1:pP K "state_behind" =true)
  (u2:PySem.W.nsIn K mainGlobals "FIRST_SIGN" =some (some (.int 32 mh)))
  (u3:PySem.W.nsIn K mainGlobals "LAST_SIGN" =some (some (.int 126 nH)))
  (u4:PySem.W.nsIn K mainGlobals "NO_SIGNS" =some (some (.ref ju)))
  (u5:K.lookup ju=some ⟨.type "tuple",CW,.seq #[.int 34 B8,.int 37 B7,.int 45 B6] EW,Ct⟩)
  (u6:PySem.W.nsIn K mainGlobals "MANNERS" =some (some (.ref lz)))
  (u7:K.lookup lz=some ⟨.type "tuple",EM,.seq #[.str (Str.ofString "whole") Em,.str (Str.ofString "within") El,.str (Str.ofString "over") Ek,.str (Str.ofString "stretch") Ej] HH,Er⟩)
  (u8:PySem.W.nsIn K mainGlobals "CAME" =some (some (.ref jv)))
  (u9:K.lookup jv=some ⟨.type "tuple",MS,.seq #[.str (Str.ofString "p") Mt,.str (Str.ofString "a") Ms,.str (Str.ofString "b") Mr] Q6,Mx⟩)
  (X0:PySem.W.nsIn K mainGlobals "Prices" =some (some (.ref aq)))
  (XZ:PySem.W.plainGet K aq Str.empty=true) (XY:PySem.W.hasDictIn K aq=true) (XX:PySem.W.plainOver K aq=true) (XW:PySem.W.findIn K (.ref aq) "__setattr__" =some (some (.builtin "object.__setattr__"))) (XU:PySem.W.makesIn K aq=true) (XT:PySem.W.keepIn K (.ref aq)=true)
  (u17:bL K aq "signs")
  (XS:bL K aq "pairs")
  (XR:bL K aq "opening")
  (XQ:bL K aq "more")
  (XO:bL K aq "factors")
  (XN:bL K aq "unit")
  (XM:bL K aq "costs")
  (XJ:bL K aq "opening_units")
  (XI:bL K aq "more_units")
  (XH:PySem.W.nsIn K mainGlobals "Ground" =some (some (.ref aQ)))
  (XG:PySem.W.plainGet K aQ Str.empty=true) (XF:PySem.W.hasDictIn K aQ=true) (XE:PySem.W.plainOver K aQ=true) (XD:PySem.W.findIn K (.ref aQ) "__setattr__" =some (some (.builtin "object.__setattr__"))) (XC:PySem.W.makesIn K aQ=true) (XA:PySem.W.keepIn K (.ref aQ)=true)
  (Xz:bL K aQ "steps")
  (Xy:bL K aQ "begins")
  (Xx:bL K aQ "ends")
  (Xw:PySem.W.nsIn K mainGlobals "WeaveError" =some (some (.ref fF)))
  (Xv:PySem.W.nsIn K mainGlobals "NoManner" =some (some (.ref bz)))
  (u38:PySem.W.excIn K bz [.type "ValueError",.type "Exception",.type "BaseException",.type "object"] "ValueError.__new__" =true)
  (Xu:PySem.W.hasDictIn K bz=true) (Xs:PySem.W.typeIn K (.ref bz)=some (.type "type")) (Xr:PySem.W.mroIn K bz (.type "BaseException")=some true)
  (Xq:PySem.W.nsIn K mainGlobals "NoPlace" =some (some (.ref aB)))
  (Xp:PySem.W.excIn K aB [.type "ValueError",.type "Exception",.type "BaseException",.type "object"] "ValueError.__new__" =true)
  (Xo:PySem.W.hasDictIn K aB=true) (Xn:PySem.W.typeIn K (.ref aB)=some (.type "type")) (Xm:PySem.W.mroIn K aB (.type "BaseException")=some true)
  (Xl:PySem.W.findIn K (.ref aB) "__getattribute__" =some (some (.builtin "BaseException.__getattribute__")))
  (Xk:PySem.W.findIn K (.ref aB) "__getattr__" =some none)
  (Xj:PySem.W.hasDictIn K aB=true)
  (Xi:PySem.W.findIn K (.ref aB) "__class__" =some (some (.builtin "object.__class__")))
  (Xh:PySem.W.specialIn K (.builtin "object.__class__") "__get__" =some (some (.builtin "getset_descriptor.__get__")))
  (Xg:PySem.W.takesIn K (.builtin "object.__class__")=some true)
  (Xf:PySem.W.mroIn K aB (.type "object")=some true)
  (Xe:PySem.W.mroIn K aB (.type "BaseException")=some true)
  (Xd:PySem.W.nsIn K mainGlobals "NoSign" =some (some (.ref aA)))
  (Xc:PySem.W.hasDictIn K aA=true) (Xb:PySem.W.typeIn K (.ref aA)=some (.type "type")) (Xa:PySem.W.mroIn K aA (.type "BaseException")=some true)
  (W9:PySem.W.findIn K (.ref aA) "__getattribute__" =some (some (.builtin "BaseException.__getattribute__")))
  (W8:PySem.W.findIn K (.ref aA) "__getattr__" =some none)
  (W7:PySem.W.hasDictIn K aA=true)
  (W6:PySem.W.findIn K (.ref aA) "__class__" =some (some (.builtin "object.__class__")))
  (W5:PySem.W.specialIn K (.builtin "object.__class__") "__get__" =some (some (.builtin "getset_descriptor.__get__")))
  (W4:PySem.W.takesIn K (.builtin "object.__class__")=some true)
  (WZ:PySem.W.mroIn K aA (.type "object")=some true)
  (WY:PySem.W.mroIn K aA (.type "BaseException")=some true)
  (WX:PySem.W.nsIn K mainGlobals "NoBlock" =some (some (.ref gh)))
  (WW:PySem.W.nsIn K mainGlobals "NoLaying" =some (some (.ref eG)))
  (WV:PySem.W.nsIn K mainGlobals "NoMost" =some (some (.ref iJ)))
  (WU:PySem.W.nsIn K mainGlobals "NoNote" =some (some (.ref iI)))
  (WT:PySem.W.nsIn K mainGlobals "NoPrices" =some (some (.ref eF)))
  (WS:PySem.W.nsIn K mainGlobals "NoRow" =some (some (.ref kC)))
  (WR:PySem.W.nsIn K mainGlobals "NoText" =some (some (.ref iH)))
  (WQ:PySem.W.nsIn K mainGlobals "NoTree" =some (some (.ref iG)))
  (WO:PySem.W.hasDictIn K aA=true) (WN:((PySem.W.clsIn K aA).any λcd=>rM cd.mro)=true) (WM:PySem.W.findIn K (.ref aA) "__setattr__" =some (some (.builtin "object.__setattr__"))) (WL:PySem.W.keepIn K (.ref aA)=true)
  (WK:bL K aA "row")
  (WJ:bL K aA "place")
  (WI:PySem.W.specialIn K (.ref fF) "__getattribute__" =some (some (.builtin "type.__getattribute__"))) (WH:PySem.W.readsIn K fF (.type "type")=true) (WG:PySem.W.findCls K (.ref fF) (.type "type") "__init__" =some (.val (.builtin "ValueError.__init__")))
  (WE:PySem.W.subIn K (.ref aA) (.ref aA)=some true)
  (WD:PySem.W.subIn K (.ref aB) (.ref aB)=some true)
  (WC:PySem.W.subIn K (.ref aA) (.ref aB)=some false)
  (u87:PySem.W.kitOne K (.ref aB) (.ref gh)=some false)
  (WB:PySem.W.kitOne K (.ref aB) (.ref eG)=some false)
  (WA:PySem.W.kitOne K (.ref aB) (.ref iJ)=some false)
  (Wz:PySem.W.kitOne K (.ref aB) (.ref iI)=some false)
  (Wy:PySem.W.kitOne K (.ref aB) (.ref eF)=some false)
  (Wx:PySem.W.kitOne K (.ref aB) (.ref kC)=some false)
  (Ww:PySem.W.kitOne K (.ref aB) (.ref iH)=some false)
  (Wv:PySem.W.kitOne K (.ref aB) (.ref iG)=some false)
  (Wu:PySem.W.kitOne K (.ref aB) (.ref aA)=some false)
  (Wt:PySem.W.kitOne K (.ref aB) (.ref bz)=some false)
  {od0 an0:Option Addr} {sl0:Array (Option Value)} {oc0 kV0 dc0 pm0 cd0 ct0:Value} {aV:Addr}
  (u97:PySem.W.findIn K (.ref aA) "__init__" =some (some (.ref aV))) (Ws:PySem.W.isFn K (.ref aV)=true) (Wr:K.lookup aV=some ⟨oc0,od0,.func (PySem.W.fnOf "__init__" "NoSign.__init__" (fP bU) (c6 bU) (ay bU) .none kV0 dc0 pm0 an0 cd0 ct0),sl0⟩) (Qu:PySem.W.codeIn K cd0 "NoSign.__init__" =true) (Qt:PySem.W.keepIn K (.ref aV)=true)
  (u102:kB K "greatest_divisor" "greatest_divisor" cL)
  (Qs:kB K "lowest" "lowest" sR)
  (Qq:kB K "is_sign" "is_sign" qL)
  (Qp:kB K "are_signs" "are_signs" nR)
  (Qo:kB K "check_signs" "check_signs" lK)
  (Qn:kB K "check_lengths" "check_lengths" jn)
  (Qm:kB K "lowest_price" "lowest_price" ie)
  (Ql:kB K "lowest_prices" "lowest_prices" jm)
  (Qk:kB K "all_unders" "all_unders" mK)
  (Qj:kB K "unit_factors" "unit_factors" jZ)
  (Qi:kB K "product_of" "product_of" mE)
  (Qh:kB K "by_unit" "by_unit" oH)
  (Qg:kB K "costs_by_signs" "costs_by_signs" iL)
  {YC Z8:Option Addr} {Yn:Array (Option Value)} {YF YW ZZ Yx Vj Z4:Value} {bu:Addr}
  (Qf:PySem.W.findIn K (.ref aq) "__init__" =some (some (.ref bu))) (Qe:PySem.W.isFn K (.ref bu)=true) (Qd:K.lookup bu=some ⟨YF,YC,.func (PySem.W.fnOf "__init__" "Prices.__init__" (fP bT) (c6 bT) (ay bT) .none YW ZZ Yx Z8 Vj Z4),Yn⟩) (Qc:PySem.W.codeIn K Vj "Prices.__init__" =true) (Qa:PySem.W.keepIn K (.ref bu)=true)
  (P9:kB K "pair_cost" "pair_cost" lR)
  (P8:kB K "opening_cost" "opening_cost" j3)
  (P1:kB K "more_cost" "more_cost" nK)
  (P0:kB K "in_units" "in_units" oZ)
  (PZ:kB K "check_known" "check_known" lM)
  (PY:kB K "check_rows" "check_rows" j5)
  (PX:kB K "check_manner" "check_manner" j6)
  (PV:kB K "alone_cost" "alone_cost" j7)
  (PU:kB K "may_begin" "may_begin" nL)
  (PR:kB K "may_end" "may_end" qJ)
  (PN:kB K "all_places" "all_places" mL)
  (PM:kB K "steps_from" "steps_from" mD)
  (PL:kB K "all_steps" "all_steps" nT)
  (PK:kB K "all_ends" "all_ends" o6)
  {YB Z7:Option Addr} {Ym:Array (Option Value)} {YE YV ZY Yw Vi Z3:Value} {bx:Addr}
  (PF:PySem.W.findIn K (.ref aQ) "__init__" =some (some (.ref bx))) (PD:PySem.W.isFn K (.ref bx)=true) (PC:K.lookup bx=some ⟨YE,YB,.func (PySem.W.fnOf "__init__" "Ground.__init__" (fP bV) (c6 bV) (ay bV) .none YV ZY Yw Z7 Vi Z3),Ym⟩) (PB:PySem.W.codeIn K Vi "Ground.__init__" =true) (Pz:PySem.W.keepIn K (.ref bx)=true)
  (Py:kB K "least_rests" "least_rests" lG)
  (Px:kB K "ends_there" "ends_there" mJ)
  (Mn:kB K "first_begin" "first_begin" lJ)
  (Mm:kB K "state_behind" "state_behind" j0)
  (Pw:kB K "first_moves" "first_moves" lH)
  (u144:VG K "cheapest" o4 (Str.ofString "whole"))
  (Pu:kB K "rest_of" "rest_of" qI)
  (Po:kB K "best_way" "best_way" o5)
  (Pn:kB K "cell_of" "cell_of" oG)
  (Pk:kB K "last_cells" "last_cells" mH)
  (Pj:kB K "cells_ahead" "cells_ahead" lN)
  (Ph:kB K "with_stops" "with_stops" mw)
  (Pg:kB K "stop_at" "stop_at" qH)
  (Pf:kB K "whole_stop" "whole_stop" mz)
  (Pe:kB K "place_at" "place_at" oY)
  (Pd:kB K "_law_next" "_law_next" fJ)
  (Pc:kB K "_law_great" "_law_great" nP)
  (Pb:kB K "_law_signs" "_law_signs" nN)
  (Pa:kB K "_law_price" "_law_price" nO)
  (O8:kB K "_law_table" "_law_table" nM)
  (O7:kB K "_law_prices" "_law_prices" mF)
  (O6:kB K "_law_row" "_law_row" qK)
  (O5:kB K "_law_same" "_law_same" m5)
  (O4:kB K "_law_asked" "_law_asked" nQ)
  (O3:kB K "_law_odd_rows" "_law_odd_rows" j4)
  (O2:kB K "_law_firsts" "_law_firsts" mG)
  {YA Vk:Option Addr} {Yl:Array (Option Value)} {YD Uq Vd Tp RT Vg:Value} {zZ:Addr}
  (Ml:PySem.W.nsIn K mainGlobals "law" =some (some (.ref zZ))) (O1:K.lookup zZ=some ⟨YD,YA,.func (PySem.W.fnOf "law" "law" (fP rj) (c6 rj) (ay rj) .none Uq Vd Tp Vk RT Vg),Yl⟩) (O0:PySem.W.codeIn K RT "law" =true) (OZ:PySem.W.keepIn K (.ref zZ)=true)
  (Mj:Fl K aA aV=true)
  (OY:PySem.W.nsIn K mainGlobals "abs" =some none)
  (OX:PySem.W.nsIn K mainGlobals "len" =some none)
  (OW:PySem.W.nsIn K mainGlobals "ord" =some none)
  (OV:PySem.W.nsIn K mainGlobals "set" =some none)
  (OU:PySem.W.nsIn K mainGlobals "tuple" =some none)
  (OT:PySem.W.nsIn K mainGlobals "zip" =some none)
  (OS:PySem.W.nsIn K mainGlobals "enumerate" =some none)
  (OR:PySem.W.nsIn K mainGlobals "range" =some none)
  (OQ:PySem.W.nsIn K mainGlobals "isinstance" =some none)
  (OP:PySem.W.nsIn K mainGlobals "int" =some none)
  (OO:PySem.W.nsIn K mainGlobals "bool" =some none)
  (ON:PySem.W.nsIn K mainGlobals "all" =some none)
  (OM:PySem.W.nsIn K mainGlobals "list" =some none)
  (OL:PySem.W.nsIn K mainGlobals "str" =some none)
  (OJ:PySem.W.nsIn K mainGlobals "min" =some none)
  (OI:PySem.W.nsIn K mainGlobals "reversed" =some none)
  : ∃fd:FuncData,(∀(s:Shared) (v:Value),BindsTo s fd ⟨[v],[]⟩ [("_law_script",v)])/\∀base:Heap,K.In base->base.Ns mainGlobals mg->OF base mg->aJ l.prog w K mg base ck 13 fa fd Sg (Av K (yN K)):=by
 have e:=hfa.symm.trans (PySem.W.mg_of X G Ml)
 cases e
 obtain⟨p,hp⟩:∃p:Pm,p=(⟨mh,nH,ju,lz,jv,aq,aQ,fF,bz,aB,aA,gh,eG,iJ,iI,eF,kC,iH,iG⟩:Pm):=⟨_,rfl⟩
 have uq:=uO (st:=bU) Wr Qu Qt
 have c8:Dm K "__init__" "NoSign.__init__" bU Si _ _:=⟨uq,Binds.all (ps:=Si) λus hl=>by obtain⟨_,_,_,rfl⟩:=GP.KY hl;exact rfl⟩
 obtain⟨aW,aT,aI⟩:=bH (ps:=M6) X G u102
 obtain⟨oQ,mS,lV⟩:=bH (ps:=Um) X G Qs
 obtain⟨mY,kY,jR⟩:=bH (ps:=["sign"]) X G Qq
 obtain⟨jM,iT,gq⟩:=bH (ps:=["text"]) X G Qp
 obtain⟨gW,fV,dP⟩:=bH (ps:=["signs"]) X G Qo
 obtain⟨eZ,dX,cJ⟩:=bH (ps:=Uk) X G Qn
 obtain⟨cA,b7,aX⟩:=bH (ps:=l7) X G Qm
 obtain⟨eY,dW,cI⟩:=bH (ps:=["row"]) X G Ql
 obtain⟨ja,gO,fD⟩:=bH (ps:=Ul) X G Qk
 obtain⟨fY,eO,cT⟩:=bH (ps:=["unders"]) X G Qj
 obtain⟨iY,gG,fk⟩:=bH (ps:=["factors"]) X G Qi
 obtain⟨i9,gy,cG⟩:=bH (ps:=Ri) X G Qh
 obtain⟨dY,c5,cg⟩:=bH (ps:=Uj) X G Qg
 have uo:=uO (st:=bT) Qd Qc Qa
 have c7:Dm K "__init__" "Prices.__init__" bT Sj _ _:=⟨uo,Binds.all (ps:=Sj) λus hl=>by obtain⟨_,_,_,_,_,rfl⟩:=GP.KW hl;exact rfl⟩
 obtain⟨ff,dG,b9⟩:=bH (ps:=Rh) X G P9
 obtain⟨f6,eV,cU⟩:=bH (ps:=l8) X G P8
 obtain⟨jF,iM,cV⟩:=bH (ps:=l8) X G P1
 obtain⟨k6,jC,iC⟩:=bH (ps:=Ui) X G P0
 obtain⟨gX,fW,dQ⟩:=bH (ps:=Uh) X G PZ
 obtain⟨dH,cN,bQ⟩:=bH (ps:=Rg) X G PY
 obtain⟨gf,eX,cX⟩:=bH (ps:=["manner"]) X G PX
 obtain⟨dI,cO,bh⟩:=bH (ps:=Rf) X G PV
 obtain⟨jG,iN,gj⟩:=bH (ps:=Ug) X G PU
 obtain⟨mV,kW,jQ⟩:=bH (ps:=Ue) X G PR
 obtain⟨jb,gP,fE⟩:=bH (ps:=Ud) X G PN
 obtain⟨iX,gF,fj⟩:=bH (ps:=Uc) X G PM
 obtain⟨jN,iU,gu⟩:=bH (ps:=Ub) X G PL
 obtain⟨ly,jE,iF⟩:=bH (ps:=Ua) X G PK
 have ur:=uO (st:=bV) PC PB Pz
 have c9:Dm K "__init__" "Ground.__init__" bV Sh _ _:=⟨ur,Binds.all (ps:=Sh) λus hl=>by obtain⟨_,_,_,_,_,rfl⟩:=GP.KW hl;exact rfl⟩
 obtain⟨gQ,fS,dN⟩:=bH (ps:=["ground"]) X G Py
 obtain⟨i7,gM,fC⟩:=bH (ps:=l9) X G Px
 obtain⟨gU,fU,cQ⟩:=bH (ps:=T9) X G Mn
 obtain⟨fZ,eT,cD⟩:=bH (ps:=l9) X G Mm
 obtain⟨gT,fT,dO⟩:=bH (ps:=T8) X G Pw
 obtain⟨k8,iz,wL,iD,ym⟩:=RP (a1:= "prices") (a2:= "first") (a3:= "second") (a4:= "manner") X G u144
 obtain⟨mU,kU,jP⟩:=bH (ps:=["way"]) X G Pu
 obtain⟨k9,jD,iE⟩:=bH (ps:=T6) X G Po
 obtain⟨i8,gx,cF⟩:=bH (ps:=Rc) X G Pn
 obtain⟨i6,gK,fB⟩:=bH (ps:=T5) X G Pk
 obtain⟨gY,fX,dR⟩:=bH (ps:=T4) X G Pj
 obtain⟨iV,gD,cC⟩:=bH (ps:=["cells"]) X G Ph
 obtain⟨mT,kT,jO⟩:=bH (ps:=T3) X G Pg
 obtain⟨iW,gE,fh⟩:=bH (ps:=Ma) X G Pf
 obtain⟨kZ,jB,iB⟩:=bH (ps:=Ma) X G Pe
 obtain⟨bf,aR,aE⟩:=bH (ps:=l6) X G Pd
 obtain⟨jK,iR,gp⟩:=bH (ps:=l6) X G Pc
 obtain⟨jI,iP,gm⟩:=bH (ps:=L8) X G Pb
 obtain⟨jJ,iQ,bW⟩:=bH (ps:=TZ) X G Pa
 obtain⟨jH,iO,gk⟩:=bH (ps:=L8) X G O8
 obtain⟨iZ,gH,fq⟩:=bH (ps:=l6) X G O7
 obtain⟨mW,kX,gg⟩:=bH (ps:=TY) X G O6
 obtain⟨fK,dM,bD⟩:=bH (ps:=N6) X G O5
 obtain⟨jL,iS,bX⟩:=bH (ps:=TV) X G O4
 obtain⟨gb,eW,cW⟩:=bH (ps:=TX) X G O3
 obtain⟨i0,gJ,fz⟩:=bH (ps:=TU) X G O2
 have VE:=uO (st:=rj) O1 O0 OZ
 have L5:Dn K mg "law" rj Sg _ _:=⟨VE,Binds.all (ps:=Sg) λus hl=>by obtain⟨_,rfl⟩:=GP.M3 hl;exact rfl,PySem.W.mg_of X G Ml⟩
 have yd:XMk K p.aA aV:=by subst hp;exact⟨BV Mj,Ws,WL⟩
 have yc:Mk K p.aq bu:=by subst hp;exact⟨XU,Qf,Qe,XT⟩
 have ye:Mk K p.aQ bx:=by subst hp;exact⟨XC,PF,PD,XA⟩
 refine⟨PySem.W.fnOf "law" "law" (fP rj) (c6 rj) (ay rj) .none Uq Vd Tp Vk RT Vg,λs v=>.of_eq rfl,λbase _ _ bb=>?_⟩
 have T:Txt K mg p base:=by subst hp;exact⟨PySem.W.mg_none_of X G OY,PySem.W.mg_none_of X G OX,PySem.W.mg_none_of X G OW,PySem.W.mg_none_of X G OV,PySem.W.mg_none_of X G OU,PySem.W.mg_none_of X G OT,PySem.W.mg_none_of X G OS,PySem.W.mg_none_of X G OR,PySem.W.mg_none_of X G OQ,PySem.W.mg_none_of X G OP,PySem.W.mg_none_of X G OO,PySem.W.mg_none_of X G ON,PySem.W.mg_none_of X G OM,PySem.W.mg_none_of X G OL,PySem.W.mg_none_of X G OJ,PySem.W.mg_none_of X G OI,PySem.W.mg_of X G u2,PySem.W.mg_of X G u3,PySem.W.mg_of X G u4,λH=>.inr ⟨_,_,_,u5,rfl,rfl,(by show 3<=sizeLine;decide),.cons ⟨_,rfl⟩ (.cons ⟨_,rfl⟩ (.cons ⟨_,rfl⟩ (.nil)))⟩,PySem.W.mg_of X G u6,λH=>.inr ⟨_,_,_,u7,rfl,rfl,(by show 4<=sizeLine;decide),.cons ⟨_,rfl⟩ (.cons ⟨_,rfl⟩ (.cons ⟨_,rfl⟩ (.cons ⟨_,rfl⟩ (.nil))))⟩,PySem.W.mg_of X G u8,λH=>.inr ⟨_,_,_,u9,rfl,rfl,(by show 3<=sizeLine;decide),.cons ⟨_,rfl⟩ (.cons ⟨_,rfl⟩ (.cons ⟨_,rfl⟩ (.nil)))⟩,PySem.W.mg_of X G X0,⟨XZ,XY,XX,XW⟩,u17,XS,XR,XQ,XO,XN,XM,XJ,XI,PySem.W.mg_of X G XH,⟨XG,XF,XE,XD⟩,Xz,Xy,Xx,PySem.W.mg_of X G Xw,PySem.W.mg_of X G Xv,F1 u38,⟨Xu,Xs,Xr⟩,PySem.W.mg_of X G Xq,F1 Xp,⟨Xo,Xn,Xm⟩,⟨Xl,Xk,Xj,Xi,Xh,Xg,Xf,Xe⟩,PySem.W.mg_of X G Xd,⟨Xc,Xb,Xa⟩,⟨W9,W8,W7,W6,W5,W4,WZ,WY⟩,PySem.W.mg_of X G WX,PySem.W.mg_of X G WW,PySem.W.mg_of X G WV,PySem.W.mg_of X G WU,PySem.W.mg_of X G WT,PySem.W.mg_of X G WS,PySem.W.mg_of X G WR,PySem.W.mg_of X G WQ,⟨WO,WN,WM⟩,⟨_,BV Mj⟩,WK,WJ,⟨WI,WH,WG⟩,WE,WD,WC,u87,WB,WA,Wz,Wy,Wx,Ww,Wv,Wu,Wt,bb,u0,Mn.ns X G,u1,Mm.ns X G⟩
 have jx:=qV (P:=l.prog) (w:=w) (base:=base) T aI
 have LR:=HA T lV aI jx
 have qz:=vI T aX lV LR
 have vW:=uA T cI aX qz
 have BE:=yJ (P:=l.prog) (w:=w) (base:=base) T fD
 have x6:=vF T cT aI jx
 have Bw:=yD (P:=l.prog) (w:=w) (base:=base) T fk
 have Aj:=EL (P:=l.prog) (w:=w) (base:=base) T cG
 have IP:=EJ (P:=l.prog) (w:=w) (base:=base) T jR
 have DS:=AS T gq jR IP
 have yZ:=xx T dP gq DS
 have vX:=uB (P:=l.prog) (w:=w) (base:=base) T cJ
 have uQ:=tu T cg cG Aj
 have vt:=AJ (P:=l.prog) (w:=w) (base:=base) T b9
 have x9:=vH (P:=l.prog) (w:=w) (base:=base) T cU
 have DL:=AK (P:=l.prog) (w:=w) (base:=base) T cV
 have FF:=CQ T iC aI jx
 have t9:=rY T c7 dP yZ cJ vX cI vW aX qz fD BE cT x6 fk Bw cg uQ cG Aj
 have ua:=rZ (P:=l.prog) (w:=w) (base:=base) T c8
 have vY:=uC T dQ c8 yd ua
 have qA:=vK T bQ dQ vY
 have t8:=yI T bh cV DL cU x9
 have DM:=AL (P:=l.prog) (w:=w) (base:=base) T gj
 have IL:=EH (P:=l.prog) (w:=w) (base:=base) T jQ
 have uR:=tw (P:=l.prog) (w:=w) (base:=base) T cX
 have BF:=yK (P:=l.prog) (w:=w) (base:=base) T fE
 have Bv:=yC T fj b9 vt bh t8
 have DT:=AU T gu fj Bv
 have FJ:=CV T iF jQ IL
 have uc:=r9 T c9 bQ qA cX uR fE BF gu DT gj DM iF FJ
 have yV:=xq (P:=l.prog) (w:=w) (base:=base) T dN
 have BD:=yH (P:=l.prog) (w:=w) (base:=base) T fC
 have yY:=xw (P:=l.prog) (w:=w) (base:=base) T cQ
 have x8:=vG (P:=l.prog) (w:=w) (base:=base) T cD
 have yX:=xu T dO fC BD cD x8
 have FG:=CT T iD c9 ye uc dN yV cQ yY iC FF dO yX
 have IK:=EG (P:=l.prog) (w:=w) (base:=base) T jP
 have FH:=CU T iE bh t8 jP IK
 have Ai:=EK T cF iE FH
 have BC:=yG T fB cF Ai
 have y9:=xy T dR b9 vt cF Ai
 have Bs:=yy (P:=l.prog) (w:=w) (base:=base) T cC
 have IJ:=EF T jO fB BC cC Bs dR y9
 have Bt:=yz T fh jO IJ
 have FE:=CN T iB bQ qA fh Bt
 have jw:=CO (P:=l.prog) (w:=w) (base:=base) T aE
 have DQ:=AQ T gp aE jw
 have DO:=AN T gm aE jw
 have DP:=AO T bW aE jw gp DQ
 have DN:=AM T gk aE jw gm DO bW DP
 have BA:=yE T fq aE jw gk DN c7 yc t9
 have IM:=EI T gg aE jw
 have yW:=xr (P:=l.prog) (w:=w) (base:=base) T bD
 have By:=rq (d:=0) T bD yW
 have Bx:=rq (d:=1) T bD By
 have ya:=vJ (P:=l.prog) (w:=w) (base:=base) T cW
 have DR:=AR T bX iB FE
 have BB:=yF (P:=l.prog) (w:=w) (base:=base) T fz
 have Vm:=QY T L5 fq BA gg IM iD ym (aJ.nv FG) fz BB bD Bx bX DR aE jw cW ya
 exact Vm
theorem walk{l:PySem.W.OpenLaw}{q:Program}{loose:List Str}{XP:(Str->Option Value)->Heap->Prop}{YP:World->Heap->Prop}{d:DefRec}{K:Params->PySem.W.Frag}(hn:l.most=some 63)(hdf:d.params.defaults=[])
  (hY:∀(w:World) (h:Heap),YP w h->(K w.params).In h) (hY1:∀(w:World) (h:Heap),YP w h->h.get? (dZ (K w.params) "first_begin")=some (PySem.W.tabObj #[])) (hY2:∀(w:World) (h:Heap),YP w h->h.get? (dZ (K w.params) "state_behind")=some (PySem.W.tabObj #[])) (ZM:∀w:World,pP (K w.params) "first_begin" =true) (ZL:∀w:World,pP (K w.params) "state_behind" =true)
  (hne:∀w:World,Nat.beq (dZ (K w.params) "first_begin") (dZ (K w.params) "state_behind")=false) (hG:∀w:World,PySem.W.nsIn (K w.params) mainGlobals "GAP" =some none)
  (F:∀(w:World) (mg:Str->Option Value) (fa:Addr) (h:Heap),(K w.params).In h->h.Ns mainGlobals mg->mg d.name=some (.ref fa) →
   ∃fd:FuncData,(∀(s:Shared) (u:Value),BindsTo s fd ⟨[u],[]⟩ [("_law_script",u)])/\∀base:Heap,(K w.params).In base->base.Ns mainGlobals mg->OF base mg->aJ l.prog w (K w.params) mg base ck 13 fa fd Sg (Av (K w.params) (yN (K w.params)))) :
  PySem.W.WalkO q loose XP YP l.row.toRowW d [] (λf vs=>PySem.call f vs) :=
 L2.Jg (n:=63) (k:=13) (x:= "_law_script") (nms:=["first_begin","state_behind"]) (CX:=λ_=>ck) (sp:=λw=>Av (K w.params) (yN (K w.params))) hn (by decide) hdf ⟨rfl,by decide,by decide⟩ hY (λw h Y=>An (hY1 w h Y) (hY2 w h Y)) (λw=>An (ZM w) (ZL w)) hG F
  (λw H a ns hl hT hS=>⟨a,ns,rfl,hS,hl,⟨.inl (hT _ List.mem_cons_self),.inl (hT _ (List.mem_cons_of_mem _ List.mem_cons_self)),Nat.ne_of_beq_eq_false (hne w)⟩,λH' hT'=>⟨rfl,An (B4 hT'.a) (B4 hT'.b)⟩⟩) λ_ _ _ _ _ z=>z
end VD
namespace PySem.W.Fast
def tw16175184870134790729:=0
def tw5319983328073258378:=0
def tw18248901907711405147:=0
def tw14154505316516716757:=0
def tw9836897070638985165:=0
def tw9551316552482818655:=0
def tw3839115145709930752:=0
def tw8817674886527860095:=0
def tw7898715954330472835:=0
def tw715164552614232170:=0
def tw14424113935142595173:=0
def tw16755740949942776000:=0
def tw7727800202441572247:=0
def tw10311619684095779027:=0
def tw6337079441526288567:=0
def tw1878244832562827606:=0
def tw14553156377153193614:=0
def tw4734929563420318142:=0
def tw14488234148261056088:=0
def tw13647491429196838837:=0
def tw5115323534914452771:=0
def tw10657551705444779637:=0
def tw17065057657235619584:=0
def tw7207733400338115223:=0
def tw6426210694110480753:=0
def tw12822925132655627634:=0
def tw3647749741705159698:=0
def tw16557933502820459920:=0
def tw4114772914677691002:=0
def tw18034062797352788453:=0
def tw10957582613176147513:=0
def tw8956517148273316024:=0
def tw2435311551623791043:=0
def tw14379624853199387167:=0
def tw14629498732713539274:=0
def tw18253612668226582346:=0
def tw11757866689578104376:=0
def tw17436682861758904435:=0
def tw16705409097801358153:=0
def tw11714979769246309920:=0
def tw3522981459993696882:=0
def tw16143629066411494755:=0
def tw15569289879966150666:=0
def tw3269450903767531135:=0
def tw6737815486093787776:=0
def tw6499038538926432800:=0
def tw16177473588627211966:=0
def tw12924893604941154202:=0
def tw8991282424921721317:=0
def tw16673367139513429704:=0
def tw5847214051721631665:=0
def tw15034996334953026274:=0
def tw4431651561549689729:=0
def tw1565831451113453629:=0
def tw13405516091043673026:=0
def tw8800463172554815062:=0
def tw7696015213485464276:=0
def tw571237685927493266:=0
def tw13016851813746815711:=0
def tw5315412781744947547:=0
def tw5259399727385739422:=0
def tw1751077469243847688:=0
def tw2278468277469233635:=0
def tw16651820784445352243:=0
def tw6406777837800846079:=0
def tw3473314711079349937:=0
def tw17435996114563793128:=0
def tw6167830069999646302:=0
def tw5986578577880646854:=0
def tw1246552007721923574:=0
def tw932733163364924254:=0
def tw9490466154633310897:=0
def tw15649475284518507133:=0
def tw6362426816726953310:=0
def tw18141268581732971021:=0
def tw18412270470598996283:=0
def tw6835181923283019649:=0
def tw6929894058896423677:=0
def tw13226051872045585270:=0
def tw9896435092185437579:=0
def tw9826840963192690537:=0
def tw16754293064921417466:=0
def tw18074211880538132124:=0
def tw13714531640761148238:=0
def tw2070158362094129479:=0
def tw11792900676568627875:=0
def tw9030141928108497670:=0
def tw20596283453999529:=0
def tw10941185213389086130:=0
def tw1904014044694938938:=0
def tw15184755672957969975:=0
def tw2592702024432580675:=0
def tw17154752924251250631:=0
def tw13520389056640010353:=0
def tw3298284622804803676:=0
def tw2855866720503568687:=0
def tw11040259110581008505:=0
def tw9887033055920426753:=0
def tw2618845452333687235:=0
def tw8900644233848312040:=0
def tw9061659308991096518:=0
def tw10420633302269646184:=0
def tw15999071918700172498:=0
def tw12737979571605410544:=0
def tw5487163060694859025:=0
def tw17493008870121554746:=0
def tw11764561965935375378:=0
def tw4800172289820398108:=0
def tw6823491458067111459:=0
def tw3463104466320083628:=0
def tw17790665810098043712:=0
def tw15390129614238739410:=0
def tw18015804235883201256:=0
def tw1069968080478150575:=0
def tw6026706577520326512:=0
def tw12984455272994126387:=0
def tw6018200376930180164:=0
def tw7261244482963635647:=0
def tw13446051687247898845:=0
def tw18111551945201515375:=0
def tw5958398076953435251:=0
def tw14497084007824780928:=0
def tw17096410954743043511:=0
def tw2035122228829027561:=0
def tw13753494088017023467:=0
def tw17358672479222201086:=0
def tw14299417099235319524:=0
def tw14809714451012982402:=0
def tw8041855270801424662:=0
def tw5428869407946287912:=0
def tw10107700487160040366:=0
def tw8579160773376495983:=0
def tw16518966535895955097:=0
def tw11580580133575723774:=0
def tw14773391279534498414:=0
def tw208367056940682170:=0
def tw3439790821517641796:=0
def tw2678390095608230379:=0
def tw8706125694522624534:=0
def tw4386902858351984005:=0
def tw5122852490896805203:=0
def tw8409681222728510081:=0
def tw17673183270241494644:=0
def tw16496317798613454269:=0
def tw13291367735578899350:=0
def tw8630627638198558789:=0
def tw9307252916135280488:=0
def tw11079353066308856604:=0
def tw5863159382424696826:=0
def tw7628738117827845682:=0
def tw4319870408034032194:=0
def tw11233108919236361245:=0
def tw13746103897478745690:=0
def tw8545670483853222822:=0
def tw12226103456545407219:=0
def tw6225984363682876435:=0
def tw14084015700145341710:=0
def tw8721516401485593217:=0
def tw6510848001180214635:=0
def tw2994187461407838231:=0
def tw11866325327324898123:=0
def tw12639745461209074479:=0
def tw1156715973426333824:=0
def tw12348362443324115783:=0
def tw4661477411908182253:=0
def tw3143556440160686908:=0
def tw4181290542166596818:=0
def tw10899234300827241456:=0
def tw2743881599694018969:=0
def tw13190833221995019848:=0
def tw17637900067001381738:=0
def tw16558285480890225786:=0
def tw5050643999044268155:=0
def tw14280616721117072238:=0
def tw4319221338048432797:=0
def tw12410086500028328550:=0
def tw3382914991072638350:=0
def tw5651788897198588840:=0
def tw3427289417185124431:=0
def tw15007545177131975182:=0
def tw14543982522517692197:=0
def tw3815767417829613804:=0
def tw10170454803178967270:=0
def tw10548639672027943436:=0
def tw714323981589698926:=0
def tw16805686031435766914:=0
def tw9514564325132931869:=0
def tw3901514758201334262:=0
def tw8901440183565056735:=0
def tw8854154244407540880:=0
def tw14077552695212999051:=0
def tw8804104543745431177:=0
def tw1279598748967168870:=0
def tw5082125287985053849:=0
def tw8835583404091938576:=0
def tw14564491668779848032:=0
def tw8932576201227331985:=0
def tw5641149142823564981:=0
def tw16383173445121496426:=0
def tw4656174918457725440:=0
def tw7684438500662744936:=0
def tw3331823066979391673:=0
def tw4949643120707215391:=0
def tw3140733568741041531:=0
def tw13817411149822241244:=0
def tw1224218119855434102:=0
def tw433611259242560501:=0
def tw6701330956254404387:=0
def tw6750128926242848405:=0
def tw5835845821340555131:=0
def tw18233779843479093679:=0
def tw461261893516061828:=0
def tw17118915829055030657:=0
def tw2320203000243108108:=0
def tw12613537379960074301:=0
def tw5322791336214841902:=0
def tw1141340785047768477:=0
def tw14510413833615276082:=0
def tw1814190084403204623:=0
def tw683886930921930355:=0
def tw14077026447396543266:=0
def tw13458294740726066040:=0
def tw2814740989891670769:=0
def tw18057148338014446181:=0
def tw15791241151090510963:=0
def tw14270375846614446956:=0
def tw16248282164021926654:=0
def tw17812166245528761912:=0
def tw11871071161197110529:=0
def tw5297442845251209017:=0
def tw7813428742464773778:=0
def tw13092040864684547852:=0
def tw13535266226112810344:=0
def tw7190313116509024831:=0
def tw15140542303579869756:=0
def tw18172988633528009632:=0
def tw7371140353608516663:=0
def tw3219925707684800191:=0
def tw4638378613625396651:=0
def tw15230604170790430825:=0
def tw17313248984667918747:=0
def tw14477592458719293454:=0
def tw11594145755371261077:=0
def tw1377232125292027412:=0
def tw5727254644109799263:=0
def tw17748049493241193055:=0
def tw15507006579880223342:=0
def tw4727103338926256303:=0
def tw10993018570412536381:=0
def tw17645865122995770883:=0
def tw7898855155216134707:=0
def tw12838441440832884349:=0
def tw14586348776919451507:=0
def tw13408574595056615022:=0
def tw2942432947139621489:=0
def tw17290132405677366370:=0
def tw10724061847023755685:=0
def tw4133886941181108061:=0
def tw7253208829914575913:=0
def tw10769446070721165899:=0
def tw440913533137809161:=0
def tw8455863351555281052:=0
def tw14511387114435092113:=0
def tw14403245397556263823:=0
def tw5251587414228544212:=0
def tw17239476582204306192:=0
def tw1939450886383762435:=0
def tw11796642299615399512:=0
def tw17576731577336641318:=0
def tw9591361584832154896:=0
def tw12791128279605569984:=0
def tw4944392158872715127:=0
def tw17374499315059682438:=0
def tw12533636313822469242:=0
def tw10928390016401587075:=0
def tw4794872773714147221:=0
def tw8616202622004771057:=0
def tw9486395689266477331:=0
def tw2653583480181145904:=0
def tw14705250039706241264:=0
def tw2841516715814755071:=0
def tw14265010296070141486:=0
def tw437799703038259771:=0
def tw596497733324067436:=0
def tw499812807183444435:=0
def tw5653463273780073680:=0
def tw2363607916035036222:=0
def tw4113054696141299721:=0
def tw1933382396688486846:=0
def tw11965503318951600227:=0
def tw5558194779724712304:=0
def tw16979650894633139011:=0
def tw7565638608768968546:=0
def tw17674706143669981306:=0
def tw4990776919291388005:=0
def tw14502278200234051967:=0
def tw11784044806432302543:=0
def tw10089258190556269594:=0
def tw8737823287255353313:=0
def tw6646572486764784645:=0
def tw9470111962543021615:=0
def tw172799055510382243:=0
def tw711490141088772094:=0
def tw1445205342677735632:=0
def tw2677908016661314985:=0
def tw2251426710291410855:=0
def tw11875751926096362119:=0
def tw1276985669218102187:=0
def tw15998766925303202793:=0
def tw9263399099813182453:=0
def tw8871718450847610756:=0
def tw219257298598477301:=0
def tw18021901241810405231:=0
def tw13076221944219864420:=0
def tw12121384156929984547:=0
def tw5985179182120854497:=0
def tw11692747837536521621:=0
def tw18385969650596153647:=0
def tw16783912261389017486:=0
def tw16297234620493827469:=0
def tw5929011595296905864:=0
def tw12086336899907212360:=0
def tw7179691808604244950:=0
def tw4664705533213381018:=0
def tw10945358134314248694:=0
def tw3540086469249536483:=0
def tw2194822720790760774:=0
def tw10211669757557707556:=0
def tw15875133254076049004:=0
def tw5928428530208841787:=0
def tw15368072602273850620:=0
def tw15832191499850997850:=0
def tw9093100764852909952:=0
def tw969873301304652847:=0
def tw166855927331819858:=0
def tw14267700468295730842:=0
def tw1599069503226884547:=0
def tw11541035383629732310:=0
def tw1094319036041920832:=0
def tw14768777177183532237:=0
def tw11671719024799406768:=0
def tw5293017355461565291:=0
def tw9643051514661662469:=0
def tw10631883489413588679:=0
def tw15859358832891335167:=0
def tw7622186357483491843:=0
def tw11867657344294512747:=0
def tw17896458648319981842:=0
def tw7770179890146505701:=0
def tw3352581830151184641:=0
def tw15296734313129837306:=0
def tw7670730906819224917:=0
def tw1823178278584803345:=0
def tw8842500152872371014:=0
def tw4984855994781119361:=0
def tw14040092272286096746:=0
def tw18071563447472537057:=0
def tw4967991862530155608:=0
def tw10532094611093674541:=0
def tw301352779667300390:=0
def tw2131908158726073007:=0
def tw13678208584824772624:=0
def tw18426595765322505596:=0
def tw1450210603864070371:=0
def tw8325477676636614424:=0
def tw9615584406822709090:=0
def tw10019729375026457783:=0
def tw17941922197200607204:=0
def tw2236108398473751126:=0
def tw12968082548469341608:=0
def tw11448885760960938272:=0
def tw17656697472562710190:=0
def tw54705178011456250:=0
def tw9698913913621046832:=0
def tw8572512566415970419:=0
def tw11939371228077019472:=0
def tw11170589359741596663:=0
def tw16529370952002983952:=0
def tw6947304095812706473:=0
def tw6032814613125807305:=0
def tw6939764238599675928:=0
def tw12862045336535244401:=0
def tw10758552089027503228:=0
def tw1822768993887079748:=0
def tw14783468832819451067:=0
def tw4848086069650619276:=0
def tw1732307456707381652:=0
def tw5889283114659159549:=0
def tw2153059473571241305:=0
def tw413406909576080537:=0
def tw6683008861886540190:=0
def tw9154841272463577965:=0
def tw3005809289766151500:=0
def tw15015944277759092687:=0
def tw11079782575133994329:=0
def tw3711597624167863588:=0
def tw10262768318501627184:=0
def tw7342513937197409329:=0
def tw5994797377630481631:=0
def tw11422000582288884193:=0
def tw11309032620185333253:=0
def tw10244159186798286035:=0
def tw4401294236260908437:=0
def tw1889111352746445271:=0
def tw4599988805470802680:=0
def tw8595306928400573010:=0
def tw3683372397383429297:=0
def tw9068176673115927192:=0
def tw8183910807183779054:=0
def tw15553232836443754318:=0
def tw10413152535853528649:=0
def tw6170732798832477747:=0
def tw9754502799939323913:=0
def tw2923707695214466657:=0
def tw12978556507929807749:=0
def tw4037217063975794944:=0
def tw1958125271706792063:=0
def tw8082202394570158737:=0
def tw3889552850481655365:=0
def tw12156436342586533402:=0
def tw15490369422309160257:=0
def tw14782713110727622826:=0
def tw463086128369761344:=0
def tw17449069221631418498:=0
def tw16490326876060311814:=0
def tw1763722472654095268:=0
def tw6528302980812515990:=0
def tw4814319798026276558:=0
def tw14652954740463371187:=0
def tw16265935419733591330:=0
def tw6229200553558688590:=0
def tw8184168347568361982:=0
def tw17842832187195387964:=0
def tw13150207587658334586:=0
def tw16764460352849221839:=0
def tw9902560032603969793:=0
def tw918425762389634211:=0
def tw8202225804585930982:=0
def tw273804957525660201:=0
def tw1435881283700974541:=0
def tw13124805384745161476:=0
def tw11333052557106087014:=0
def tw9784236286331521972:=0
def tw15434308962219737760:=0
def tw6642709081347185259:=0
def tw1849123998544147348:=0
def tw5853409029466614897:=0
def tw14143101968093030016:=0
def tw17962671598508362169:=0
def tw1559636280291672630:=0
def tw16960559543165788544:=0
def tw6227896372345600211:=0
def tw14073290224037816056:=0
def tw12327463317685707213:=0
def tw9166743602242151516:=0
def tw3863655890082639097:=0
def tw454082665857607830:=0
def tw15148729038714909176:=0
def tw17015075851398689116:=0
def tw108012419675985890:=0
def tw12529304034462915649:=0
def tw13300636273200669665:=0
def tw2058649248901850090:=0
def tw5232652510460477219:=0
def tw8523501328560986133:=0
def tw3360958944407672060:=0
def tw15427229663462407918:=0
def tw13733338527135812934:=0
def tw5480429179014988571:=0
def tw17166965148086402984:=0
def tw7634481015048823274:=0
def tw5513804577275340861:=0
def tw5399680286726691143:=0
def tw14271617691158247999:=0
def tw12006691735203308756:=0
def tw17828905643939843879:=0
def tw965311907895545098:=0
def tw9153005603427687072:=0
def tw7939752538096596366:=0
def tw5346370944660234560:=0
def tw4758077968059255830:=0
def tw1153701253845511132:=0
def tw11320008423505100365:=0
def tw6200348307500171096:=0
def tw16244450765864513472:=0
def tw10626654279440660611:=0
def tw289271549761692812:=0
def tw10729520578403609435:=0
def tw3079084506764487683:=0
def tw14148059022362700191:=0
def tw11306975636403841374:=0
def tw5933650584290768182:=0
def tw14292935389833706543:=0
def tw9957787315177675417:=0
def tw5768786491206053969:=0
def tw161649011674616829:=0
def tw586510994365242441:=0
def tw4767696090128390829:=0
def tw9015662817734047265:=0
def tw15682139479045630894:=0
def tw7682901847310199743:=0
def tw10792758206823318739:=0
def tw11414990619831284935:=0
def tw8674455828421664303:=0
def tw1627541986779942605:=0
def tw9208484545363814985:=0
def tw15213695630148285110:=0
def tw13917110820668168058:=0
def tw14386030659798876796:=0
def tw1899953413195154522:=0
def tw14896677933388645929:=0
def tw14170540980413383088:=0
def tw4763755917956498564:=0
def tw7180924382232638267:=0
def tw14928627655483928066:=0
def tw14277805664997256903:=0
def tw17490089579150564435:=0
def tw2840290182902207541:=0
def tw12975885964907301174:=0
def tw9410464133485000486:=0
def tw4756777135499871496:=0
def tw5636604791313935683:=0
def tw9512654676025435099:=0
def tw1873513003755138398:=0
def tw6825447176350299462:=0
def tw4036876823888045323:=0
def tw2087752418406285605:=0
def tw14171771977879073912:=0
def tw669480825174234155:=0
def tw12407282231672456743:=0
def tw8982414305172432392:=0
def tw11479140155725745838:=0
def tw5397846173080178620:=0
def tw7018513921648681653:=0
def tw14567310007209216162:=0
def tw2087122038562868471:=0
def tw1647664619271601984:=0
def tw16245389427923974190:=0
def tw8835718791024194510:=0
def tw720519528019066055:=0
def tw16227671710507960807:=0
def tw7787966131364555662:=0
def tw15939181921287760839:=0
def tw11933639633471113451:=0
def tw5871361997714333479:=0
def tw9584664888658174364:=0
def tw6638140113269361126:=0
def tw10207807982374947724:=0
def tw8470963688532160285:=0
def tw4270992017749741679:=0
def tw17912932549997820549:=0
def tw4682600390732602727:=0
def tw16684099270327707393:=0
def tw2738800221290595934:=0
def tw13212860858291541690:=0
def tw7960941152558098613:=0
def tw14627864419793769045:=0
def tw2763490501698436366:=0
def tw9362093364599693903:=0
def tw17565930698958143290:=0
def tw1922602354270353157:=0
def tw1244489030007226901:=0
def tw10064334065157728550:=0
def tw15274752245307856576:=0
def tw6239737089638576998:=0
def tw6164777472462754955:=0
def tw516676727534611293:=0
def tw2399528855599992614:=0
def tw459113714956545564:=0
def tw5165024947568354045:=0
def tw2118051816518255807:=0
def tw9017756239807145837:=0
def tw761723498795281645:=0
end PySem.W.Fast
open PySem PySem.W PyProof.Rows
set_option maxRecDepth 100000 in
set_option maxHeartbeats 0 in
theorem PySem.Challenge.cw_gapweave_k30_place_at_holds : PySem.Challenge.rw_gapweave_k30_place_at.Holds := by
 w_on;o_law;k_head;(case hw=>w_witness2)
 k_fill
 refine VD.walk (l:=PySem.Challenge.rw_gapweave_k30_place_at) rfl rfl (λw h Y=>PySem.W.km_in_of Y) (λw h Y=>PySem.W.km_tabs_of Y _ (List.elem_iff.mp (by kernel_rfl))) (λw h Y=>PySem.W.km_tabs_of Y _ (List.elem_iff.mp (by kernel_rfl))) (λw=>by kernel_rfl) (λw=>by kernel_rfl) (λw=>by kernel_rfl) (λw=>by kernel_rfl) ?F
 case F =>
  intro w mg fa h KX G hmg
  refine' VD.all_mk KX G hmg ?u0 ?u1 ?u2 ?u3 ?u4 ?u5 ?u6 ?u7 ?u8 ?u9 ?X0 ?XZ ?XY ?XX ?XW ?XU ?XT ?u17 ?XS ?XR ?XQ ?XO ?XN ?XM ?XJ ?XI ?XH ?XG ?XF ?XE ?XD ?XC ?XA ?Xz ?Xy ?Xx ?Xw ?Xv ?u38 ?Xu ?Xs ?Xr ?Xq ?Xp ?Xo ?Xn ?Xm ?Xl ?Xk ?Xj ?Xi ?Xh ?Xg ?Xf ?Xe ?Xd ?Xc ?Xb ?Xa ?W9 ?W8 ?W7 ?W6 ?W5 ?W4 ?WZ ?WY ?WX ?WW ?WV ?WU ?WT ?WS ?WR ?WQ ?WO ?WN ?WM ?WL ?WK ?WJ ?WI ?WH ?WG ?WE ?WD ?WC ?u87 ?WB ?WA ?Wz ?Wy ?Wx ?Ww ?Wv ?Wu ?Wt ?u97 ?Ws ?Wr ?Qu ?Qt ?u102 ?Qs ?Qq ?Qp ?Qo ?Qn ?Qm ?Ql ?Qk ?Qj ?Qi ?Qh ?Qg ?Qf ?Qe ?Qd ?Qc ?Qa ?P9 ?P8 ?P1 ?P0 ?PZ ?PY ?PX ?PV ?PU ?PR ?PN ?PM ?PL ?PK ?PF ?PD ?PC ?PB ?Pz ?Py ?Px ?Mn ?Mm ?Pw ?u144 ?Pu ?Po ?Pn ?Pk ?Pj ?Ph ?Pg ?Pf ?Pe ?Pd ?Pc ?Pb ?Pa ?O8 ?O7 ?O6 ?O5 ?O4 ?O3 ?O2 ?Ml ?O1 ?O0 ?OZ ?Mj ?OY ?OX ?OW ?OV ?OU ?OT ?OS ?OR ?OQ ?OP ?OO ?ON ?OM ?OL ?OJ ?OI
  case u2|u3|u4|u5|u6|u7|u8|u9|X0|XZ|XY|XX|XW|XU|XT|XH|XG|XF|XE|XD|XC|XA|Xw|Xv|Xu|Xs|Xr|Xq|Xo|Xn|Xm|Xl|Xk|Xj|Xi|Xh|Xg|Xf|Xe|Xd|Xc|Xb|Xa|W9|W8|W7|W6|W5|W4|WZ|WY|WX|WW|WV|WU|WT|WS|WR|WQ|WO|WM|WL|WE|WD|WC|u97|Ws|Wr|Qu|Qt|Qf|Qe|Qd|Qc|Qa|PF|PD|PC|PB|Pz|Ml|O1|O0|OZ|OY|OX|OW|OV|OU|OT|OS|OR|OQ|OP|OO|ON|OM|OL|OJ|OI=>k_is
  case u0|u1|WN|WI|WH|WG|Mj=>kernel_rfl
  case u17|XS|XR|XQ|XO|XN|XM|XJ|XI|Xz|Xy|Xx|WK|WJ=>(show PySem.W.findIn _ _ _=_;k_is)
  case u38|Xp=>k_exc
  case u87|WB|WA|Wz|Wy|Wx|Ww|Wv|Wu|Wt=>kit_is
  case u102|Qs|Qq|Qp|Qo|Qn|Qm|Ql|Qk|Qj|Qi|Qh|Qg|P9|P8|P1|P0|PZ|PY|PX|PV|PU|PR|PN|PM|PL|PK|Py|Px|Mn|Mm|Pw|Pu|Po|Pn|Pk|Pj|Ph|Pg|Pf|Pe|Pd|Pc|Pb|Pa|O8|O7|O6|O5|O4|O3|O2=>(refine' VD.kB.mk ?a ?l ?c ?k;(case a=>k_is);(case l=>k_is);(case c=>k_is);(case k=>k_is))
  case u144=>(refine' VD.VG.mk ?a ?l ?c ?k ?e;(case a=>k_is);(case l=>k_is);(case c=>k_is);(case k=>k_is);(case e=>k_is))
